import PyProof.Rows.All
import Wide.All
import OpenK.AllK
import Wide.FinOn
import Lean
import PyProof.EqAt
import PyProof.EqKinds
import PyProof.TupleCall
import PySem.Challenge.RW_formgrove_k80_changers_read
theorem ae:type_of% @PySem.wpAny_bind:=@PySem.wpAny_bind
theorem af:type_of% @if_neg:=@if_neg
theorem ah:type_of% @if_pos:=@if_pos
theorem ai:type_of% @PySem.wpAny_pure:=@PySem.wpAny_pure
theorem ap:type_of% @PyProof.Rows.wpS_bind:=@PyProof.Rows.wpS_bind
theorem ar:type_of% @PyProof.Rows.wpS_pure:=@PyProof.Rows.wpS_pure
theorem az:type_of% @Nat.le_refl:=@Nat.le_refl
theorem aA:type_of% @Array.length_toList:=@Array.length_toList
theorem aG:type_of% @List.mem_cons:=@List.mem_cons
theorem aJ:type_of% @PySem.Heap.get?_push_of_some:=@PySem.Heap.get?_push_of_some
theorem aN:type_of% @List.length_cons:=@List.length_cons
theorem aQ:type_of% @decide_eq_true:=@decide_eq_true
theorem aT:type_of% @PySem.Heap.lt_size:=@PySem.Heap.lt_size
theorem aV:type_of% @List.length_map:=@List.length_map
theorem aW:type_of% @List.mem_cons_of_mem:=@List.mem_cons_of_mem
theorem aZ:type_of% @decide_eq_false:=@decide_eq_false
theorem ba:type_of% @List.mem_cons_self:=@List.mem_cons_self
theorem bb:type_of% @Bool.false_ne_true:=@Bool.false_ne_true
theorem bh:type_of% @List.mem_singleton:=@List.mem_singleton
theorem bi:type_of% @Nat.zero_le:=@Nat.zero_le
theorem br:type_of% @List.map_cons:=@List.map_cons
theorem bu:type_of% @List.length_append:=@List.length_append
theorem bw:type_of% @PySem.W.mg_of:=@PySem.W.mg_of
theorem bD:type_of% @Array.getElem?_toList:=@Array.getElem?_toList
theorem bK:type_of% @List.mem_append:=@List.mem_append
theorem bN:type_of% @Array.toList_append:=@Array.toList_append
theorem bS:type_of% @List.append_assoc:=@List.append_assoc
theorem bW:type_of% @List.size_toArray:=@List.size_toArray
theorem bX:type_of% @Nat.ne_of_lt:=@Nat.ne_of_lt
theorem cb:type_of% @PySem.Heap.get?_push_size:=@PySem.Heap.get?_push_size
theorem cA:type_of% @List.getElem?_eq_some_iff:=@List.getElem?_eq_some_iff
theorem cB:type_of% @decide_eq_true_eq:=@decide_eq_true_eq
theorem cH:type_of% @List.getElem?_eq_getElem:=@List.getElem?_eq_getElem
theorem cI:type_of% @PySem.F.plainAttrs_list:=@PySem.F.plainAttrs_list
theorem cO:type_of% @Bool.and_eq_true:=@Bool.and_eq_true
theorem cP:type_of% @List.mem_of_getElem?:=@List.mem_of_getElem?
theorem cQ:type_of% @Nat.lt_of_lt_of_le:=@Nat.lt_of_lt_of_le
theorem cY:type_of% @Nat.le_trans:=@Nat.le_trans
theorem dk:type_of% @Option.some.inj:=@Option.some.inj
theorem dE:type_of% @List.length_drop:=@List.length_drop
theorem dF:type_of% @PyProof.Rows.wpS_mono:=@PyProof.Rows.wpS_mono
theorem dM:type_of% @List.length_take:=@List.length_take
theorem dN:type_of% @List.nodup_cons:=@List.nodup_cons
theorem dW:type_of% @Int.emod_nonneg:=@Int.emod_nonneg
theorem dX:type_of% @PySem.F.slot_list_append:=@PySem.F.slot_list_append
theorem dY:type_of% @PySem.F.type_list_append:=@PySem.F.type_list_append
theorem dZ:type_of% @PyProof.Rows.wpS_forRange:=@PyProof.Rows.wpS_forRange
theorem eI:type_of% @PySem.wpAny_mono:=@PySem.wpAny_mono
theorem eX:type_of% @Array.getElem?_eq_getElem:=@Array.getElem?_eq_getElem
theorem eY:type_of% @Int.emod_lt_of_pos:=@Int.emod_lt_of_pos
theorem eZ:type_of% @List.all_eq_true:=@List.all_eq_true
theorem e_:type_of% @List.pairwise_append:=@List.pairwise_append
theorem fk:type_of% @Array.toList_push:=@Array.toList_push
theorem fm:type_of% @List.count_append:=@List.count_append
theorem fo:type_of% @List.count_cons:=@List.count_cons
theorem fq:type_of% @List.forall_mem_cons:=@List.forall_mem_cons
theorem ft:type_of% @List.mem_append_right:=@List.mem_append_right
theorem fE:type_of% @Array.toList_extract:=@Array.toList_extract
theorem fF:type_of% @List.map_append:=@List.map_append
theorem fG:type_of% @Ne.symm:=@Ne.symm
theorem fH:type_of% @PySem.sizeLine_eq:=@PySem.sizeLine_eq
theorem f':type_of% @List.getElem?_map:=@List.getElem?_map
theorem f_:type_of% @PySem.Paired.length:=@PySem.Paired.length
theorem gb:type_of% @PySem.boot_len:=@PySem.boot_len
theorem gc:type_of% @PyProof.Rows.wpS_modify:=@PyProof.Rows.wpS_modify
theorem gL:type_of% @List.mem_map:=@List.mem_map
theorem gM:type_of% @List.reverse_cons:=@List.reverse_cons
theorem gN:type_of% @Nat.lt_irrefl:=@Nat.lt_irrefl
theorem gO:type_of% @Nat.lt_succ_self:=@Nat.lt_succ_self
theorem gP:type_of% @PySem.W.mg_none_of:=@PySem.W.mg_none_of
theorem gQ:type_of% @if_true:=@if_true
theorem hW:type_of% @PySem.Heap.get?_update_other:=@PySem.Heap.get?_update_other
theorem hX:type_of% @List.mem_range:=@List.mem_range
theorem h_:type_of% @Nat.le_succ:=@Nat.le_succ
theorem ic:type_of% @Nat.not_lt_zero:=@Nat.not_lt_zero
theorem ie:type_of% @if_false:=@if_false
theorem ig:type_of% @of_decide_eq_true:=@of_decide_eq_true
theorem iN:type_of% @PySem.Heap.size_push:=@PySem.Heap.size_push
theorem iO:type_of% @List.append_nil:=@List.append_nil
theorem iP:type_of% @List.sum_cons:=@List.sum_cons
theorem iQ:type_of% @PySem.PassesOwn.never:=@PySem.PassesOwn.never
theorem iR:type_of% @PySem.wpAny_holding:=@PySem.wpAny_holding
theorem iS:type_of% @PySem.wpAny_newObj_type:=@PySem.wpAny_newObj_type
theorem iT:type_of% @PyProof.Rows.wpS_get:=@PyProof.Rows.wpS_get
theorem jl:type_of% @Bool.eq_iff_iff:=@Bool.eq_iff_iff
theorem jm:type_of% @List.Perm.refl:=@List.Perm.refl
theorem jo:type_of% @getElem?_pos:=@getElem?_pos
theorem jq:type_of% @PySem.wpAny_setState_of:=@PySem.wpAny_setState_of
theorem jZ:type_of% @List.getElem?_drop:=@List.getElem?_drop
theorem j3:type_of% @List.mem_iff_getElem?:=@List.mem_iff_getElem?
theorem j4:type_of% @List.perm_append_comm:=@List.perm_append_comm
theorem j5:type_of% @List.take_append_drop:=@List.take_append_drop
theorem j6:type_of% @List.take_of_length_le:=@List.take_of_length_le
theorem j7:type_of% @PySem.W.kia_one:=@PySem.W.kia_one
theorem j8:type_of% @beq_iff_eq:=@beq_iff_eq
theorem j9:type_of% @decide_eq_decide:=@decide_eq_decide
theorem kX:type_of% @Array.toList_reverse:=@Array.toList_reverse
theorem kY:type_of% @List.Perm.append_right:=@List.Perm.append_right
theorem kZ:type_of% @List.cons_append:=@List.cons_append
theorem k_:type_of% @List.drop_drop:=@List.drop_drop
theorem la:type_of% @List.eq_nil_of_length_eq_zero:=@List.eq_nil_of_length_eq_zero
theorem lb:type_of% @List.mem_reverse:=@List.mem_reverse
theorem lc:type_of% @List.pairwise_iff_getElem:=@List.pairwise_iff_getElem
theorem lg:type_of% @Nat.le_of_lt:=@Nat.le_of_lt
theorem lh:type_of% @PyProof.Rows.getElem?_mirror_all:=@PyProof.Rows.getElem?_mirror_all
theorem lj:type_of% @PySem.wpAny_Call_Name_kw:=@PySem.wpAny_Call_Name_kw
theorem ll:type_of% @PySem.wpAny_call_entry:=@PySem.wpAny_call_entry
theorem lm:type_of% @PySem.wpAny_field:=@PySem.wpAny_field
theorem mC:type_of% @Array.getElem?_eq_some_iff:=@Array.getElem?_eq_some_iff
theorem mD:type_of% @List.Perm.append_left:=@List.Perm.append_left
theorem mE:type_of% @List.getElem?_append_right:=@List.getElem?_append_right
theorem mF:type_of% @Nat.zero_add:=@Nat.zero_add
theorem mG:type_of% @PySem.F.plainAttrs_str:=@PySem.F.plainAttrs_str
theorem mH:type_of% @PySem.wpAny_rule:=@PySem.wpAny_rule
theorem mI:type_of% @PySem.wpAny_truthy_bool:=@PySem.wpAny_truthy_bool
theorem oA:type_of% @List.any_cons:=@List.any_cons
theorem oB:type_of% @List.filterMap_cons_some:=@List.filterMap_cons_some
theorem oC:type_of% @List.getElem?_append_left:=@List.getElem?_append_left
theorem oE:type_of% @List.mem_append_left:=@List.mem_append_left
theorem oF:type_of% @List.mem_of_mem_take:=@List.mem_of_mem_take
theorem oG:type_of% @List.take_length:=@List.take_length
theorem oH:type_of% @PySem.Obj.data_mapFields:=@PySem.Obj.data_mapFields
theorem oI:type_of% @Option.map_eq_some_iff:=@Option.map_eq_some_iff
theorem oJ:type_of% @PySem.F.called_set:=@PySem.F.called_set
theorem oK:type_of% @PySem.F.slot_list_pop:=@PySem.F.slot_list_pop
theorem oM:type_of% @PySem.F.type_list_pop:=@PySem.F.type_list_pop
theorem oN:type_of% @PySem.codeAny_mono:=@PySem.codeAny_mono
theorem oO:type_of% @PySem.typeIs_str:=@PySem.typeIs_str
theorem oP:type_of% @PySem.wpAny_setField:=@PySem.wpAny_setField
theorem qG:type_of% @Bool.false_and:=@Bool.false_and
theorem qH:type_of% @Bool.false_eq_true:=@Bool.false_eq_true
theorem qI:type_of% @Bool.or_eq_true:=@Bool.or_eq_true
theorem qJ:type_of% @PySem.Heap.get?_update_self:=@PySem.Heap.get?_update_self
theorem qK:type_of% @List.Pairwise.sublist:=@List.Pairwise.sublist
theorem qL:type_of% @List.drop_zero:=@List.drop_zero
theorem qM:type_of% @List.getElem?_take_of_lt:=@List.getElem?_take_of_lt
theorem qN:type_of% @List.nil_append:=@List.nil_append
theorem qO:type_of% @Nat.ne_of_gt:=@Nat.ne_of_gt
theorem qP:type_of% @PySem.wpAny_passesOwn:=@PySem.wpAny_passesOwn
theorem qQ:type_of% @PySem.wpAny_typeOf:=@PySem.wpAny_typeOf
theorem tK:type_of% @Array.getElem?_eq_none:=@Array.getElem?_eq_none
theorem tL:type_of% @Array.getElem?_extract:=@Array.getElem?_extract
theorem tM:type_of% @Int.toNat_natCast:=@Int.toNat_natCast
theorem tN:type_of% @List.Perm.of_eq:=@List.Perm.of_eq
theorem tO:type_of% @List.drop_left:=@List.drop_left
theorem tQ:type_of% @List.filterMap_cons_none:=@List.filterMap_cons_none
theorem tS:type_of% @List.find?_cons:=@List.find?_cons
theorem tT:type_of% @List.length_nil:=@List.length_nil
theorem tU:type_of% @List.length_range:=@List.length_range
theorem tV:type_of% @List.length_reverse:=@List.length_reverse
theorem tW:type_of% @List.mem_of_mem_drop:=@List.mem_of_mem_drop
theorem tX:type_of% @Nat.mod_lt:=@Nat.mod_lt
theorem tY:type_of% @Nat.succ_pos:=@Nat.succ_pos
theorem tZ:type_of% @PyProof.Rows.callWith_type1:=@PyProof.Rows.callWith_type1
theorem t4:type_of% @PyProof.Rows.slot_tuple_getitem:=@PyProof.Rows.slot_tuple_getitem
theorem t5:type_of% @PySem.F.slot_str_join:=@PySem.F.slot_str_join
theorem t6:type_of% @PySem.F.type_str_join:=@PySem.F.type_str_join
theorem t7:type_of% @PySem.codeAny_builtin:=@PySem.codeAny_builtin
theorem t9:type_of% @PySem.wpAny_callSpecial?_slot:=@PySem.wpAny_callSpecial?_slot
theorem t_:type_of% @PySem.wpAny_fieldsOf:=@PySem.wpAny_fieldsOf
theorem wV:type_of% @Array.size_map:=@Array.size_map
theorem wW:type_of% @Bool.true_and:=@Bool.true_and
theorem wX:type_of% @PySem.Heap.SameBut.update:=@PySem.Heap.SameBut.update
theorem wY:type_of% @List.cons_lt_cons_iff:=@List.cons_lt_cons_iff
theorem wZ:type_of% @List.drop_eq_nil_of_le:=@List.drop_eq_nil_of_le
theorem w6:type_of% @List.getElem_mem:=@List.getElem_mem
theorem w8:type_of% @List.length_replicate:=@List.length_replicate
theorem w_:type_of% @List.map_map:=@List.map_map
theorem xa:type_of% @List.not_mem_nil:=@List.not_mem_nil
theorem xb:type_of% @List.takeWhile_cons:=@List.takeWhile_cons
theorem xf:type_of% @List.take_sublist:=@List.take_sublist
theorem xg:type_of% @List.toList_toArray:=@List.toList_toArray
theorem xh:type_of% @Nat.le_of_lt_succ:=@Nat.le_of_lt_succ
theorem xi:type_of% @Nat.lt_of_le_of_lt:=@Nat.lt_of_le_of_lt
theorem xj:type_of% @Nat.lt_trichotomy:=@Nat.lt_trichotomy
theorem xk:type_of% @PySem.F.slot_dict_keyiterator_next:=@PySem.F.slot_dict_keyiterator_next
theorem xl:type_of% @PySem.W.callWith_K:=@PySem.W.callWith_K
theorem xm:type_of% @PySem.mem_of_lookup:=@PySem.mem_of_lookup
theorem xn:type_of% @beq_eq_false_iff_ne:=@beq_eq_false_iff_ne
theorem xp:type_of% @PySem.wpAny_isInstance:=@PySem.wpAny_isInstance
theorem AN:type_of% @Array.size_setIfInBounds:=@Array.size_setIfInBounds
theorem AO:type_of% @Array.toList_modify:=@Array.toList_modify
theorem AQ:type_of% @Classical.byContradiction:=@Classical.byContradiction
theorem AR:type_of% @List.forall_mem_nil:=@List.forall_mem_nil
theorem AS:type_of% @List.getElem?_eq_none:=@List.getElem?_eq_none
theorem AU:type_of% @List.mem_iff_getElem:=@List.mem_iff_getElem
theorem AV:type_of% @List.mem_map_of_mem:=@List.mem_map_of_mem
theorem AW:type_of% @List.pairwise_cons:=@List.pairwise_cons
theorem AX:type_of% @List.pairwise_map:=@List.pairwise_map
theorem AY:type_of% @List.take_succ_eq_append_getElem:=@List.take_succ_eq_append_getElem
theorem AZ:type_of% @List.zip_cons_cons:=@List.zip_cons_cons
theorem A2:type_of% @Nat.add_right_comm:=@Nat.add_right_comm
theorem A3:type_of% @PySem.wpAny_typeNameOfWhole_keyiter:=@PySem.wpAny_typeNameOfWhole_keyiter
theorem A4:type_of% @PySem.wpAny_typeNameOf_keyiter:=@PySem.wpAny_typeNameOf_keyiter
namespace js
end js
set_option Elab.async false
set_option linter.all false
set_option maxRecDepth 100000
namespace L2
open PySem PySem.Spec PyProof.Rows
abbrev Key:=Sum Int Str
def sk:Key->Value->Bool
 | .inl k,v=>Value.isInt k v
 | .inr x,v=>Value.isStrOf x v
def Ws(w:World):Key->Int
 | .inl k=>hashInt k
 | .inr x=>hashStr w x
theorem lI:∀{k:Key}{v:Value},sk k v=true->(∃i t,k=Sum.inl i/\v=Value.int i t)\/(∃x t,k=Sum.inr x/\v=Value.str x t)
 | .inl i,v,h=>by
  obtain⟨t,e⟩:=Value.isInt_shape (k:=i) (v:=v) h;exact .inl ⟨i,t,rfl,e⟩
 | .inr x,v,h=>by
  obtain⟨t,e⟩:=Value.isStrOf_shape (x:=x) (v:=v) h;exact .inr ⟨x,t,rfl,e⟩
theorem Tp(i:Int)(t:Tok):sk (.inl i) (.int i t)=true:=by simp[sk,Value.isInt]
theorem RV(x:Str)(t:Tok):sk (.inr x) (.str x t)=true:=by simp[sk,Value.isStrOf]
theorem Ve(a b:Int):decide ((Sum.inl a:Key)=Sum.inl b)=(a == b):=by
 by_cases e:a=b
 ·subst e;simp
 ·have h : ¬ (Sum.inl a:Key)=Sum.inl b:=fun q=>e (Sum.inl.inj q);rw[aZ h];exact(xn.mpr e).symm
theorem Vb(a b:Str):decide ((Sum.inr a:Key)=Sum.inr b)=decide (a=b):=by
 by_cases e:a=b
 ·subst e;simp
 ·have h : ¬ (Sum.inr a:Key)=Sum.inr b:=fun q=>e (Sum.inr.inj q);rw[aZ h,aZ e]
theorem Vx(a:Int)(b:Str):decide ((Sum.inl a:Key)=Sum.inr b)=false:=aZ (fun q=>nomatch q)
theorem V1(a:Str)(b:Int):decide ((Sum.inr a:Key)=Sum.inl b)=false:=aZ (fun q=>nomatch q)
def Z9(prog:Program)(w:World):PySem.KeyKind prog w Key where
 is:=sk
 hash:=Ws w
 inj:=fun v a b ha hb=>by
  rcases lI ha with⟨i,t,rfl,rfl⟩|⟨x,t,rfl,rfl⟩
  ·rcases lI hb with⟨j,u,rfl,e⟩|⟨y,u,rfl,e⟩
   ·injection e with e1 _;rw[e1]
   ·exact nomatch e
  ·rcases lI hb with⟨j,u,rfl,e⟩|⟨y,u,rfl,e⟩
   ·exact nomatch e
   ·injection e with e1 _;rw[e1]
 byValue:=fun k v h=>by
  rcases lI h with⟨i,t,rfl,rfl⟩|⟨x,t,rfl,rfl⟩ <;> rfl
 pyHash:=fun hv h=>by
  rcases lI hv with⟨i,t,rfl,rfl⟩|⟨x,t,rfl,rfl⟩
  ·exact wpAny_pyHash_int h
  ·exact wpAny_pyHash_str h
 eqBool:=fun hu hv h=>by
  rcases lI hu with⟨i,t,rfl,rfl⟩|⟨x,t,rfl,rfl⟩
  ·rcases lI hv with⟨j,u,rfl,rfl⟩|⟨y,u,rfl,rfl⟩
   ·rw[Ve] at h;exact wpAny_eqBool_int h
   ·rw[Vx] at h;exact SeqAt.EqAt.int_str i t y u _ _ _ _ h
  ·rcases lI hv with⟨j,u,rfl,rfl⟩|⟨y,u,rfl,rfl⟩
   ·rw[V1] at h;exact SeqAt.EqAt.str_int x t j u _ _ _ _ h
   ·rw[Vb] at h;exact wpAny_eqBool_str h
 «strs» := fun k x t v h=>by
  rcases lI h with⟨i,u,rfl,e⟩|⟨y,u,rfl,e⟩
  ·exact nomatch e
  ·injection e with e1 _;subst e1;cases v <;> rfl
theorem Rf(prog:Program)(w:World)(i:Int)(t:Tok):(Z9 prog w).is (.inl i) (.int i t)=true:=Tp i t
theorem Q9(prog:Program)(w:World)(x:Str)(t:Tok):(Z9 prog w).is (.inr x) (.str x t)=true:=RV x t
inductive V where
 | aD|bl (b:Bool)|int (i:Int)|str (x:Str)|gU (b:Array UInt8)|pT (b:UInt64)|ref (a:Addr)|ty (n:String)
 deriving DecidableEq
def RelV:V->Value->Prop
 | .aD,u=>u=Value.none
 | .bl b,u=>u=Value.bool b
 | .int i,u=>∃t,u=Value.int i t
 | .str x,u=>∃t,u=Value.str x t
 | .gU b,u=>∃t,u=Value.bytes b t
 | .pT b,u=>∃t,u=Value.float b t
 | .ref a,u=>u=Value.ref a
 | .ty n,u=>u=Value.type n
abbrev Vals:List V->List Value->Prop:=Paired RelV
theorem Vals.length{xs:List V}{us:List Value}(r:Vals xs us):xs.length=us.length:=f_ r
theorem Vals.get:∀{xs:List V}{us:List Value}{i:Nat}{x:V},Vals xs us->xs[i]?= some x->∃u,us[i]?= some u/\RelV x u
 | _,_,_,_,.nil,e=>by simp at e
 | _,_,0,_,.cons r _,e=>by simp at e;subst e;exact⟨_,rfl,r⟩
 | _,_,i+1,x,.cons _ t,e=>by
  obtain⟨u,h1,h2⟩:=Vals.get (i:=i) (x:=x) t (by simpa using e);exact⟨u,by simpa using h1,h2⟩
theorem Vals.append:∀{xs ys:List V}{us ws:List Value},Vals xs us->Vals ys ws->Vals (xs++ys) (us++ws)
 | _,_,_,_,.nil,s=>s
 | _,_,_,_,.cons r t,s=>.cons r (Vals.append t s)
theorem Vals.take:∀{xs:List V}{us:List Value}(n:Nat),Vals xs us->Vals (xs.take n) (us.take n)
 | _,_,0,_=>.nil
 | _,_,_+1,.nil=>.nil
 | _,_,n+1,.cons r t=>.cons r (Vals.take n t)
theorem Vals.drop:∀{xs:List V}{us:List Value}(n:Nat),Vals xs us->Vals (xs.drop n) (us.drop n)
 | _,_,0,r=>r
 | _,_,_+1,.nil=>.nil
 | _,_,n+1,.cons _ t=>Vals.drop n t
def fR:Option V->Option Value->Prop
 | some v,some u=>RelV v u
 | none,none=>True
 | _,_=>False
def KV{κ : Type}:List (κ × V)->List (κ × Value)->Prop:=Paired fun(p : κ × V)(q : κ × Value)=>p.1=q.1/\RelV p.2 q.2
def kV:Key->V
 | .inl i=>.int i
 | .inr x=>.str x
inductive HO where
 | lst (xs:List V)
 | tup (xs:List V)
 | dK (aj:List (Key×V))|dT (aj:List (List Key×V))
 | set (S:Int->Bool) (n:Nat)
 | ins (C dx:Addr) (fs:List (Str×V))
 | own (x:Addr)
 | xd (fs:List (Str×V))
 | met (f x:Addr)
 | AA (lo hi:Int)
 | gx (o:Obj) (u:HO)
 | ou (ps:Array Value)
 | ext (φ : Heap->Prop)
abbrev Hp:=Addr->Option HO
def upd(H:Hp)(a:Addr)(o:HO):Hp:=fun b=>if b=a then some o else H b
theorem Zc{H:Hp}{a:Addr}{o:HO}:upd H a o a=some o:=by unfold upd;rw[ah rfl]
theorem Zi{H:Hp}{a b:Addr}{o:HO}(h:b≠a):upd H a o b=H b:=by unfold upd;rw[af h]
theorem Mo{H:Hp}{a b:Addr}{o u:HO}(h:H a=some o)(h':H b=some u)(d:o≠u):a≠b:=by
 intro e;subst e;rw[h] at h';exact d (dk h')
theorem Zo{H:Hp}{a b:Addr}{o:HO}(h:H a=some o)(h':H b=none):a≠b:=by
 intro e;subst e;rw[h] at h';cases h'
section
variable(P:Program)(w:World)
def bL(H:Hp)(h:Heap)(a:Addr):HO->Prop
 | .lst xs=>xs.length<=sizeLine/\∃(its:List Value)(n:Nat),Vals xs its/\h.get? a=some { cls:=.type "list",data:=.seq its.toArray n }
 | .tup xs=>xs.length<=sizeLine/\∃its:List Value,Vals xs its/\IsTup h a its.toArray
 | .dK aj=>aj.length<=sizeLine/\(a == sysModules)=false/\∃vs,KV aj vs/\h.DictOf (Z9 P w) a vs
 | .dT aj=>aj.length<=sizeLine/\(a == sysModules)=false/\∃xs:List (List Key×Addr×Value),
   Paired (fun(p:List Key×V)(q:List Key×Addr×Value)=>p.1=q.1/\H q.2.1=some (.tup (p.1.map kV))/\RelV p.2 q.2.2) aj xs /\
   ∃o es ep,h.get? a=some o/\o.ExactDict/\o.data=.dict es ep/\es.toList=xs.map (entryOfKey (tupleKind (Z9 P w)))/\(xs.map (·.1)).Nodup
 | .set S n=>h.SetOf (intKind P w) a S n
 | .ins C dx fs=>H dx=some (.own a)/\fs.length<=1000/\dx≠a/\h.get? a=some (PySem.W.instObj C dx) /\
   ∃mA,h.Ns1 dx mA/\(∀f,fR (fs.lookup f) (mA f))/\PySem.Within mA (fs.map (·.1))
 | .own _=>∃o,h.get? a=some o
 | .xd fs=>∃mA,h.Ns1 a mA/\∀f,fR (fs.lookup f) (mA f)
 | .AA lo hi=>∃t u v,h.get? a=some { cls:=.type "range",data:=.fields #[.int lo t,.int hi u,.int 1 v] }
 | .gx o u=>h.get? a=some o/\bL H h a u
 | .ou ps=>h.get? a=some { cls:=.none,data:=.fields ps }
 | .met f x=>h.get? a=some (PySem.W.methodObj (.ref f) (.ref x))
 | .ext φ=>φ h/\(∃o,h.get? a=some o)/\∀h1 h2:Heap,φ h1->(∀o,h1.get? a=some o->h2.get? a=some o) -> φ h2
def bE(H:Hp)(h:Heap):Prop := ∀a o,H a=some o->bL P w H h a o
end
section
variable{P:Program}{w:World}{H H':Hp}{h h':Heap}{a:Addr}{o:HO}
theorem bL.lt(x:bL P w H h a o):a<h.objs.size:=by
 cases o with
 | lst xs=>obtain⟨_,_,_,_,e⟩:=x;exact aT e
 | tup xs=>obtain⟨_,_,_,p⟩:=x;exact p.lt
 | dK aj=>obtain⟨_,_,_,_,o,_,_,e,_⟩:=x;exact aT e
 | dT aj=>obtain⟨_,_,_,_,o,_,_,e,_⟩:=x;exact aT e
 | set S n=>obtain⟨o,_,_,_,e,_⟩:=x;exact aT e
 | ins C dx fs=>obtain⟨_,_,_,e,_⟩:=x;exact aT e
 | own y=>obtain⟨_,e⟩:=x;exact aT e
 | xd fs=>obtain⟨_,⟨_,_,_,e,_⟩,_⟩:=x;exact aT e
 | AA lo hi=>obtain⟨_,_,_,e⟩:=x;exact aT e
 | gx ob u=>obtain⟨e,_⟩:=x;exact aT e
 | ou ps=>exact aT (show h.get? a=some _ from x)
 | met f y=>exact aT (show h.get? a=some _ from x)
 | ext φ=>obtain⟨_,⟨_,e⟩,_⟩:=x;exact aT e
theorem Paired.GP{α β : Type}{F G : α -> β -> Prop}:∀{l₁ : List α}{l₂ : List β},Paired F l₁ l₂ -> (∀a b,F a b->G a b)->Paired G l₁ l₂
 | _,_,.nil,_=>.nil
 | _,_,.cons r t,f=>.cons (f _ _ r) (Paired.GP t f)
theorem bL.oq(x:bL P w H h a o)(k:∀b u,(b=a\/H b=some (.own a))->h.get? b=some u->h'.get? b=some u)
  (ho:∀b,H b=some (.own a)->H' b=some (.own a)) (ht:∀b xs,H b=some (.tup xs)->H' b=some (.tup xs)):bL P w H' h' a o:=by
 induction o with
 | lst xs=>obtain⟨z,its,n,r,e⟩:=x;exact⟨z,its,n,r,k _ _ (.inl rfl) e⟩
 | tup xs=>obtain⟨z,its,r,ob,e,c⟩:=x;exact⟨z,its,r,ob,k _ _ (.inl rfl) e,c⟩
 | dK aj=>obtain⟨z,y,vs,r,ob,es,ep,e,c⟩:=x;exact⟨z,y,vs,r,ob,es,ep,k _ _ (.inl rfl) e,c⟩
 | dT aj =>
  obtain⟨z,y,xs,r,ob,es,ep,e,c⟩:=x;exact⟨z,y,xs,Paired.GP r fun p q z=>⟨z.1,ht _ _ z.2.1,z.2.2⟩,ob,es,ep,k _ _ (.inl rfl) e,c⟩
 | set S n=>obtain⟨ob,es,ep,t,e,c⟩:=x;exact⟨ob,es,ep,t,k _ _ (.inl rfl) e,c⟩
 | ins C dx fs =>
  obtain⟨d,z,ne,e,mA,⟨od,es,ep,e2,c⟩,r⟩:=x;exact⟨ho _ d,z,ne,k _ _ (.inl rfl) e,mA,⟨od,es,ep,k _ _ (.inr d) e2,c⟩,r⟩
 | own y=>obtain⟨ob,e⟩:=x;exact⟨ob,k _ _ (.inl rfl) e⟩
 | xd fs=>obtain⟨mA,⟨od,es,ep,e,c⟩,r⟩:=x;exact⟨mA,⟨od,es,ep,k _ _ (.inl rfl) e,c⟩,r⟩
 | AA lo hi=>obtain⟨t,u,v,e⟩:=x;exact⟨t,u,v,k _ _ (.inl rfl) e⟩
 | gx ob u ih=>obtain⟨e,q⟩:=x;exact⟨k _ _ (.inl rfl) e,ih q⟩
 | ou ps =>
  have e:h.get? a=some { cls:=.none,data:=.fields ps }:=x;show h'.get? a=some { cls:=.none,data:=.fields ps };exact k a _ (.inl rfl) e
 | met f y =>
  have e:h.get? a=some (PySem.W.methodObj (.ref f) (.ref y)):=x;show h'.get? a=some (PySem.W.methodObj (.ref f) (.ref y));exact k a _ (.inl rfl) e
 | ext φ=>obtain⟨p,⟨o,e⟩,st⟩:=x;exact⟨st _ _ p fun o q=>k _ _ (.inl rfl) q,⟨o,k _ _ (.inl rfl) e⟩,st⟩
theorem bE.lt(x:bE P w H h)(e:H a=some o):a<h.objs.size:=(x a o e).lt
theorem bE.fresh(x:bE P w H h)(e:h.objs.size<=a):H a=none:=by
 cases q:H a with
 | none=>rfl
 | some u=>exact absurd (cQ (x.lt q) e) (gN _)
theorem bE.kept(x:bE P w H h)(k:∀b u,h.get? b=some u->h'.get? b=some u):bE P w H h':=fun a o e =>
 (x a o e).oq (fun b u _ q=>k b u q) (fun _ q=>q) fun _ _ q=>q
theorem bE.laid(x:bE P w H h)(k:∀b u,h.get? b=some u->h'.get? b=some u)(hp:h.objs.size<=a)(new:bL P w (upd H a o) h' a o):bE P w (upd H a o) h':=fun b u e=>by
 have hn:=x.fresh hp;by_cases hb:b=a
 ·subst hb;rw[Zc] at e;cases e;exact new
 ·rw[Zi hb] at e;exact(x b u e).oq (fun c v _ q=>k c v q) (fun c q=>by rw[Zi (Zo q hn)];exact q) fun c xs q=>by rw[Zi (Zo q hn)];exact q
end
def Rd(H:Hp)(a:Addr)(u:HO):Prop:=H a=some u\/∃o,H a=some (.gx o u)
theorem Rd.ok{P:Program}{w:World}{H:Hp}{h:Heap}{a:Addr}{u:HO}(r:Rd H a u)(x:bE P w H h):bL P w H h a u:=by
 rcases r with r|⟨o,r⟩
 ·exact x a u r
 ·obtain⟨_,q⟩:=x a _ r;exact q
def uq:Option HO->Prop
 | some (.lst _)=>True
 | some (.dK _)=>True
 | some (.dT _)=>True
 | some (.set _ _)=>True
 | some (.ins _ _ _)=>True
 | some (.ext _)=>True
 | _=>False
section
variable{P:Program}{w:World}{H:Hp}{h h':Heap}{x e:Addr}{o':HO}
theorem bE.write(ok:bE P w H h)(mu:uq (H x))(he:e=x\/H e=some (.own x))(k:∀b u,b≠e->h.get? b=some u->h'.get? b=some u)(sN:∃u,h'.get? e=some u)
  (new:bL P w (upd H x o') h' x o'):bE P w (upd H x o') h':=fun b u q=>by
 have Pd:∀c y,H c=some (.own y)->c≠x:=fun c y r z=>by subst z;rw[r] at mu;exact mu
 have ZtZ:∀c xs,H c=some (.tup xs)->c≠x:=fun c xs r z=>by subst z;rw[r] at mu;exact mu
 by_cases hb:b=x
 ·subst hb;rw[Zc] at q;cases q;exact new
 ·rw[Zi hb] at q;by_cases qb:b=e
  ·have q':H b=some (.own x):=by
    rcases he with z|z
    ·exact absurd (qb.trans z) hb
    ·rw[qb];exact z
   rw[q] at q';cases q';obtain⟨v,hv⟩:=sN;exact⟨v,by rw[qb];exact hv⟩
  ·refine(ok b u q).oq (fun c v hc r=>k c v ?_ r) (fun c r=>by rw[Zi (Pd c b r)];exact r) fun c xs r=>by rw[Zi (ZtZ c xs r)];exact r
   rcases hc with rfl|hc
   ·exact qb
   ·rintro rfl;rcases he with z|z
    ·exact Pd c b hc z
    ·rw[hc] at z;cases z;exact hb rfl
end
structure Un(fs ex:List Addr)(H H':Hp)(h h':Heap):Prop where
 keep:∀b o,h.get? b=some o->H b=none->b∉fs->b∉ex->h'.get? b=some o
 slot:∀b o,h.get? b=some o->H b=none->b∈fs->b∉ex->∃sl,h'.get? b=some { o with slots:=sl }
 free:∀b o,h.get? b=some o->H b=none->b∉ex->H' b=none
 there:∀b o,h.get? b=some o->b∉ex->∃o',h'.get? b=some o'
 mz:∀b xs,H b=some (.tup xs)->H' b=some (.tup xs)
 kA:∀b o u,H b=some (.gx o u)->H' b=some (.gx o u)
 my:∀b ps,H b=some (.ou ps)->∃more,H' b=some (.ou (ps++more))
section
variable{fs mM ex ex':List Addr}{H H1 H2:Hp}{h h1 h2 h':Heap}{a x e:Addr}{o:HO}
theorem Un.any(u:Un fs ex H H1 h h1){b:Addr}{ob:Obj}(q:h.get? b=some ob)(n:H b=none)(hx:b∉ex):∃sl,h1.get? b=some { ob with slots:=sl }:=by
 by_cases hb:b∈fs
 ·exact u.slot b ob q n hb hx
 ·exact⟨ob.slots,u.keep b ob q n hb hx⟩
theorem Un.kept(k:∀b u,h.get? b=some u->h'.get? b=some u):Un fs ex H H h h' :=
 ⟨fun b ob q _ _ _=>k b ob q,fun b ob q _ _ _=>⟨ob.slots,k b ob q⟩,fun _ _ _ n _=>n,fun b ob q _=>⟨ob,k b ob q⟩,fun _ _ q=>q,fun _ _ _ q=>q,fun _ ps q=>⟨#[],by rw[q];simp⟩⟩
theorem Un.refl:Un fs ex H H h h:=Un.kept fun _ _ q=>q
theorem Un.laid(k:∀b u,h.get? b=some u->h'.get? b=some u)(hp:h.objs.size<=a)(hn:H a=none):Un fs ex H (upd H a o) h h' where
 keep:=fun b u q _ _ _=>k b u q
 slot:=fun b u q _ _ _=>⟨u.slots,k b u q⟩
 free:=fun b u q n _=>by rw[Zi (bX (cQ (aT q) hp))];exact n
 there:=fun b u q _=>⟨u,k b u q⟩
 mz:=fun b xs q=>by rw[Zi (Zo q hn)];exact q
 kA:=fun b u xs q=>by rw[Zi (Zo q hn)];exact q
 my:=fun b ps q=>⟨#[],by rw[Zi (Zo q hn),q];simp⟩
theorem Un.write(mu:uq (H x))(he:e=x\/H e=some (.own x))(k:∀b u,b≠e->h.get? b=some u->h'.get? b=some u)(sN:∃u,h'.get? e=some u):Un fs ex H (upd H x o) h h':=by
 have hx:∀b,H b=none->b≠x:=fun b n z=>by subst z;rw[n] at mu;exact mu
 have hb:∀b,H b=none->b≠e:=fun b n z=>by
  subst z;rcases he with r|r
  ·exact hx b n r
  ·rw[n] at r;cases r
 have hm:∀b u,H b=some u -> ¬ uq (some u)->b≠x:=fun b u q nm z=>by subst z;rw[q] at mu;exact nm mu
 refine⟨fun b u q n _ _=>k b u (hb b n) q,fun b u q n _ _=>⟨u.slots,k b u (hb b n) q⟩,fun b u q n _=>by rw[Zi (hx b n)];exact n,fun b u q _=>?_,
  fun b xs q=>by rw[Zi (hm b _ q fun z=>z)];exact q,fun b u xs q=>by rw[Zi (hm b _ q fun z=>z)];exact q,fun b ps q=>⟨#[],by rw[Zi (hm b _ q fun z=>z),q];simp⟩⟩
 by_cases qb:b=e
 ·subst qb;exact sN
 ·exact⟨u,k b u qb q⟩
end
def AJ(h:Heap)(H:Hp):List Addr:=(List.range h.objs.size).filter fun a=>(H a).isSome
def lS(h:Heap)(H:Hp):Heap:=PySem.W.hideAll h (AJ h H)
theorem SI(h:Heap)(H:Hp):(lS h H).objs.size=h.objs.size:=PySem.W.hideAll_size _ _
theorem S5{h:Heap}{H:Hp}{b:Addr}{o:Obj}(e:h.get? b=some o)(n:H b=none):(lS h H).get? b=some o :=
 PySem.W.hideAll_get _ e fun hm=>by
  have q:(H b).isSome=true:=(List.mem_filter.mp hm).2;rw[n] at q;simp at q
theorem U0{h:Heap}{H:Hp}{b:Addr}{o:Obj}(e:(lS h H).get? b=some o):h.get? b=some o/\H b=none:=by
 have e':h.get? b=some o:=PySem.W.of_hideAll (AJ h H) e;refine⟨e',?_⟩;cases q:H b with
 | none=>rfl
 | some x =>
  have hm:b∈AJ h H:=List.mem_filter.mpr ⟨hX.mpr (aT e'),by simp[q]⟩;have z:(lS h H).get? b=none:=PySem.W.hideAll_none (AJ h H) hm;rw[z] at e;cases e
structure Mod(K:PySem.W.Frag)(mg:Str->Option Value)(base:Heap):Prop where
 qw:K.In base
 glob:base.Ns mainGlobals mg
 blt:∃mb,base.Ns builtinsNs mb/\∀x:Str,x ≠ "__name__" -> mb x=bootBuiltins x
 nolimit:base.NoLimit
/-- ji context: a PZ body (or a Ib block) running. base: fixed through ji whole law;dj,qS: ji entry;outer: ji frames ZwR slots others may change (a PZ Zxa);stack: all frames AI run;
   ex: ZxV AI ZwQ made ahead of ji entry and are walked here (a Ib);fn: ji names ZwR cells ZwQ made at ji entry (a def: all;a Ib block: its own);calm: not within an except Zx6;pn: pins AI Zxg state bears;xe: Zyd is wanted of an exception AI ZxY ji code -/
structure Cx where
 prog:Program
 w:World
 K:PySem.W.Frag
 mg:Str->Option Value
 base:Heap
 A:Around
 N:List Str
 dj : Shared
 qS : Hp
 env:Env
 outer:List Env
 stack:List Env
 ex:List Addr
 fn:Str->Bool
 calm:Bool
 pn:List (Addr×Obj)
 xe:Value->Shared->Prop
def gW(l:List Env):List Addr:=l.filterMap (·.frame)
abbrev Cx.fs(X:Cx):List Addr:=gW X.outer
def Bo(sc:Scope)(x:Str):Prop:=sc.names.lookup x=some .local\/sc.names.lookup x=some .cell\/sc.names.lookup x=some .free
def Loc(sc:Scope)(x:Str):Prop:=sc.names.lookup x=some .local\/sc.names.lookup x=some .cell
def Look(env:Env)(h:Heap)(m:Str->Option Value)(x:Str)(u:Value):Prop :=
 (env.kindOf x=some .local/\m x=some u)\/((env.kindOf x=some .cell\/env.kindOf x=some .free)/\∃c,env.cells.lookup x=some c/\h.IsCell c (some u))
structure Cx.Ok(X:Cx):Prop where
 mod:Mod X.K X.mg X.base
 kind:X.env.scope.kind=.function
 glob:X.env.globals=mainGlobals
 blt:X.env.builtins=builtinsNs
 above:X.dj.heap.objs.size<=X.env.locals
 inj:∀x y c,X.env.cells.lookup x=some c->X.env.cells.lookup y=some c->x=y
 has:∀x,(X.env.kindOf x=some .cell\/X.env.kindOf x=some .free)->∃c,X.env.cells.lookup x=some c
 lT:∀x c,X.fn x=true->X.env.cells.lookup x=some c->X.dj.heap.objs.size<=c
 hd:X.calm=true->X.A.handled=none
 frames:X.A.frames=some X.stack
 ot:X.stack=X.outer\/(X.stack=X.env::X.outer/\X.env.frame=some X.env.locals)
 nu:∀b∈X.ex,b≠X.env.locals/\∀x c,X.env.cells.lookup x=some c->c≠b
 bs:∀b o,X.base.get? b=some o->X.dj.heap.get? b=some o/\X.qS b=none
 iA:X.base.objs.size<=X.dj.heap.objs.size
 mv:∀b o,X.base.get? b=some o->b∉X.ex
 lV:∀b∈X.ex,b∉X.fs
 fU:X.dj.heap.FunFrames X.base X.outer
 jN:∀b∈X.fs,X.qS b=none
structure Inv(X:Cx)(pins:List (Addr×Obj))(σ : List (Option V))(H:Hp)(s:Shared):Prop where
 ok:X.Ok
 os:s.os=X.dj.os
 bare:AllBare s.gens
 base:Un X.fs X.ex X.qS H X.dj.heap s.heap
 loc:∃m,s.heap.Ns X.env.locals m/\∀(i:Nat)(x:Str)(v:V),X.N[i]?= some x -> σ[i]?= some (some v)->Bo X.env.scope x->∃u,RelV v u/\Look X.env s.heap m x u
 cell:∀x c,X.env.cells.lookup x=some c->∃v,s.heap.IsCell c v
 free:H X.env.locals=none
 fS:∀x c,X.env.cells.lookup x=some c->H c=none
 pin:∀p∈X.pn++pins,s.heap.get? p.1=some p.2/\H p.1=none/\p.1≠X.env.locals/\p.1∉X.fs/\∀v,p.2.data ≠ .cell v
 aq:bE X.prog X.w H s.heap
 len : σ.length=X.N.length
section
variable{X:Cx}{pins:List (Addr×Obj)}{σ : List (Option V)}{H H':Hp}{s:Shared}{h':Heap}
theorem Cx.Ok.ZtW(ok:X.Ok){b:Addr}{o:Obj}(e:X.base.get? b=some o):b∉X.fs:=fun hb=>by
 have:=(ok.fU.mem hb).1;rw[e] at this;cases this
theorem Inv.bs(I:Inv X pins σ H s):∀b o,X.base.get? b=some o->s.heap.get? b=some o/\H b=none:=fun b o e =>
 ⟨I.base.keep b o (I.ok.bs b o e).1 (I.ok.bs b o e).2 (I.ok.ZtW e) (I.ok.mv b o e),I.base.free b o (I.ok.bs b o e).1 (I.ok.bs b o e).2 (I.ok.mv b o e)⟩
theorem Inv.bk(I:Inv X pins σ H s):∀b o,X.base.get? b=some o->s.heap.get? b=some o:=fun b o e=>(I.bs b o e).1
theorem Inv.mod(I:Inv X pins σ H s):Mod X.K X.mg X.base:=I.ok.mod
theorem Inv.bH(I:Inv X pins σ H s):X.K.In s.heap:=I.ok.mod.qw.keeps I.bk
theorem Inv.lt(I:Inv X pins σ H s):X.env.locals<s.heap.objs.size:=let ⟨_,hn,_⟩:=I.loc;hn.lt
theorem Inv.sz(I:Inv X pins σ H s):X.dj.heap.objs.size<=s.heap.objs.size:=cY I.ok.above (lg I.lt)
theorem Inv.ZtX(I:Inv X pins σ H s){a:Addr}(h:s.heap.objs.size<=a):a∉X.fs:=fun hb=>by
 obtain⟨_,o,ho,_⟩:=I.ok.fU.mem hb;exact absurd (cQ (aT ho) (cY I.sz h)) (gN _)
theorem Inv.jJ(I:Inv X pins σ H s):∀x c,X.env.cells.lookup x=some c->c≠X.env.locals:=fun x c e z=>by
 obtain⟨v,o,ho,hd⟩:=I.cell x c e;obtain⟨m,⟨o',es,ep,cn,gg,_⟩,_⟩:=I.loc;rw[z,cn] at ho;cases ho;rw[gg] at hd;cases hd
theorem Inv.fU(I:Inv X pins σ H s):s.heap.FunFrames X.base X.outer:=by
 have all:∀(l:List Env),(∀b∈gW l,b∈X.fs)->X.dj.heap.FunFrames X.base l->s.heap.FunFrames X.base l:=by
  intro l
  induction l with
  | nil=>intro _ _;trivial
  | cons env r ih =>
   intro hs hl;obtain⟨hk,⟨L,o,hf,hn,ho,hd⟩,hr⟩:=hl;have hL:L∈X.fs:=hs L (by unfold gW;rw[List.filterMap_cons,hf];exact ba);obtain⟨sl,e⟩:=I.base.slot L o ho (I.ok.jN L hL) hL fun z=>I.ok.lV L z hL;exact⟨hk,⟨L,_,hf,hn,e,hd⟩,ih (fun b hb=>hs b (by unfold gW;rw[List.filterMap_cons,hf];exact aW _ hb)) hr⟩
 exact all X.outer (fun _ hb=>hb) I.ok.fU
theorem Inv.stack(I:Inv X pins σ H s):s.heap.FunFrames X.base X.stack:=by
 rcases I.ok.ot with e|⟨e,hf⟩
 ·rw[e];exact I.fU
 ·rw[e];obtain⟨m,hn,_⟩:=I.loc;refine .cons (by rw[I.ok.kind];decide) hf hn ?_ I.fU;exact Heap.get?_none_of_le (cY I.ok.iA I.ok.above)
theorem Inv.He(I:Inv X pins σ H s):∀b∈gW X.stack,b∈X.env.locals::X.fs:=fun b hb=>by
 rcases I.ok.ot with e|⟨e,hf⟩
 ·rw[e] at hb;exact aW _ hb
 ·rw[e] at hb;unfold gW at hb;rw[List.filterMap_cons,hf] at hb;exact hb
theorem Inv.Hd(I:Inv X pins σ H s):∀b∈gW X.stack,H b=none:=fun b hb=>by
 rcases aG.mp (I.He b hb) with e|hb
 ·rw[e];exact I.free
 ·obtain⟨_,o,ho,_⟩:=I.ok.fU.mem hb;exact I.base.free b o ho (I.ok.jN b hb) fun z=>I.ok.lV b z hb
theorem Inv.step{g':Array GenState}{t':Nat}{d':Drawn}{ch:List Addr}(I:Inv X pins σ H s)
  (kE:∀b∈ch,(b∈X.ex\/X.dj.heap.objs.size<=b)/\b≠X.env.locals/\(∀x c,X.env.cells.lookup x=some c->c≠b)/\∀p∈X.pn++pins,p.1≠b)
  (keep:∀b o,b≠X.env.locals->b∉X.fs->b∉ch->s.heap.get? b=some o->H b=none->h'.get? b=some o)
  (slot:∀b o,b≠X.env.locals->b∈X.fs->b∉ch->s.heap.get? b=some o->H b=none->∃sl,h'.get? b=some { o with slots:=sl }) (free:∀b o,b∉ch->s.heap.get? b=some o->H b=none->H' b=none)
  (there:∀b o,b∉ch->s.heap.get? b=some o->∃o',h'.get? b=some o')
  (mz:∀b xs,H b=some (.tup xs)->H' b=some (.tup xs)) (kA:∀b o u,H b=some (.gx o u)->H' b=some (.gx o u)) (my:∀b ps,H b=some (.ou ps)->∃more,H' b=some (.ou (ps++more)))
  (ns:∀m,s.heap.Ns X.env.locals m->h'.Ns X.env.locals m) (aq:bE X.prog X.w H' h') (hg:AllBare g') :
  Inv X pins σ H' { s with heap:=h',gens:=g',drawn:=d',toks:=t' }:=by
 have Pb:∀b o,X.dj.heap.get? b=some o->b≠X.env.locals:=fun b o e=>bX (cQ (aT e) I.ok.above);have Au:∀b o,X.dj.heap.get? b=some o->b∉X.ex->b∉ch:=fun b o e hx hb=>by
  rcases(kE b hb).1 with z|z
  ·exact hx z
  ·exact absurd (cQ (aT e) z) (gN _)
 have cellK:∀x c,X.env.cells.lookup x=some c->∀v,s.heap.IsCell c v->h'.IsCell c v:=fun x c e v ⟨o,ho,hd⟩=>by
  have wC:c∉ch:=fun z=>(kE c z).2.2.1 x c e rfl;by_cases hc:c∈X.fs
  ·obtain⟨sl,q⟩:=slot c o (I.jJ x c e) hc wC ho (I.fS x c e);exact⟨_,q,hd⟩
  ·exact⟨o,keep c o (I.jJ x c e) hc wC ho (I.fS x c e),hd⟩
 refine⟨I.ok,I.os,hg,⟨fun b o e n hb hx=>?_,fun b o e n hb hx=>?_,fun b o e n hx=>?_,fun b o e hx=>?_,fun b xs e=>mz b xs (I.base.mz b xs e),fun b o xs e=>kA b o xs (I.base.kA b o xs e),fun b ps e=>?_⟩,?_,fun x c e=>?_,?_,fun x c e=>?_,fun p hp=>?_,aq,I.len⟩
 ·exact keep b o (Pb b o e) hb (Au b o e hx) (I.base.keep b o e n hb hx) (I.base.free b o e n hx)
 ·obtain⟨sl,e1⟩:=I.base.slot b o e n hb hx;obtain⟨xy,e2⟩:=slot b _ (Pb b o e) hb (Au b o e hx) e1 (I.base.free b o e n hx);exact⟨xy,e2⟩
 ·obtain⟨o',e1⟩:=I.base.there b o e hx;exact free b o' (Au b o e hx) e1 (I.base.free b o e n hx)
 ·obtain⟨o',e1⟩:=I.base.there b o e hx;exact there b o' (Au b o e hx) e1
 ·obtain⟨m1,e1⟩:=I.base.my b ps e;obtain⟨m2,e2⟩:=my b _ e1;exact⟨m1++m2,by rw[e2,Array.append_assoc]⟩
 ·obtain⟨m,hn,hl⟩:=I.loc;refine⟨m,ns m hn,fun i x v e1 e2 e3=>?_⟩;obtain⟨u,r,l⟩:=hl i x v e1 e2 e3;refine⟨u,r,?_⟩;rcases l with l|⟨k,c,e,z⟩
  ·exact .inl l
  ·exact .inr ⟨k,c,e,cellK x c e _ z⟩
 ·obtain⟨v,z⟩:=I.cell x c e;exact⟨v,cellK x c e v z⟩
 ·obtain⟨m,⟨o,_,_,ho,_⟩,_⟩:=I.loc;exact free _ o (fun z=>(kE _ z).2.1 rfl) ho I.free
 ·obtain⟨v,o,ho,hd⟩:=I.cell x c e;exact free c o (fun z=>(kE c z).2.2.1 x c e rfl) ho (I.fS x c e)
 ·obtain⟨e,n,ne,nf,d⟩:=I.pin p hp;have wC:p.1∉ch:=fun z=>(kE p.1 z).2.2.2 p hp rfl;exact⟨keep p.1 p.2 ne nf wC e n,free p.1 p.2 wC e n,ne,nf,d⟩
theorem Inv.un{t':Nat}(I:Inv X pins σ H s)(u:Un X.fs [] H H' s.heap h')(aq:bE X.prog X.w H' h'):Inv X pins σ H' { s with heap:=h',toks:=t' }:=by
 obtain⟨m,⟨o,es,ep,ho,r⟩,_⟩:=id I.loc;obtain⟨sl,hL⟩:=u.any ho I.free (by simp);exact I.step (g':=s.gens) (d':=s.drawn) (ch:=[]) (fun _ z=>nomatch z) (fun b o _ hb _ e n=>u.keep b o e n hb (by simp)) (fun b o _ hb _ e n=>u.slot b o e n hb (by simp)) (fun b o _ e n=>u.free b o e n (by simp)) (fun b o _ e=>u.there b o e (by simp)) u.mz u.kA u.my (fun m' hm=>by
  obtain⟨o',cZ,lx,cn,r'⟩:=hm;rw[ho] at cn;cases cn;exact⟨_,cZ,lx,hL,r'⟩) aq I.bare
theorem Inv.call{g':Array GenState}{t':Nat}{d':Drawn}{ch:List Addr}(I:Inv X pins σ H s)(u:Un (gW X.stack) ch H H' s.heap h')(aq:bE X.prog X.w H' h')(hg:AllBare g')
  (kE:∀b∈ch,(b∈X.ex\/X.dj.heap.objs.size<=b)/\b≠X.env.locals/\(∀x c,X.env.cells.lookup x=some c->c≠b)/\∀p∈X.pn++pins,p.1≠b) :
  Inv X pins σ H' { s with heap:=h',gens:=g',drawn:=d',toks:=t' }:=by
 obtain⟨m,⟨o,es,ep,ho,r⟩,_⟩:=id I.loc;obtain⟨sl,hL⟩:=u.any ho I.free fun z=>(kE _ z).2.1 rfl;exact I.step (ch:=ch) kE (fun b o hL hb hc e n=>u.keep b o e n (fun z=>(aG.mp (I.He b z)).elim hL hb) hc) (fun b o _ _ hc e n=>u.any e n hc) (fun b o hc e n=>u.free b o e n hc) (fun b o hc e=>u.there b o e hc) u.mz u.kA u.my (fun m' hm=>by
  obtain⟨o',cZ,lx,cn,r'⟩:=hm;rw[ho] at cn;cases cn;exact⟨_,cZ,lx,hL,r'⟩) aq hg
theorem Inv.turned{t':Nat}{it:Addr}(I:Inv X pins σ H s)(k:∀b o,b≠it->s.heap.get? b=some o->h'.get? b=some o)(hn:H it=none)(hL:it≠X.env.locals)
  (h1:it∈X.ex\/X.dj.heap.objs.size<=it) (h2:∀x c,X.env.cells.lookup x=some c->c≠it) (h3:∀p∈X.pn++pins,p.1≠it):Inv X pins σ H { s with heap:=h',toks:=t' }:=by
 have Pc:∀b u,H b=some u->b≠it:=fun b u e z=>by rw[z,hn] at e;cases e
 refine I.step (g':=s.gens) (d':=s.drawn) (ch:=[it]) (fun b hb=>?_) (fun b o _ _ hc e _=>k b o (fun z=>hc (by simp[z])) e) (fun b o _ _ hc e _=>⟨o.slots,k b o (fun z=>hc (by simp[z])) e⟩) (fun _ _ _ _ n=>n)
  (fun b o hc e=>⟨o,k b o (fun z=>hc (by simp[z])) e⟩) (fun _ _ e=>e) (fun _ _ _ e=>e) (fun b ps e=>⟨#[],by rw[e];simp⟩) (fun m hm=>?_) (fun b u e=>?_) I.bare
 ·have e:b=it:=by simpa using hb
  subst e;exact⟨h1,hL,h2,h3⟩
 ·obtain⟨o,es,ep,ho,r⟩:=hm;exact⟨o,es,ep,k _ o (fG hL) ho,r⟩
 ·refine(I.aq b u e).oq (fun c v hc q=>k c v ?_ q) (fun _ q=>q) fun _ _ q=>q;rcases hc with z|z
  ·rw[z];exact Pc b u e
  ·exact Pc c _ z
theorem Inv.tok(I:Inv X pins σ H s)(t:Nat):Inv X pins σ H { s with toks:=t }:=I.un (h':=s.heap) (t':=t) Un.refl I.aq
theorem Inv.kept{t':Nat}(I:Inv X pins σ H s)(k:∀b u,s.heap.get? b=some u->h'.get? b=some u):Inv X pins σ H { s with heap:=h',toks:=t' }:=I.un (Un.kept k) (I.aq.kept k)
theorem Inv.laid{a:Addr}{o:HO}{t':Nat}(I:Inv X pins σ H s)(k:∀b u,s.heap.get? b=some u->h'.get? b=some u)(hp:s.heap.objs.size<=a)(new:bL X.prog X.w (upd H a o) h' a o) :
  Inv X pins σ (upd H a o) { s with heap:=h',toks:=t' }:=I.un (Un.laid k hp (I.aq.fresh hp)) (I.aq.laid k hp new)
theorem Inv.write{x e:Addr}{o:HO}{t':Nat}(I:Inv X pins σ H s)(mu:uq (H x))(he:e=x\/H e=some (.own x))(k:∀b u,b≠e->s.heap.get? b=some u->h'.get? b=some u)(sN:∃u,h'.get? e=some u)
  (new:bL X.prog X.w (upd H x o) h' x o):Inv X pins σ (upd H x o) { s with heap:=h',toks:=t' }:=I.un (Un.write mu he k sN) (I.aq.write mu he k sN new)
theorem Inv.Az{o7:List (Addr×Obj)}(I:Inv X pins σ H s)(h:∀p∈o7,s.heap.get? p.1=some p.2/\H p.1=none/\p.1≠X.env.locals/\p.1∉X.fs/\∀v,p.2.data ≠ .cell v):Inv X o7 σ H s :=
 ⟨I.ok,I.os,I.bare,I.base,I.loc,I.cell,I.free,I.fS,fun p hp=>(bK.mp hp).elim (fun z=>I.pin p (oE _ z)) (h p),I.aq,I.len⟩
theorem BP{N:List Str}(hN:N.Nodup){i j:Nat}{x:Str}(a:N[i]?= some x)(b:N[j]?= some x):i=j:=by
 obtain⟨h1,e1⟩:=cA.mp a;obtain⟨h2,e2⟩:=cA.mp b;exact(List.getElem_inj hN).mp (e1.trans e2.symm)
theorem J4{M:Model}{A:Around}{E:Value->Shared->Prop}{i:Nat}{x:Str}{v:V}{u:Value}{Q:Unit->Shared->Prop}(I:Inv X pins σ H s)(hN:X.N.Nodup)(hi:X.N[i]?= some x)(hx:Loc X.env.scope x)(r:RelV v u)
  (h:∀s',Inv X pins (σ.set i (some v)) H s'->(∃a,Heap.SameBut a s.heap s'.heap/\(a=X.env.locals\/X.env.cells.lookup x=some a))->Q () s') (hf:X.fn x=true\/X.env.scope.names.lookup x=some .local:=by first|exact .inl rfl|exact .inr rfl|assumption):wpAny M A (storeName X.env x u) Q E s:=by
 obtain⟨m,hn,hl⟩:=id I.loc;have zp:(X.env.scope.kind ==.class || (X.env.scope.kind ==.module&&X.env.locals != X.env.globals))=false:=by rw[I.ok.kind];rfl
 have Ob : i < σ.length:=by rw[I.len];exact(cA.mp hi).1
 have jJ:=I.jJ;have tracked:∀{a:Addr}{h':Heap},(∃o,s.heap.get? a=some o/\H a=none)->Heap.SameBut a s.heap h'->bE X.prog X.w H h':=fun{a h'} ha hs b ob e=>by
  obtain⟨_,_,zu⟩:=ha;refine(I.aq b ob e).oq (fun c w' hc q=>(hs.2 c ?_).trans q) (fun _ q=>q) fun _ _ q=>q;rintro rfl;rcases hc with rfl|hc
  ·rw[zu] at e;cases e
  ·rw[zu] at hc;cases hc
 rcases hx with hk|hk
 ·refine wpAny_storeName_local hk hn (fun h' Ba hs=>?_) zp;obtain⟨oL,_,_,qh,_⟩:=id hn;refine h _ ⟨I.ok,I.os,I.bare,⟨fun b o e n hb hx=>?_,fun b o e n hb hx=>?_,I.base.free,fun b o e hx=>?_,I.base.mz,I.base.kA,I.base.my⟩,⟨_,Ba,fun j y v' e1 e2 e3=>?_⟩,fun y c e=>?_,I.free,I.fS,fun p hp=>?_,tracked ⟨oL,qh,I.free⟩ hs,by simpa using I.len⟩ ⟨_,hs,.inl rfl⟩
  ·exact(hs.2 b (bX (cQ (aT e) I.ok.above))).trans (I.base.keep b o e n hb hx)
  ·obtain⟨sl,e1⟩:=I.base.slot b o e n hb hx;exact⟨sl,(hs.2 b (bX (cQ (aT e) I.ok.above))).trans e1⟩
  ·obtain⟨o',e1⟩:=I.base.there b o e hx;exact⟨o',(hs.2 b (bX (cQ (aT e) I.ok.above))).trans e1⟩
  ·by_cases hj:j=i
   ·subst hj;rw[hi] at e1;cases e1;rw[List.getElem?_set_self Ob] at e2;cases e2;exact⟨u,r,.inl ⟨hk,by simp⟩⟩
   ·rw[List.getElem?_set_ne (fG hj)] at e2;obtain⟨u',r',q⟩:=hl j y v' e1 e2 e3;refine⟨u',r',?_⟩;rcases q with⟨k,e⟩|⟨k,c,e,z⟩
    ·refine .inl ⟨k,?_⟩;have:y≠x:=fun e=>hj (BP hN e1 (e ▸ hi));simp[this,e]
    ·exact .inr ⟨k,c,e,z.sameBut hs (jJ y c e)⟩
  ·obtain⟨w',z⟩:=I.cell y c e;exact⟨w',z.sameBut hs (jJ y c e)⟩
  ·obtain⟨e,n,ne,nf,d⟩:=I.pin p hp;exact⟨(hs.2 p.1 ne).trans e,n,ne,nf,d⟩
 ·have FA:X.fn x=true:=by
   rcases hf with z|z
   ·exact z
   ·rw[z] at hk;cases hk
  obtain⟨c,hc⟩:=I.ok.has x (.inl hk);obtain⟨w',z⟩:=I.cell x c hc;refine wpAny_storeName_cell I.ok.kind hk hc z (fun h' qR hs=>?_);obtain⟨oc,Ow,ZrF⟩:=id z;refine h { s with heap:=h' } ⟨I.ok,I.os,I.bare,⟨fun b o e n hb hx=>?_,fun b o e n hb hx=>?_,I.base.free,fun b o e hx=>?_,I.base.mz,I.base.kA,I.base.my⟩,⟨m,hn.sameBut hs (fG (jJ x c hc)),fun j y v' e1 e2 e3=>?_⟩,fun y c' e=>?_,I.free,I.fS,fun p hp=>?_,tracked ⟨oc,Ow,I.fS x c hc⟩ hs,by simpa using I.len⟩ ⟨c,hs,.inr hc⟩
  ·exact(hs.2 b (bX (cQ (aT e) (I.ok.lT x c FA hc)))).trans (I.base.keep b o e n hb hx)
  ·obtain⟨sl,e1⟩:=I.base.slot b o e n hb hx;exact⟨sl,(hs.2 b (bX (cQ (aT e) (I.ok.lT x c FA hc)))).trans e1⟩
  ·obtain⟨o',e1⟩:=I.base.there b o e hx;exact⟨o',(hs.2 b (bX (cQ (aT e) (I.ok.lT x c FA hc)))).trans e1⟩
  ·by_cases hj:j=i
   ·subst hj;rw[hi] at e1;cases e1;rw[List.getElem?_set_self Ob] at e2;cases e2;exact⟨u,r,.inr ⟨.inl hk,c,hc,qR⟩⟩
   ·rw[List.getElem?_set_ne (fG hj)] at e2;obtain⟨u',r',q⟩:=hl j y v' e1 e2 e3;refine⟨u',r',?_⟩;rcases q with q|⟨k,c',e,z'⟩
    ·exact .inl q
    ·refine .inr ⟨k,c',e,z'.sameBut hs ?_⟩;rintro rfl;exact hj (BP hN e1 (I.ok.inj _ _ _ e hc ▸ hi))
  ·by_cases NZ:c'=c
   ·subst NZ;exact⟨_,qR⟩
   ·obtain⟨w2,z2⟩:=I.cell y c' e;exact⟨w2,z2.sameBut hs NZ⟩
  ·obtain⟨e,n,ne,nf,d⟩:=I.pin p hp;refine⟨(hs.2 p.1 ?_).trans e,n,ne,nf,d⟩;intro q;rw[q,Ow] at e;have q':oc=p.2:=dk e;exact d w' (by rw[<- q'];exact ZrF)
theorem BZ{M:Model}{A:Around}{E:Value->Shared->Prop}{i:Nat}{x:Str}{v:V}{u:Value}{Q:Unit->Shared->Prop}(I:Inv X pins σ H s)(hN:X.N.Nodup)(hi:X.N[i]?= some x)(hx:Loc X.env.scope x)(r:RelV v u)
  (h:∀s',Inv X pins (σ.set i (some v)) H s'->Q () s') (hf:X.fn x=true\/X.env.scope.names.lookup x=some .local:=by first|exact .inl rfl|exact .inr rfl|assumption):wpAny M A (storeName X.env x u) Q E s :=
 J4 I hN hi hx r (fun s' I' _=>h s' I') hf
theorem Inv.A5{s':Shared}{ch:List Addr}(I:Inv X pins σ H s)(ho:s'.os=s.os)(u:Un (gW X.stack) ch H H' s.heap s'.heap)(aq:bE X.prog X.w H' s'.heap)(hg:AllBare s'.gens)
  (kE:∀b∈ch,(b∈X.ex\/X.dj.heap.objs.size<=b)/\b≠X.env.locals/\(∀x c,X.env.cells.lookup x=some c->c≠b)/\∀p∈X.pn++pins,p.1≠b):Inv X pins σ H' s':=by
 obtain⟨h',g',d',t',o'⟩:=s';have e:o'=s.os:=ho;subst e;exact I.call (g':=g') (t':=t') (d':=d') u aq hg kE
end
abbrev XK:=Value->Option Addr->Hp->Prop
abbrev St:=List (Option V)
abbrev VK:=V->Hp->Prop
abbrev TE:=St->Hp->VK->Prop
abbrev TT:=St->Hp->(Bool->Hp->Prop)->Prop
abbrev TA:=St->Hp->(List V->Hp->Prop)->Prop
structure Ends where
 nx:St->Hp->Prop
 rt:VK
 bk:St->Hp->Prop:=fun _ _=>False
 ct:St->Hp->Prop:=fun _ _=>False
abbrev TS:=Ends->St->Hp->Prop
def EP(X:Cx)(pins:List (Addr×Obj))(σ : St)(Q:VK)(u:Value)(s':Shared):Prop := ∃v H',Inv X pins σ H' s'/\RelV v u/\Q v H'
def TP(X:Cx)(pins:List (Addr×Obj))(σ : St)(Q:Bool->Hp->Prop)(b:Bool)(s':Shared):Prop := ∃H',Inv X pins σ H' s'/\Q b H'
def AP(X:Cx)(pins:List (Addr×Obj))(σ : St)(Q:List V->Hp->Prop)(us:List Value)(s':Shared):Prop := ∃vs H',Inv X pins σ H' s'/\Vals vs us/\Q vs H'
def SP(X:Cx)(pins:List (Addr×Obj))(D:Ends)(f:Flow)(s':Shared):Prop :=
 match f with
 | .next=>∃ ao H',Inv X pins ao H' s'/\D.nx ao H'
 | .brk=>∃ ao H',Inv X pins ao H' s'/\D.bk ao H'
 | .cont=>∃ ao H',Inv X pins ao H' s'/\D.ct ao H'
 | .ret u=>∃v ao H',Inv X pins ao H' s'/\RelV v u/\D.rt v H'
def PE(X:Cx)(e:Expr)(t:TE):Prop :=
 ∀(pins:List (Addr×Obj))(s:Shared)(σ : St)(H:Hp)(Q:VK),Inv X pins σ H s->t σ H Q->wpAny (model X.prog X.w) X.A (eval e X.env) (EP X pins σ Q) X.xe s
def PT(X:Cx)(e:Expr)(t:TT):Prop :=
 ∀(pins:List (Addr×Obj))(s:Shared)(σ : St)(H:Hp)(Q:Bool->Hp->Prop),Inv X pins σ H s->t σ H Q->wpAny (model X.prog X.w) X.A (isTrue e X.env (eval e X.env)) (TP X pins σ Q) X.xe s
def PW(X:Cx)(e:Expr)(t:TT):Prop :=
 ∀(whole:Sem Value)(pins:List (Addr×Obj))(s:Shared)(σ : St)(H:Hp)(Q:Bool->Hp->Prop),Inv X pins σ H s->t σ H Q->wpAny (model X.prog X.w) X.A (isTrue e X.env whole) (TP X pins σ Q) X.xe s
theorem PW.pt{X:Cx}{e:Expr}{t:TT}(h:PW X e t):PT X e t:=h _
def PA(X:Cx)(es:List Expr)(t:TA):Prop :=
 ∀(pos:Pos)(pins:List (Addr×Obj))(s:Shared)(σ : St)(H:Hp)(Q:List V->Hp->Prop),Inv X pins σ H s->t σ H Q->wpAny (model X.prog X.w) X.A (spliced (backTo pos (starEach es X.env))) (AP X pins σ Q) X.xe s
def PS(X:Cx)(st:Stmt)(t:TS):Prop :=
 ∀(pins:List (Addr×Obj))(s:Shared)(σ : St)(H:Hp)(D:Ends),Inv X pins σ H s->t D σ H->wpAny (model X.prog X.w) X.A (exec st X.env) (SP X pins D) X.xe s
def cJ(X:Cx)(st:List Stmt)(t:TS):Prop :=
 ∀(pins:List (Addr×Obj))(s:Shared)(σ : St)(H:Hp)(D:Ends),Inv X pins σ H s->t D σ H->wpAny (model X.prog X.w) X.A (execs st X.env) (SP X pins D) X.xe s
theorem aw{α : Type}{t:Sem α}{Q Q' : α -> Shared->Prop}{M:Model}{A:Around}{E:Value->Shared->Prop}{s:Shared}(h:wpAny M A t Q E s)(hQ:∀a s,Q a s->Q' a s):wpAny M A t Q' E s:=eI h hQ fun _ _ x=>x
section
variable{X:Cx}
def vf(i:Nat):TE:=fun σ H Q=>∃v,σ[i]?= some (some v)/\Q v H
def tC(v:V):TE:=fun _ H Q=>Q v H
theorem Vn{i:Nat}{x:Str}{pos:Pos}(hN:X.N[i]?= some x)(hv:Bo X.env.scope x)(hd:(x == ("__debug__" : Str))=false:=by decide) (cW:(x == ("__classdict__" : Str))=false:=by decide):PE X (.Name x pos) (vf i):=by
 intro pins s σ H Q I h;obtain⟨v,e,h⟩:=h;obtain⟨m,hn,hl⟩:=I.loc;obtain⟨u,r,l⟩:=hl i x v hN e hv;have fin:EP X pins σ Q u s:=⟨v,H,I,r,h⟩;rcases l with⟨hk,hm⟩|⟨hk,c,hc,nH⟩
 ·exact wpAny_Name (wpAny_loadName_local I.ok.kind hk hn hm fin) hd
 ·rcases hk with hk|hk
  ·exact wpAny_Name (wpAny_loadName_cell I.ok.kind hk hc nH fin) hd
  ·exact wpAny_Name (wpAny_loadName_free I.ok.kind hk hc nH fin cW) hd
theorem Zg{i j pos}:PE X (.Constant (.int i) j pos) (tC (.int i)):=fun _ _ _ H _ I h=>wpAny_Constant_int ⟨.int i,H,I.tok _,⟨_,rfl⟩,h⟩
theorem kr{b j pos}:PE X (.Constant (.bool b) j pos) (tC (.bl b)):=fun _ _ _ H _ I h=>Constant_bool ⟨.bl b,H,I,rfl,h⟩
theorem gn{j pos}:PE X (.Constant .none j pos) (tC .aD):=fun _ _ _ H _ I h=>Constant_none ⟨.aD,H,I,rfl,h⟩
theorem Zm{x j pos}:PE X (.Constant (.str x) j pos) (tC (.str x)):=fun _ _ _ H _ I h=>Calls.Constant_str ⟨.str x,H,I.tok _,⟨_,rfl⟩,h⟩
def Gl(X:Cx)(x:Str):Prop:=X.env.kindOf x=some .globalImplicit
theorem uG{E:Value->Shared->Prop}{pins:List (Addr×Obj)}{s:Shared}{σ : St}{H:Hp}{x:Str}{u:Value}{pos:Pos}{Q:Value->Shared->Prop}(I:Inv X pins σ H s)(hg:Gl X x)(hm:X.mg x=some u)(h:Q u s)
  (hd:(x == ("__debug__" : Str))=false:=by decide):wpAny (model X.prog X.w) X.A (eval (.Name x pos) X.env) Q E s :=
 Calls.Name_function_global I.ok.kind hg (Calls.loadGlobal_global (by rw[I.ok.glob];exact I.mod.glob.keeps I.bk) hm h) hd
theorem lQ{E:Value->Shared->Prop}{pins:List (Addr×Obj)}{s:Shared}{σ : St}{H:Hp}{x:Str}{u:Value}{pos:Pos}{Q:Value->Shared->Prop}(I:Inv X pins σ H s)(hg:Gl X x)(hm:X.mg x=none)(hv:bootBuiltins x=some u)(h:Q u s)
  (hn:x ≠ "__name__" := by decide) (hd:(x == ("__debug__" : Str))=false:=by decide):wpAny (model X.prog X.w) X.A (eval (.Name x pos) X.env) Q E s:=by
 obtain⟨mb,h1,h2⟩:=I.mod.blt;exact Calls.Name_function_global I.ok.kind hg (Calls.loadGlobal_builtin (by rw[I.ok.glob];exact I.mod.glob.keeps I.bk) hm (by rw[I.ok.blt];exact h1.keeps I.bk) ((h2 x hn).trans hv) h) hd
theorem fu{x:Str}{v:V}{u:Value}{pos:Pos}(hg:Gl X x)(hm:X.mg x=some u)(r:RelV v u)(hd:(x == ("__debug__" : Str))=false:=by decide):PE X (.Name x pos) (tC v) :=
 fun _ _ _ H _ I h=>uG I hg hm ⟨v,H,I,r,h⟩ hd
theorem UX{x:Str}{v:V}{u:Value}{pos:Pos}(hg:Gl X x)(hm:X.mg x=none)(hv:bootBuiltins x=some u)(r:RelV v u)(hn:x ≠ "__name__" := by decide) (hd:(x == ("__debug__" : Str))=false:=by decide):PE X (.Name x pos) (tC v) :=
 fun _ _ _ H _ I h=>lQ I hg hm hv ⟨v,H,I,r,h⟩ hn hd
variable{a b:Expr}{ta tb:TE}{pos:Pos}
variable{tA xA:TT}{rest:List Expr}
def Wy(t u:TT):TT:=fun σ H Q=>t σ H fun c H1=>if c=true then u σ H1 Q else Q false H1
def tOr(t u:TT):TT:=fun σ H Q=>t σ H fun c H1=>if c=true then Q true H1 else u σ H1 Q
def Wu(t:TT):TT:=fun σ H Q=>t σ H fun c H1=>Q (!c) H1
theorem ko(ha:PT X a tA):PW X (.BoolOp .And [a] pos) tA:=by
 intro wh pins s σ H Q I h;refine isTrue_and (aw (ha pins s σ H Q I h) fun c s1 e=>?_);cases c with
 | true=>exact isTrue_and_nil e
 | false=>exact e
theorem lN(ha:PT X a tA):PW X (.BoolOp .Or [a] pos) tA:=by
 intro wh pins s σ H Q I h;refine isTrue_or (aw (ha pins s σ H Q I h) fun c s1 e=>?_);cases c with
 | false=>exact isTrue_or_nil e
 | true=>exact e
theorem jw(ha:PT X a tA)(hb:PW X (.BoolOp .And (b::rest) pos) xA):PW X (.BoolOp .And (a::b::rest) pos) (Wy tA xA):=by
 intro wh pins s σ H Q I h;refine isTrue_and (aw (ha pins s σ H _ I h) fun c s1 ⟨H1,I1,q1⟩=>?_);cases c with
 | true=>exact hb wh pins s1 σ H1 Q I1 q1
 | false=>exact⟨H1,I1,q1⟩
theorem jE(ha:PT X a tA)(hb:PW X (.BoolOp .Or (b::rest) pos) xA):PW X (.BoolOp .Or (a::b::rest) pos) (tOr tA xA):=by
 intro wh pins s σ H Q I h;refine isTrue_or (aw (ha pins s σ H _ I h) fun c s1 ⟨H1,I1,q1⟩=>?_);cases c with
 | true=>exact⟨H1,I1,q1⟩
 | false=>exact hb wh pins s1 σ H1 Q I1 q1
theorem jA(ha:PT X a tA):PT X (.UnaryOp .Not a pos) (Wu tA):=by
 intro pins s σ H Q I h;exact isTrue_not (ha pins s σ H (fun c H1=>Q (!c) H1) I h)
def VT(ta tb:TE):TE:=fun σ H Q=>ta σ H fun x H1=>∃c,x=.bl c/\if c=true then tb σ H1 Q else Q (.bl false) H1
def V_(ta:TE):TE:=fun σ H Q=>ta σ H fun x H1=>∃c,x=.bl c/\Q (.bl (!c)) H1
theorem uO{op}{t:TE}(h:PE X a t):PE X (.BoolOp op [a] pos) t:=fun pins s σ H Q I hw=>BoolOp_one (h pins s σ H Q I hw)
theorem rX(ha:PE X a ta)(hb:PE X (.BoolOp .And (b::rest) pos) tb):PE X (.BoolOp .And (a::b::rest) pos) (VT ta tb):=by
 intro pins s σ H Q I h;refine BoolOp_and (aw (ha pins s σ H _ I h) fun v s1 ⟨x,H1,I1,r1,q1⟩=>?_);obtain⟨c,rfl,q1⟩:=q1;cases r1;refine mI ?_;cases c with
 | true=>exact hb pins s1 σ H1 Q I1 q1
 | false=>exact⟨.bl false,H1,I1,rfl,q1⟩
theorem Vi(ha:PE X a ta):PE X (.UnaryOp .Not a pos) (V_ ta):=by
 intro pins s σ H Q I h;refine UnaryOp_ (aw (ha pins s σ H _ I h) fun v s1 ⟨x,H1,I1,r1,q1⟩=>?_);obtain⟨c,rfl,q1⟩:=q1;cases r1;exact not_of (mI ⟨.bl (!c),H1,I1,rfl,q1⟩)
def tIf(t:TT)(ta tb:TE):TE:=fun σ H Q=>t σ H fun c H1=>if c=true then ta σ H1 Q else tb σ H1 Q
theorem Tu{c:Expr}(hc:PT X c tA)(ha:PE X a ta)(hb:PE X b tb):PE X (.IfExp c a b pos) (tIf tA ta tb):=by
 intro pins s σ H Q I h;refine wpAny_IfExp (aw (hc pins s σ H _ I h) fun d s1 ⟨H1,I1,q1⟩=>?_);cases d with
 | true=>exact ha pins s1 σ H1 Q I1 q1
 | false=>exact hb pins s1 σ H1 Q I1 q1
end
def ak(K:PySem.W.Frag)(H:Hp)(a:Addr)(xs:List V):Prop :=
 Rd H a (.lst xs) \/
  ∃(o:Obj)(its:Array Value)(n:Nat),K.lookup a=some o/\o.cls=.type "list" /\ o.dict=none/\o.data=.seq its n/\its.size<=sizeLine/\Vals xs its.toList
def aL(K:PySem.W.Frag)(H:Hp)(a:Addr)(xs:List V):Prop :=
 Rd H a (.tup xs) \/
  ∃(o:Obj)(its:Array Value)(n:Nat),K.lookup a=some o/\o.cls=.type "tuple" /\ o.data=.seq its n/\its.size<=sizeLine/\Vals xs its.toList
def Wf:Value->Option V
 | .none=>some .aD
 | .bool b=>some (.bl b)
 | .int i _=>some (.int i)
 | .str x _=>some (.str x)
 | .bytes b _=>some (.gU b)
 | .float b _=>some (.pT b)
 | .ref a=>some (.ref a)
 | .type n=>some (.ty n)
 | _=>none
theorem RelV.abs{x:V}{u:Value}(r:RelV x u):Wf u=some x:=by
 cases x with
 | aD=>cases r;rfl
 | bl _=>cases r;rfl
 | int _=>obtain⟨t,rfl⟩:=r;rfl
 | str _=>obtain⟨t,rfl⟩:=r;rfl
 | gU _=>obtain⟨t,rfl⟩:=r;rfl
 | pT _=>obtain⟨t,rfl⟩:=r;rfl
 | ref _=>cases r;rfl
 | ty _=>cases r;rfl
theorem RelV.inj{x y:V}{u:Value}(r:RelV x u)(q:RelV y u):x=y:=dk (r.abs.symm.trans q.abs)
theorem Vals.inj:∀{xs ys:List V}{us:List Value},Vals xs us->Vals ys us->xs=ys
 | _,_,_,.nil,.nil=>rfl
 | _,_,_,.cons r t,.cons r' t'=>by rw[r.inj r',Vals.inj t t']
section
variable{X:Cx}{pins:List (Addr×Obj)}{σ : St}{H:Hp}{s:Shared}{a:Addr}{xs ys:List V}
theorem ak.of{K:PySem.W.Frag}(h:H a=some (.lst xs)):ak K H a xs:=.inl (.inl h)
theorem aL.of{K:PySem.W.Frag}(h:H a=some (.tup xs)):aL K H a xs:=.inl (.inl h)
theorem Inv.list(I:Inv X pins σ H s)(h:ak X.K H a xs):∃its:List Value,Vals xs its/\PlainL s.heap a its.toArray/\xs.length<=sizeLine:=by
 rcases h with h|⟨o,its,n,hk,hc,hd,hs,hz,r⟩
 ·obtain⟨z,its,n,r,e⟩:=h.ok I.aq;exact⟨its,r,⟨_,n,e,rfl,rfl,rfl⟩,z⟩
 ·refine⟨its.toList,r,⟨o,n,I.bH a o hk,hc,hd,by simpa using hs⟩,?_⟩;have e:=r.length;simp only[aA] at e;lia
theorem Inv.tuple(I:Inv X pins σ H s)(h:aL X.K H a xs):∃its:List Value,Vals xs its/\IsTup s.heap a its.toArray/\xs.length<=sizeLine:=by
 rcases h with h|⟨o,its,n,hk,hc,hs,hz,r⟩
 ·obtain⟨z,its,r,p⟩:=h.ok I.aq;exact⟨its,r,p,z⟩
 ·refine⟨its.toList,r,⟨o,I.bH a o hk,hc,n,by simpa using hs⟩,?_⟩;have e:=r.length;simp only[aA] at e;lia
theorem Inv.Ztj(I:Inv X pins σ H s)(h:ak X.K H a xs)(h':ak X.K H a ys):xs=ys:=by
 obtain⟨its,r,⟨o,n,e,_,_,d⟩,_⟩:=I.list h;obtain⟨its',r',⟨o',n',e',_,_,d'⟩,_⟩:=I.list h';rw[e] at e';cases e';rw[d] at d';injection d' with d1 _;have:its=its':=by simpa using congrArg Array.toList d1
 subst this;exact r.inj r'
theorem Inv.Zwd(I:Inv X pins σ H s)(h:aL X.K H a xs)(h':aL X.K H a ys):xs=ys:=by
 obtain⟨its,r,⟨o,e,_,n,d⟩,_⟩:=I.tuple h;obtain⟨its',r',⟨o',e',_,n',d'⟩,_⟩:=I.tuple h';rw[e] at e';cases e';rw[d] at d';injection d' with d1 _;have:its=its':=by simpa using congrArg Array.toList d1
 subst this;exact r.inj r'
end
abbrev Cx.kU(X:Cx)(E:Value->Shared->Prop):Cx:={ X with xe:=E }
abbrev Cx.Aw(X:Cx):Cx:=X.kU fun _ _=>False
theorem Cx.Ok.kU{X:Cx}(ok:X.Ok)(E:Value->Shared->Prop):(X.kU E).Ok :=
 ⟨ok.mod,ok.kind,ok.glob,ok.blt,ok.above,ok.inj,ok.has,ok.lT,ok.hd,ok.frames,ok.ot,ok.nu,ok.bs,ok.iA,ok.mv,ok.lV,ok.fU,ok.jN⟩
theorem Cx.Ok.ow{X:Cx}{E:Value->Shared->Prop}(ok:(X.kU E).Ok):X.Ok :=
 ⟨ok.mod,ok.kind,ok.glob,ok.blt,ok.above,ok.inj,ok.has,ok.lT,ok.hd,ok.frames,ok.ot,ok.nu,ok.bs,ok.iA,ok.mv,ok.lV,ok.fU,ok.jN⟩
section
variable{X:Cx}{pins:List (Addr×Obj)}{σ : St}{H:Hp}{s:Shared}{E:Value->Shared->Prop}
theorem Inv.kU(I:Inv X pins σ H s)(E:Value->Shared->Prop):Inv (X.kU E) pins σ H s:=⟨I.ok.kU E,I.os,I.bare,I.base,I.loc,I.cell,I.free,I.fS,I.pin,I.aq,I.len⟩
theorem Inv.ow(I:Inv (X.kU E) pins σ H s):Inv X pins σ H s:=⟨I.ok.ow,I.os,I.bare,I.base,I.loc,I.cell,I.free,I.fS,I.pin,I.aq,I.len⟩
theorem SP.ow{D:Ends}{f:Flow}{s':Shared}(h:SP (X.kU E) pins D f s'):SP X pins D f s':=by
 cases f with
 | next=>obtain⟨ao,H',I,q⟩:=h;exact⟨ao,H',I.ow,q⟩
 | brk=>obtain⟨ao,H',I,q⟩:=h;exact⟨ao,H',I.ow,q⟩
 | cont=>obtain⟨ao,H',I,q⟩:=h;exact⟨ao,H',I.ow,q⟩
 | ret u=>obtain⟨v,ao,H',I,r,q⟩:=h;exact⟨v,ao,H',I.ow,r,q⟩
theorem cJ.Aw{st:List Stmt}{t:TS}(h:cJ X.Aw st t):cJ X st t:=fun pins s σ H D I hw =>
 eI (h pins s σ H D (I.kU _) hw) (fun _ _ q=>q.ow) fun _ _ z=>False.elim z
end
section
variable{X:Cx}{st:Stmt}{rest:List Stmt}{t u:TS}{e:Expr}{te:TE}{pos:Pos}
def VS:TS:=fun D σ H=>D.nx σ H
def Mx(t u:TS):TS:=fun D σ H=>t { D with nx:=u D } σ H
theorem ZC:cJ X [] VS:=fun _ _ σ H _ I h=>wpAny_execs_nil ⟨σ,H,I,h⟩
theorem Ze(h1:PS X st t)(h2:cJ X rest u):cJ X (st::rest) (Mx t u):=by
 intro pins s σ H D I h;refine wpAny_execs_cons (aw (h1 pins s σ H { D with nx:=u D } I h) fun f s1 q=>?_);cases f with
 | next =>
  obtain⟨ao,H',I',q⟩:=q;exact h2 pins s1 ao H' D I' q
 | ret v=>exact q
 | brk=>exact q
 | cont=>exact q
theorem Zf(h1:PS X st t):cJ X [st] t:=by
 intro pins s σ H D I h;refine wpAny_execs_cons (aw (h1 pins s σ H D I h) fun f s1 q=>?_);cases f with
 | next=>exact wpAny_execs_nil q
 | ret v=>exact q
 | brk=>exact q
 | cont=>exact q
def V5:TS:=fun D σ H=>D.ct σ H
theorem Jn:PS X (.Continue pos) V5:=fun _ _ σ H _ I h=>wpAny_Continue ⟨σ,H,I,h⟩
theorem Inv.quiet{pins:List (Addr×Obj)}{σ : St}{H:Hp}{s:Shared}(I:Inv X pins σ H s):interactive X.env=false:=by simp[interactive,I.ok.kind]
def V7(te:TE):TS:=fun D σ H=>te σ H fun _ H1=>D.nx σ H1
theorem Z7(he:PE X e te)(hs:swapsWith e none pos.line X.env=pure false:=by rfl):PS X (.Expr e pos) (V7 te):=by
 intro pins s σ H D I h;exact wpAny_Expr_any (aw (he pins s σ H _ I h) fun v s1 ⟨x,H1,I1,r1,q1⟩=>⟨σ,H1,I1,q1⟩) I.quiet hs
def CY(te:TE):TS:=fun D σ H=>te σ H D.rt
theorem Zz(he:PE X e te):PS X (.Return (some e) pos) (CY te):=by
 intro pins s σ H D I h;exact wpAny_Return_some (aw (he pins s σ H _ I h) fun v s1 ⟨x,H1,I1,r1,q1⟩=>⟨x,σ,H1,I1,r1,q1⟩)
def WE(c:TT)(t u:TS):TS:=fun D σ H=>c σ H fun b H1=>if b=true then t D σ H1 else u D σ H1
theorem bt{c:Expr}{a b:List Stmt}{tc:TT}(hc:PT X c tc)(ha:cJ X a t)(hb:cJ X b u):PS X (.If c a b pos) (WE tc t u):=by
 intro pins s σ H D I h;refine wpAny_If (aw (hc pins s σ H _ I h) fun d s1 ⟨H1,I1,q1⟩=>?_);cases d with
 | true=>exact ha pins s1 σ H1 D I1 q1
 | false=>exact hb pins s1 σ H1 D I1 q1
end
abbrev TG:=V->St->Hp->(St->Hp->Prop)->Prop
abbrev mQ:=List V->St->Hp->(St->Hp->Prop)->Prop
def PG(X:Cx)(target:Expr)(t:TG):Prop :=
 ∀(pins:List (Addr×Obj))(s:Shared)(σ : St)(H:Hp)(v:V)(u:Value)(Q:St->Hp->Prop),Inv X pins σ H s->RelV v u->t v σ H Q ->
  wpAny (model X.prog X.w) X.A (assign target X.env u) (fun _ s'=>∃ ao H',Inv X pins ao H' s'/\Q ao H') X.xe s
def ur(X:Cx)(ts:List Expr)(t:mQ):Prop :=
 ∀(pins:List (Addr×Obj))(s:Shared)(σ : St)(H:Hp)(vs:List V)(us:List Value)(Q:St->Hp->Prop),Inv X pins σ H s->Vals vs us->t vs σ H Q ->
  wpAny (model X.prog X.w) X.A (assignInOrder ((assignEach ts X.env).map (·.2)) us) (fun _ s'=>∃ ao H',Inv X pins ao H' s'/\Q ao H') X.xe s
section
variable{X:Cx}{pos:Pos}
def yF(i:Nat):TG:=fun v σ H Q=>Q (σ.set i (some v)) H
theorem dA{i:Nat}{x:Str}(hN:X.N.Nodup)(hi:X.N[i]?= some x)(hx:Loc X.env.scope x)(hf:X.fn x=true\/X.env.scope.names.lookup x=some .local:=by first|exact .inl rfl|exact .inr rfl|assumption):PG X (.Name x pos) (yF i):=by
 intro pins s σ H v u Q I r h;exact wpAny_assign_Name (BZ I hN hi hx r (fun s' I'=>⟨_,H,I',h⟩) hf)
def Wj:mQ:=fun vs σ H Q=>vs=[]/\Q σ H
def VE(t:TG)(u:mQ):mQ:=fun vs σ H Q=>∃v r,vs=v::r/\t v σ H fun ao H'=>u r ao H' Q
theorem uI:ur X [] Wj:=by
 intro pins s σ H vs us Q I r h;obtain⟨e,h⟩:=h;subst e;cases r;exact assignInOrder_nil ⟨σ,H,I,h⟩
theorem iZ{e:Expr}{es:List Expr}{t:TG}{u:mQ}(h1:PG X e t)(h2:ur X es u)
  (hs:(assignEach (e::es) X.env).map (·.2)=assign e X.env::(assignEach es X.env).map (·.2):=by rfl):ur X (e::es) (VE t u):=by
 intro pins s σ H vs us Q I r h;obtain⟨v,vr,e1,h⟩:=h;subst e1;cases r with
 | cons r rr =>
  rw[hs];refine assignInOrder_cons (aw (h1 pins s σ H _ _ _ I r h) fun _ s1 ⟨tJ,H1,I1,q1⟩=>?_);exact h2 pins s1 tJ H1 _ _ Q I1 rr q1
def MM(K:PySem.W.Frag)(n:Nat)(t:mQ):TG:=fun v σ H Q=>∃a xs,v=.ref a/\aL K H a xs/\xs.length=n/\t xs σ H Q
theorem uV{es:List Expr}{k:Nat}{t:mQ}{n:Nat}(hc:X.calm=true)(h:ur X es t)
  (hn:(assignEach es X.env).length=n:=by rfl) (dh:(assignEach es X.env).findIdx? (·.1)=none:=by rfl):PG X (.Tuple es k pos) (MM X.K n t):=by
 intro pins s σ H v u Q I r hw;obtain⟨a,xs,e1,hq,hl,hw⟩:=hw;subst e1;cases r;obtain⟨its,rv,ht,hz⟩:=I.tuple hq;refine assign_Tuple_tuple (I.ok.hd hc) ht (by simp[hn,<- hl,rv.length]) dh fun h' hx=>?_;have I1:Inv X pins σ H { s with heap:=h' }:=I.kept (t':=s.toks) fun b o e=>hx b o (bX (aT e)) e;exact h pins _ σ H xs _ Q I1 (by simpa using rv) hw
def C0(te:TE)(g:TG):TS:=fun D σ H=>te σ H fun x H1=>g x σ H1 D.nx
theorem Cu{tg e:Expr}{te:TE}{g:TG}(he:PE X e te)(hg:PG X tg g)(hs:swapsWithSole [tg] e pos.line X.env=pure false:=by rfl)(hw:swappedStores [tg] e X.env=pure none:=by rfl)
  (h1:(assignEach [tg] X.env).map (·.2)=[assign tg X.env]:=by rfl):PS X (.Assign [tg] e pos) (C0 te g):=by
 intro pins s σ H D I h;refine wpAny_Assign_stores (aw (he pins s σ H _ I h) fun v s1 ⟨x,H1,I1,r1,q1⟩=>?_) hs hw;rw[h1];exact aw (hg pins s1 σ H1 x v _ I1 r1 q1) fun _ s2 q=>q
theorem Zx{i:Nat}{x:Str}{e:Expr}{te:TE}{pos':Pos}(hN:X.N.Nodup)(hi:X.N[i]?= some x)(hx:Loc X.env.scope x)(he:PE X e te)(hs:swapsWith e (some (.Name x pos')) pos.line X.env=pure false:=by rfl)(hf:X.fn x=true\/X.env.scope.names.lookup x=some .local:=by first|exact .inl rfl|exact .inr rfl|assumption) :
  PS X (.Assign [.Name x pos'] e pos) (C0 te (yF i)):=by
 intro pins s σ H D I h;refine wpAny_Assign_Name (aw (he pins s σ H _ I h) fun v s1 ⟨y,H1,I1,r1,q1⟩=>?_) hs;exact BZ I1 hN hi hx r1 (fun s2 I2=>⟨_,H1,I2,q1⟩) hf
def U5(c:TT)(tb:TS):TS:=fun D σ H=>∃W:Nat->St->Hp->Prop,(∃m,W m σ H)/\∀m σ H,W m σ H ->
 c σ H fun b H1=>if b=true then ∃N:St->Hp->Prop,(∀ ao H',N ao H'->∃m',m'<m/\W m' ao H')/\tb { D with nx:=N,ct:=N,bk:=D.nx } σ H1 else D.nx σ H1
theorem uD{c:Expr}{body:List Stmt}{tc:TT}{tb:TS}(hp:PassesOwn (model X.prog X.w) X.A X.env X.xe)(hc:PT X c tc)(hb:cJ X body tb):PS X (.While c body [] pos) (U5 tc tb):=by
 intro pins s σ H D I h;obtain⟨W,⟨m0,w0⟩,turn⟩:=h;refine wpAny_While (codeAny_whileLoop (fun n s'=>∃ ao H',Inv X pins ao H' s'/\W n ao H') ?_ m0 ⟨σ,H,I,w0⟩);rintro n s1 ⟨tJ,H1,I1,w1⟩;refine qP hp (aw (hc pins s1 tJ H1 _ I1 (turn n tJ H1 w1)) fun b s2 ⟨H2,I2,q2⟩=>?_);cases b with
 | true =>
  obtain⟨N,hN,q2⟩:=q2;rw[ah rfl];refine qP hp (aw (hb pins s2 tJ H2 _ I2 q2) fun f s3 q3=>?_);cases f with
  | next =>
   obtain⟨dD,H3,I3,n3⟩:=q3;obtain⟨m',hm,w3⟩:=hN dD H3 n3;exact⟨m',hm,dD,H3,I3,w3⟩
  | cont =>
   obtain⟨dD,H3,I3,n3⟩:=q3;obtain⟨m',hm,w3⟩:=hN dD H3 n3;exact⟨m',hm,dD,H3,I3,w3⟩
  | brk=>exact q3
  | ret v=>exact q3
 | false =>
  rw[af bb];exact wpAny_execs_nil ⟨tJ,H2,I2,q2⟩
end
structure It where
 go:Nat->Hp->Prop
 kW:Nat->Hp->V->Hp->Prop
 stop:Nat->Hp->Prop
def eN(X:Cx)(pins:List (Addr×Obj))(H:Hp)(b:Addr):Prop :=
 H b=none/\b≠X.env.locals/\b∉X.fs/\(b∈X.ex\/X.dj.heap.objs.size<=b)/\(∀x c,X.env.cells.lookup x=some c->c≠b)/\∀p∈X.pn++pins,p.1≠b
theorem Inv.nv{X:Cx}{pins:List (Addr×Obj)}{σ : St}{H H':Hp}{s:Shared}{b:Addr}(I:Inv X pins σ H s)(hb:s.heap.objs.size<=b)(hn:H' b=none):eN X pins H' b:=by
 refine⟨hn,qO (cQ I.lt hb),I.ZtX hb,.inr (cY I.sz hb),fun x c e z=>?_,fun p hp z=>?_⟩
 ·obtain⟨v,q⟩:=I.cell x c e;exact absurd (cQ q.lt (by rw[z];exact hb)) (gN _)
 ·exact absurd (cQ (aT (I.pin p hp).1) (by rw[z];exact hb)) (gN _)
structure Turn(P:Program)(w:World)(K:PySem.W.Frag)(tg:Expr)(J:It)(fp:List Addr)(it:Addr)(tn:Nat->Heap->Prop):Prop where
 mem:it∈fp
 obj:∀i h,tn i h->∀b∈fp,∃o,h.get? b=some o/\∀v,o.data ≠ .cell v
 keep:∀i h h',tn i h->(∀b∈fp,∀o,h.get? b=some o->h'.get? b=some o)->tn i h'
 item:∀(X:Cx),X.prog=P->X.w=w->X.K=K->X.calm=true->∀(i:Nat)(pins:List (Addr×Obj))(s:Shared)(σ : St)(H:Hp)(E:Value->Shared->Prop),Inv X pins σ H s->(∀b∈fp,eN X pins H b)->tn i s.heap->J.go i H ->
  wpAny (model P w) X.A (pyNext (.ref it)) (fun r s1=>∃u,r=some u /\
   wpAny (model P w) X.A (letOwnedTupleGo tg (.ref it) u) (fun _ s2=>∃x H',Inv X pins σ H' s2/\RelV x u/\J.kW i H x H'/\tn (i+1) s2.heap/\∀b∈fp,H' b=none) E s1) E s
 done:∀(X:Cx),X.prog=P->X.w=w->X.K=K->X.calm=true->∀(i:Nat)(pins:List (Addr×Obj))(s:Shared)(σ : St)(H:Hp)(E:Value->Shared->Prop),Inv X pins σ H s->(∀b∈fp,eN X pins H b)->tn i s.heap->J.stop i H ->
  wpAny (model P w) X.A (pyNext (.ref it)) (fun r s1=>r=none/\Inv X pins σ H s1) E s
 self:∀(A:Around)(i:Nat)(s:Shared)(Q:Value->Shared->Prop)(E:Value->Shared->Prop),tn i s.heap->Q (.ref it) s->wpAny (model P w) A (pyIter (.ref it)) Q E s
abbrev TI:=St->Hp->(It->Hp->Prop)->Prop
def IQ(X:Cx)(pins:List (Addr×Obj))(σ : St)(tg:Expr)(R:It->Hp->Prop)(Gq:Value)(s2:Shared):Prop :=
 ∃(it:Addr)(fp:List Addr)(tn:Nat->Heap->Prop)(J:It)(H':Hp),Gq=.ref it/\Inv X pins σ H' s2/\Turn X.prog X.w X.K tg J fp it tn/\tn 0 s2.heap/\(∀b∈fp,eN X pins H' b)/\R J H'
def PI(X:Cx)(tg iter:Expr)(wi:TI):Prop :=
 ∀(pins:List (Addr×Obj))(s:Shared)(σ : St)(H:Hp)(R:It->Hp->Prop),Inv X pins σ H s->wi σ H R ->
  wpAny (model X.prog X.w) X.A (eval iter X.env) (fun v s1=>wpAny (model X.prog X.w) X.A (pyIter v) (IQ X pins σ tg R) X.xe s1) X.xe s
theorem va{M:Model}{A:Around}{E:Value->Shared->Prop}{s:Shared}{tg:Expr}{it:Addr}{u:Value}{o:Obj}{n:String}{vs:Array Value}{Q:Unit->Shared->Prop}(ho:s.heap.get? it=some o)(hc:o.cls=.type n)(hd:o.data=.fields vs)
    (hn:["enumerate","zip","dict_itemiterator","dict_reverseitemiterator","odict_iterator","itertools.zip_longest","itertools.pairwise"].contains n=false) (hQ:Q () s):wpAny M A (letOwnedTupleGo tg (.ref it) u) Q E s:=by
  unfold letOwnedTupleGo;cases tg <;> first
    | exact ai hQ
    | (cases u <;> first
        | exact ai hQ
        | (refine ae (wpAny_load ho ?_)
           rw[hc,hd];show wpAny M A (if(["enumerate","zip","dict_itemiterator","dict_reverseitemiterator","odict_iterator","itertools.zip_longest","itertools.pairwise"].contains n&&vs[0]? == some (rawInt _))=true then _ else _) Q E s
           rw[af (by intro h;rw[hn,qG] at h;cases h)];exact ai hQ))
def mP(K:PySem.W.Frag)(a:Addr):It :=
 ⟨fun i H=>∃xs x,ak K H a xs/\xs[i]?= some x,fun i H x H'=>H'=H/\∀xs,ak K H a xs->xs[i]?= some x,fun i H=>∃xs,ak K H a xs/\xs.length<=i⟩
def um(K:PySem.W.Frag)(a:Addr):It :=
 ⟨fun i H=>∃xs x,aL K H a xs/\xs[i]?= some x,fun i H x H'=>H'=H/\∀xs,aL K H a xs->xs[i]?= some x,fun i H=>∃xs,aL K H a xs/\xs.length<=i⟩
def qT(lo:Int)(n:Nat):It:=⟨fun i _=>i<n,fun i H x H'=>H'=H/\x=.int (lo+i),fun i _=>n<=i⟩
theorem Sq{P:Program}{w:World}{K:PySem.W.Frag}{tg:Expr}(a it:Addr):Turn P w K tg (mP K a) [it] it (fun i h=>h.IsListIter it a i) where
 mem:=by simp
 obj:=fun i h st b hb=>by
  have e:b=it:=by simpa using hb
  subst e;obtain⟨o,e,c,d⟩:=st;exact⟨o,e,fun v z=>by rw[d] at z;cases z⟩
 keep:=fun i h h' st k=>st.at fun o e=>k it (by simp) o e
 item:=by
  intro X hP hw hK hc i pins s σ H E I hf st hg;subst hP hw hK;obtain⟨xs,x,hq,hx⟩:=hg;obtain⟨its,rv,p,hz⟩:=I.list hq;obtain⟨u,hu,ru⟩:=rv.get hx;obtain⟨f0,f1,f2,f3,f4,f5⟩:=hf it (by simp);refine wpAny_pyNext_list_item st p.isList (x:=u) (by simpa using hu) fun h' ag sb=>?_;have I1:Inv X pins σ H { s with heap:=h' }:=I.turned (t':=s.toks) (fun b o hb e=>(sb.2 b hb).trans e) f0 f1 f3 f4 f5;obtain⟨o,e,c,d⟩:=id ag;exact⟨u,rfl,va (s:={ s with heap:=h' }) e c d (by decide) ⟨x,H,I1,ru,⟨rfl,fun ys hy=>by rw[I.Ztj hy hq];exact hx⟩,ag,fun b hb=>(hf b hb).1⟩⟩
 done:=by
  intro X hP hw hK hc i pins s σ H E I hf st hg;subst hP hw hK;obtain⟨xs,hq,hx⟩:=hg;obtain⟨its,rv,p,hz⟩:=I.list hq;obtain⟨f0,f1,f2,f3,f4,f5⟩:=hf it (by simp);have hl:=rv.length;exact wpAny_pyNext_list_end (I.ok.hd hc) st p.isList (by simp;lia) fun h' eb=>⟨rfl,I.turned (t':=s.toks) (fun b o hb e=>eb b o hb e) f0 f1 f3 f4 f5⟩
 self:=fun _ _ _ _ _ st h=>wpAny_pyIter_listiter st h
theorem RC{P:Program}{w:World}{K:PySem.W.Frag}{tg:Expr}(a it:Addr):Turn P w K tg (um K a) [it] it (fun i h=>h.IsTupleIter it a i) where
 mem:=by simp
 obj:=fun i h st b hb=>by
  have e:b=it:=by simpa using hb
  subst e;obtain⟨o,e,c,d⟩:=st;exact⟨o,e,fun v z=>by rw[d] at z;cases z⟩
 keep:=fun i h h' st k=>st.at fun o e=>k it (by simp) o e
 item:=by
  intro X hP hw hK hc i pins s σ H E I hf st hg;subst hP hw hK;obtain⟨xs,x,hq,hx⟩:=hg;obtain⟨its,rv,p,hz⟩:=I.tuple hq;obtain⟨u,hu,ru⟩:=rv.get hx;obtain⟨f0,f1,f2,f3,f4,f5⟩:=hf it (by simp);refine wpAny_pyNext_tuple_item st (show s.heap.IsTuple a its.toArray from p) (x:=u) (by simpa using hu) fun h' ag sb=>?_;have I1:Inv X pins σ H { s with heap:=h' }:=I.turned (t':=s.toks) (fun b o hb e=>(sb.2 b hb).trans e) f0 f1 f3 f4 f5;obtain⟨o,e,c,d⟩:=id ag;exact⟨u,rfl,va (s:={ s with heap:=h' }) e c d (by decide) ⟨x,H,I1,ru,⟨rfl,fun ys hy=>by rw[I.Zwd hy hq];exact hx⟩,ag,fun b hb=>(hf b hb).1⟩⟩
 done:=by
  intro X hP hw hK hc i pins s σ H E I hf st hg;subst hP hw hK;obtain⟨xs,hq,hx⟩:=hg;obtain⟨its,rv,p,hz⟩:=I.tuple hq;obtain⟨f0,f1,f2,f3,f4,f5⟩:=hf it (by simp);have hl:=rv.length;exact wpAny_pyNext_tuple_end (I.ok.hd hc) st (show s.heap.IsTuple a its.toArray from p) (by simp;lia) fun h' eb=>⟨rfl,I.turned (t':=s.toks) (fun b o hb e=>eb b o hb e) f0 f1 f3 f4 f5⟩
 self:=fun _ _ _ _ _ st h=>wpAny_pyIter_tupleiter st h
theorem R'{P:Program}{w:World}{K:PySem.W.Frag}{tg:Expr}(it:Addr)(lo:Int)(n:Nat):Turn P w K tg (qT lo n) [it] it (fun i h=>IsRangeIter h it (lo+(i:Nat)*1) ((n:Int)-(i:Nat)) 1) where
 mem:=by simp
 obj:=fun i h st b hb=>by
  have e:b=it:=by simpa using hb
  subst e;exact⟨_,st,fun v z=>by
   have z':Data.fields _=Data.cell v:=z;cases z'⟩
 keep:=fun i h h' st k=>k it (by simp) _ st
 item:=by
  intro X hP hw hK hc i pins s σ H E I hf st hg;subst hP hw hK;obtain⟨f0,f1,f2,f3,f4,f5⟩:=hf it (by simp);have W:=Walks.range (prog:=X.prog) (w:=X.w) (I.ok.hd hc) it lo 1 n;refine W.item i s _ _ hg st fun v h' tk hv ag kk=>?_;obtain⟨t,rfl⟩:=hv;have I1:Inv X pins σ H { s with heap:=h',toks:=tk }:=I.turned (fun b o hb e=>kk b o (by simpa using hb) e) f0 f1 f3 f4 f5;refine⟨_,rfl,va (s:={ s with heap:=h',toks:=tk }) (n := "range_iterator") ag rfl rfl (by decide) ⟨.int (lo+i),H,I1,⟨t,?_⟩,⟨rfl,rfl⟩,ag,fun b hb=>(hf b hb).1⟩⟩;rw[Int.mul_one]
 done:=by
  intro X hP hw hK hc i pins s σ H E I hf st hg;subst hP hw hK;obtain⟨f0,f1,f2,f3,f4,f5⟩:=hf it (by simp);exact wpAny_pyNext_range_end (I.ok.hd hc) st (by have:n<=i:=hg;lia) fun h' eb=>⟨rfl,I.turned (t':=s.toks) (fun b o hb e=>eb b o hb e) f0 f1 f3 f4 f5⟩
 self:=fun _ _ _ _ _ st h=>wpAny_pyIter_rangeiter st h
section
variable{X:Cx}{tg:Expr}
def VP(K:PySem.W.Frag)(tl:TE):TI:=fun σ H R=>tl σ H fun x H1=>∃a,x=.ref a/\(∃xs,ak K H1 a xs)/\R (mP K a) H1
def Ww(K:PySem.W.Frag)(tl:TE):TI:=fun σ H R=>tl σ H fun x H1=>∃a,x=.ref a/\(∃xs,aL K H1 a xs)/\R (um K a) H1
theorem uL{l:Expr}{tl:TE}(hl:PE X l tl):PI X tg l (VP X.K tl):=by
 intro pins s σ H R I h;refine aw (hl pins s σ H _ I h) fun v s1 ⟨x,H1,I1,r1,q1⟩=>?_;obtain⟨a,e,⟨xs,hq⟩,q⟩:=q1;subst e;cases r1;obtain⟨its,rv,p,hz⟩:=I1.list hq;refine wpAny_pyIter_list p.isList ?_;refine⟨s1.heap.objs.size,[s1.heap.objs.size],_,_,H1,rfl,I1.kept (t':=s1.toks) fun b o e=>aJ _ e,Sq a _,⟨_,cb _ rfl,rfl,rfl⟩,fun b hb=>?_,q⟩;have e:b=s1.heap.objs.size:=by simpa using hb
 subst e;exact I1.nv (az _) (I1.aq.fresh (az _))
theorem Va{l:Expr}{tl:TE}(hl:PE X l tl):PI X tg l (Ww X.K tl):=by
 intro pins s σ H R I h;refine aw (hl pins s σ H _ I h) fun v s1 ⟨x,H1,I1,r1,q1⟩=>?_;obtain⟨a,e,⟨xs,hq⟩,q⟩:=q1;subst e;cases r1;obtain⟨its,rv,p,hz⟩:=I1.tuple hq;refine wpAny_pyIter_tuple (show s1.heap.IsTuple a its.toArray from p) ?_;refine⟨s1.heap.objs.size,[s1.heap.objs.size],_,_,H1,rfl,I1.kept (t':=s1.toks) fun b o e=>aJ _ e,RC a _,⟨_,cb _ rfl,rfl,rfl⟩,fun b hb=>?_,q⟩;have e:b=s1.heap.objs.size:=by simpa using hb
 subst e;exact I1.nv (az _) (I1.aq.fresh (az _))
theorem Tv{pins:List (Addr×Obj)}{σ : St}{H:Hp}{s:Shared}{R:It->Hp->Prop}{E:Value->Shared->Prop}{lo hi:Int}{t u v:Tok}{tk:Nat}(I:Inv X pins σ H s)(h1 : -(2 ^ 62)<=lo)(h2:lo<2 ^ 62)(h3 : -(2 ^ 62)<=hi)(h4:hi<2 ^ 62)
  (q:R (qT lo (hi-lo).toNat) H):wpAny (model X.prog X.w) X.A (pyIter (.ref s.heap.objs.size)) (IQ X pins σ tg R) E { s with heap:=s.heap.push { cls:=.type "range",data:=.fields #[.int lo t,.int hi u,.int 1 v] },toks:=tk }:=by
 refine wpAny_pyIter_range (IsRange.new ..) (small_one h1 h2 h3 h4) ?_;have I1:Inv X pins σ H { s with heap:=s.heap.push { cls:=.type "range",data:=.fields #[.int lo t,.int hi u,.int 1 v] },toks:=tk }:=I.kept fun b o e=>aJ _ e;refine⟨(s.heap.push { cls:=.type "range",data:=.fields #[.int lo t,.int hi u,.int 1 v] }).objs.size,[(s.heap.push { cls:=.type "range",data:=.fields #[.int lo t,.int hi u,.int 1 v] }).objs.size],_,_,H,rfl,
  I1.kept (t':=tk) fun b o e=>aJ _ e,R' _ lo (hi-lo).toNat,?_,fun b hb=>?_,q⟩
 ·have e1:lo+((0:Nat):Int)*1=lo:=by simp
  have e2:(((hi-lo).toNat:Nat):Int)-((0:Nat):Int)=Builtin.Range.rangeSize lo hi 1:=by rw[rangeSize_one];split <;> lia
  show IsRangeIter _ _ (lo+((0:Nat):Int)*1) ((((hi-lo).toNat:Nat):Int)-((0:Nat):Int)) 1;rw[e1,e2];exact cb _ rfl
 ·have e:b=(s.heap.push { cls:=.type "range",data:=.fields #[.int lo t,.int hi u,.int 1 v] }).objs.size:=by simpa using hb
  subst e;exact I1.nv (az _) (I1.aq.fresh (az _))
def V6(ta:TA):TI:=fun σ H R=>ta σ H fun vs H1=>∃j:Int,vs=[.int j] /\ -(2 ^ 62)<=j/\j<2 ^ 62/\R (qT 0 j.toNat) H1
theorem xP{a:Expr}{ta:TA}{p pos:Pos}(hg:Gl X "range") (hm:X.mg "range" = none) (ha:PA X [a] ta) (hs:starEach [a] X.env=[(false,eval a X.env)]:=by rfl):PI X tg (.Call (.Name "range" p) [a] [] pos) (V6 ta):=by
 intro pins s σ H R I h;refine Call_ (lQ I hg hm boot_range (tZ (aw (ha pos pins s σ H _ I h) fun us s1 ⟨vs,H1,I1,r1,q1⟩=>?_) hs rfl));obtain⟨j,e,q1,q2,q⟩:=q1;subst e;cases r1 with
 | cons r rr =>
  cases rr;obtain⟨t,rfl⟩:=r;exact call_range_1 (Tv I1 (by lia) (by lia) q1 q2 (by simpa using q))
def WC(wi:TI)(g:TG)(tb:TS):TS:=fun D σ H=>wi σ H fun J H1=>∃W:Nat->Nat->St->Hp->Prop,(∃m,W 0 m σ H1)/\∀i m σ H,W i m σ H ->
 (J.stop i H/\D.nx σ H)\/(J.go i H/\∃N:St->Hp->Prop,(∀ ao H',N ao H'->∃m',m'<m/\W (i+1) m' ao H')/\∀x H',J.kW i H x H'->g x σ H' fun dU H2=>tb { D with nx:=N,ct:=N,bk:=D.nx } dU H2)
def yl(fp:List Addr)(h:Heap):List (Addr×Obj):=fp.filterMap fun b=>(h.get? b).map fun o=>(b,o)
theorem xF{fp:List Addr}{h:Heap}{b:Addr}{o:Obj}(hb:b∈fp)(e:h.get? b=some o):(b,o)∈yl fp h:=List.mem_filterMap.mpr ⟨b,hb,by rw[e];rfl⟩
theorem RS{fp:List Addr}{h:Heap}{p:Addr×Obj}(hp:p∈yl fp h):p.1∈fp/\h.get? p.1=some p.2:=by
 obtain⟨b,hb,e⟩:=List.mem_filterMap.mp hp;cases q:h.get? b with
 | none=>rw[q] at e;cases e
 | some o =>
  rw[q] at e;have e':(b,o)=p:=dk e;subst e';exact⟨hb,q⟩
theorem Inv.pinned{pins:List (Addr×Obj)}{σ : St}{H:Hp}{s:Shared}{fp:List Addr}(I:Inv X pins σ H s)(hf:∀b∈fp,eN X pins H b)(ho:∀b∈fp,∃o,s.heap.get? b=some o/\∀v,o.data ≠ .cell v):Inv X (pins++yl fp s.heap) σ H s :=
 I.Az fun p hp=>(bK.mp hp).elim (fun z=>I.pin p (ft _ z)) fun z=>by
  obtain⟨hb,e⟩:=RS z;obtain⟨f0,f1,f2,_⟩:=hf p.1 hb;obtain⟨o,e',d⟩:=ho p.1 hb;rw[e] at e';cases e';exact⟨e,f0,f1,f2,d⟩
theorem Inv.AL{pins pl:List (Addr×Obj)}{σ : St}{H:Hp}{s:Shared}(I:Inv X (pins++pl) σ H s):Inv X pins σ H s:=I.Az fun p hp=>I.pin p (ft _ (oE _ hp))
theorem jx{iter:Expr}{body:List Stmt}{wi:TI}{g:TG}{tb:TS}{pos:Pos}(hp:PassesOwn (model X.prog X.w) X.A X.env X.xe)(hc:X.calm=true)(hi:PI X tg iter wi)(hg:PG X tg g)(hb:cJ X body tb)
  (hs:∀x,foldedSetIterable iter X.env x=pure x:=by intro _;rfl):PS X (.For tg iter body [] pos) (WC wi g tb):=by
 intro pins s σ H D I h;refine wpAny_For (aw (hi pins s σ H _ I h) fun v s1 h1=>aw h1 fun Gq s2 h2=>?_) hs;obtain⟨it,fp,tn,J,H2,e,I2,T,aF,f2,W,⟨m0,w0⟩,turn⟩:=h2;subst e;have qE:∀{H':Hp},(∀b∈fp,H' b=none)->∀b∈fp,eN X pins H' b:=fun hn b hb=>⟨hn b hb,(f2 b hb).2⟩;refine codeAny_forLoop_any (fun n s'=>∃i ao H',Inv X pins ao H' s'/\tn i s'.heap/\(∀b∈fp,H' b=none)/\W i n ao H') ?_ m0 ⟨0,σ,H2,I2,aF,fun b hb=>(f2 b hb).1,w0⟩;rintro n s3 ⟨i,dD,H3,I3,aS,NF,w3⟩;rcases turn i n dD H3 w3 with⟨stop,qn⟩|⟨go,N,hN,step⟩
 ·refine qP hp (aw (T.done X rfl rfl rfl hc i pins s3 dD H3 X.xe I3 (qE NF) aS stop) fun r s4 ⟨hr,I4⟩=>?_);subst hr;exact wpAny_execs_nil ⟨dD,H3,I4,qn⟩
 ·refine qP hp (aw (T.item X rfl rfl rfl hc i pins s3 dD H3 X.xe I3 (qE NF) aS go) fun r s4 ⟨u,hr,h4⟩=>?_);subst hr;refine qP hp (aw h4 fun _ s5 ⟨x,H5,I5,r5,y5,cN,y_⟩=>?_);have PU:=I5.pinned (qE y_) (T.obj _ _ cN);refine qP hp (aw (hg _ s5 dD H5 x u _ PU r5 (step x H5 y5)) fun _ s6 ⟨AM,H6,I6,q6⟩=>?_);refine qP hp (aw (hb _ s6 AM H6 _ I6 q6) fun f s7 q7=>?_);have again:∀{jY:St}{H7:Hp},Inv X (pins++yl fp s5.heap) jY H7 s7->N jY H7->∃m,m<n/\∃i ao H',Inv X pins ao H' s7/\tn i s7.heap/\(∀b∈fp,H' b=none)/\W i m ao H':=fun{jY H7} I7 n7=>by
   obtain⟨m',hm,w7⟩:=hN jY H7 n7;refine⟨m',hm,i+1,jY,H7,I7.AL,T.keep _ _ _ cN fun b hb o e=>(I7.pin (b,o) (ft _ (ft _ (xF hb e)))).1,fun b hb=>?_,w7⟩;obtain⟨o,e,d⟩:=T.obj _ _ cN b hb;exact(I7.pin (b,o) (ft _ (ft _ (xF hb e)))).2.1
  cases f with
  | next=>obtain⟨jY,H7,I7,n7⟩:=q7;exact again I7 n7
  | cont=>obtain⟨jY,H7,I7,n7⟩:=q7;exact again I7 n7
  | brk=>obtain⟨jY,H7,I7,q7⟩:=q7;exact⟨jY,H7,I7.AL,q7⟩
  | ret v=>obtain⟨x7,jY,H7,I7,r7,q7⟩:=q7;exact⟨x7,jY,H7,I7.AL,r7,q7⟩
end
theorem B2{K:PySem.W.Frag}{a:Addr}{xs:List V}{g:TG}{tb:TS}{D:Ends}{σ : St}{H:Hp}(Pv:Nat->St->Hp->Prop)(h0:Pv 0 σ H)(hl:∀i σ H,i<=xs.length->Pv i σ H->ak K H a xs)
  (hs:∀i x σ H,xs[i]?= some x->Pv i σ H->g x σ H fun dU H2=>tb { D with nx:=Pv (i+1),ct:=Pv (i+1),bk:=D.nx } dU H2) (hd:∀ σ H,Pv xs.length σ H->D.nx σ H) :
  ∃W:Nat->Nat->St->Hp->Prop,(∃m,W 0 m σ H)/\∀i m σ H,W i m σ H ->
   ((mP K a).stop i H/\D.nx σ H)\/((mP K a).go i H/\∃N:St->Hp->Prop,(∀ ao H',N ao H'->∃m',m'<m/\W (i+1) m' ao H')/\∀x H',(mP K a).kW i H x H'->g x σ H' fun dU H2=>tb { D with nx:=N,ct:=N,bk:=D.nx } dU H2):=by
 refine⟨fun i m σ H=>m=xs.length-i/\i<=xs.length/\Pv i σ H,⟨xs.length,by simp,bi _,h0⟩,?_⟩;rintro i m σ H ⟨rfl,hi,p⟩;have q:=hl i σ H hi p;by_cases aC:i<xs.length
 ·refine .inr ⟨⟨xs,xs[i],q,by simp[aC]⟩,Pv (i+1),fun ao H' p'=>⟨xs.length-(i+1),by lia,rfl,aC,p'⟩,fun x H' y=>?_⟩;obtain⟨e,y⟩:=y;subst e;exact hs i x σ _ (y xs q) p
 ·have e:i=xs.length:=by lia
  subst e;exact .inl ⟨⟨xs,q,az _⟩,hd σ H p⟩
theorem TM{K:PySem.W.Frag}{a:Addr}{xs:List V}{g:TG}{tb:TS}{D:Ends}{σ : St}{H:Hp}(Pv:Nat->St->Hp->Prop)(h0:Pv 0 σ H)(hl:∀i σ H,i<=xs.length->Pv i σ H->aL K H a xs)
  (hs:∀i x σ H,xs[i]?= some x->Pv i σ H->g x σ H fun dU H2=>tb { D with nx:=Pv (i+1),ct:=Pv (i+1),bk:=D.nx } dU H2) (hd:∀ σ H,Pv xs.length σ H->D.nx σ H) :
  ∃W:Nat->Nat->St->Hp->Prop,(∃m,W 0 m σ H)/\∀i m σ H,W i m σ H ->
   ((um K a).stop i H/\D.nx σ H)\/((um K a).go i H/\∃N:St->Hp->Prop,(∀ ao H',N ao H'->∃m',m'<m/\W (i+1) m' ao H')/\∀x H',(um K a).kW i H x H'->g x σ H' fun dU H2=>tb { D with nx:=N,ct:=N,bk:=D.nx } dU H2):=by
 refine⟨fun i m σ H=>m=xs.length-i/\i<=xs.length/\Pv i σ H,⟨xs.length,by simp,bi _,h0⟩,?_⟩;rintro i m σ H ⟨rfl,hi,p⟩;have q:=hl i σ H hi p;by_cases aC:i<xs.length
 ·refine .inr ⟨⟨xs,xs[i],q,by simp[aC]⟩,Pv (i+1),fun ao H' p'=>⟨xs.length-(i+1),by lia,rfl,aC,p'⟩,fun x H' y=>?_⟩;obtain⟨e,y⟩:=y;subst e;exact hs i x σ _ (y xs q) p
 ·have e:i=xs.length:=by lia
  subst e;exact .inl ⟨⟨xs,q,az _⟩,hd σ H p⟩
theorem xQ{lo:Int}{n:Nat}{g:TG}{tb:TS}{D:Ends}{σ : St}{H:Hp}(Pv:Nat->St->Hp->Prop)(h0:Pv 0 σ H)
  (hs:∀i σ H,i<n->Pv i σ H->g (.int (lo+i)) σ H fun dU H2=>tb { D with nx:=Pv (i+1),ct:=Pv (i+1),bk:=D.nx } dU H2) (hd:∀ σ H,Pv n σ H->D.nx σ H) :
  ∃W:Nat->Nat->St->Hp->Prop,(∃m,W 0 m σ H)/\∀i m σ H,W i m σ H ->
   ((qT lo n).stop i H/\D.nx σ H)\/((qT lo n).go i H/\∃N:St->Hp->Prop,(∀ ao H',N ao H'->∃m',m'<m/\W (i+1) m' ao H')/\∀x H',(qT lo n).kW i H x H'->g x σ H' fun dU H2=>tb { D with nx:=N,ct:=N,bk:=D.nx } dU H2):=by
 refine⟨fun i m σ H=>m=n-i/\i<=n/\Pv i σ H,⟨n,by simp,bi _,h0⟩,?_⟩;rintro i m σ H ⟨rfl,hi,p⟩;by_cases aC:i<n
 ·refine .inr ⟨aC,Pv (i+1),fun ao H' p'=>⟨n-(i+1),by lia,rfl,aC,p'⟩,fun x H' y=>?_⟩;obtain⟨e,y⟩:=y;subst e y;exact hs i σ _ aC p
 ·have e:i=n:=by lia
  subst e;exact .inl ⟨az _,hd σ H p⟩
abbrev R2:=V->V->Hp->VK->Prop
def bB(X:Cx)(f:Value->Value->Sem Value)(r:R2):Prop :=
 ∀(pins:List (Addr×Obj))(s:Shared)(σ : St)(H:Hp)(x y:V)(v u:Value)(Q:VK),Inv X pins σ H s->RelV x v->RelV y u->r x y H Q ->
  wpAny (model X.prog X.w) X.A (f v u) (EP X pins σ Q) X.xe s
def Bn(X:Cx)(f:Value->Sem Value)(r:V->Hp->VK->Prop):Prop :=
 ∀(pins:List (Addr×Obj))(s:Shared)(σ : St)(H:Hp)(x:V)(v:Value)(Q:VK),Inv X pins σ H s->RelV x v->r x H Q ->
  wpAny (model X.prog X.w) X.A (f v) (EP X pins σ Q) X.xe s
def fO(X:Cx)(f:Value)(r:List V->Hp->VK->Prop):Prop :=
 ∀(pins:List (Addr×Obj))(s:Shared)(σ : St)(H:Hp)(xs:List V)(us:List Value)(Q:VK),Inv X pins σ H s->Vals xs us->r xs H Q ->
  wpAny (model X.prog X.w) X.A (call f us) (EP X pins σ Q) X.xe s
def Wv(X:Cx)(r:V->Hp->(Bool->Hp->Prop)->Prop):Prop :=
 ∀(pins:List (Addr×Obj))(s:Shared)(σ : St)(H:Hp)(x:V)(v:Value)(Q:Bool->Hp->Prop),Inv X pins σ H s->RelV x v->r x H Q ->
  wpAny (model X.prog X.w) X.A (truthy v) (TP X pins σ Q) X.xe s
def wK(r:R2)(ta tb:TE):TE:=fun σ H Q=>ta σ H fun x H1=>tb σ H1 fun y H2=>r x y H2 Q
def tUn(r:V->Hp->VK->Prop)(ta:TE):TE:=fun σ H Q=>ta σ H fun x H1=>r x H1 Q
def rI(C:Int->Int->Prop)(g:Int->Int->V):R2:=fun x y H Q=>∃i j,x=.int i/\y=.int j/\C i j/\Q (g i j) H
def oj(g:Int->Int->V):R2:=fun x y H Q=>∃i j,x=.int i/\y=.int j/\Q (g i j) H
def rU(g:Int->V):V->Hp->VK->Prop:=fun x H Q=>∃i,x=.int i/\Q (g i) H
section
variable{X:Cx}{a b c:Expr}{ta tb tc:TE}{pos:Pos}
theorem C8(ha:PE X a ta)(hb:PE X b tb){pins:List (Addr×Obj)}{s:Shared}{σ : St}{H:Hp}{R:V->V->Hp->Prop}(I:Inv X pins σ H s)
  (h:ta σ H fun x H1=>tb σ H1 fun y H2=>R x y H2) {Q:Value->Shared->Prop} {f:Value->Value->Sem Value}
  (hf:∀v u s2 x y H2,Inv X pins σ H2 s2->RelV x v->RelV y u->R x y H2->wpAny (model X.prog X.w) X.A (f v u) Q X.xe s2) :
  wpAny (model X.prog X.w) X.A (eval a X.env) (fun v a_=>wpAny (model X.prog X.w) X.A (eval b X.env) (fun u jX=>wpAny (model X.prog X.w) X.A (f v u) Q X.xe jX) X.xe a_) X.xe s:=by
 refine aw (ha pins s σ H _ I h) fun v s1 ⟨x,H1,I1,r1,q1⟩=>?_;refine aw (hb pins s1 σ H1 _ I1 q1) fun u s2 ⟨y,H2,I2,r2,q2⟩=>?_;exact hf v u s2 x y H2 I2 r1 r2 q2
theorem Zv{op:Operator}{r:R2}(ho:bB X (binaryOp op) r)(ha:PE X a ta)(hb:PE X b tb):PE X (.BinOp a op b pos) (wK r ta tb):=by
 intro pins s σ H Q I h;exact wpAny_BinOp (C8 ha hb I h fun v u s2 x y H2 I2 rx ry q=>ho pins s2 σ H2 x y v u Q I2 rx ry q)
theorem jF{op:UnaryOp}{r:V->Hp->VK->Prop}(ho:Bn X (unaryOp op) r)(ha:PE X a ta):PE X (.UnaryOp op a pos) (tUn r ta):=by
 intro pins s σ H Q I h;exact UnaryOp_ (aw (ha pins s σ H _ I h) fun v s1 ⟨x,H1,I1,r1,q1⟩=>ho pins s1 σ H1 x v Q I1 r1 q1)
theorem G5{f:Value->Value->Sem Value}{C:Int->Int->Prop}{g:Int->Int->Int}
  (rule:∀(i j:Int)(t u:Tok)(s:Shared)(Q:Value->Shared->Prop)(E:Value->Shared->Prop),C i j->Q (.int (g i j) s.toks) { s with toks:=s.toks+1 }->wpAny (model X.prog X.w) X.A (f (.int i t) (.int j u)) Q E s) :
  bB X f (rI C fun i j=>.int (g i j)):=by
 intro pins s σ H x y v u Q I rx ry h;obtain⟨i,j,rfl,rfl,hc,q⟩:=h;obtain⟨t,rfl⟩:=rx;obtain⟨t',rfl⟩:=ry;exact rule i j t t' s _ _ hc ⟨.int (g i j),H,I.tok _,⟨_,rfl⟩,q⟩
theorem MI{f:Value->Value->Sem Value}{g:Int->Int->Int}
  (rule:∀(i j:Int)(t u:Tok)(s:Shared)(Q:Value->Shared->Prop)(E:Value->Shared->Prop),Q (.int (g i j) s.toks) { s with toks:=s.toks+1 }->wpAny (model X.prog X.w) X.A (f (.int i t) (.int j u)) Q E s) :
  bB X f (oj fun i j=>.int (g i j)):=by
 intro pins s σ H x y v u Q I rx ry h;obtain⟨i,j,rfl,rfl,q⟩:=h;obtain⟨t,rfl⟩:=rx;obtain⟨t',rfl⟩:=ry;exact rule i j t t' s _ _ ⟨.int (g i j),H,I.tok _,⟨_,rfl⟩,q⟩
theorem yK{f:Value->Value->Sem Value}{g:Int->Int->Bool}
  (rule:∀(i j:Int)(t u:Tok)(s:Shared)(Q:Value->Shared->Prop)(E:Value->Shared->Prop),Q (.bool (g i j)) s->wpAny (model X.prog X.w) X.A (f (.int i t) (.int j u)) Q E s) :
  bB X f (oj fun i j=>.bl (g i j)):=by
 intro pins s σ H x y v u Q I rx ry h;obtain⟨i,j,rfl,rfl,q⟩:=h;obtain⟨t,rfl⟩:=rx;obtain⟨t',rfl⟩:=ry;exact rule i j t t' s _ _ ⟨.bl (g i j),H,I,rfl,q⟩
def Wl(i j:Int):Prop:=0<j/\j<1073741824
def C6(i j:Int):Prop:=(-(2 ^ 64)<i/\i<2 ^ 64)\/(-(2 ^ 64)<j/\j<2 ^ 64)
theorem C6.ok{i j:Int}(h:C6 i j):IntMulOk i j:=by
 rcases h with⟨h1,h2⟩|⟨h1,h2⟩
 ·exact .of_left (intBits_le_64 h1 h2)
 ·exact .of_right (intBits_le_64 h1 h2)
theorem gm:bB X (binaryOp .Add) (oj fun i j=>.int (i+j)):=MI fun _ _ _ _ _ _ _ q=>add_int q
theorem ym:bB X (binaryOp .Sub) (oj fun i j=>.int (i-j)):=MI fun _ _ _ _ _ _ _ q=>sub_int q
theorem uS:bB X (binaryOp .Mult) (rI C6 fun i j=>.int (i*j)):=G5 fun _ _ _ _ _ _ _ hc q=>mul_int q hc.ok
theorem fJ:bB X (binaryOp .FloorDiv) (rI Wl fun i j=>.int (i / j)):=G5 fun i j _ _ _ _ _ hc q=>by
 have h1:(0:Int)<j:=hc.1;have h2:j<1073741824:=hc.2;exact floordiv_int (by lia) (by rw[Int.fdiv_eq_ediv_of_nonneg i (by lia)];exact q) (.inl (PyProof.noPylong_small (by lia)))
theorem dm:bB X (binaryOp .Mod) (rI (fun _ j=>0<j) fun i j=>.int (i % j)):=G5 fun i j _ _ _ _ _ hc q=>by
 have h1:(0:Int)<j:=hc;exact mod_int' (by lia) (by rw[Int.fmod_eq_emod_of_nonneg i (by lia)];exact q)
theorem unI{f:Value->Sem Value}{g:Int->Int}
  (rule:∀(i:Int)(t:Tok)(s:Shared)(Q:Value->Shared->Prop)(E:Value->Shared->Prop),Q (.int (g i) s.toks) { s with toks:=s.toks+1 }->wpAny (model X.prog X.w) X.A (f (.int i t)) Q E s) :
  Bn X f (rU fun i=>.int (g i)):=by
 intro pins s σ H x v Q I rx h;obtain⟨i,rfl,q⟩:=h;obtain⟨t,rfl⟩:=rx;exact rule i t s _ _ ⟨.int (g i),H,I.tok _,⟨_,rfl⟩,q⟩
theorem jz:Bn X (unaryOp .USub) (rU fun i=>.int (-i)):=unI fun _ _ _ _ _ q=>neg_int q
end
def MN:V->V->Bool
 | .aD,.aD=>true | .aD,.int _=>true | .int _,.aD=>true | .aD,.bl _=>true | .bl _,.aD=>true | .aD,.str _=>true | .str _,.aD=>true
 | .int _,.int _=>true | .bl _,.bl _=>true | .str _,.str _=>true | .gU _,.gU _=>true
 | .int _,.str _=>true | .str _,.int _=>true | .bl _,.str _=>true | .str _,.bl _=>true
 | _,_=>false
def rEq:R2:=fun x y H Q=>MN x y=true/\Q (.bl (decide (x=y))) H
def rNe:R2:=fun x y H Q=>MN x y=true/\Q (.bl (!decide (x=y))) H
theorem Ld{i j:Int}:decide (V.int i=V.int j)=(i == j):=by
 rw[jl];simp
theorem LM{i j:Bool}:decide (V.bl i=V.bl j)=(i == j):=by
 rw[jl];simp
theorem Lw{i j:Str}:decide (V.str i=V.str j)=(i == j):=by
 rw[jl];simp
theorem K6{i j:Array UInt8}:decide (V.gU i=V.gU j)=(i.toList == j.toList):=by
 rw[jl];cases i;cases j;simp
section
variable{X:Cx}{a b c:Expr}{ta tb tc:TE}{pos:Pos}
theorem Z5{pins:List (Addr×Obj)}{σ : St}{H:Hp}{s:Shared}{Q:VK}{k k':Bool}(I:Inv X pins σ H s)(q:Q (.bl k) H)(e:k=k'):EP X pins σ Q (.bool k') s:=by
 subst e;exact⟨.bl k,H,I,rfl,q⟩
theorem fv:bB X (compareOp .Eq) rEq:=by
 intro pins s σ H x y v u Q I rx ry h;obtain⟨hs,q⟩:=h;cases x with
 | aD =>
  cases rx;cases y with
  | aD=>cases ry;exact PySem.EqNone.eq_none_none (Z5 I q (by simp))
  | bl j=>cases ry;exact PySem.EqNone.eq_none_bool (Z5 I q (by simp))
  | int j=>obtain⟨t',rfl⟩:=ry;exact PySem.EqNone.eq_none_int (Z5 I q (by simp))
  | str j=>obtain⟨t',rfl⟩:=ry;exact PySem.EqNone.eq_none_str (Z5 I q (by simp))
  | _=>exact absurd (show false=true from hs) bb
 | bl i =>
  cases rx;cases y with
  | aD=>cases ry;exact PySem.EqNone.eq_bool_none (Z5 I q (by simp))
  | bl j=>cases ry;exact eq_bool (Z5 I q LM)
  | str j=>obtain⟨t',rfl⟩:=ry;exact PySem.EqMixed.eq_bool_str (Z5 I q (by simp))
  | _=>exact absurd (show false=true from hs) bb
 | int i =>
  obtain⟨t,rfl⟩:=rx;cases y with
  | aD=>cases ry;exact PySem.EqNone.eq_int_none (Z5 I q (by simp))
  | int j=>obtain⟨t',rfl⟩:=ry;exact eq_int (Z5 I q Ld)
  | str j=>obtain⟨t',rfl⟩:=ry;exact PySem.EqMixed.eq_int_str (Z5 I q (by simp))
  | _=>exact absurd (show false=true from hs) bb
 | str i =>
  obtain⟨t,rfl⟩:=rx;cases y with
  | aD=>cases ry;exact PySem.EqNone.eq_str_none (Z5 I q (by simp))
  | bl j=>cases ry;exact PySem.EqMixed.eq_str_bool (Z5 I q (by simp))
  | int j=>obtain⟨t',rfl⟩:=ry;exact PySem.EqMixed.eq_str_int (Z5 I q (by simp))
  | str j=>obtain⟨t',rfl⟩:=ry;exact eq_str (Z5 I q Lw)
  | _=>exact absurd (show false=true from hs) bb
 | gU i =>
  obtain⟨t,rfl⟩:=rx;cases y with
  | gU j=>obtain⟨t',rfl⟩:=ry;exact PySem.W.eq_bytes (Z5 I q K6)
  | _=>exact absurd (show false=true from hs) bb
 | _=>cases y <;> exact absurd (show false=true from hs) bb
theorem pM:bB X (compareOp .NotEq) rNe:=by
 intro pins s σ H x y v u Q I rx ry h;obtain⟨hs,q⟩:=h;cases x with
 | aD =>
  cases rx;cases y with
  | aD=>cases ry;exact PySem.EqNone.ne_none_none (Z5 I q (by simp))
  | bl j=>cases ry;exact PySem.EqNone.ne_none_bool (Z5 I q (by simp))
  | int j=>obtain⟨t',rfl⟩:=ry;exact PySem.EqNone.ne_none_int (Z5 I q (by simp))
  | str j=>obtain⟨t',rfl⟩:=ry;exact PySem.EqNone.ne_none_str (Z5 I q (by simp))
  | _=>exact absurd (show false=true from hs) bb
 | bl i =>
  cases rx;cases y with
  | aD=>cases ry;exact PySem.EqNone.ne_bool_none (Z5 I q (by simp))
  | bl j=>cases ry;exact ne_bool (Z5 I q (congrArg not LM))
  | str j=>obtain⟨t',rfl⟩:=ry;exact PySem.EqMixed.ne_bool_str (Z5 I q (by simp))
  | _=>exact absurd (show false=true from hs) bb
 | int i =>
  obtain⟨t,rfl⟩:=rx;cases y with
  | aD=>cases ry;exact PySem.EqNone.ne_int_none (Z5 I q (by simp))
  | int j=>obtain⟨t',rfl⟩:=ry;exact ne_int (Z5 I q (congrArg not Ld))
  | str j=>obtain⟨t',rfl⟩:=ry;exact PySem.EqMixed.ne_int_str (Z5 I q (by simp))
  | _=>exact absurd (show false=true from hs) bb
 | str i =>
  obtain⟨t,rfl⟩:=rx;cases y with
  | aD=>cases ry;exact PySem.EqNone.ne_str_none (Z5 I q (by simp))
  | bl j=>cases ry;exact PySem.EqMixed.ne_str_bool (Z5 I q (by simp))
  | int j=>obtain⟨t',rfl⟩:=ry;exact PySem.EqMixed.ne_str_int (Z5 I q (by simp))
  | str j=>obtain⟨t',rfl⟩:=ry;exact ne_str (Z5 I q (congrArg not Lw))
  | _=>exact absurd (show false=true from hs) bb
 | gU i =>
  obtain⟨t,rfl⟩:=rx;cases y with
  | gU j=>obtain⟨t',rfl⟩:=ry;exact PySem.W.ne_bytes (Z5 I q (congrArg not K6))
  | _=>exact absurd (show false=true from hs) bb
 | _=>cases y <;> exact absurd (show false=true from hs) bb
theorem sf:bB X (compareOp .Lt) (oj fun i j=>.bl (decide (i<j))):=yK fun _ _ _ _ _ _ _ q=>lt_int q
theorem sh:bB X (compareOp .LtE) (oj fun i j=>.bl (decide (i<=j))):=yK fun _ _ _ _ _ _ _ q=>le_int q
theorem V':bB X (compareOp .Gt) (oj fun i j=>.bl (decide (j<i))):=yK fun _ _ _ _ _ _ _ q=>gt_int q
theorem Wa:bB X (compareOp .GtE) (oj fun i j=>.bl (decide (j<=i))):=yK fun _ _ _ _ _ _ _ q=>ge_int q
theorem Sb:bB X (compareOp .In) (fun x y H Q=>∃i j,x=.str i/\y=.str j/\Q (.bl (!(Builtin.Str.occurrences j i 0 j.length 1).isEmpty)) H):=by
 intro pins s σ H x y v u Q I rx ry h;obtain⟨i,j,rfl,rfl,q⟩:=h;obtain⟨t,rfl⟩:=rx;obtain⟨t',rfl⟩:=ry;exact in_str (Z5 I q rfl)
theorem Ct:bB X (compareOp .Is) (fun x y H Q=>y=.aD/\Q (.bl (decide (x=.aD))) H):=by
 intro pins s σ H x y v u Q I rx ry h;obtain⟨rfl,q⟩:=h;cases ry;refine is_none_gen (Z5 I q ?_);cases x <;> first
  | (cases rx;rfl)
  | (obtain⟨t,rfl⟩:=rx;rfl)
theorem K2:bB X (compareOp .IsNot) (fun x y H Q=>y=.aD/\Q (.bl (!decide (x=.aD))) H):=by
 intro pins s σ H x y v u Q I rx ry h;obtain⟨rfl,q⟩:=h;cases ry;refine isnot_none_gen (Z5 I q ?_);cases x <;> first
  | (cases rx;rfl)
  | (obtain⟨t,rfl⟩:=rx;rfl)
theorem ZK(b:Expr){op:CmpOp}(h:op ≠ .In:=by decide)(h2:op ≠ .NotIn:=by decide):behindInMarks op b=false:=by
 have e1:(op == CmpOp.In)=false:=by cases op <;> first|rfl|exact absurd rfl h
 have e2:(op == CmpOp.NotIn)=false:=by cases op <;> first|rfl|exact absurd rfl h2
 cases b <;> simp[behindInMarks,e1,e2]
theorem ya{op:CmpOp}{r:R2}(ho:bB X (compareOp op) r)(ha:PE X a ta)(hb:PE X b tb)(hm:behindInMarks op b=false):PE X (.Compare a [op] [b] pos) (wK r ta tb):=by
 intro pins s σ H Q I h;exact wpAny_Compare1 (C8 ha hb I h fun v u s2 x y H2 I2 rx ry q=>ho pins s2 σ H2 x y v u Q I2 rx ry q) hm
def Mt(t:TE):TT:=fun σ H Q=>t σ H fun x H'=>∃k,x=.bl k/\Q k H'
theorem Zr{op:CmpOp}{r:R2}(ho:bB X (compareOp op) r)(ha:PE X a ta)(hb:PE X b tb)(hm:behindInMarks op b=false):PT X (.Compare a [op] [b] pos) (Mt (wK r ta tb)):=by
 intro pins s σ H Q I h;refine wpAny_isTrue_Compare1 (aw (ha pins s σ H _ I h) fun v s1 ⟨x,H1,I1,r1,q1⟩=>aw (hb pins s1 σ H1 _ I1 q1) fun u s2 ⟨y,H2,I2,r2,q2⟩ =>
  aw (ho pins s2 σ H2 x y v u _ I2 r1 r2 q2) fun c s3 ⟨z,H3,I3,r3,k,e,q3⟩=>?_) hm
 subst e;cases r3;exact mI ⟨H3,I3,q3⟩
def L7(r r':R2)(ta tb tc:TE):TE:=fun σ H Q=>ta σ H fun x H1=>tb σ H1 fun y H2=>r x y H2 fun z H3=>∃k,z=.bl k /\
 (if k=true then tc σ H3 fun w' H4=>r' y w' H4 Q else Q (.bl false) H3)
theorem Kl{op o6:CmpOp}{r r':R2}(ho:bB X (compareOp op) r)(cn:bB X (compareOp o6) r')(ha:PE X a ta)(hb:PE X b tb)(hc:PE X c tc)
  (hm:lastMarks [op,o6] [b,c]=false:=by with_unfolding_all rfl):PE X (.Compare a [op,o6] [b,c] pos) (L7 r r' ta tb tc):=by
 intro pins s σ H Q I h;refine Compare_chain (aw (ha pins s σ H _ I h) fun v s1 ⟨x,H1,I1,r1,q1⟩=>chain_link (aw (hb pins s1 σ H1 _ I1 q1) fun u s2 ⟨y,H2,I2,r2,q2⟩ =>
  aw (ho pins s2 σ H2 x y v u _ I2 r1 r2 q2) fun d s3 ⟨z,H3,I3,r3,k,e,q3⟩=>?_)) hm
 subst e;cases r3;refine mI ?_;cases k with
 | false=>exact ite_ff ⟨.bl false,H3,I3,rfl,q3⟩
 | true=>exact ite_tt (chain_last (aw (hc pins s3 σ H3 _ I3 q3) fun w' s4 ⟨z',H4,I4,r4,q4⟩=>cn pins s4 σ H4 y z' u w' Q I4 r2 r4 q4))
theorem BQ{op o6:CmpOp}{r r':R2}(ho:bB X (compareOp op) r)(cn:bB X (compareOp o6) r')(ha:PE X a ta)(hb:PE X b tb)(hc:PE X c tc)
  (hm:lastMarks [op,o6] [b,c]=false:=by with_unfolding_all rfl):PT X (.Compare a [op,o6] [b,c] pos) (Mt (L7 r r' ta tb tc)):=by
 intro pins s σ H Q I h;refine isTrue_chain (aw (ha pins s σ H _ I h) fun v s1 ⟨x,H1,I1,r1,q1⟩=>test_link (aw (hb pins s1 σ H1 _ I1 q1) fun u s2 ⟨y,H2,I2,r2,q2⟩ =>
  aw (ho pins s2 σ H2 x y v u _ I2 r1 r2 q2) fun d s3 ⟨z,H3,I3,r3,k,e,q3⟩=>?_)) hm
 subst e;cases r3;refine mI ?_;cases k with
 | false =>
  obtain⟨k',e',q'⟩:=q3;cases e';exact ite_ff ⟨H3,I3,q'⟩
 | true =>
  refine ite_tt (test_last (aw (hc pins s3 σ H3 _ I3 q3) fun w' s4 ⟨z',H4,I4,r4,q4⟩=>aw (cn pins s4 σ H4 y z' u w' _ I4 r2 r4 q4) fun d' s5 ⟨z2,H5,I5,r5,k2,e2,q5⟩=>?_));subst e2;cases r5;exact mI ⟨H5,I5,q5⟩
def Mw(K:PySem.W.Frag)(x:V)(H:Hp)(k:Bool):Prop :=
 match x with
 | .aD=>k=false
 | .bl b=>k=b
 | .int i=>k=(i != 0)
 | .str y=>y.length<=sizeLine/\k=((y.length:Int) != 0)
 | .gU y=>y.size<=sizeLine/\k=((y.size:Int) != 0)
 | .ref p=>(∃xs,ak K H p xs/\k= !xs.isEmpty)\/(∃xs,aL K H p xs/\k= !xs.isEmpty)\/∃aj,H p=some (.dK aj)/\k= !aj.isEmpty
 | _=>False
theorem Rz{κ : Type}{aj:List (κ × V)}{vs:List (κ × Value)}(r:KV aj vs):(!vs.isEmpty)= !aj.isEmpty:=by
 cases r <;> rfl
theorem JK{xs:List V}{its:List Value}(r:Vals xs its):(!its.toArray.isEmpty)= !xs.isEmpty:=by
 cases r <;> simp
theorem r6:(sizeLine:Nat)<2 ^ 63:=by rw[fH];decide
theorem Vy:Wv X (fun x H Q=>∃k,Mw X.K x H k/\Q k H):=by
 intro pins s σ H x v Q I rx h;obtain⟨k,e,q⟩:=h;have hl:=r6;have hs:sizeLine=16777216:=fH;cases x with
 | aD =>
  cases rx;have e':k=false:=e;subst e';exact truthy_none ⟨H,I,q⟩
 | bl b =>
  cases rx;have e':k=b:=e;subst e';exact mI ⟨H,I,q⟩
 | int i =>
  obtain⟨t,rfl⟩:=rx;have e':k=(i != 0):=e;subst e';exact PySem.P.truthy_int ⟨H,I,q⟩
 | str y =>
  obtain⟨t,rfl⟩:=rx;obtain⟨hy,e'⟩:y.length<=sizeLine/\k=((y.length:Int) != 0):=e;subst e';exact PySem.P.truthy_str (by lia) ⟨H,I.tok _,q⟩
 | gU y =>
  obtain⟨t,rfl⟩:=rx;obtain⟨hy,e'⟩:y.size<=sizeLine/\k=((y.size:Int) != 0):=e;subst e';exact PySem.W.truthy_bytes (by lia) ⟨H,I.tok _,q⟩
 | ref p =>
  cases rx;have e':(∃xs,ak X.K H p xs/\k= !xs.isEmpty)\/(∃xs,aL X.K H p xs/\k= !xs.isEmpty)\/∃aj,H p=some (.dK aj)/\k= !aj.isEmpty:=e;rcases e' with⟨xs,hx,e'⟩|⟨xs,hx,e'⟩|⟨aj,hx,e'⟩
  ·subst e';obtain⟨its,r,pl,hz⟩:=I.list hx;have hlen:=r.length;exact wpAny_truthy_list pl.isList (by simp only[bW];lia) ⟨H,I.tok _,by rw[JK r];exact q⟩
  ·subst e';obtain⟨its,r,pl,hz⟩:=I.tuple hx;have hlen:=r.length;exact truthy_tuple pl (by simp only[bW];lia) ⟨H,I.tok _,by rw[JK r];exact q⟩
  ·subst e';obtain⟨hz,hS,vs,r,m⟩:aj.length<=sizeLine/\(p == sysModules)=false/\∃vs,KV aj vs/\s.heap.DictOf (Z9 X.prog X.w) p vs:=I.aq p _ hx;have hlen:aj.length=vs.length:=f_ r;exact wpAny_truthy_dict hS m (by lia) ⟨H,I.tok _,by rw[Rz r];exact q⟩
 | _=>exact(show False from e).elim
theorem ZZ(ha:PE X a ta)(he:∀whole,isTrue a X.env whole=(do let v <- whole;standAt a.pos;holding [v] (truthy v))) :
  PT X a (fun σ H Q=>ta σ H fun x H'=>∃k,Mw X.K x H' k/\Q k H'):=by
 intro pins s σ H Q I h;exact isTrue_plain (aw (ha pins s σ H _ I h) fun v s1 ⟨x,H1,I1,r1,q1⟩=>Vy pins s1 σ H1 x v Q I1 r1 q1) (he _)
theorem Zy:bB X (binaryOp .Add) (fun x y H Q=>∃i j,x=.str i/\y=.str j/\i.length+j.length<=sizeLine/\Q (.str (i++j)) H):=by
 intro pins s σ H x y v u Q I rx ry h;obtain⟨i,j,rfl,rfl,hz,q⟩:=h;obtain⟨t,rfl⟩:=rx;obtain⟨t',rfl⟩:=ry;exact add_str (fun t' tk=>⟨.str (i++j),H,I.tok _,⟨_,rfl⟩,q⟩) hz
theorem vals1{x:V}{us:List Value}(r:Vals [x] us):∃u,us=[u]/\RelV x u:=by
 cases r with
 | cons r1 r2=>cases r2;exact⟨_,rfl,r1⟩
theorem vals2{x y:V}{us:List Value}(r:Vals [x,y] us):∃u w',us=[u,w']/\RelV x u/\RelV y w':=by
 cases r with
 | cons r1 r2 =>
  cases r2 with
  | cons r3 r4=>cases r4;exact⟨_,_,rfl,r1,r3⟩
theorem Sy(hc:X.calm=true):fO X (.builtin "max") (fun xs H Q=>∃i j,xs=[.int i,.int j]/\Q (.int (if j > i then j else i)) H):=by
 intro pins s σ H xs us Q I r h;obtain⟨i,j,rfl,q⟩:=h;obtain⟨u,w',rfl,⟨t,rfl⟩,⟨t',rfl⟩⟩:=vals2 r;refine max_two_ints (I.ok.hd hc) fun h' tk k=>⟨_,H,I.kept k,?_,q⟩;by_cases hj:j > i
 ·rw[ah hj,ah hj];exact⟨_,rfl⟩
 ·rw[af hj,af hj];exact⟨_,rfl⟩
theorem RN(hc:X.calm=true):fO X (.builtin "min") (fun xs H Q=>∃i j,xs=[.int i,.int j]/\Q (.int (if j<i then j else i)) H):=by
 intro pins s σ H xs us Q I r h;obtain⟨i,j,rfl,q⟩:=h;obtain⟨u,w',rfl,⟨t,rfl⟩,⟨t',rfl⟩⟩:=vals2 r;refine min_two_ints (I.ok.hd hc) fun h' tk k=>⟨_,H,I.kept k,?_,q⟩;by_cases hj:j<i
 ·rw[ah hj,ah hj];exact⟨_,rfl⟩
 ·rw[af hj,af hj];exact⟨_,rfl⟩
end
structure o_(h:Heap)(x dx C:Addr)(mA:Str->Option Value):Prop where
 obj:h.get? x=some (PySem.W.instObj C dx)
 ns:h.Ns1 dx mA
 ne:dx≠x
theorem Sg{h:Heap}{dx:Addr}{mA:Str->Option Value}(n:h.Ns1 dx mA):∃od,h.get? dx=some od/\∀name,PySem.W.lookIn name od=some (mA name):=by
 obtain⟨o,es,ep,ho,hd,hk,_,hm⟩:=n;refine⟨o,ho,fun name=>?_⟩;have e:=hm name;unfold nsFind findBy at e;rw[<- Array.find?_toList] at e;unfold PySem.W.lookIn;rw[hd];dsimp only
 split
 ·rename_i y q
  rw[q] at e;exact congrArg some e
 ·rename_i q
  rw[q] at e;have a:es.toList.any (·.refKey)=false:=by
   rw[List.any_eq_false];intro y hy;obtain⟨z,t,jc⟩:=hk y (Array.mem_toList_iff.mp hy);simp[DictEntry.refKey,jc]
  have a' : ¬ es.toList.any (·.refKey)=true:=by rw[a];exact bb
  rw[af a'];exact congrArg some e
theorem o_.look{h:Heap}{x dx C:Addr}{mA:Str->Option Value}(I:o_ h x dx C mA):∃od,PySem.W.InstAt h x (PySem.W.instObj C dx) C (some od)/\∀name,PySem.W.lookIn name od=some (mA name) :=
 let ⟨od,ho,hl⟩:=Sg I.ns
 ⟨od,⟨I.obj,rfl,rfl,ho⟩,hl⟩
section
variable{prog:Program}{w:World}{A:Around}{E:Value->Shared->Prop}{s:Shared}{K:PySem.W.Frag}{x dx C f:Addr}{mA:Str->Option Value}{name:Str}{v:Value}
theorem Uc{expr:Bool}{Q:Value->Shared->Prop}(X:K.In s.heap)(I:o_ s.heap x dx C mA)(hg:PySem.W.plainGet K C name=true)(hh:PySem.W.hasDictIn K C=true)
  (ha:PySem.W.findIn K (.ref C) name=some none) (hv:mA name=some v) (ug:PySem.W.handedIn v=true) (h:Q v { s with toks:=s.toks+1 }) :
  wpAny (model prog w) A (getAttr (.ref x) name expr) Q E s:=by
 obtain⟨od,J,hl⟩:=I.look;exact PySem.W.get_value X J (PySem.W.plainGet_of hg).1 (PySem.W.findObj_own hh ha rfl (by rw[hl,hv])) ug h
theorem S3{pl:Sem Bool}{Q:Value×List Value->Shared->Prop}(X:K.In s.heap)(I:o_ s.heap x dx C mA)(hg:PySem.W.plainGet K C name=true)
  (hf:PySem.W.findIn K (.ref C) name=some (some (.ref f))) (ht:PySem.W.isFn K (.ref f)=true) (hv:mA name=none) (h:Q (.ref f,[.ref x]) s) :
  wpAny (model prog w) A (getMethod (.ref x) name pl) Q E s:=by
 obtain⟨od,J,hl⟩:=I.look;exact PySem.W.method_fn X J (PySem.W.plainGet_of hg).1 (PySem.W.plainGet_of hg).2 hf (j8.mp ht) (by show(PySem.W.lookIn name od).map (·.isSome)=some false;rw[hl,hv];rfl) h
theorem UO{ns:List Str}{Q:Unit->Shared->Prop}(X:K.In s.heap)(I:o_ s.heap x dx C mA)
  (hs:PySem.W.findIn K (.ref C) "__setattr__" = some (some (.builtin "object.__setattr__"))) (hp:PySem.W.plainOver K C=true) (ht:PySem.W.takerIn K C name=some none) (hh:PySem.W.hasDictIn K C=true)
  (hw:PySem.Within mA ns) (hsz:ns.length<=sizeLine)
  (h:∀h',o_ h' x dx C (fun y=>if y=name then some v else mA y)->Heap.SameBut dx s.heap h'->Q () { s with heap:=h',toks:=s.toks+2 }) :
  wpAny (model prog w) A (setAttr (.ref x) name v) Q E s:=by
 obtain⟨od,J,hl⟩:=I.look;refine PySem.W.set_plain X J hs (PySem.W.osa_open (s:={ s with toks:=s.toks+1 }) (r:=none) X J hp ht fun b=>?_);obtain⟨cd,hc,gg⟩:=PySem.W.any_some hh;have hx:s.heap.get? x=some ⟨.ref C,some dx,.plain,#[]⟩:=I.obj;refine ae (ai (ae (ae (wpAny_loadPart hx (ae (PySem.W.Looks.here (s:={ s with toks:=s.toks+1 }) (PySem.W.looks_clsIn X hc) ?_))))));rw[gg];refine ai (a:=some dx) (ae (ai (ae ?_)));refine wpAny_nsSet1 (s:={ s with toks:=s.toks+1 }) I.ns fun h' mf sW=>?_;obtain⟨oD,esD,epD,hoD,hdD,hcD⟩:=mf.count (PySem.Within.cons name v hw);refine ae (wpAny_lookBehind hoD (by rw[hdD];exact pastItsLine_dict (cY hcD (by rw[aN];lia))) ?_);exact ai (h _ ⟨(sW.2 _ (fG I.ne)).trans I.obj,mf,I.ne⟩ sW)
theorem Tq{R:Result->Shared->Prop}{vs:List Value}{kw:List (Str×Value)}(X:K.In s.heap)(hm:PySem.W.makesIn K C=true)
  (hi:PySem.W.findIn K (.ref C) "__init__" = some (some (.ref f))) (hf:PySem.W.typeIn K (.ref f)=some (.type "function"))
  (h:codeAny (model prog w) (A.under (.builtin "type.__call__" ⟨.ref C::vs,kw⟩)) (.call (.ref f) ⟨.ref (s.heap.objs.size+1)::vs,kw⟩) (PySem.W.InitBack (s.heap.objs.size+1) R)
   { s with heap:=(s.heap.push PySem.W.emptyDict).push (PySem.W.instObj C s.heap.objs.size) }) :
  codeAny (model prog w) A (.call (.ref C) ⟨vs,kw⟩) R s:=by
 obtain⟨hh,g,d,t,os⟩:=s;exact PySem.W.make_core (PySem.W.makes_of X hm) (PySem.W.looks_findIn X hi) (fun self=>PySem.W.bind_fn X self hf) (.inl rfl) h
end
def fw(f:Str)(v:V):List (Str×V)->List (Str×V)
 | []=>[(f,v)]
 | (g,x)::r=>if g=f then(g,v)::r else(g,x)::fw f v r
theorem Jt(f g:Str)(v:V):∀fs:List (Str×V),(fw f v fs).lookup g=if g=f then some v else fs.lookup g
 | []=>by
  show List.lookup g [(f,v)]=_;by_cases h:g=f
  ·have hb:(g == f)=true:=j8.mpr h;simp only[List.lookup,hb,ah h]
  ·have hb:(g == f)=false:=xn.mpr h;simp only[List.lookup,hb,af h]
 | (k,x)::r=>by
  have ih:=Jt f g v r;rw[show fw f v ((k,x)::r)=(if k=f then(k,v)::r else(k,x)::fw f v r) from rfl]
  by_cases hk:k=f
  ·rw[ah hk];by_cases h:g=k
   ·have hb:(g == k)=true:=j8.mpr h;simp only[List.lookup,hb,ah (h.trans hk)]
   ·have hb:(g == k)=false:=xn.mpr h;simp only[List.lookup,hb,af (fun e:g=f=>h (e.trans hk.symm))]
  ·rw[af hk];by_cases h:g=k
   ·have hb:(g == k)=true:=j8.mpr h;simp only[List.lookup,hb,af (fun e:g=f=>hk (h.symm.trans e))]
   ·have hb:(g == k)=false:=xn.mpr h;simp only[List.lookup,hb];exact ih
theorem Bw(f:Str)(v:V):∀fs:List (Str×V),f∈(fw f v fs).map (·.1)/\∀g,g∈fs.map (·.1)->g∈(fw f v fs).map (·.1)
 | []=>⟨by simp[fw],fun g h=>by simp at h⟩
 | (k,x)::r=>by
  obtain⟨i1,i2⟩:=Bw f v r;rw[show fw f v ((k,x)::r)=(if k=f then(k,v)::r else(k,x)::fw f v r) from rfl]
  by_cases hk:k=f
  ·rw[ah hk];subst hk;exact⟨by simp,fun g h=>by simpa using h⟩
  ·rw[af hk];refine⟨?_,fun g h=>?_⟩
   ·rw[br];exact aW _ i1
   ·rw[br] at h ⊢;rcases aG.mp h with e|e
    ·exact aG.mpr (.inl e)
    ·exact aW _ (i2 g e)
theorem Jr(f:Str)(v:V):∀fs:List (Str×V),(fw f v fs).length<=fs.length+1
 | []=>by simp[fw]
 | (k,x)::r=>by
  have ih:=Jr f v r;rw[show fw f v ((k,x)::r)=(if k=f then(k,v)::r else(k,x)::fw f v r) from rfl]
  by_cases hk:k=f
  ·rw[ah hk,aN,aN];lia
  ·rw[af hk,aN,aN];lia
theorem fR.some_of{v:V}{o:Option Value}(r:fR (some v) o):∃u,o=some u/\RelV v u:=by
 cases o with
 | none=>exact(show False from r).elim
 | some u=>exact⟨u,rfl,r⟩
theorem fR.none_of{o:Option Value}(r:fR none o):o=none:=by
 cases o with
 | none=>rfl
 | some u=>exact(show False from r).elim
theorem Sn{v:V}{u:Value}(r:RelV v u):PySem.W.handedIn u=true:=by
 cases v with
 | aD=>cases (show u=Value.none from r);rfl
 | bl b=>cases (show u=Value.bool b from r);rfl
 | int i=>obtain⟨t,e⟩:=(show ∃t,u=Value.int i t from r);cases e;rfl
 | str x=>obtain⟨t,e⟩:=(show ∃t,u=Value.str x t from r);cases e;rfl
 | gU b=>obtain⟨t,e⟩:=(show ∃t,u=Value.bytes b t from r);cases e;rfl
 | pT b=>obtain⟨t,e⟩:=(show ∃t,u=Value.float b t from r);cases e;rfl
 | ref a=>cases (show u=Value.ref a from r);rfl
 | ty n=>cases (show u=Value.type n from r);rfl
section
variable{P:Program}{w:World}{H H':Hp}{h h':Heap}{a C dx:Addr}{fs mM:List (Str×V)}
theorem pD(aq:bE P w H h)(e:H a=some (.ins C dx fs)):∃mA,o_ h a dx C mA/\(∀f,fR (fs.lookup f) (mA f))/\PySem.Within mA (fs.map (·.1))/\fs.length<=1000/\H dx=some (.own a):=by
 obtain⟨d,z,ne,ob,mA,n,r,q⟩:=(show bL P w H h a (.ins C dx fs) from aq a _ e);exact⟨mA,⟨ob,n,ne⟩,r,q,z,d⟩
end
structure gS(K:PySem.W.Frag)(C:Addr):Prop where
 pg:PySem.W.plainGet K C Str.empty=true
 hd:PySem.W.hasDictIn K C=true
 po:PySem.W.plainOver K C=true
 sa:PySem.W.findIn K (.ref C) "__setattr__" = some (some (.builtin "object.__setattr__"))
theorem gS.get{K:PySem.W.Frag}{C:Addr}(c:gS K C)(f:Str):PySem.W.plainGet K C f=true:=c.pg
def lP(K:PySem.W.Frag)(C:Addr)(f:Str):Prop:=PySem.W.findIn K (.ref C) f=some none
theorem lP.Zv9{K:PySem.W.Frag}{C:Addr}{f:Str}(n:lP K C f):PySem.W.takerIn K C f=some none:=by
 unfold PySem.W.takerIn;rw[show PySem.W.findIn K (.ref C) f=some none from n];rfl
structure Meth(K:PySem.W.Frag)(C:Addr)(m:Str)(f:Addr):Prop where
 at_:PySem.W.findIn K (.ref C) m=some (some (.ref f))
 fn:PySem.W.isFn K (.ref f)=true
 kp:PySem.W.keepIn K (.ref f)=true
section
variable{X:Cx}{pins:List (Addr×Obj)}{σ : St}{H:Hp}{s:Shared}{a C dx:Addr}{fs:List (Str×V)}{f:Str}{v:V}{A:Around}{E:Value->Shared->Prop}
theorem JH{b:Bool}{Q:Value->Shared->Prop}(I:Inv X pins σ H s)(e:H a=some (.ins C dx fs))(c:gS X.K C)(n:lP X.K C f)(l:fs.lookup f=some v)
  (h:∀u s',Inv X pins σ H s'->RelV v u->Q u s'):wpAny (model X.prog X.w) A (getAttr (.ref a) f b) Q E s:=by
 obtain⟨mA,O,r,_,_,_⟩:=pD I.aq e;obtain⟨u,hu,ru⟩:=fR.some_of (v:=v) (o:=mA f) (by rw[<- l];exact r f);exact Uc I.bH O (c.get f) c.hd n hu (Sn ru) (h u _ (I.tok _) ru)
theorem Jw{m:Str}{g:Addr}{pl:Sem Bool}{Q:Value×List Value->Shared->Prop}(I:Inv X pins σ H s)(e:H a=some (.ins C dx fs))(c:gS X.K C)(k:Meth X.K C m g)(l:fs.lookup m=none)
  (h:Q (.ref g,[.ref a]) s):wpAny (model X.prog X.w) A (getMethod (.ref a) m pl) Q E s:=by
 obtain⟨mA,O,r,_,_,_⟩:=pD I.aq e;have hn:mA m=none:=fR.none_of (by rw[<- l];exact r m);exact S3 I.bH O (c.get m) k.at_ k.fn hn h
theorem JD{y:V}{u:Value}{Q:Unit->Shared->Prop}(I:Inv X pins σ H s)(e:H a=some (.ins C dx fs))(c:gS X.K C)(n:lP X.K C f)(hl:fs.length<1000)(ry:RelV y u)
  (h:∀s',Inv X pins σ (upd H a (.ins C dx (fw f y fs))) s'->Q () s'):wpAny (model X.prog X.w) A (setAttr (.ref a) f u) Q E s:=by
 obtain⟨mA,O,r,wi,_,ho⟩:=pD I.aq e;have hz:(fs.map (·.1)).length<=sizeLine:=by rw[aV,fH];lia
 refine UO I.bH O c.sa c.po n.Zv9 c.hd wi hz fun h' O' sb=>h _ ?_;have hd:∃o,h'.get? dx=some o:=let ⟨o,_,_,e',_⟩:=O'.ns;⟨o,e'⟩;refine I.write (x:=a) (e:=dx) (by rw[e];exact True.intro) (.inr ho) (fun b q hb z=>(sb.2 b hb).trans z) hd ?_;refine⟨by rw[Zi O.ne];exact ho,?_,O.ne,O'.obj,_,O'.ns,fun g=>?_,fun g hg=>?_⟩
 ·have:=Jr f y fs;lia
 ·show fR ((fw f y fs).lookup g) (if g=f then some u else mA g)
  rw[Jt];by_cases q:g=f
  ·rw[ah q,ah q];exact ry
  ·rw[af q,af q];exact r g
 ·by_cases q:g=f
  ·rw[q];exact(Bw f y fs).1
  ·refine(Bw f y fs).2 g (wi g fun z=>hg ?_);show(if g=f then some u else mA g)=none
   rw[af q];exact z
theorem Inv.made(I:Inv X pins σ H s):Inv X pins σ (upd (upd H s.heap.objs.size (.own (s.heap.objs.size+1))) (s.heap.objs.size+1) (.ins C s.heap.objs.size []))
  { s with heap:=(s.heap.push PySem.W.emptyDict).push (PySem.W.instObj C s.heap.objs.size) }:=by
 have e1:(s.heap.push PySem.W.emptyDict).get? s.heap.objs.size=some PySem.W.emptyDict:=cb s.heap rfl;have e2:((s.heap.push PySem.W.emptyDict).push (PySem.W.instObj C s.heap.objs.size)).get? (s.heap.objs.size+1)=some (PySem.W.instObj C s.heap.objs.size):=by
  have:=cb (s.heap.push PySem.W.emptyDict) (o:=PySem.W.instObj C s.heap.objs.size) rfl
  rwa [iN] at this
 have e3:(s.heap.push PySem.W.emptyDict).Ns s.heap.objs.size (fun _=>none):=⟨PySem.W.emptyDict,#[],_,e1,rfl,(fun e he=>absurd he (by simp)),fun _=>rfl⟩;have I1:=I.laid (a:=s.heap.objs.size) (o:=.own (s.heap.objs.size+1)) (h':=s.heap.push PySem.W.emptyDict) (t':=s.toks) (fun b u q=>aJ _ q) (az _) ⟨_,e1⟩;refine I1.laid (a:=s.heap.objs.size+1) (o:=.ins C s.heap.objs.size []) (t':=s.toks) (fun b u q=>aJ _ q) (Nat.le_of_eq (iN _ _)) ?_;have ne:s.heap.objs.size≠s.heap.objs.size+1:=bX (gO _);refine⟨by rw[Zi ne,Zc],bi _,ne,e2,fun _=>none,(Heap.Ns1.of_empty e3).at fun o q=>aJ _ q,fun _=>True.intro,fun y hy=>absurd rfl hy⟩
theorem Ui{prog:Program}{w:World}{env:Env}{e:Expr}{f:Str}{pos:Pos}{s:Shared}{Q:Value->Shared->Prop}(hb:attributeBase e f env (eval e env)=eval e env)
  (h:wpAny (model prog w) A (eval e env) (fun o a_=>wpAny (model prog w) A (getAttr o f true) Q E a_) E s):wpAny (model prog w) A (eval (.Attribute e f pos) env) Q E s :=
 Attribute_any_ h (by rw[arm_eval_Attribute,hb])
end
def C7(K:PySem.W.Frag)(ta:TE)(f:Str):TE:=fun σ H Q=>ta σ H fun x H1=>∃a C dx fs v,x=.ref a/\H1 a=some (.ins C dx fs)/\gS K C/\lP K C f/\fs.lookup f=some v/\Q v H1
def Wo(K:PySem.W.Frag)(ta tv:TE)(f:Str):TS:=fun D σ H=>tv σ H fun y H1=>ta σ H1 fun x H2=>∃a C dx fs,x=.ref a/\H2 a=some (.ins C dx fs)/\gS K C/\lP K C f/\fs.length<1000 /\
 D.nx σ (upd H2 a (.ins C dx (fw f y fs)))
def MD(X:Cx)(op:Operator)(rd:V->V->Hp->VK->Prop):Prop :=
 ∀(pins:List (Addr×Obj))(s:Shared)(σ : St)(H:Hp)(x y:V)(u v:Value)(Q:VK),Inv X pins σ H s->RelV x u->RelV y v->rd x y H Q->wpAny (model X.prog X.w) X.A (inplaceOp op u v) (EP X pins σ Q) X.xe s
def Us(K:PySem.W.Frag)(ta tv:TE)(rd:V->V->Hp->VK->Prop)(f:Str):TS:=fun D σ H=>ta σ H fun x H1=>∃a C dx fs v,x=.ref a/\H1 a=some (.ins C dx fs)/\gS K C/\lP K C f/\fs.lookup f=some v /\
 tv σ H1 fun y H2=>rd v y H2 fun z H3=>∃A6 mM,H3 a=some (.ins C A6 mM)/\mM.length<1000/\D.nx σ (upd H3 a (.ins C A6 (fw f z mM)))
section
variable{X:Cx}{o e value:Expr}{f:Str}{pos pos' PF:Pos}{ta tv:TE}
theorem i7(he:PE X e ta)(hb:attributeBase e f X.env (eval e X.env)=eval e X.env):PE X (.Attribute e f pos) (C7 X.K ta f):=by
 intro pins s σ H Q I h;refine Ui hb (aw (he pins s σ H _ I h) fun u s1 ⟨x,H1,I1,rx,a,C,dx,fs,v,ex,ea,c,n,l,q⟩=>?_);subst ex;obtain rfl:u=Value.ref a:=rx;exact JH I1 ea c n l fun u' s2 I2 ru=>⟨v,H1,I2,ru,q⟩
theorem LU(ha:PE X o ta)(hv:PE X value tv)(hs:swapsWith value (some (.Attribute o f pos')) pos.line X.env=pure false):PS X (.Assign [.Attribute o f pos'] value pos) (Wo X.K ta tv f):=by
 intro pins s σ H D I h;refine plainObj_wpAny_Assign_Attribute (aw (hv pins s σ H _ I h) fun u s1 ⟨y,H1,I1,ry,q⟩=>aw (ha pins s1 σ H1 _ I1 q) fun ov s2 ⟨x,H2,I2,rx,a,C,dx,fs,ex,ea,c,n,l,q2⟩=>?_) hs;subst ex;obtain rfl:ov=Value.ref a:=rx;exact JD I2 ea c n l ry fun s3 I3=>⟨σ,_,I3,q2⟩
theorem JW{op:Operator}{rd:V->V->Hp->VK->Prop}(ha:PE X o ta)(hv:PE X value tv)(hop:MD X op rd):PS X (.AugAssign (.Attribute o f PF) op value pos) (Us X.K ta tv rd f):=by
 intro pins s σ H D I h;refine wpAny_AugAssign_AttributeAny (aw (ha pins s σ H _ I h) fun ov s1 ⟨x,H1,I1,rx,a,C,dx,fs,v,ex,ea,c,n,l,q⟩=>?_);subst ex;obtain rfl:ov=Value.ref a:=rx;refine JH I1 ea c n l fun u s2 I2 ru=>aw (hv pins s2 σ H1 _ I2 q) fun w3 s3 ⟨y,H2,I3,ry,q3⟩=>aw (hop pins s3 σ H2 v y u w3 _ I3 ru ry q3) fun w4 s4 ⟨z,H3,I4,rz,A6,mM,P0,l',q4⟩=>?_;exact JD I4 P0 c n l' rz fun s5 I5=>⟨σ,_,I5,q4⟩
def WH:V->V->Hp->VK->Prop:=fun x y H Q=>∃i j,x=.int i/\y=.int j/\Q (.int (i+j)) H
theorem L':MD X .Add WH:=by
 rintro pins s σ H x y u v Q I rx ry ⟨i,j,rfl,rfl,q⟩;obtain⟨t,rfl⟩:=(show ∃t,u=Value.int i t from rx);obtain⟨t',rfl⟩:=(show ∃t',v=Value.int j t' from ry);exact PyProof.Rows.iadd_int ⟨.int (i+j),H,I.tok _,⟨_,rfl⟩,q⟩
end
section
variable{X:Cx}{pins:List (Addr×Obj)}{σ : St}{H:Hp}{s:Shared}{A:Around}{E:Value->Shared->Prop}{Q:Value->Shared->Prop}{c:Value}{b:Bool}
inductive il(K:PySem.W.Frag)(H:Hp):V->Value->Prop where
 | aD:il K H .aD (.type "NoneType")
 | bl (x:Bool):il K H (.bl x) (.type "bool")
 | int (i:Int):il K H (.int i) (.type "int")
 | str (x:Str):il K H (.str x) (.type "str")
 | pT (x:UInt64):il K H (.pT x) (.type "float")
 | lst {a:Addr} {xs:List V} (e:H a=some (.lst xs)):il K H (.ref a) (.type "list")
 | gx {a:Addr} {o:Obj} {xs:List V} (e:H a=some (.gx o (.lst xs))):il K H (.ref a) (.type "list")
 | tup {a:Addr} {xs:List V} (e:H a=some (.tup xs)):il K H (.ref a) (.type "tuple")
 | dK {a:Addr} {aj:List (Key×V)} (e:H a=some (.dK aj)):il K H (.ref a) (.type "dict")
 | dT {a:Addr} {aj:List (List Key×V)} (e:H a=some (.dT aj)):il K H (.ref a) (.type "dict")
 | ins {a C dx:Addr} {fs:List (Str×V)} (e:H a=some (.ins C dx fs)) (cl:gS K C) (ha:PySem.W.findIn K (.ref C) "__class__" = some (some (.builtin "object.__class__")))
   (hn:PySem.W.specialIn K (.builtin "object.__class__") "__get__" = some (some (.builtin "getset_descriptor.__get__"))) (OM:PySem.W.takesIn K (.builtin "object.__class__")=some true)
   (hm:PySem.W.mroIn K C (.type "object")=some true):il K H (.ref a) (.ref C)
theorem Sl{x:V}{u t:Value}(I:Inv X pins σ H s)(rx:RelV x u)(ty:il X.K H x t)(e:PySem.W.kitOne X.K t c=some b)(h:∀tk,Q (.bool b) { s with toks:=tk }) :
  wpAny (model X.prog X.w) A (call (.builtin "isinstance") [u,c]) Q E s:=by
 cases ty with
 | aD=>cases (show u=Value.none from rx);exact j7 PySem.W.kitx_none I.bH True.intro e (fun z=>nomatch z) h
 | bl y=>cases (show u=Value.bool y from rx);exact j7 PySem.W.kitx_bool I.bH True.intro e (fun z=>nomatch z) h
 | int i=>obtain⟨t,q⟩:=(show ∃t,u=Value.int i t from rx);cases q;exact j7 PySem.W.kitx_int I.bH True.intro e (fun z=>nomatch z) h
 | str y=>obtain⟨t,q⟩:=(show ∃t,u=Value.str y t from rx);cases q;exact j7 PySem.W.kitx_str I.bH True.intro e (fun z=>nomatch z) h
 | pT y=>obtain⟨t,q⟩:=(show ∃t,u=Value.float y t from rx);cases q;exact j7 PySem.W.kitx_float I.bH True.intro e (fun z=>nomatch z) h
 | @lst a xs ea =>
  cases (show u=Value.ref a from rx);obtain⟨_,_,n,_,h1⟩:=(show bL X.prog X.w H s.heap a (.lst xs) from I.aq a _ ea);exact j7 PySem.W.kitx_list I.bH ⟨_,h1,rfl⟩ e (fun z=>nomatch z) h
 | @gx a ob xs ea =>
  cases (show u=Value.ref a from rx);obtain⟨_,_,_,n,_,h1⟩:=(show bL X.prog X.w H s.heap a (.gx ob (.lst xs)) from I.aq a _ ea);exact j7 PySem.W.kitx_list I.bH ⟨_,h1,rfl⟩ e (fun z=>nomatch z) h
 | @tup a xs ea =>
  cases (show u=Value.ref a from rx);obtain⟨_,_,_,p⟩:=(show bL X.prog X.w H s.heap a (.tup xs) from I.aq a _ ea);obtain⟨o,h1,h2,_⟩:=p;exact j7 PySem.W.kitx_tuple I.bH ⟨o,h1,h2⟩ e (fun z=>nomatch z) h
 | @dK a aj ea =>
  cases (show u=Value.ref a from rx);obtain⟨_,_,vs,_,p⟩:=(show bL X.prog X.w H s.heap a (.dK aj) from I.aq a _ ea);obtain⟨o,es,ep,h1,h2,_⟩:=p;exact j7 PySem.W.kitx_dict I.bH ⟨o,h1,h2.1⟩ e (fun z=>nomatch z) h
 | @dT a aj ea =>
  cases (show u=Value.ref a from rx);obtain⟨_,_,xs,_,o,es,ep,h1,h2,_⟩:=(show bL X.prog X.w H s.heap a (.dT aj) from I.aq a _ ea);exact j7 PySem.W.kitx_dict I.bH ⟨o,h1,h2.1⟩ e (fun z=>nomatch z) h
 | @ins a C dx fs ea cl ha hn OM hm =>
  cases (show u=Value.ref a from rx);obtain⟨mA,O,_⟩:=pD I.aq ea;obtain⟨od,J,_⟩:=O.look;exact j7 (PySem.W.kitx_own (cl.get _) cl.hd ha hn OM hm) I.bH J e (fun z=>nomatch z) h
end
structure cj(k:Nat)(A:Around):Prop where
 hd:A.handled=none
 dp:A.depth+2*k+5<recursionLimit
 un:A.units+16*k+200<cLine
 gd:A.guards=some []
theorem cj.mono{j k:Nat}{A:Around}(r:cj k A)(h:j<=k):cj j A:=⟨r.hd,by have:=r.dp;lia,by have:=r.un;lia,r.gd⟩
theorem cj.deeper{k:Nat}{A:Around}(r:cj (k+1) A)(env:Env):cj k (A.deeper env) :=
 ⟨r.hd,by have:=r.dp;show A.depth+1+2*k+5<_;lia,by have:=r.un;show A.units+3+16*k+200<_;lia,r.gd⟩
theorem Rx{A:Around}{C:Addr}{us:List Value}{kw:List (Str×Value)}:(A.under (.builtin "type.__call__" ⟨.ref C::us,kw⟩)).depth=A.depth+1:=by
 first|rfl|simp[Around.under,Code.weight,Code.isCreation,Code.isGuard,Code.isCaller,Code.frames,Code.isFrame,guardIds]
theorem R5{A:Around}{C:Addr}{us:List Value}{kw:List (Str×Value)}:(A.under (.builtin "type.__call__" ⟨.ref C::us,kw⟩)).units=A.units+1:=by
 first|rfl|simp[Around.under,Code.cUnits,Code.frames,Code.isFrame]
theorem Rb{A:Around}{C:Addr}{us:List Value}{kw:List (Str×Value)}:(A.under (.builtin "type.__call__" ⟨.ref C::us,kw⟩)).guards=A.guards:=by
 have h:(Code.builtin "type.__call__" ⟨.ref C::us,kw⟩).guards=[]:=by first|rfl|simp[Code.guards,Code.isGuard,guardIds]
 unfold Around.under;dsimp only;rw[h];cases A.guards <;> rfl
theorem cj.make{k:Nat}{A:Around}(r:cj (k+1) A)(C:Addr)(us:List Value)(kw:List (Str×Value)):cj k (A.under (.builtin "type.__call__" ⟨.ref C::us,kw⟩)) :=
 ⟨r.hd,by have:=r.dp;rw[Rx];lia,by have:=r.un;rw[R5];lia,by rw[Rb];exact r.gd⟩
theorem cj.depth{k:Nat}{A:Around}(r:cj k A):A.depth<recursionLimit:=by have:=r.dp;lia
def so:TA:=fun _ H Q=>Q [] H
def uY(ta:TE)(tr:TA):TA:=fun σ H Q=>ta σ H fun x H1=>tr σ H1 fun xs H2=>Q (x::xs) H2
section
variable{X:Cx}{e:Expr}{es:List Expr}{te:TE}{t:TA}{pos:Pos}
theorem Zb:PA X [] so:=fun _ _ _ _ H Q I h=>Calls.spliced_nil ⟨[],H,I,.nil,h⟩
theorem Za(ha:PE X e te)(hr:PA X es t)(hs:starEach (e::es) X.env=(false,eval e X.env)::starEach es X.env:=by rfl):PA X (e::es) (uY te t):=by
 intro pos pins s σ H Q I h;rw[hs];show wpAny _ _ (spliced ((false,eval e X.env)::backTo pos (starEach es X.env))) _ _ s;refine Calls.spliced_cons (aw (ha pins s σ H _ I h) fun u s1 ⟨x,H1,I1,r1,q1⟩=>?_);exact aw (hr pos pins s1 σ H1 _ I1 q1) fun us s2 ⟨xs,H2,I2,r2,q2⟩=>⟨x::xs,H2,I2,.cons r1 r2,q2⟩
def WG(t:TA):TE:=fun σ H Q=>t σ H fun xs H1=>xs.length<=sizeLine/\∀p,H1 p=none->Q (.ref p) (upd H1 p (.tup xs))
def MC(t:TA):TE:=fun σ H Q=>t σ H fun xs H1=>xs.length<=sizeLine/\∀p,H1 p=none->Q (.ref p) (upd H1 p (.lst xs))
theorem cS{x1}(h:PA X es t):PE X (.Tuple es x1 pos) (WG t):=by
 intro pins s σ H Q I hq;refine wpAny_Tuple_spliced (aw (h pos pins s σ H _ I hq) fun us s1 ⟨xs,H1,I1,r,z,q⟩=>⟨by rw[<- r.length];exact z,?_⟩);have hf:H1 s1.heap.objs.size=none:=I1.aq.fresh (az _);refine⟨.ref s1.heap.objs.size,upd H1 s1.heap.objs.size (.tup xs),I1.laid (t':=s1.toks) (fun b u e=>aJ _ e) (az _) ?_,rfl,q _ hf⟩;exact⟨z,us,r,⟨_,cb _ rfl,rfl,_,rfl⟩⟩
theorem dz(h:PA X es t):PE X (.List es pos) (MC t):=by
 intro pins s σ H Q I hq;refine wpAny_List_spliced (aw (h pos pins s σ H _ I hq) fun us s1 ⟨xs,H1,I1,r,z,q⟩=>⟨by rw[<- r.length];exact z,?_⟩);have hf:H1 s1.heap.objs.size=none:=I1.aq.fresh (az _);refine⟨.ref s1.heap.objs.size,upd H1 s1.heap.objs.size (.lst xs),I1.laid (t':=s1.toks) (fun b u e=>aJ _ e) (az _) ?_,rfl,q _ hf⟩;exact⟨z,us,0,r,cb _ rfl⟩
end
abbrev Sp:=List V->Hp->VK->XK->Prop
abbrev ii:=List Env->Hp->Shared->XK->Value->Shared->Prop
structure o8(P:Program)(w:World)(K:PySem.W.Frag)(mg:Str->Option Value)(base:Heap)(A:Around)(outer:List Env)(s:Shared)(H:Hp):Prop where
 frames:A.frames=some outer
 mod:Mod K mg base
 bs:∀b o,base.get? b=some o->s.heap.get? b=some o/\H b=none
 iA:base.objs.size<=s.heap.objs.size
 fU:s.heap.FunFrames base outer
 jN:∀b∈gW outer,H b=none
 aq:bE P w H s.heap
 bare:AllBare s.gens
def CE(outer:List Env)(P:Program)(w:World)(H:Hp)(s:Shared)(Q:VK)(u:Value)(s':Shared):Prop :=
 ∃v H',s'.os=s.os/\AllBare s'.gens/\Un (gW outer) [] H H' s.heap s'.heap/\bE P w H' s'.heap/\RelV v u/\Q v H'
def CR(CX:ii)(outer:List Env)(P:Program)(w:World)(H:Hp)(s:Shared)(Q:VK)(E:XK)(r:Result)(s':Shared):Prop :=
 match r with
 | .ok (.ret u)=>CE outer P w H s Q u s'
 | .ok _=>False
 | .error e=>CX outer H s E e s'
structure aX(P:Program)(w:World)(K:PySem.W.Frag)(mg:Str->Option Value)(base:Heap)(CX:ii)(k:Nat)(f:Addr)(fd:FuncData)(ps:List Str)(sp:Sp):Prop where
 len:∀vs H Q E,sp vs H Q E->vs.length=ps.length
 run:∀(A:Around)(outer:List Env)(s:Shared)(H:Hp)(args:Args)(us:List Value)(vs:List V)(Q:VK)(E:XK),cj k A->o8 P w K mg base A outer s H->BindsTo s fd args (ps.zip us)->Vals vs us->sp vs H Q E ->
  codeAny (model P w) A (.call (.ref f) args) (CR CX outer P w H s Q E) s
theorem o8.make{P:Program}{w:World}{K:PySem.W.Frag}{mg:Str->Option Value}{base:Heap}{A:Around}{outer:List Env}{s:Shared}{H:Hp}(e:o8 P w K mg base A outer s H)(C:Addr)(us:List Value)(kw:List (Str×Value)) :
  o8 P w K mg base (A.under (.builtin "type.__call__" ⟨.ref C::us,kw⟩)) outer s H:=⟨by first|exact e.frames|(simpa[Around.under,Code.envs,Code.isFrame,pushEnvs] using e.frames),e.mod,e.bs,e.iA,e.fU,e.jN,e.aq,e.bare⟩
section
variable{X:Cx}{pins:List (Addr×Obj)}{σ : St}{H:Hp}{s s':Shared}
theorem Inv.ET(I:Inv X pins σ H s):o8 X.prog X.w X.K X.mg X.base X.A X.stack s H :=
 ⟨I.ok.frames,I.ok.mod,I.bs,cY I.ok.iA I.sz,I.stack,I.Hd,I.aq,I.bare⟩
theorem Inv.after{Q:VK}{u:Value}(I:Inv X pins σ H s)(h:CE X.stack X.prog X.w H s Q u s'):EP X pins σ Q u s':=by
 obtain⟨v,H',os,bare,un,aq,r,q⟩:=h;obtain⟨hh,g,d,t,gi⟩:=s';obtain rfl:gi=s.os:=os;exact⟨v,H',I.call (h':=hh) (g':=g) (d':=d) (t':=t) (ch:=[]) un aq bare (fun b z=>absurd z (by simp)),r,q⟩
end
def MF(sp:Sp)(dQ:List V)(E:XK)(t:TA):TE:=fun σ H Q=>t σ H fun vs H1=>sp (vs++dQ) H1 Q E
def yC(C:Addr)(m:Str)(sp:Sp)(dQ:List V)(E:XK)(ta:TE)(t:TA):TE:=fun σ H Q=>ta σ H fun x H1=>∃a dx fs,x=.ref a/\H1 a=some (.ins C dx fs)/\fs.lookup m=none /\
 t σ H1 fun vs H2=>sp (x::(vs++dQ)) H2 Q E
def Mg(C:Addr)(sp:Sp)(dQ:List V)(E:XK)(t:TA):TE:=fun σ H Q=>t σ H fun vs H1=>∀x dx,H1 x=none->H1 dx=none->dx≠x ->
 sp (.ref x::(vs++dQ)) (upd (upd H1 dx (.own x)) x (.ins C dx [])) (fun v H2=>v=.aD/\Q (.ref x) H2) E
def Binds(K:PySem.W.Frag)(fd:FuncData)(ps:List Str)(ds:List Value):Prop :=
 ∀(s:Shared)(us:List Value),K.In s.heap->(us++ds).length=ps.length->BindsTo s fd ⟨us,[]⟩ (ps.zip (us++ds))
theorem Binds.all{K:PySem.W.Frag}{fd:FuncData}{ps:List Str}(h:∀us:List Value,us.length=ps.length->bindArgs fd ⟨us,[]⟩=pure (ps.zip us)):Binds K fd ps []:=fun s us _ hl=>by
 rw[iO] at hl ⊢;exact .of_eq (h us hl)
def pH(CX:ii)(X:Cx)(E:XK):Prop := ∀(pins:List (Addr×Obj))(σ : St)(H:Hp)(s:Shared)(e:Value)(s':Shared),Inv X pins σ H s->CX X.stack H s E e s'->X.xe e s'
section
variable{X:Cx}{CX:ii}{k:Nat}{f C:Addr}{fd:FuncData}{ps:List Str}{sp:Sp}{dQ:List V}{ds:List Value}{E:XK}{x m:Str}{p pos apos:Pos}{e o:Expr}{es:List Expr}{ta:TE}{t:TA}
theorem CD{pins:List (Addr×Obj)}{σ : St}{H:Hp}{s:Shared}{Q:VK}{us:List Value}{vs:List V}(F:aX X.prog X.w X.K X.mg X.base CX k f fd ps sp)(hr:cj k X.A)(hb:Binds X.K fd ps ds)(hd:Vals dQ ds)(hx:pH CX X E)
  (I:Inv X pins σ H s) (r:Vals vs us) (h:sp (vs++dQ) H Q E):wpAny (model X.prog X.w) X.A (call (.ref f) us) (EP X pins σ Q) X.xe s:=by
 have r2:Vals (vs++dQ) (us++ds):=r.append hd;have hl:(us++ds).length=ps.length:=by rw[<- r2.length];exact F.len _ _ _ _ h
 refine wpAny_call (oN (F.run X.A X.stack s H ⟨us,[]⟩ (us++ds) (vs++dQ) Q E hr I.ET (hb s us I.bH hl) r2 h) fun r s' hq=>?_);cases r with
 | error e=>exact hx pins σ H s e s' I hq
 | ok fl =>
  cases fl with
  | ret u=>exact I.after hq
  | next=>exact False.elim hq
  | brk=>exact False.elim hq
  | cont=>exact False.elim hq
theorem UL(F:aX X.prog X.w X.K X.mg X.base CX k f fd ps sp)(hr:cj k X.A)(hg:Gl X x)(hm:X.mg x=some (.ref f))(hk:PySem.W.keepIn X.K (.ref f)=true)(hb:Binds X.K fd ps ds)(hd:Vals dQ ds)(hx:pH CX X E)
  (ha:PA X (e::es) t) (gB:(x == ("__debug__" : Str))=false:=by decide) (he:starEach (e::es) X.env=(false,eval e X.env)::starEach es X.env:=by rfl) (aR:(backTo pos (starEach es X.env)).any (·.1)=false:=by rfl) :
  PE X (.Call (.Name x p) (e::es) [] pos) (MF sp dQ E t):=by
 intro pins s σ H Q I h;refine lj (uG I hg hm ?_ gB);refine xl (h₀ := X.base) I.ok.mod.qw hk (aw (ha pos pins s σ H _ I h) fun us s1 ⟨vs,H1,I1,r,q⟩=>⟨I1.bH,?_⟩) he aR;exact CD F hr hb hd hx I1 r q
theorem UC{pl:Sem Bool}(he:PE X o ta)(c:gS X.K C)(hm:Meth X.K C m f)(F:aX X.prog X.w X.K X.mg X.base CX k f fd ps sp)(hr:cj k X.A)(hb:Binds X.K fd ps ds)(hd:Vals dQ ds)(hx:pH CX X E)(ha:PA X (e::es) t)
  (dh:starEach (e::es) X.env=(false,eval e X.env)::starEach es X.env:=by rfl) (aR:(backTo pos (starEach es X.env)).any (·.1)=false:=by rfl)
  (ht:eval (.Call (.Attribute o m apos) (e::es) [] pos) X.env=(do
   let ov <- eval o X.env
   standAt apos.atName
   let (f,first) <- holding [ov] (getMethod ov m pl)
   callWith pos f first (backTo pos (starEach (e::es) X.env)) (backToKw pos (keywordEach [] X.env))):=by rfl) :
  PE X (.Call (.Attribute o m apos) (e::es) [] pos) (yC C m sp dQ E ta t):=by
 intro pins s σ H Q I h;refine PySem.W.methodCall_KW (pl:=pl) (aw (he pins s σ H _ I h) fun u s1 ⟨x,H1,I1,rx,a,dx,fs,ex,ea,l,q⟩=>?_) ht;subst ex;obtain rfl:u=Value.ref a:=rx;refine Jw I1 ea c hm l ?_;refine xl (first:=[.ref a]) (h₀ := X.base) I.ok.mod.qw hm.kp (aw (ha pos pins s1 σ H1 _ I1 q) fun us s2 ⟨vs,H2,I2,r,q2⟩=>⟨I2.bH,?_⟩) dh aR
 exact CD (us:=.ref a::us) (vs:=.ref a::vs) F hr hb hd hx I2 (.cons rfl r) q2
theorem SK{pl:Sem Bool}(he:PE X o ta)(c:gS X.K C)(hm:Meth X.K C m f)(F:aX X.prog X.w X.K X.mg X.base CX k f fd ps sp)(hr:cj k X.A)(hb:Binds X.K fd ps ds)(hd:Vals dQ ds)(hx:pH CX X E)
  (ht:eval (.Call (.Attribute o m apos) [] [] pos) X.env=(do
   let ov <- eval o X.env
   standAt apos.atName
   let (f,first) <- holding [ov] (getMethod ov m pl)
   callWith pos f first (backTo pos (starEach [] X.env)) (backToKw pos (keywordEach [] X.env))):=by rfl) :
  PE X (.Call (.Attribute o m apos) [] [] pos) (yC C m sp dQ E ta so):=by
 intro pins s σ H Q I h;refine PySem.W.methodCall_KW (pl:=pl) (aw (he pins s σ H _ I h) fun u s1 ⟨x,H1,I1,rx,a,dx,fs,ex,ea,l,q⟩=>?_) ht;subst ex;obtain rfl:u=Value.ref a:=rx;refine Jw I1 ea c hm l ?_;exact PySem.W.callWith_K0 (first:=[.ref a]) I1.bH hm.kp (CD (us:=[.ref a]) (vs:=[.ref a]) F hr hb hd hx I1 (.cons rfl .nil) q)
structure Mk(K:PySem.W.Frag)(C f:Addr):Prop where
 makes:PySem.W.makesIn K C=true
 init:PySem.W.findIn K (.ref C) "__init__" = some (some (.ref f))
 fn:PySem.W.isFn K (.ref f)=true
 kp:PySem.W.keepIn K (.ref C)=true
theorem Tz{pins:List (Addr×Obj)}{σ : St}{H:Hp}{s:Shared}{Q:VK}{us:List Value}{vs:List V}(M:Mk X.K C f)(F:aX X.prog X.w X.K X.mg X.base CX k f fd ps sp)(hr:cj (k+1) X.A)(hb:Binds X.K fd ps ds)(hd:Vals dQ ds)
  (hx:pH CX X E) (I:Inv X pins σ H s) (r:Vals vs us)
  (h:∀x dx,H x=none->H dx=none->dx≠x->sp (.ref x::(vs++dQ)) (upd (upd H dx (.own x)) x (.ins C dx [])) (fun v H2=>v=.aD/\Q (.ref x) H2) E) :
  wpAny (model X.prog X.w) X.A (call (.ref C) us) (EP X pins σ Q) X.xe s:=by
 have hq:=h (s.heap.objs.size+1) s.heap.objs.size (I.aq.fresh (h_ _)) (I.aq.fresh (az _)) (bX (gO _));have I2:=Inv.made (C:=C) I;have r2:Vals (V.ref (s.heap.objs.size+1)::(vs++dQ)) (Value.ref (s.heap.objs.size+1)::(us++ds)):=.cons rfl (r.append hd);have hl:(Value.ref (s.heap.objs.size+1)::us++ds).length=ps.length:=by
  have e:=r2.length;rw[F.len _ _ _ _ hq] at e;exact e.symm
 refine wpAny_call (Tq (f:=f) I.bH M.makes M.init (j8.mp M.fn) (oN (F.run _ X.stack _ _ ⟨Value.ref (s.heap.objs.size+1)::us,[]⟩ (Value.ref (s.heap.objs.size+1)::(us++ds)) _ _ E (hr.make C us [])
  (I2.ET.make C us []) (hb _ (Value.ref (s.heap.objs.size+1)::us) I2.bH hl) r2 hq) fun r s' lC=>?_))
 cases r with
 | error e=>exact hx pins σ _ _ e s' I2 lC
 | ok fl =>
  cases fl with
  | ret u =>
   obtain⟨v,H',I3,rv,ev,q3⟩:=I2.after lC;subst ev;exact⟨rv,⟨V.ref (s.heap.objs.size+1),H',I3,rfl,q3⟩⟩
  | next=>exact False.elim lC
  | brk=>exact False.elim lC
  | cont=>exact False.elim lC
theorem UQ(M:Mk X.K C f)(F:aX X.prog X.w X.K X.mg X.base CX k f fd ps sp)(hr:cj (k+1) X.A)(hg:Gl X x)(hm:X.mg x=some (.ref C))(hb:Binds X.K fd ps ds)(hd:Vals dQ ds)(hx:pH CX X E)
  (ha:PA X (e::es) t) (gB:(x == ("__debug__" : Str))=false:=by decide) (he:starEach (e::es) X.env=(false,eval e X.env)::starEach es X.env:=by rfl) (aR:(backTo pos (starEach es X.env)).any (·.1)=false:=by rfl) :
  PE X (.Call (.Name x p) (e::es) [] pos) (Mg C sp dQ E t):=by
 intro pins s σ H Q I h;refine lj (uG I hg hm ?_ gB);refine xl (h₀ := X.base) I.ok.mod.qw M.kp (aw (ha pos pins s σ H _ I h) fun us s1 ⟨vs,H1,I1,r,q⟩=>⟨I1.bH,?_⟩) he aR;exact Tz M F hr hb hd hx I1 r q
end
structure bY(N P:List Str)(sc:Scope):Prop where
 kind:sc.kind=.function
 co:sc.isCoroutine=false
 gen:sc.isGenerator=false
 nd:N.Nodup
 pre:N.take P.length=P
 Pk:∀x∈P,sc.names.lookup x=some .local\/sc.names.lookup x=some .cell
 Cr:∀y∈sc.names,y.2 ≠ .free
theorem J'{kindOf:Str->Option NameKind}{x:Str}:∀{binds:List (Str×Value)}{m:Str->Option Value},(∀v,(x,v)∉binds)->bindL kindOf binds m x=m x
 | [],_,_=>rfl
 | (n,v)::r,m,h=>by
  unfold bindL;rw[J' fun w hw=>h w (aW _ hw)]
  split
  ·have:x≠n:=by rintro rfl;exact h v ba
   simp[this]
  ·rfl
theorem JY{kindOf:Str->Option NameKind}{x:Str}:∀{binds:List (Str×Value)}{m:Str->Option Value},(∀v,(x,v)∉binds)->bindC kindOf binds m x=m x
 | [],_,_=>rfl
 | (n,v)::r,m,h=>by
  unfold bindC;rw[JY fun w hw=>h w (aW _ hw)]
  split
  ·rfl
  ·have:x≠n:=by rintro rfl;exact h v ba
   simp[this]
theorem J9{kindOf:Str->Option NameKind}{x:Str}{v:Value}:∀{P:List Str}{vs:List Value}{i:Nat}{m:Str->Option Value},P.Nodup->P[i]?= some x->vs[i]?= some v->kindOf x=some .local ->
  bindL kindOf (P.zip vs) m x=some v
 | [],_,_,_,_,h,_,_=>by simp at h
 | _::_,[],_,_,_,_,h,_=>by simp at h
 | p::P,w::vs,0,m,nd,h1,h2,hk=>by
  simp at h1 h2;subst h1;subst h2;show bindL kindOf ((p,w)::P.zip vs) m p=_;unfold bindL;rw[J' fun v hv=>(dN.mp nd).1 (List.of_mem_zip hv).1,ah hk];simp
 | p::P,w::vs,i+1,m,nd,h1,h2,hk=>by
  show bindL kindOf ((p,w)::P.zip vs) m x=_;unfold bindL;exact J9 (i:=i) (dN.mp nd).2 (by simpa using h1) (by simpa using h2) hk
theorem JZ{kindOf:Str->Option NameKind}{x:Str}{v:Value}:∀{P:List Str}{vs:List Value}{i:Nat}{m:Str->Option Value},P.Nodup->P[i]?= some x->vs[i]?= some v->kindOf x≠some .local ->
  bindC kindOf (P.zip vs) m x=some v
 | [],_,_,_,_,h,_,_=>by simp at h
 | _::_,[],_,_,_,_,h,_=>by simp at h
 | p::P,w::vs,0,m,nd,h1,h2,hk=>by
  simp at h1 h2;subst h1;subst h2;show bindC kindOf ((p,w)::P.zip vs) m p=_;unfold bindC;rw[JY fun v hv=>(dN.mp nd).1 (List.of_mem_zip hv).1,af hk];simp
 | p::P,w::vs,i+1,m,nd,h1,h2,hk=>by
  show bindC kindOf ((p,w)::P.zip vs) m x=_;unfold bindC;exact JZ (i:=i) (dN.mp nd).2 (by simpa using h1) (by simpa using h2) hk
def start(N:List Str)(vs:List V):St:=vs.map some++List.replicate (N.length-vs.length) none
def lR(CX:ii)(P:Program)(w:World)(K:PySem.W.Frag)(mg:Str->Option Value)(base:Heap)(N:List Str)(qual:Str)(scope:Scope)(f:Addr)(cd:Value)(A:Around)(outer:List Env)(s:Shared)(H:Hp)(E:XK):Cx where
 prog:=P
 w:=w
 K:=K
 mg:=mg
 base:=base
 A:=A.deeper (envOfC qual scope s.heap.objs.size f cd)
 N:=N
 dj := s
 qS := H
 env:=envOfC qual scope s.heap.objs.size f cd
 outer:=outer
 stack:=envOfC qual scope s.heap.objs.size f cd::outer
 ex:=[]
 calm:=true
 fn:=fun _=>true
 pn:=[]
 xe:=fun e s'=>wpAny (model P w) (A.deeper (envOfC qual scope s.heap.objs.size f cd)) (leaving (envOfC qual scope s.heap.objs.size f cd) e) (fun _ Bd=>CX outer H s E e Bd) (fun e' Bd=>CX outer H s E e' Bd) s'
theorem KC{sc:Scope}{n:Nat}{x:Str}(h:sc.names.lookup x=some .cell):∃c,(cellsFrom n sc.names []).lookup x=some c:=by
 have q:=PySem.W.cellsFrom_some sc.names n [] (.inl h);exact Option.isSome_iff_exists.mp q
theorem Sr{CX:ii}{P:Program}{w:World}{K:PySem.W.Frag}{mg:Str->Option Value}{base:Heap}{N ps:List Str}{qual:Str}{scope:Scope}{f:Addr}{cd:Value}{A:Around}{outer:List Env}{s s1:Shared}{H:Hp}{E:XK}{us:List Value}{vs:List V}
  (S:bY N ps scope) (hd:A.handled=none) (e0:o8 P w K mg base A outer s H) (hl:vs.length=ps.length) (r:Vals vs us)
  (x:InCallC s s.heap.objs.size (bindL (envOfC qual scope s.heap.objs.size f cd).kindOf (ps.zip us) fun _=>none) (cellsFrom (s.heap.objs.size+1) scope.names []) (bindC (envOfC qual scope s.heap.objs.size f cd).kindOf (ps.zip us) fun _=>none) s1) :
  Inv (lR CX P w K mg base N qual scope f cd A outer s H E) [] (start N vs) H s1:=by
 have aR:ps.length<=N.length:=by have:=congrArg List.length S.pre;rw[dM] at this;lia
 obtain⟨h1,tk,rfl,hk⟩:=x.done;have wD:∀b:Addr,b∉(lR CX P w K mg base N qual scope f cd A outer s H E).ex:=fun b z=>absurd (show b∈([]:List Addr) from z) (by simp);refine⟨⟨e0.mod,S.kind,rfl,rfl,az _,fun y z c h1 h2=>?_,fun y hy=>?_,fun y c _ h=>?_,fun _=>hd,Around.frames_deeper e0.frames,.inr ⟨rfl,rfl⟩,fun b z=>absurd z (wD b),e0.bs,e0.iA,fun b _ _=>wD b,fun b z=>absurd z (wD b),e0.fU,e0.jN⟩,
  rfl,e0.bare,Un.kept hk,⟨_,x.toInCall.ns,fun i y v h1 h2 h3=>?_⟩,fun y c h=>⟨_,x.cell y c h⟩,e0.aq.fresh (az _),fun y c h=>?_,fun p hp=>absurd (show p∈([]:List (Addr×Obj)) from hp) (by simp),e0.aq.kept hk,?_⟩
 ·exact name_of_addr x.apart (xm h1) (xm h2)
 ·have hy:scope.names.lookup y=some .cell\/scope.names.lookup y=some .free:=hy;rcases hy with hy|hy
  ·exact KC hy
  ·exact absurd rfl (S.Cr _ (xm hy))
 ·exact lg (x.above y c (xm h))
 ·have hi:i<vs.length:=by
   unfold start at h2;by_cases hi:i<vs.length
   ·exact hi
   ·rw[mE (by simpa using hi)] at h2;rw[List.getElem?_replicate] at h2
    split at h2 <;> cases h2
  have ha:vs[i]?= some v:=by
   unfold start at h2;rw[oC (by simpa using hi),f'] at h2;cases e:vs[i]? with
   | none=>rw[e] at h2;cases h2
   | some a=>rw[e] at h2;cases h2;rfl
  obtain⟨u,hu,rv⟩:=r.get ha;have hp:ps[i]?= some y:=by
   rw[<- S.pre,qM (by lia)];exact h1
  have O_:ps.Nodup:=by rw[<- S.pre];exact S.nd.sublist (xf _ _)
  refine⟨u,rv,?_⟩;rcases S.Pk y (cP hp) with k|k
  ·exact .inl ⟨k,J9 O_ hp hu k⟩
  ·obtain⟨c,e⟩:=KC (n:=s.heap.objs.size+1) k;refine .inr ⟨.inl k,c,e,?_⟩;have q:=x.cell y c e;rw[JZ O_ hp hu (by show scope.names.lookup y≠_;rw[k];decide)] at q;exact q
 ·exact e0.aq.fresh (lg (x.above y c (xm h)))
 ·unfold start;show _=N.length;rw[bu,aV,w8];lia
theorem Me{CX:ii}{P:Program}{w:World}{K:PySem.W.Frag}{mg:Str->Option Value}{base:Heap}{k:Nat}{f:Addr}{name qual:Str}{params:Arguments}{body:List Stmt}{scope:Scope}{dV kV doc pm aK ct oc:Value}{an od:Option Addr}
  {mw:Array (Option Value)} {N ps:List Str} {sp:Sp} (lk:K.lookup f=some ⟨oc,od,.func (PySem.W.fnOf name qual params body scope dV kV doc pm an aK ct),mw⟩) (cW:PySem.W.codeIn K aK qual=true) (S:bY N ps scope)
  (len:∀vs H Q E,sp vs H Q E->vs.length=ps.length)
  (vH:∀(A:Around)(outer:List Env)(s:Shared)(H:Hp)(vs:List V)(Q:VK)(E:XK),cj k (A.deeper (envOfC qual scope s.heap.objs.size f aK))->sp vs H Q E ->
   ∃t,cJ (lR CX P w K mg base N qual scope f aK A outer s H E) body t/\t { nx:=fun _ H'=>Q .aD H',rt:=Q } (start N vs) H) :
  aX P w K mg base CX (k+1) f (PySem.W.fnOf name qual params body scope dV kV doc pm an aK ct) ps sp:=by
 refine⟨len,fun A outer s H args us vs Q E hr e0 hb r je=>?_⟩;have hl:=len _ _ _ _ je;have KX:K.In s.heap:=e0.mod.qw.keeps fun b o e=>(e0.bs b o e).1;have lim:s.heap.NoLimit:=e0.mod.nolimit.keeps fun b o e=>(e0.bs b o e).1;have Zrt:∀y∈ps.zip us,scope.names.lookup y.1=some .local\/(scope.names.lookup y.1=some .cell/\((cellsFrom (s.heap.objs.size+1) scope.names []).lookup y.1).isSome=true):=fun⟨n,v⟩ hy=>by
  rcases S.Pk n (List.of_mem_zip hy).1 with q|q
  ·exact .inl q
  ·exact .inr ⟨q,PySem.W.cellsFrom_some _ _ _ (.inl q)⟩
 refine codeAny_call_function hr.depth (KX _ _ lk) rfl S.co S.gen rfl (PySem.W.codeRec_of KX cW) (hb _ _ _ _ ?_);refine wpAny_newFunctionEnv_cells S.kind Zrt fun env he s1 x=>?_;subst he;refine⟨lim.keeps x.toInCall.keep,codeAny_func ?_⟩;obtain⟨t,ht,hq⟩:=vH A outer s H vs Q E (hr.deeper _) je;have I:Inv (lR CX P w K mg base N qual scope f aK A outer s H E) [] (start N vs) H s1:=Sr S hr.hd e0 hl r x;refine eI (ht [] s1 (start N vs) H _ I hq) (fun fl s' hs=>?_) fun e s' hs=>hs;have fin:∀{ao:St}{H':Hp}{v:V}{u:Value},Inv (lR CX P w K mg base N qual scope f aK A outer s H E) [] ao H' s'->RelV v u->Q v H'->CE outer P w H s Q u s' :=
  fun{ao H' v u} J rv q=>⟨v,H',J.os,J.bare,J.base,J.aq,rv,q⟩
 cases fl with
 | ret u =>
  obtain⟨v,ao,H',J,rv,q⟩:=hs;exact fin J rv q
 | next =>
  obtain⟨ao,H',J,q⟩:=hs;exact fin (v:=V.aD) (u:=Value.none) J rfl q
 | brk =>
  obtain⟨_,_,_,q⟩:=hs;exact False.elim q
 | cont =>
  obtain⟨_,_,_,q⟩:=hs;exact False.elim q
section
variable{X:Cx}{x:Str}{p pos:Pos}{e:Expr}{es:List Expr}{t:TA}{id T:String}{r:List V->Hp->VK->Prop}
def Pz(r:List V->Hp->VK->Prop)(t:TA):TE:=fun σ H Q=>t σ H fun vs H1=>r vs H1 Q
theorem ZF(hc:fO X (.builtin id) r)(hg:Gl X x)(hm:X.mg x=none)(hv:bootBuiltins x=some (.builtin id))(ha:PA X (e::es) t)(hn:x ≠ "__name__" := by decide) (gB:(x == ("__debug__" : Str))=false:=by decide)
  (he:starEach (e::es) X.env=(false,eval e X.env)::starEach es X.env:=by rfl) (aR:(backTo pos (starEach es X.env)).any (·.1)=false:=by rfl):PE X (.Call (.Name x p) (e::es) [] pos) (Pz r t):=by
 intro pins s σ H Q I h;refine lj (lQ I hg hm hv ?_ hn gB);exact PyProof.Rows.callWith_builtin1 (aw (ha pos pins s σ H _ I h) fun us s1 ⟨vs,H1,I1,r1,q1⟩=>hc pins s1 σ H1 vs us Q I1 r1 q1) he aR
theorem ZX(hc:fO X (.type T) r)(hg:Gl X x)(hm:X.mg x=none)(hv:bootBuiltins x=some (.type T))(ha:PA X (e::es) t)(hn:x ≠ "__name__" := by decide) (gB:(x == ("__debug__" : Str))=false:=by decide)
  (he:starEach (e::es) X.env=(false,eval e X.env)::starEach es X.env:=by rfl) (aR:(backTo pos (starEach es X.env)).any (·.1)=false:=by rfl):PE X (.Call (.Name x p) (e::es) [] pos) (Pz r t):=by
 intro pins s σ H Q I h;refine lj (lQ I hg hm hv ?_ hn gB);exact tZ (aw (ha pos pins s σ H _ I h) fun us s1 ⟨vs,H1,I1,r1,q1⟩=>hc pins s1 σ H1 vs us Q I1 r1 q1) he aR
end
end L2
namespace HT
open PySem PyProof.Rows
section
variable{prog:Program}{w:World}{A:Around}{E:Value->Shared->Prop}{s:Shared}
def aP(n d:Nat):Option Int->Nat
 | none=>d
 | some v=>if v<0 then(v+(n:Int)).toNat else min v.toNat n
theorem Ks(n d:Nat):aP n d none=d:=rfl
theorem yb(n d k:Nat):aP n d (some (k:Int))=min k n:=by
 show(if(k:Int)<0 then((k:Int)+(n:Int)).toNat else min (k:Int).toNat n)=min k n
 rw[af (by lia),tM]
theorem VB(n d:Nat)(hd:d<=n)(o:Option Int):aP n d o<=n:=by
 cases o with
 | none=>exact hd
 | some v =>
  show(if v<0 then(v+(n:Int)).toNat else min v.toNat n)<=n
  by_cases hv:v<0
  ·rw[ah hv];lia
  ·rw[af hv];exact Nat.min_le_right _ _
theorem Lc(v:Int)(n d:Nat):(if v<0 then max (v+(n:Int)) 0 else min v (n:Int))=((aP n d (some v):Nat):Int):=by
 show(if v<0 then max (v+(n:Int)) 0 else min v (n:Int))=(((if v<0 then(v+(n:Int)).toNat else min v.toNat n):Nat):Int)
 by_cases hv:v<0
 ·simp only[ah hv];lia
 ·simp only[af hv];lia
theorem Rh(lo hi:Option Int)(n:Nat):Builtin.Slice.sliceAdjust lo hi 1 (n:Int)=(((aP n 0 lo:Nat):Int),((aP n n hi:Nat):Int)):=by
 have h1 : ¬ ((1:Int)<0):=by lia
 unfold Builtin.Slice.sliceAdjust;simp only[h1,ie];refine Prod.ext ?_ ?_
 ·cases lo with
  | none=>rfl
  | some v=>exact Lc v n 0
 ·cases hi with
  | none=>rfl
  | some v=>exact Lc v n n
theorem R3(i j:Nat):Builtin.Slice.slicePlaces (i:Int) (j:Int) 1=j-i:=by
 unfold Builtin.Slice.slicePlaces;have h1:(1:Int) > 0:=by lia
 simp only[h1,gQ,Int.ediv_one]
 split <;> lia
theorem JA{v:Value}{o:Option Int}{Q:Option Int->Shared->Prop}(p:IsPart v o)(h:Q o s):wpAny (model prog w) A (Builtin.Slice.slicePartIndex v) Q E s:=by
 cases p with
 | none=>exact slicePart_none h
 | int i t=>exact slicePart_int h
theorem IV{sl:Addr}{vl vu:Value}{lo hi:Option Int}{n:Nat}{Q:Int×Int×Nat->Shared->Prop}(hs:s.heap.IsSliceOf sl vl vu .none)(pl:IsPart vl lo)(pu:IsPart vu hi)
  (h:Q (((aP n 0 lo:Nat):Int),1,aP n n hi-aP n 0 lo) s):wpAny (model prog w) A (Builtin.Slice.sliceApplied (.ref sl) (pure (n:Int))) Q E s:=by
 obtain⟨os,mi,vK,vO⟩:=id hs;unfold Builtin.Slice.sliceApplied Builtin.Slice.sliceFields;refine ae (ae (lm mi vO (x:=vl) rfl (ae (lm mi vO (x:=vu) rfl (ae (lm mi vO (x:=.none) rfl (ai ?_)))))));refine ae (slicePart_none ?_);show wpAny _ _ (if((1:Int) == 0)=true then _ else _) _ _ s
 rw[af (by decide)];refine ae (JA pl (ae (JA pu (ae (ai ?_)))));show wpAny _ _ (match Builtin.Slice.sliceAdjust lo hi 1 (n:Int) with|(lo,hi)=>pure (lo,(1:Int),Builtin.Slice.slicePlaces lo hi 1)) _ _ s
 rw[Rh lo hi n];show wpAny _ _ (pure (((aP n 0 lo:Nat):Int),(1:Int),Builtin.Slice.slicePlaces ((aP n 0 lo:Nat):Int) ((aP n n hi:Nat):Int) 1)) _ _ s;rw[R3];exact ai h
theorem T5(xs:Array Value)(i k:Nat):((List.range k).filterMap fun(m:Nat)=>xs[((i:Int)+(m:Int)*1).toNat]?).toArray=((xs.toList.drop i).take k).toArray:=by
 have e:(fun(m:Nat)=>xs[((i:Int)+(m:Int)*1).toNat]?)=fun m=>xs[i+m]? := by
  funext m
  have:((i:Int)+(m:Int)*1).toNat=i+m:=by lia
  rw[this]
 rw[e];have:=pick_run xs i k;rw[List.filterMap_map] at this;have e2:((fun x=>xs[x]?) ∘ fun x=>i+x)=fun m=>xs[i+m]? := rfl;rw[e2] at this;rw[this]
theorem Qq{t sl:Addr}{items:Array Value}{vl vu:Value}{lo hi:Option Int}{Q:Value->Shared->Prop}(ht:IsTup s.heap t items)(hs:s.heap.IsSliceOf sl vl vu .none)(pl:IsPart vl lo)(pu:IsPart vu hi)
  (hw : ¬ (aP items.size 0 lo=0/\aP items.size items.size hi=items.size))
  (h:Q (.ref s.heap.objs.size) { s with heap:=s.heap.push { cls:=.type "tuple",data:=.seq ((items.toList.drop (aP items.size 0 lo)).take (aP items.size items.size hi-aP items.size 0 lo)).toArray } })
  (hsz:items.size<=sizeLine):wpAny (model prog w) A (getItem (.ref t) (.ref sl)) Q E s:=by
 have zV:sizeOk (.seq ((items.toList.drop (aP items.size 0 lo)).take (aP items.size items.size hi-aP items.size 0 lo)).toArray):=by
  show((items.toList.drop (aP items.size 0 lo)).take (aP items.size items.size hi-aP items.size 0 lo)).toArray.size<=sizeLine;rw[bW,dM,dE,aA];lia
 have hj:aP items.size items.size hi<=items.size:=VB _ _ (az _) hi;obtain⟨os,mi,vK,vO⟩:=id hs;have iD:s.TypeIs (.ref sl) "slice" := ⟨os,mi,vK⟩;unfold getItem
 try with_reducible refine iR ?_
 first|refine ae (ai ?_)|skip
 refine ae (wpAny_sequenceKey ht.typeIs (by decide) ?_);refine ae (t9 (name:=Str.ofString "__getitem__") ht.typeIs t4
  (ll t4 ht.typeIs entry_tuple_getitem ?_ (args_tuple_getitem _ _)))
 show wpAny _ _ (Builtin.Tuple.tupleItemsOf (.ref t) >>= _) _ _ s;refine ae (tupleItemsOf_ ht ?_);refine ae (qQ iD ?_);rw[ah (by decide)];refine ae (IV hs pl pu ?_);have fh : ¬ ((((aP items.size 0 lo:Nat):Int) == 0&&(1:Int) == 1&&(aP items.size items.size hi-aP items.size 0 lo) == items.size)=true):=by
  intro q;rw[cO,cO] at q;have q1:((aP items.size 0 lo:Nat):Int)=0:=eq_of_beq q.1.1;have q2:aP items.size items.size hi-aP items.size 0 lo=items.size:=eq_of_beq q.2;exact hw ⟨by lia,by lia⟩
 show wpAny _ _ (if(((aP items.size 0 lo:Nat):Int) == 0&&(1:Int) == 1&&(aP items.size items.size hi-aP items.size 0 lo) == items.size)=true then _ else _) _ _ s
 rw[af fh,T5]
 first
  | exact ae (m:=Builtin.Tuple.tupleExact _) (iS (ai ⟨_,rfl,ai h⟩) zV)
  | exact ae (m:=Builtin.Tuple.tupleExact _) (iS (ae (ai (ai ⟨_,rfl,ai h⟩))) zV)
  | exact ae (ae (m:=Builtin.Tuple.tupleExact _) (iS (ai (ai ⟨_,rfl,ai h⟩)) zV))
  | exact ae (ae (m:=Builtin.Tuple.tupleExact _) (iS (ai ⟨_,rfl,ai h⟩) zV))
end
end HT
namespace L2
open PySem PySem.Spec PyProof.Rows
abbrev TO:=St->Hp->(Option Int->Hp->Prop)->Prop
def PO(X:Cx)(e:Option Expr)(t:TO):Prop :=
 ∀(pins:List (Addr×Obj))(s:Shared)(σ : St)(H:Hp)(Q:Option Int->Hp->Prop),Inv X pins σ H s->t σ H Q ->
  wpAny (model X.prog X.w) X.A (evalPart e X.env) (fun u s'=>∃o H',Inv X pins σ H' s'/\IsPart u o/\Q o H') X.xe s
def UH:TO:=fun _ H Q=>Q none H
def CJ(t:TE):TO:=fun σ H Q=>t σ H fun x H1=>∃i,x=.int i/\Q (some i) H1
section
variable{X:Cx}{e:Expr}{te:TE}{lo hi:Option Expr}{tl th:TO}{pos p2:Pos}
theorem io:PO X none UH:=by
 intro pins s σ H Q I h;rw[evalPart_none];exact ai ⟨none,H,I,.none,h⟩
theorem eL(h:PE X e te):PO X (some e) (CJ te):=by
 intro pins s σ H Q I hw;rw[evalPart_some];refine aw (h pins s σ H _ I hw) fun u s1 ⟨x,H1,I1,r1,q1⟩=>?_;obtain⟨i,rfl,q⟩:=q1;obtain⟨t,rfl⟩:=r1;exact⟨some i,H1,I1,.int i t,q⟩
def qZ(X:Cx)(r:V->Option Int->Option Int->Hp->VK->Prop):Prop :=
 ∀(pins:List (Addr×Obj))(s:Shared)(σ : St)(H:Hp)(x:V)(v vl vu:Value)(lo hi:Option Int)(sl:Addr)(Q:VK),Inv X pins σ H s->RelV x v->s.heap.IsSliceOf sl vl vu .none->IsPart vl lo->IsPart vu hi->r x lo hi H Q ->
  ∃T id,typeLookup (.type T) "__getitem__" = pure (some (.builtin id))/\s.TypeIs v T/\wpAny (model X.prog X.w) X.A (getItem v (.ref sl)) (EP X pins σ Q) X.xe s
def PB(r:V->Option Int->Option Int->Hp->VK->Prop)(te:TE)(tl th:TO):TE:=fun σ H Q=>te σ H fun x H1=>tl σ H1 fun l H2=>th σ H2 fun u H3=>r x l u H3 Q
theorem fK{r:V->Option Int->Option Int->Hp->VK->Prop}(hr:qZ X r)(he:PE X e te)(hl:PO X lo tl)(hu:PO X hi th):PE X (.Subscript e (.Slice lo hi none p2) pos) (PB r te tl th):=by
 intro pins s σ H Q I h;refine Subscript_ (aw (he pins s σ H _ I h) fun v s1 ⟨x,H1,I1,r1,q1⟩=>?_);refine wpAny_Slice (aw (hl pins s1 σ H1 _ I1 q1) fun vl s2 ⟨l,H2,I2,pl,q2⟩=>aw (hu pins s2 σ H2 _ I2 q2) fun vu s3 ⟨u,H3,I3,pu,q3⟩=>?_);rw[evalPart_none];refine ai ?_;have I4:Inv X pins σ H3 { s3 with heap:=s3.heap.push { cls:=.type "slice",data:=.fields #[vl,vu,.none] } }:=I3.kept (t':=s3.toks) fun b ob q=>aJ _ q;obtain⟨T,id,hT,ht,hg⟩:=hr pins { s3 with heap:=s3.heap.push { cls:=.type "slice",data:=.fields #[vl,vu,.none] } } σ H3 x v vl vu l u s3.heap.objs.size Q I4 r1 (Heap.IsSliceOf.new ..) pl pu q3;show wpAny (model X.prog X.w) X.A (subscriptTail e (.Slice lo hi none p2) v (.ref s3.heap.objs.size)) (EP X pins σ Q) X.xe { s3 with heap:=s3.heap.push { cls:=.type "slice",data:=.fields #[vl,vu,.none] } };exact tail_any (ops:=[.ref s3.heap.objs.size,v]) ht hT hg (by with_unfolding_all rfl)
def dI(xs:List V)(lo hi:Option Int):List V:=(xs.drop (HT.aP xs.length 0 lo)).take (HT.aP xs.length xs.length hi-HT.aP xs.length 0 lo)
theorem Jh(xs:List V)(lo hi:Option Int):(dI xs lo hi).length<=xs.length:=by
 unfold dI;rw[dM,dE];lia
def Wx(K:PySem.W.Frag):V->Option Int->Option Int->Hp->VK->Prop:=fun x lo hi H Q=>∃a xs,x=.ref a/\aL K H a xs /\
 ¬ (HT.aP xs.length 0 lo=0/\HT.aP xs.length xs.length hi=xs.length)/\∀p,H p=none->Q (.ref p) (upd H p (.tup (dI xs lo hi)))
theorem U6:qZ X (Wx X.K):=by
 intro pins s σ H x v vl vu lo hi sl Q I rx hs pl pu h;obtain⟨a,xs,rfl,hx,hw,q⟩:=h;cases rx;obtain⟨its,r,ht,hz⟩:=I.tuple hx;have hlen:its.toArray.size=xs.length:=by rw[bW];exact r.length.symm
 refine⟨"tuple",_,t4.lookup,ht.typeIs,?_⟩;refine HT.Qq ht hs pl pu (by rw[hlen];exact hw) ?_ (by rw[hlen];exact hz);rw[hlen];refine⟨.ref s.heap.objs.size,_,I.laid (t':=s.toks) (o:=.tup (dI xs lo hi)) (fun b ob q=>aJ _ q) (az _) ?_,rfl,q _ (I.aq.fresh (az _))⟩;exact⟨cY (Jh xs lo hi) hz,_,(r.drop (HT.aP xs.length 0 lo)).take (HT.aP xs.length xs.length hi-HT.aP xs.length 0 lo),IsTup.new _ _⟩
end
def oa(n:Nat)(i:Int):Option Nat:=if 0<=i then(if i<n then some i.toNat else none) else if -(n:Int)<=i then some (i+n).toNat else none
def dO{α : Type}(xs:List α)(i:Int):Option α := (oa xs.length i).bind fun j=>xs[j]?
theorem UG{n:Nat}{i:Int}{j:Nat}(h:oa n i=some j):seqIndex? i n=some j/\j<n /\ -(n:Int)<=i/\i<n:=by
 unfold oa at h;by_cases h0:0<=i
 ·rw[ah h0] at h;by_cases h1:i<n
  ·rw[ah h1] at h;have e:i.toNat=j:=dk h;exact⟨by rw[seqIndex_of h0 h1,e],by lia,by lia,h1⟩
  ·rw[af h1] at h;cases h
 ·rw[af h0] at h;by_cases h1 : -(n:Int)<=i
  ·rw[ah h1] at h;have e:(i+n).toNat=j:=dk h;exact⟨by rw[seqIndex_neg (by lia) h1,e],by lia,h1,by lia⟩
  ·rw[af h1] at h;cases h
theorem Ca{α : Type}{xs:List α}{i:Int}{v : α}(h:dO xs i=some v):∃j,seqIndex? i xs.length=some j/\xs[j]?= some v/\j<xs.length /\ -(xs.length:Int)<=i/\i<xs.length:=by
 unfold dO at h;cases e:oa xs.length i with
 | none=>rw[e] at h;cases h
 | some j =>
  rw[e] at h;obtain⟨h1,h2,h3,h4⟩:=UG e;exact⟨j,h1,h,h2,h3,h4⟩
theorem i8{α : Type}{xs:List α}{j:Nat}{v : α}(h:xs[j]?= some v):dO xs (j:Int)=some v:=by
 have hj:j<xs.length:=(cA.mp h).1;have e:oa xs.length (j:Int)=some j:=by
  unfold oa;rw[ah (by lia),ah (by lia)];simp
 unfold dO;rw[e];exact h
theorem jv{α : Type}(xs:List α)(v : α):dO (xs ++ [v]) (-1)=some v:=by
 have hl:(xs ++ [v]).length=xs.length+1:=by simp
 have e:oa (xs ++ [v]).length (-1)=some xs.length:=by
  unfold oa;rw[hl,af (by decide),ah (by lia)]
  congr 1
  lia
 unfold dO;rw[e];show(xs ++ [v])[xs.length]?= some v;simp
def K0(b:Expr):Prop := ∀o i,subscripted b false o i=operate [o,i] (getItem o i)
def qU(X:Cx)(r:R2):Prop :=
 ∀(value slice:Expr)(pins:List (Addr×Obj))(s:Shared)(σ : St)(H:Hp)(x y:V)(v u:Value)(Q:VK),Inv X pins σ H s->RelV x v->RelV y u->r x y H Q ->
  subscripted slice false v u=operate [v,u] (getItem v u)->wpAny (model X.prog X.w) X.A (subscriptTail value slice v u) (EP X pins σ Q) X.xe s
def Bj(X:Cx)(id:String)(r:V->List V->Hp->VK->Prop):Prop :=
 ∀(pins:List (Addr×Obj))(s:Shared)(σ : St)(H:Hp)(x:V)(xs:List V)(v:Value)(us:List Value)(Q:VK),Inv X pins σ H s->RelV x v->Vals xs us->r x xs H Q ->
  wpAny (model X.prog X.w) X.A (call (.builtin id) (v::us)) (EP X pins σ Q) X.xe s
section
variable{X:Cx}{a b:Expr}{ta tb:TE}{pos:Pos}
theorem bo{r:R2}(hr:qU X r)(ha:PE X a ta)(hb:PE X b tb)(hs:K0 b):PE X (.Subscript a b pos) (wK r ta tb):=by
 intro pins s σ H Q I h;exact Subscript_ (C8 ha hb I h fun v u s2 x y H2 I2 rx ry q=>hr a b pins s2 σ H2 x y v u Q I2 rx ry q (hs _ _))
def WA(K:PySem.W.Frag):R2:=fun x y H Q=>∃p xs i v,x=.ref p/\y=.int i/\ak K H p xs/\dO xs i=some v/\Q v H
def MA(K:PySem.W.Frag):R2:=fun x y H Q=>∃p xs i v,x=.ref p/\y=.int i/\aL K H p xs/\dO xs i=some v/\Q v H
def Wh:R2:=fun x y H Q=>∃z i c,x=.str z/\y=.int i/\z.length<=sizeLine/\dO z.cps.toList i=some c/\Q (.str ⟨#[c]⟩) H
theorem Z6:qU X (WA X.K):=by
 intro value slice pins s σ H x y v u Q I rx ry h hs;obtain⟨p,xs,i,z,rfl,rfl,hq,he,q⟩:=h;cases rx;obtain⟨t,rfl⟩:=ry;obtain⟨its,r,pl,hz⟩:=I.list hq;obtain⟨j,h1,h2,h3,h4,h5⟩:=Ca he;obtain⟨w,ew,lD⟩:=r.get h2;have hl:=r.length;have hn:=r6;have fin:EP X pins σ Q w s:=⟨z,H,I,lD,q⟩;by_cases h0:0<=i
 ·have hj:i.toNat=j:=by
   rw[seqIndex_of h0 h5] at h1;exact dk h1
  exact item_listR pl.isList h0 (by lia) (by rw[hj];simpa using ew) fin hs
 ·have hj:(i+(its.toArray.size:Int)).toNat=j:=by
   rw[seqIndex_neg (by lia) h4] at h1;rw[bW,<- hl];exact dk h1
  exact subscriptTail_builtinR (x:=w) pl.isList.typeIs slot_list_getitem.lookup
   (wpAny_getItem_list_neg (Q:=fun r s'=>r=w/\EP X pins σ Q r s') pl.isList (by lia) (by rw[bW] <;> lia) (by lia) (by rw[hj];simpa using ew) ⟨rfl,fin⟩) hs
theorem lO:qU X (MA X.K):=by
 intro value slice pins s σ H x y v u Q I rx ry h hs;obtain⟨p,xs,i,z,rfl,rfl,hq,he,q⟩:=h;cases rx;obtain⟨t,rfl⟩:=ry;obtain⟨its,r,pl,hz⟩:=I.tuple hq;obtain⟨j,h1,h2,h3,h4,h5⟩:=Ca he;obtain⟨w,ew,lD⟩:=r.get h2;have hl:=r.length;have hn:=r6;have fin:EP X pins σ Q w s:=⟨z,H,I,lD,q⟩;exact subscriptTail_builtinR (x:=w) pl.typeIs slot_tuple_getitem.lookup
  (getItem_tuple (j:=j) (Q:=fun r s'=>r=w/\EP X pins σ Q r s') pl (by lia) (by lia) (by rw[bW,<- hl];exact h1) (by simpa using ew) ⟨rfl,fin⟩) hs
theorem jy:qU X Wh:=by
 intro value slice pins s σ H x y v u Q I rx ry h hs;obtain⟨z,i,c,rfl,rfl,hz,he,q⟩:=h;obtain⟨t,rfl⟩:=rx;obtain⟨t',rfl⟩:=ry;obtain⟨j,h1,h2,h3,h4,h5⟩:=Ca he;have hl:z.cps.toList.length=z.length:=by simp[Str.length]
 rw[hl] at h1 h4 h5;have hn:=r6;exact tail_any (oO s z t) slot_str_getitem.lookup (getItem_str (c:=c) (by
  have e1:decide (i < -(2 ^ 63:Int))=false:=aZ (by lia);have e2:decide (i>=2 ^ 63)=false:=aZ (by lia);rw[e1,e2,Bool.or_false]) (by rw[h1];simpa using h2) ⟨.str ⟨#[c]⟩,H,I.tok _,⟨_,rfl⟩,q⟩) hs
theorem QT(lo hi:Option Int)(n:Nat):(sliceBounds lo hi none n).1=((HT.aP n 0 lo:Nat):Int)/\(sliceBounds lo hi none n).2.1=((HT.aP n n hi:Nat):Int)/\(sliceBounds lo hi none n).2.2=1:=by
 refine⟨?_,?_,rfl⟩
 ·cases lo with
  | none=>simp[sliceBounds,HT.aP]
  | some i =>
   simp only[sliceBounds,HT.aP,Option.getD_none,show(1:Int) > 0 by decide,gQ];by_cases h:i<0
   ·simp only[h,gQ] <;> lia
   ·simp only[h,ie] <;> lia
 ·cases hi with
  | none=>simp[sliceBounds,HT.aP]
  | some i =>
   simp only[sliceBounds,HT.aP,Option.getD_none,show(1:Int) > 0 by decide,gQ];by_cases h:i<0
   ·simp only[h,gQ] <;> lia
   ·simp only[h,ie] <;> lia
theorem QE(its:List Value)(lo hi:Option Int):slicePick its.toArray lo hi none=((its.drop (HT.aP its.length 0 lo)).take (HT.aP its.length its.length hi-HT.aP its.length 0 lo)).toArray:=by
 obtain⟨h1,h2,h3⟩:=QT lo hi its.toArray.size;unfold slicePick;rw[h1,h2,h3];simp only[sliceRange_one,pick_run,bW] <;> rfl
def Wi(K:PySem.W.Frag):V->Option Int->Option Int->Hp->VK->Prop:=fun x lo hi H Q=>∃a xs,x=.ref a/\ak K H a xs/\∀p,H p=none->Q (.ref p) (upd H p (.lst (dI xs lo hi)))
theorem yg:qZ X (Wi X.K):=by
 intro pins s σ H x v vl vu lo hi sl Q I rx hs pl pu h;obtain⟨a,xs,rfl,hx,q⟩:=h;cases rx;obtain⟨its,r,ht,hz⟩:=I.list hx;have hlen:=r.length;refine⟨"list",_,slot_list_getitem.lookup,ht.isList.typeIs,?_⟩;refine wpAny_getItem_list_slice ht.isList hs pl pu .none (by simp) ?_ (by rw[bW] <;> lia)
 rw[QE,<- hlen];refine⟨.ref s.heap.objs.size,_,I.laid (t':=s.toks) (o:=.lst (dI xs lo hi)) (fun b ob q=>aJ _ q) (az _) ?_,rfl,q _ (I.aq.fresh (az _))⟩;exact⟨cY (Jh xs lo hi) hz,_,0,(r.drop (HT.aP xs.length 0 lo)).take (HT.aP xs.length xs.length hi-HT.aP xs.length 0 lo),cb _ rfl⟩
def nc:V->Bool
 | .aD=>true
 | .bl _=>true
 | .int _=>true
 | .str _=>true
 | _=>false
def nq:V->V->Bool
 | .aD,.aD=>true
 | .bl a,.bl b=>a == b
 | .bl a,.int b=>(if a then 1 else 0) == b
 | .int a,.bl b=>a == (if b then 1 else 0)
 | .int a,.int b=>a == b
 | .str a,.str b=>a == b
 | _,_=>false
theorem Vu{A:Around}{s:Shared}{y x:V}{u v:Value}(ry:RelV y u)(rx:RelV x v)(fy:nc y=true)(fx:nc x=true):SeqAt.EqAt A s u v (nq y x):=by
 cases y with
 | aD =>
  cases ry;cases x with
  | aD=>cases rx;exact SeqAt.EqAt.same _
  | bl b=>cases rx;exact SeqAt.EqAt.none_bool b
  | int b=>obtain⟨t,rfl⟩:=rx;exact SeqAt.EqAt.none_int b t
  | str b=>obtain⟨t,rfl⟩:=rx;exact SeqAt.EqAt.none_str b t
  | _=>exact absurd (show false=true from fx) bb
 | bl a =>
  cases ry;cases x with
  | aD=>cases rx;exact SeqAt.EqAt.bool_none a
  | bl b=>cases rx;exact SeqAt.EqAt.bool_bool a b
  | int b=>obtain⟨t,rfl⟩:=rx;exact SeqAt.EqAt.bool_int a b t
  | str b=>obtain⟨t,rfl⟩:=rx;exact SeqAt.EqAt.bool_str a b t
  | _=>exact absurd (show false=true from fx) bb
 | int a =>
  obtain⟨t',rfl⟩:=ry;cases x with
  | aD=>cases rx;exact SeqAt.EqAt.int_none a t'
  | bl b=>cases rx;exact SeqAt.EqAt.int_bool a t' b
  | int b=>obtain⟨t,rfl⟩:=rx;exact SeqAt.EqAt.int_int a t' b t
  | str b=>obtain⟨t,rfl⟩:=rx;exact SeqAt.EqAt.int_str a t' b t
  | _=>exact absurd (show false=true from fx) bb
 | str a =>
  obtain⟨t',rfl⟩:=ry;cases x with
  | aD=>cases rx;exact SeqAt.EqAt.str_none a t'
  | bl b=>cases rx;exact SeqAt.EqAt.str_bool a t' b
  | int b=>obtain⟨t,rfl⟩:=rx;exact SeqAt.EqAt.str_int a t' b t
  | str b=>obtain⟨t,rfl⟩:=rx;exact SeqAt.EqAt.str_str a t' b t
  | _=>exact absurd (show false=true from fx) bb
 | _=>exact absurd (show false=true from fy) bb
def gw(x:V)(u:Value):Bool:=match u with
 | .none=>nq .aD x
 | .bool b=>nq (.bl b) x
 | .int i _=>nq (.int i) x
 | .str z _=>nq (.str z) x
 | _=>false
theorem Mb{x y:V}{u:Value}(r:RelV y u)(f:nc y=true):gw x u=nq y x:=by
 cases y with
 | aD=>cases r;rfl
 | bl b=>cases r;rfl
 | int i=>obtain⟨t,rfl⟩:=r;rfl
 | str z=>obtain⟨t,rfl⟩:=r;rfl
 | _=>exact absurd (show false=true from f) bb
theorem uK{x:V}:∀{xs:List V}{us:List Value},Vals xs us->xs.all nc=true->us.any (gw x)=xs.any fun y=>nq y x
 | _,_,.nil,_=>rfl
 | y::xs,u::us,.cons r t,f=>by
  rw[List.all_cons,cO] at f;rw[oA,oA,Mb r f.1,uK t f.2]
theorem uC{A:Around}{s:Shared}{x:V}{v:Value}(rx:RelV x v)(fx:nc x=true):∀{xs:List V}{us:List Value},Vals xs us->xs.all nc=true->∀u∈us,SeqAt.EqAt A s u v (gw x u)
 | _,_,.nil,_=>fun u hu=>by cases hu
 | y::xs,u::us,.cons r t,f=>fun u' hu=>by
  rw[List.all_cons,cO] at f;rcases aG.mp hu with rfl|hu
  ·rw[Mb r f.1];exact Vu r rx f.1 fx
  ·exact uC rx fx t f.2 u' hu
def jV(x:V)(xs:List V):Bool:=xs.any fun y=>nq y x
def Pp(K:PySem.W.Frag)(neg:Bool):R2:=fun x y H Q=>∃p xs,y=.ref p/\(ak K H p xs\/aL K H p xs)/\nc x=true/\xs.all nc=true/\Q (.bl (if neg then !jV x xs else jV x xs)) H
theorem RR:bB X (compareOp .In) (Pp X.K false):=by
 intro pins s σ H x y v u Q I rx ry h;obtain⟨p,xs,rfl,hq,fx,fs,q⟩:=h;cases ry;rcases hq with hq|hq
 ·obtain⟨its,r,pl,hz⟩:=I.list hq;refine SeqAt.in_listAt (gw x) pl.isList (fun w hw=>uC rx fx r fs w (by simpa using hw)) ⟨.bl _,H,I,rfl,?_⟩;rw[show its.toArray.any (gw x)=its.any (gw x) by simp,uK r fs];exact q
 ·obtain⟨its,r,pl,hz⟩:=I.tuple hq;refine SeqAt.in_tupleAt (gw x) pl (fun w hw=>uC rx fx r fs w (by simpa using hw)) ⟨.bl _,H,I,rfl,?_⟩;rw[show its.toArray.any (gw x)=its.any (gw x) by simp,uK r fs];exact q
theorem QX:bB X (compareOp .NotIn) (Pp X.K true):=by
 intro pins s σ H x y v u Q I rx ry h;obtain⟨p,xs,rfl,hq,fx,fs,q⟩:=h;cases ry;rcases hq with hq|hq
 ·obtain⟨its,r,pl,hz⟩:=I.list hq;refine SeqAt.notIn_listAt (gw x) pl.isList (fun w hw=>uC rx fx r fs w (by simpa using hw)) ⟨.bl _,H,I,rfl,?_⟩;rw[show its.toArray.any (gw x)=its.any (gw x) by simp,uK r fs];exact q
 ·obtain⟨its,r,pl,hz⟩:=I.tuple hq;refine SeqAt.notIn_tupleAt (gw x) pl (fun w hw=>uC rx fx r fs w (by simpa using hw)) ⟨.bl _,H,I,rfl,?_⟩;rw[show its.toArray.any (gw x)=its.any (gw x) by simp,uK r fs];exact q
theorem Bq:bB X (compareOp .NotIn) (fun x y H Q=>∃i j,x=.str i/\y=.str j/\Q (.bl (!(!(Builtin.Str.occurrences j i 0 j.length 1).isEmpty))) H):=by
 intro pins s σ H x y v u Q I rx ry h;obtain⟨i,j,rfl,rfl,q⟩:=h;obtain⟨t,rfl⟩:=rx;obtain⟨t',rfl⟩:=ry;exact notIn_str ⟨.bl _,H,I,rfl,q⟩
theorem lH:fO X (.builtin "len") (fun xs H Q=>∃p ys,xs=[.ref p]/\(ak X.K H p ys\/aL X.K H p ys)/\Q (.int ys.length) H):=by
 intro pins s σ H xs us Q I r h;obtain⟨p,ys,rfl,hq,q⟩:=h;obtain⟨u,rfl,rx⟩:=vals1 r;cases rx;have hn:=r6;rcases hq with hq|hq
 ·obtain⟨its,r',pl,hz⟩:=I.list hq;have hlen:=r'.length;exact Calls.call_len_list pl.isList (by simp only[bW] <;> lia) ⟨.int ys.length,H,I.tok _,⟨s.toks+1,by rw[bW,hlen]⟩,q⟩
 ·obtain⟨its,r',pl,hz⟩:=I.tuple hq;have hlen:=r'.length;exact len_tuple pl (by simp only[bW] <;> lia) ⟨.int ys.length,H,I.tok _,⟨s.toks+1,by rw[bW,hlen]⟩,q⟩
theorem pq:fO X (.builtin "len") (fun xs H Q=>∃z,xs=[.str z]/\z.length<=sizeLine/\Q (.int z.length) H):=by
 intro pins s σ H xs us Q I r h;obtain⟨z,rfl,hz,q⟩:=h;obtain⟨u,rfl,t,rfl⟩:=vals1 r;have hn:=r6;exact len_str (by lia) ⟨.int z.length,H,I.tok _,⟨_,rfl⟩,q⟩
theorem Z0:fO X (.type "tuple") (fun xs H Q=>∃p ys,xs=[.ref p]/\((ak X.K H p ys/\∀l,H l=none->Q (.ref l) (upd H l (.tup ys)))\/(aL X.K H p ys/\Q (.ref p) H))):=by
 intro pins s σ H xs us Q I r h;obtain⟨p,ys,rfl,h⟩:=h;obtain⟨u,rfl,rx⟩:=vals1 r;cases rx;rcases h with⟨hq,q⟩|⟨hq,q⟩
 ·obtain⟨its,r',pl,hz⟩:=I.list hq;have hlen:=r'.length;refine call_tuple_list pl.isList (fun h' kp=>?_) (by simp only[bW] <;> lia)
  have I1:Inv X pins σ H { s with heap:=h' }:=I.kept (t':=s.toks) kp;have I2:Inv X pins σ (upd H h'.objs.size (.tup ys)) { s with heap:=h'.push { cls:=.type "tuple",data:=.seq its.toArray } } :=
   I1.laid (t':=s.toks) (fun b o e=>aJ _ e) (az _) (show bL X.prog X.w _ _ _ (.tup ys) from⟨hz,its,r',IsTup.new _ _⟩)
  exact⟨.ref h'.objs.size,_,I2,rfl,q _ (I1.aq.fresh (az _))⟩
 ·obtain⟨its,r',pl,hz⟩:=I.tuple hq;exact call_tuple_same pl ⟨.ref p,H,I,rfl,q⟩
def Hh(K:PySem.W.Frag)(T:String)(x:V)(H:Hp):Prop:=match x with
 | .str _=>T= "str"
 | .int _=>T= "int"
 | .ref p=>(T= "list" /\ ∃xs,ak K H p xs)\/(T= "tuple" /\ ∃o,K.lookup p=some o/\o.cls=.type "tuple" /\ o.dict=none) \/
   (T= "dict" /\ ((∃aj,H p=some (.dK aj))\/∃aj,H p=some (.dT aj)))\/(T= "set" /\ ∃S n,H p=some (.set S n))
 | _=>False
theorem L5{pins:List (Addr×Obj)}{σ : St}{H:Hp}{s:Shared}{T:String}{x:V}{v:Value}(I:Inv X pins σ H s)(r:RelV x v)(ty:Hh X.K T x H) :
  s.TypeIs v T/\∀a,v=.ref a->∃ob,s.heap.get? a=some ob/\ob.dict=none:=by
 cases x with
 | str z =>
  obtain⟨t,rfl⟩:=r;cases (show T= "str" from ty);exact⟨oO s z t,fun _ e=>nomatch e⟩
 | int i =>
  obtain⟨t,rfl⟩:=r;cases (show T= "int" from ty);exact⟨typeIs_int s i t,fun _ e=>nomatch e⟩
 | ref p =>
  cases r;rcases ty with⟨rfl,xs,hq⟩|⟨rfl,o,hk,hc,hd⟩|⟨rfl,hk⟩|⟨rfl,S,n,hk⟩
  ·obtain⟨its,_,pl,_⟩:=I.list hq;refine⟨pl.isList.typeIs,fun a e=>?_⟩;cases e;obtain⟨o,n,e,c,hd,_⟩:=pl;exact⟨o,e,hd⟩
  ·refine⟨⟨o,I.bH p o hk,hc⟩,fun a e=>?_⟩;cases e;exact⟨o,I.bH _ o hk,hd⟩
  ·have z:∃o,s.heap.get? p=some o/\o.ExactDict:=by
    rcases hk with⟨aj,hk⟩|⟨aj,hk⟩
    ·obtain⟨_,_,_,_,o,_,_,e,ex,_⟩:=I.aq p _ hk;exact⟨o,e,ex⟩
    ·obtain⟨_,_,_,_,o,_,_,e,ex,_⟩:=I.aq p _ hk;exact⟨o,e,ex⟩
   obtain⟨o,e,ex⟩:=z;refine⟨⟨o,e,ex.1⟩,fun a e2=>?_⟩;cases e2;exact⟨o,e,ex.2.1⟩
  ·obtain⟨o,_,_,_,e,ex,_⟩:=I.aq p _ hk;refine⟨⟨o,e,ex.1⟩,fun a e2=>?_⟩;cases e2;exact⟨o,e,ex.2.1⟩
 | _=>exact False.elim ty
def Wk(K:PySem.W.Frag)(T:String)(r:V->List V->Hp->VK->Prop)(to:TE):TE:=fun σ H Q=>to σ H fun x H1=>Hh K T x H1/\r x [] H1 Q
def tBM(K:PySem.W.Frag)(T:String)(r:V->List V->Hp->VK->Prop)(to:TE)(t:TA):TE:=fun σ H Q=>to σ H fun x H1=>Hh K T x H1/\t σ H1 fun xs H2=>r x xs H2 Q
variable{o e:Expr}{es:List Expr}{to:TE}{t:TA}{name:Str}{apos gV:Pos}{T id:String}{r:V->List V->Hp->VK->Prop}
theorem m9(pa:PlainAttrs T)(slot:Slot T name id)(kL:typeOf (.builtin id)=pure (.type "method_descriptor")) (hm:Bj X id r) (ho:PE X o to)
  (Fw:attributeBase o name X.env (eval o X.env)=eval o X.env:=by rfl) (zG:(apos.endLine == gV.line)=true:=by rfl):PE X (.Call (.Attribute o name apos) [] [] gV) (Wk X.K T r to):=by
 intro pins s σ H Q I h;refine wpAny_Call_method0_late Fw zG (aw (ho pins s σ H _ I h) fun v s1 ⟨x,H1,I1,r1,ty,q1⟩=>?_);obtain⟨h1,h2⟩:=L5 I1 r1 ty;exact⟨T,id,pa,slot,kL,h1,h2,Calls.callWith_builtin rfl (PySem.evalArgs_none (hm pins s1 σ H1 x [] v [] Q I1 r1 .nil q1))⟩
theorem cv(pa:PlainAttrs T)(slot:Slot T name id)(kL:typeOf (.builtin id)=pure (.type "method_descriptor")) (hm:Bj X id r) (ho:PE X o to) (ha:PA X (e::es) t)
  (Fw:attributeBase o name X.env (eval o X.env)=eval o X.env:=by rfl)
  (Zrb:((backTo gV (starEach (e::es) X.env)).all (fun x=>!x.1)&&(backToKw gV (keywordEach [] X.env)).all (fun x=>x.1.isSome)
   && decide ((e::es).length+([]:List Keyword).length+(if([]:List Keyword).isEmpty then 0 else 1)<30))=true:=by rfl)
  (zG:(apos.endLine == gV.line)=true:=by rfl) (hs:starEach (e::es) X.env=(false,eval e X.env)::starEach es X.env:=by rfl) (ZrM:(backTo gV (starEach es X.env)).any (·.1)=false:=by rfl) :
  PE X (.Call (.Attribute o name apos) (e::es) [] gV) (tBM X.K T r to t):=by
 intro pins s σ H Q I h;refine wpAny_Call_method_late Fw Zrb zG rfl (aw (ho pins s σ H _ I h) fun v s1 ⟨x,H1,I1,r1,ty,q1⟩=>?_);obtain⟨h1,h2⟩:=L5 I1 r1 ty;refine⟨T,id,pa,slot,kL,h1,h2,?_⟩;have hA:=ha gV pins s1 σ H1 _ I1 q1;rw[hs] at hA ⊢;refine Calls.callWith_builtin (by show(false || (backTo gV (starEach es X.env)).any (·.1))=false;rw[ZrM] <;> rfl) (Calls.evalArgs_plain ?_)
 exact aw hA fun us s2 ⟨vs,H2,I2,r2,q2⟩=>hm pins s2 σ H2 x vs v us Q I2 r1 r2 q2
/- xs.append(e),list.index on a ZwZ tuple .. are Bj facts of 06m -/
end
def qV(X:Cx)(id:String)(r:V->List V->Hp->VK->Prop):Prop :=
 ∀(pins:List (Addr×Obj))(s:Shared)(σ : St)(H:Hp)(x:V)(xs:List V)(v:Value)(us:List Value)(Q:VK),Inv X pins σ H s->RelV x v->Vals xs us->r x xs H Q ->
  wpAny (model X.prog X.w) X.A (call (.builtin id) (v::us)) (EP X pins σ Q) X.xe s
theorem Vals.one:∀{x:V}{us:List Value},Vals [x] us->∃u,us=[u]/\RelV x u
 | _,_,.cons r .nil=>⟨_,rfl,r⟩
theorem Vals.two:∀{x y:V}{us:List Value},Vals [x,y] us->∃u v,us=[u,v]/\RelV x u/\RelV y v
 | _,_,_,.cons r (.cons q .nil)=>⟨_,_,rfl,r,q⟩
theorem Vals.zero:∀{us:List Value},Vals [] us->us=[]
 | _,.nil=>rfl
theorem Vals.dropLast{xs:List V}{us:List Value}(h:Vals xs us):Vals xs.dropLast us.dropLast:=by
 induction h with
 | nil=>exact .nil
 | cons r t ih =>
  cases t with
  | nil=>exact .nil
  | cons q t'=>exact .cons r ih
theorem Vals.reverse{xs:List V}{us:List Value}(h:Vals xs us):Vals xs.reverse us.reverse:=by
 induction h with
 | nil=>exact .nil
 | cons r t ih=>rw[gM,gM];exact Vals.append ih (.cons r .nil)
theorem R1{α : Type}(l:List α):l.eraseIdx (l.length-1)=l.dropLast:=by
 induction l with
 | nil=>rfl
 | cons a r ih =>
  cases r with
  | nil=>rfl
  | cons b r =>
   have e:(a::b::r).length-1=((b::r).length-1)+1:=by
    have h1:(a::b::r).length=r.length+2:=rfl;have h2:(b::r).length=r.length+1:=rfl;lia
   rw[e,List.eraseIdx_cons_succ,ih]
   all_goals rfl
section
variable{X:Cx}{pins:List (Addr×Obj)}{σ : St}{H:Hp}{s:Shared}{l b:Addr}{xs ys zs:List V}
theorem Inv.O5{its its':List Value}{n:Nat}{f:Array Value->Array Value}{t':Nat}(I:Inv X pins σ H s)(hH:H l=some (.lst xs))
  (e:s.heap.get? l=some { cls:=.type "list",data:=.seq its.toArray n }) (hf:f its.toArray=its'.toArray) (hv:Vals ys its') (hz:ys.length<=sizeLine) :
  Inv X pins σ (upd H l (.lst ys)) { s with heap:=s.heap.update l (Obj.mapSeq f),toks:=t' }:=by
 have q:=PySem.IsL.update e f;rw[hf] at q;refine I.write (x:=l) (e:=l) (by rw[hH];exact trivial) (.inl rfl) (fun b' u hb hu=>(hW s.heap (Obj.mapSeq f) (fG hb)).trans hu) ⟨_,q⟩ ?_;exact⟨hz,its',_,hv,q⟩
theorem Inv.O2{its:List Value}{t':Nat}(I:Inv X pins σ H s)(hv:Vals ys its)(hz:ys.length<=sizeLine) :
  Inv X pins σ (upd H s.heap.objs.size (.lst ys)) { s with heap:=s.heap.push { cls:=.type "list",data:=.seq its.toArray },toks:=t' } :=
 I.laid (fun _ _ q=>aJ _ q) (az _) ⟨hz,its,0,hv,cb _ rfl⟩
theorem Inv.fresh(I:Inv X pins σ H s):H s.heap.objs.size=none:=I.aq.fresh (az _)
theorem Inv.Ar(I:Inv X pins σ H s)(hH:H l=some (.lst xs)):xs.length<=sizeLine/\∃(its:List Value)(n:Nat),Vals xs its/\xs.length=its.length/\s.heap.get? l=some { cls:=.type "list",data:=.seq its.toArray n }:=by
 obtain⟨z,its,n,r,e⟩:=I.aq l _ hH;exact⟨z,its,n,r,r.length,e⟩
end
section
variable{X:Cx}
def UN:V->List V->Hp->VK->Prop:=fun x vs H Q=>∃l xs y,x=.ref l/\vs=[y]/\H l=some (.lst xs)/\xs.length<sizeLine/\Q .aD (upd H l (.lst (xs ++ [y])))
theorem ZL:qV X "list.append" UN:=by
 intro pins s σ H x vs v us Q I rx rv h;obtain⟨l,xs,y,rfl,rfl,hH,hz,q⟩:=h;cases rx;obtain⟨u,rfl,ru⟩:=rv.one;obtain⟨z,its,n,r,hl,e⟩:=I.Ar hH;refine call_meets F.slot_list_append ⟨_,e,rfl⟩ F.entry_list_append (F.args_list_append_2 _ _) (PySem.list_append l its.toArray n u (by rw[bW];lia)) ⟨e,?_⟩;refine⟨.aD,_,I.O5 (its':=its ++ [u]) hH e (by simp) (r.append (.cons ru .nil)) ?_,rfl,q⟩;rw[bu,List.length_singleton];lia
def Wt:V->List V->Hp->VK->Prop:=fun x vs H Q=>∃l xs y,x=.ref l/\vs=[]/\H l=some (.lst xs)/\xs[xs.length-1]?= some y/\Q y (upd H l (.lst xs.dropLast))
theorem m_:qV X "list.pop" Wt:=by
 intro pins s σ H x vs v us Q I rx rv h;obtain⟨l,xs,y,rfl,rfl,hH,hy,q⟩:=h;cases rx;have hus:=rv.zero;subst hus;obtain⟨z,its,n,r,hl,e⟩:=I.Ar hH;obtain⟨u,hu,ru⟩:=r.get hy;have P8:its.toArray[its.toArray.size-1]?= some u:=by
  show its.toArray[its.length-1]?= some u;rw[<- bD,<- hl];exact hu
 refine call_meets F.slot_list_pop ⟨_,e,rfl⟩ F.entry_list_pop (F.args_list_pop_1 _) (MeetsSeq.list_pop_last l its.toArray n u P8 (by rw[bW];lia)) ⟨e,?_⟩;refine⟨y,_,I.O5 (its':=its.dropLast) hH e ?_ r.dropLast ?_,ru,q⟩
 ·show its.toArray.eraseIdxIfInBounds (its.toArray.size-1)=its.dropLast.toArray;rw[bW,List.eraseIdxIfInBounds_toArray,R1]
 ·rw[List.length_dropLast];lia
def Wr:R2:=fun x y H Q=>∃l b xs zs,x=.ref l/\y=.ref b/\H l=some (.lst xs)/\H b=some (.lst zs)/\xs.length+zs.length<=sizeLine/\∀p,H p=none->Q (.ref p) (upd H p (.lst (xs++zs)))
theorem L4:bB X (binaryOp .Add) Wr:=by
 intro pins s σ H x y v u Q I rx ry h;obtain⟨l,b,xs,zs,rfl,rfl,hH,hB,hz,q⟩:=h;cases rx;cases ry;obtain⟨z,its,n,r,hl,e⟩:=I.Ar hH;obtain⟨z2,mr,n2,r2,gC,e2⟩:=I.Ar hB;refine PySem.P.add_list e e2 ?_ (by rw[bW,bW];lia);have ea:its.toArray++mr.toArray=(its++mr).toArray:=by simp
 rw[ea];exact⟨.ref _,_,I.O2 (t':=s.toks) (r.append r2) (by rw[bu];lia),rfl,q _ I.fresh⟩
end
end L2
namespace Io
open PySem PySem.W PySem.Calls PyProof.Rows
theorem Qw{P:Params}{h:Heap}:∀(ns:List Int)(vs:List Value),WellAll P h vs (ns.map WData.int)->IntsAre vs ns:=by
 intro ns
 induction ns with
 | nil =>
  intro vs w;rw[List.map_nil] at w;cases w;exact .nil
 | cons n ns ih =>
  intro vs w;rw[br] at w;cases w with
  | cons a b =>
   cases a;exact .cons _ _ (ih _ b)
theorem RJ{l:OpenLaw}{n:Nat}(hn:l.most=some n){P:Params}{h:Heap}{args:List WData}{vals:List Value}
  (sV:l.row.toRowW.claim.pre args=true) (mm:WellAll P h vals args) :
  ∃a vs ns,vals=[Value.ref a]/\args=[WData.list (ns.map WData.int)]/\h.get? a=some { cls:=.type "list",data:=.seq vs.toArray }/\IntsAre vs ns/\ns.length<=n:=by
 have hsh:WShape.hasAll [] args [.list .int]=true:=(pre_splitW sV).1;have hc:l.pre.holds [] { args:=args }=true:=(pre_splitW sV).2;obtain⟨d,r,rfl,h1,h2⟩:=hasAllW_cons hsh;obtain rfl:=hasAllW_nil h2;obtain⟨xs,rfl,h3⟩:=hasW_list h1;obtain⟨ns,rfl⟩:=items_int h3;have hlen:ns.length<=n:=by
  unfold OpenLaw.pre at hc;have h4:(WTm.not (.lt (.lit (.int (n:Int))) (.len (.arg 0)))).holds [] { args:=[.list (ns.map .int)] }=true:=by
   have h4:=(holds_andW hc).1;rw[hn] at h4;exact h4
  have h5:=condW_of h4 (w_not (w_lt w_lit (w_len_list (w_arg rfl))));rw[aV] at h5;refine Nat.le_of_not_lt fun q=>?_;have q':(n:Int)<((ns.length:Nat):Int):=by lia
  first
   | (rw[aQ q'] at h5;exact absurd h5 (by decide))
   | (simp at h5;lia)
 cases mm with
 | cons w1 w2 =>
  cases w2;cases w1 with
  | list ho cx=>exact⟨_,_,ns,rfl,rfl,ho,Qw ns _ cx,hlen⟩
theorem Sa(l:OpenLaw)(args:List WData):l.row.toRowW.claim.post args (.bool true) args=true :=
 postW_of (r:=l.row.toRowW) (X:=(true == true))
  (show WShape.has [] (.bool true) .bool=true by first|rfl|decide|simp[WShape.has,WShape.arms,WShape.armsAll])
  (show(WTm.eq .res (.lit (.bool true))).value [] { args:=args,res:=some (.bool true),after:=args }=some (.bool (true == true)) from w_eq_bool (w_res rfl) w_lit) rfl
theorem Ra{l:OpenLaw}{n:Nat}{q:Program}{loose:List Str}{XP:(Str->Option Value)->Heap->Prop}{YP:World->Heap->Prop}{d:DefRec}
  (hn:l.most=some n) (vM:d.params.defaults=[])
  (call:∀(w:World)(dj a_ : Shared)(mg mb:Str->Option Value)(fa:Addr)(o:Obj)(pm cd doc:Value)(a:Addr)(vs:List Value)(ns:List Int),
   Ground q loose [] XP w dj mg mb a_.heap->YP w a_.heap ->
   a_.heap.get? fa=some o->o.data=.func (docDef d.name d.params d.body d.scope pm cd doc)->a_.heap.CodeRec cd d.name->mg d.name=some (.ref fa) ->
   a_.heap.get? a=some { cls:=.type "list",data:=.seq vs.toArray }->IntsAre vs ns->ns.length<=n->a_.gens=#[] ->
   codeAny (model l.prog w) callerA (.call (.ref fa) ⟨[.ref a],[]⟩) (fun r s'=>r=.ok (.ret (.bool true))/\OldK a_.heap s'.heap/\s'.os=a_.os/\AllBare s'.gens) a_) :
  WalkO q loose XP YP l.row.toRowW d [] (fun f vs=>PySem.call f vs):=by
 intro w dj a_ mg mb G Y fa o pm cd doc dV kV ho hd cW hD qg hg args vals as sV Zxx hrd mm kI;obtain rfl:dV=.none:=Dflts.none hD vM;obtain rfl:kV=.none:=Dflts.noKw hD;obtain⟨a,vs,ns,rfl,rfl,FU,hints,hlen⟩:=RJ hn sV mm;refine enter_call (oN (call w dj a_ mg mb fa o pm cd doc a vs ns G Y ho (fd_plain hd) cW qg FU hints hlen hg) fun r s' hq=>?_);obtain⟨rfl,h2,h3,h4⟩:=hq;exact⟨.inl ⟨.bool true,.bool true,[],rfl,fun _=>rfl,.bool true,Sa l _,fun _=>⟨List.Pairwise.nil,fun _ hm=>(nomatch hm)⟩⟩,h2,h3,h4⟩
end Io
namespace L2
open PySem PySem.Spec PyProof.Rows
theorem J0:∀{vs:List Value}{ns:List Int},IntsAre vs ns->Vals (ns.map V.int) vs
 | _,_,.nil=>.nil
 | _,_,.cons n t h=>.cons ⟨t,rfl⟩ (J0 h)
def Bk(H:Hp):Prop := ∀b,H b=none\/∃o xs,H b=some (.gx o (.lst xs))
theorem T6{P:Program}{w:World}{K:PySem.W.Frag}{mg mb:Str->Option Value}{CX:ii}{k:Nat}{fa a:Addr}{fd:FuncData}{x:Str}{sp:Sp}{a_ : Shared}{vs:List Value}{ns:List Int}
  (KX:K.In a_.heap) (sT:a_.heap.Ns mainGlobals mg) (hb:a_.heap.Ns builtinsNs mb) (kD:∀x:Str,x ≠ "__name__" -> mb x=bootBuiltins x) (Zry:a_.heap.NoLimit) (hg:a_.gens=#[])
  (ha:a_.heap.get? a=some { cls:=.type "list",data:=.seq vs.toArray }) (hi:IntsAre vs ns) (hl:ns.length<=sizeLine) (hr:cj k callerA)
  (F:∀base:Heap,K.In base->base.Ns mainGlobals mg->aX P w K mg base CX k fa fd [x] sp) (ZqT:∀(s:Shared)(u:Value),BindsTo s fd ⟨[u],[]⟩ [(x,u)])
  (je:∀H:Hp,Bk H->ak K H a (ns.map V.int)->sp [.ref a] H (fun v _=>v=.bl true) fun _ _ _=>False)
  (Fm:∀H e s',CX [] H a_ (fun _ _ _=>False) e s'->False) :
  codeAny (model P w) callerA (.call (.ref fa) ⟨[.ref a],[]⟩) (fun r s'=>r=.ok (.ret (.bool true))/\OldK a_.heap s'.heap/\s'.os=a_.os/\AllBare s'.gens) a_ := by
 have rv:=J0 hi;have Zth:=hi.length;have core:∀H:Hp,Bk H->ak K H a (ns.map V.int)->bE P w H a_.heap->(∀b,H b≠none->b=a)->(H a≠none->K.lookup a=none) ->
   codeAny (model P w) callerA (.call (.ref fa) ⟨[.ref a],[]⟩) (fun r s'=>r=.ok (.ret (.bool true))/\OldK a_.heap s'.heap/\s'.os=a_.os/\AllBare s'.gens) a_ := by
  intro H hO hS aq hA hK;have MT:∀{b:Addr}{o:Obj},a_.heap.get? b=some o->H b=none->(lS a_.heap H).get? b=some o:=fun e n=>S5 e n;have wD:∀{b:Addr}{o:Obj}{es:Array DictEntry}{ep:Nat},a_.heap.get? b=some o->o.data=.dict es ep->H b=none:=fun{b o es ep} e d=>by
   cases q:H b with
   | none=>rfl
   | some u =>
    have e':b=a:=hA b (by rw[q];simp);subst e';rw[ha] at e;cases e;have d':Data.seq vs.toArray _=Data.dict es ep:=d;cases d'
  have Ax:∀{b:Addr}{m:Str->Option Value},a_.heap.Ns b m->(lS a_.heap H).Ns b m:=fun{b m} ⟨o,es,ep,e,d,r⟩=>⟨o,es,ep,MT e (wD e d),d,r⟩;have NS:K.In (lS a_.heap H):=fun b o e=>MT (KX b o e) (by
   cases q:H b with
   | none=>rfl
   | some u =>
    have e':b=a:=hA b (by rw[q];simp);subst e';rw[hK (by rw[q];simp)] at e;cases e)
  have hM:Mod K mg (lS a_.heap H):=⟨NS,Ax sT,⟨mb,Ax hb,kD⟩,let ⟨mc,h1,h2⟩:=Zry;⟨mc,Ax h1,h2⟩⟩;have e0:o8 P w K mg (lS a_.heap H) callerA [] a_ H:=⟨rfl,hM,fun b o e=>U0 e,Nat.le_of_eq (SI _ _),trivial,fun b hb=>absurd (show b∈([]:List Addr) from hb) (by simp),aq,.of_eq hg⟩;refine oN ((F _ NS (Ax sT)).run callerA [] a_ H ⟨[.ref a],[]⟩ [.ref a] [.ref a] _ _ hr e0 (ZqT a_ (.ref a)) (.cons rfl .nil) (je H hO hS)) fun r s' h=>?_;cases r with
  | error e=>exact(Fm H e s' h).elim
  | ok fl =>
   cases fl with
   | next=>exact False.elim h
   | brk=>exact False.elim h
   | cont=>exact False.elim h
   | ret u =>
    obtain⟨v,H',os,bare,un,P5,r',q⟩:=h;have q':v=.bl true:=q;subst q';obtain rfl:u=Value.bool true:=r';refine⟨rfl,OldK.of_keep fun b o e=>?_,os,bare⟩;cases q:H b with
    | none=>exact un.keep b o e q (by intro z;exact absurd (show b∈([]:List Addr) from z) (by simp)) (by simp)
    | some u =>
     rcases hO b with z|⟨ob,xs,z⟩
     ·rw[q] at z;cases z
     ·have z2:=un.kA b ob _ z;obtain⟨e1,_⟩:=aq b _ z;obtain⟨e2,_⟩:=P5 b _ z2;rw[e] at e1;cases e1;exact e2
 cases hk:K.lookup a with
 | some o =>
  have e:=KX a o hk;rw[ha] at e;cases e;refine core (fun _=>none) (fun _=>.inl rfl) (.inr ⟨_,vs.toArray,_,hk,rfl,rfl,rfl,by rw[bW,Zth];exact hl,by simpa using rv⟩) (fun b u z=>by have z':(none:Option HO)=some u:=z;cases z') (fun b z=>absurd rfl z) fun z=>absurd rfl z
 | none =>
  refine core (fun b=>if b=a then some (.gx { cls:=.type "list",data:=.seq vs.toArray } (.lst (ns.map V.int))) else none) (fun b=>?_) (.inl (.inr ⟨{ cls:=.type "list",data:=.seq vs.toArray },ah rfl⟩)) (fun b u z=>?_) (fun b z=>?_) fun _=>hk
  ·by_cases hb:b=a
   ·exact .inr ⟨_,_,ah hb⟩
   ·exact .inl (af hb)
  ·by_cases hb:b=a
   ·have z':=(ah hb).symm.trans z;cases z';subst hb;exact⟨ha,by rw[aV];exact hl,vs,_,rv,ha⟩
   ·have z':=(af hb).symm.trans z;cases z'
  ·by_cases hb:b=a
   ·exact hb
   ·exact absurd (af hb) z
theorem Lg{l:PySem.W.OpenLaw}{n k:Nat}{q:Program}{loose:List Str}{XP:(Str->Option Value)->Heap->Prop}{YP:World->Heap->Prop}{d:DefRec}{K:Params->PySem.W.Frag}{CX:World->ii}{sp:World->Sp}{x:Str}
  (hn:l.most=some n) (mf:n<=sizeLine) (vM:d.params.defaults=[]) (hr:cj k callerA)
  (hY:∀(w:World)(h:Heap),YP w h->(K w.params).In h)
  (F:∀(w:World)(mg:Str->Option Value)(fa:Addr)(h:Heap),(K w.params).In h->h.Ns mainGlobals mg->mg d.name=some (.ref fa) ->
   ∃fd:FuncData,(∀(s:Shared)(u:Value),BindsTo s fd ⟨[u],[]⟩ [(x,u)]) /\
    ∀base:Heap,(K w.params).In base->base.Ns mainGlobals mg->aX l.prog w (K w.params) mg base (CX w) k fa fd [x] (sp w))
  (je:∀(w:World)(H:Hp)(a:Addr)(ns:List Int),ns.length<=n->Bk H->ak (K w.params) H a (ns.map V.int)->sp w [.ref a] H (fun v _=>v=.bl true) fun _ _ _=>False)
  (Fm:∀(w:World)(H:Hp)(s:Shared)(e:Value)(s':Shared),CX w [] H s (fun _ _ _=>False) e s'->False) :
  PySem.W.WalkO q loose XP YP l.row.toRowW d [] (fun f vs=>PySem.call f vs):=by
 refine Io.Ra hn vM fun w dj a_ mg mb fa o pm cd doc a vs ns G Y ho hd cW qg FU hints hlen hg=>?_;have KX:=hY w _ Y;obtain⟨fd,hb,hF⟩:=F w mg fa _ KX G.T.g qg;exact T6 KX G.T.g G.T.b G.T.builtins G.T.nolimit hg FU hints (cY hlen mf) hr hF hb (fun H hO hS=>je w H a ns hlen hO hS) fun H e s'=>Fm w H a_ e s'
end L2
/- THE Zw4 Zw7 (shape;LID,My.* are Zyf):
   My.Adr: a structure of ji addresses AI Zye ZxX names (classes,Zxh);My.Txt K t: a structure (Prop) of ji equations over K;
   My.Zwe:{K} {implicit addresses ..} (e1:nsIn K mainGlobals "law" = some (some (.ref f))) (e2:K.lookup f=some ⟨oc,od,.func (fnOf "law" "law" params body scope dV kV doc pm an aK ct),sl⟩) (e3:codeIn K aK "law" = true) .. : ∃t,My.Txt K t
set_option maxRecDepth 100000 in
set_option maxHeartbeats 0 in
theorem PySem.Challenge.cw_LID_holds : PySem.Challenge.rw_LID.Holds := by
 w_on;o_law;k_head;(case hw=>w_witness2)
 k_fill
 refine L2.Lg (l:=PySem.Challenge.rw_LID) (n:=63) (k:=40) (x := "script") (CX:=fun w=>..) (sp:=fun _=>My.Zx5) rfl (by decide) rfl ⟨rfl,by decide,by decide⟩ (fun w h Y=>PySem.W.kIn_of Y) ?F ?S ?C
 case F =>
  intro w mg fa h KX G qg;have T:∃t,My.Txt (L2.Qi KX) t:=by
   dsimp only[L2.Qi]                          -- K ZxZ oo as «<heap const> w.params» for k_is
   refine' My.Zwe ?e1 ?e2 ?e3 ..
   (case e1=>PySem.W.k_is)                    -- in ji order: a name->its address->its object->its parts
   (case e2=>PySem.W.k_is)
   ..
  obtain⟨t,T⟩:=T;have e0:=qg.symm.trans (bw KX G T.law);cases e0                                       -- fa is ji ZwY own address
  exact⟨_,fun s u=>.of_eq rfl,fun base kb nb=>My.Ztf T kb nb⟩     -- if «.of_eq rfl» comes too early: refine' ⟨_,?b,fun base kb nb=>My.Ztf T kb nb⟩;exact fun s u=>.of_eq rfl
 case S=>exact fun w H a ns hl hO hS=>..
 case C=>exact ..
(ji tactic k_is has no namespace: write k_is) -/
namespace L2
open PySem PySem.Spec PyProof.Rows
def inClass(s:Stmt)(j:Nat):Stmt:=match s with
 | .ClassDef _ _ _ body _ _ _ _ _ _ _=>body.getD j (.Pass ⟨0,0,0,0⟩)
 | _=>.Pass ⟨0,0,0,0⟩
def ZM(s:Stmt):Arguments:=match s with
 | .FunctionDef _ a _ _ _ _ _ _ _ _=>a
 | _=>{ posonlyargs:=[],args:=[],vararg:=none,kwonlyargs:=[],kw_defaults:=[],kwarg:=none,defaults:=[] }
def Zd(s:Stmt):List Stmt:=match s with
 | .FunctionDef _ _ b _ _ _ _ _ _ _=>b
 | _=>[]
def Zh(s:Stmt):Scope:=match s with
 | .FunctionDef _ _ _ _ _ _ sc _ _ _=>sc
 | _=>{ kind:=.function,names:=[],isGenerator:=false,isCoroutine:=false }
abbrev cp:ii:=fun _ _ _ _ _ _=>False
abbrev E0:XK:=fun _ _ _=>False
theorem yI{X:Cx}:pH cp X E0:=fun _ _ _ _ _ _ _ h=>h.elim
structure bO(K:PySem.W.Frag)(x qual:Str)(st:Stmt)(f:Addr)(fd:FuncData):Prop where
 ex:∃(oc:Value)(od:Option Addr)(kV doc pm:Value)(an:Option Addr)(aK ct:Value)(mw:Array (Option Value)),
  fd=PySem.W.fnOf x qual (ZM st) (Zd st) (Zh st) .none kV doc pm an aK ct/\K.lookup f=some ⟨oc,od,.func fd,mw⟩/\PySem.W.codeIn K aK qual=true
 kp:PySem.W.keepIn K (.ref f)=true
section
variable{P:Program}{w:World}{K:PySem.W.Frag}{mg:Str->Option Value}{base:Heap}
theorem bO.ok{x qual:Str}{st:Stmt}{f:Addr}{fd:FuncData}{N ps:List Str}{k:Nat}{sp:Sp}(F:bO K x qual st f fd)(S:bY N ps (Zh st))(len:∀vs H Q E,sp vs H Q E->vs.length=ps.length)
  (vH:∀(aK:Value)(A:Around)(outer:List Env)(s:Shared)(H:Hp)(vs:List V)(Q:VK)(E:XK),cj k (A.deeper (envOfC qual (Zh st) s.heap.objs.size f aK))->sp vs H Q E ->
   ∃t,cJ (lR cp P w K mg base N qual (Zh st) f aK A outer s H E).Aw (Zd st) t/\t { nx:=fun _ H'=>Q .aD H',rt:=Q } (start N vs) H):aX P w K mg base cp (k+1) f fd ps sp:=by
 obtain⟨oc,od,kV,doc,pm,an,aK,ct,mw,rfl,lk,cW⟩:=F.ex;refine Me lk cW S len fun A outer s H vs Q E hr je=>?_;obtain⟨t,h,q⟩:=vH aK A outer s H vs Q E hr je;exact⟨t,h.Aw,q⟩
theorem bO.binds{x qual:Str}{st:Stmt}{f:Addr}{fd:FuncData}{ps:List Str}(F:bO K x qual st f fd)
  (h:∀(kV doc pm:Value)(an:Option Addr)(aK ct:Value)(us:List Value),us.length=ps.length->bindArgs (PySem.W.fnOf x qual (ZM st) (Zd st) (Zh st) .none kV doc pm an aK ct) ⟨us,[]⟩=pure (ps.zip us)):Binds K fd ps []:=by
 obtain⟨oc,od,kV,doc,pm,an,aK,ct,mw,rfl,lk,cW⟩:=F.ex;exact .all (h kV doc pm an aK ct)
theorem cL{x qual:Str}{st:Stmt}{f:Addr}{oc:Value}{od an:Option Addr}{mw:Array (Option Value)}{kV doc pm aK ct:Value}(l:K.lookup f=some ⟨oc,od,.func (PySem.W.fnOf x qual (ZM st) (Zd st) (Zh st) .none kV doc pm an aK ct),mw⟩)
  (c:PySem.W.codeIn K aK qual=true) (k:PySem.W.keepIn K (.ref f)=true):bO K x qual st f (PySem.W.fnOf x qual (ZM st) (Zd st) (Zh st) .none kV doc pm an aK ct):=⟨⟨oc,od,kV,doc,pm,an,aK,ct,mw,rfl,l,c⟩,k⟩
end
section
variable{X:Cx}
theorem pv(i:Nat){x:Str}{pos:Pos}(hN:X.N[i]?= some x:=by rfl)(hv:Bo X.env.scope x:=by first|exact Or.inl rfl|exact Or.inr (Or.inl rfl)|exact Or.inr (Or.inr rfl))(hd:(x == ("__debug__" : Str))=false:=by decide)
  (cW:(x == ("__classdict__" : Str))=false:=by decide):PE X (.Name x pos) (vf i):=Vn hN hv hd cW
end
theorem aE{A B:Prop}(h:B):if false=true then A else B:=by
 rw[af bb];exact h
theorem aH{A B:Prop}(h:A):if true=true then A else B:=by
 rw[ah rfl];exact h
theorem dC{c A B:Prop}[Decidable c](h1:c->A)(h2 : ¬ c->B):if c then A else B:=by
 by_cases h:c
 ·rw[ah h];exact h1 h
 ·rw[af h];exact h2 h
def ZD(H H':Hp):Prop := ∀b o,H b=some o->H' b=some o
theorem ZD.refl(H:Hp):ZD H H:=fun _ _ h=>h
theorem ZD.trans{H H1 H2:Hp}(a:ZD H H1)(b:ZD H1 H2):ZD H H2:=fun c o h=>b c o (a c o h)
theorem ZD.free{H H':Hp}(e:ZD H H'){l:Addr}(h:H' l=Option.none):H l=Option.none:=by
 cases q:H l with
 | none=>rfl
 | some o =>
  rw[e l o q] at h;cases h
theorem ZD.seq{K:PySem.W.Frag}{H H':Hp}{a:Addr}{xs:List V}(e:ZD H H')(h:ak K H a xs):ak K H' a xs:=by
 rcases h with(h|⟨o,h⟩)|h
 ·exact .inl (.inl (e _ _ h))
 ·exact .inl (.inr ⟨o,e _ _ h⟩)
 ·exact .inr h
theorem Lz:bootBuiltins "list" = some (.type "list"):=by decide +kernel
theorem iY:bootBuiltins "tuple" = some (.type "tuple"):=by decide +kernel
theorem LL:bootBuiltins "str" = some (.type "str"):=by decide +kernel
theorem mZ:bootBuiltins "int" = some (.type "int"):=by decide +kernel
theorem Uw:bootBuiltins "bool" = some (.type "bool"):=by decide +kernel
theorem Vh:bootBuiltins "max" = some (.builtin "max"):=by decide +kernel
theorem Vj:bootBuiltins "min" = some (.builtin "min"):=by decide +kernel
theorem mU:bootBuiltins "isinstance" = some (.builtin "isinstance"):=by decide +kernel
section
variable{X:Cx}
theorem pN{x:Str}{n:String}{pos:Pos}(hg:Gl X x)(hm:X.mg x=none)(hv:bootBuiltins x=some (.type n))(hn:x ≠ "__name__" := by decide) (hd:(x == ("__debug__" : Str))=false:=by decide):PE X (.Name x pos) (tC (.ty n)) :=
 UX (v:=.ty n) hg hm hv rfl hn hd
theorem rk:fO X (.builtin "isinstance") (fun xs H Q=>∃x n t b,xs=[x,.ty n]/\il X.K H x t/\PySem.W.kitOne X.K t (.type n)=some b/\Q (.bl b) H):=by
 intro pins s σ H xs us Q I r h;obtain⟨x,n,t,b,rfl,ty,e,q⟩:=h;obtain⟨u,v,rfl,rx,ry⟩:=Vals.two r;obtain rfl:v=Value.type n:=ry;exact Sl I rx ty e fun tk=>⟨.bl b,H,I.tok tk,rfl,q⟩
end
structure bF(P:Program)(w:World)(K:PySem.W.Frag)(mg:Str->Option Value)(base:Heap)(x:Str)(ps:List Str)(k:Nat)(sp:Sp):Prop where
 ex:∃(f:Addr)(fd:FuncData),aX P w K mg base cp k f fd ps sp/\Binds K fd ps []/\PySem.W.keepIn K (.ref f)=true/\mg x=some (.ref f)
section
variable{X:Cx}{x:Str}{ps:List Str}{j k:Nat}{sp:Sp}{e:Expr}{es:List Expr}{t:TA}{p pos:Pos}
theorem aX.room{P:Program}{w:World}{K:PySem.W.Frag}{mg:Str->Option Value}{base:Heap}{CX:ii}{f:Addr}{fd:FuncData}(F:aX P w K mg base CX j f fd ps sp)(h:j<=k):aX P w K mg base CX k f fd ps sp :=
 ⟨F.len,fun A outer s H args us vs Q E hr=>F.run A outer s H args us vs Q E (hr.mono h)⟩
theorem dc(G:bF X.prog X.w X.K X.mg X.base x ps j sp)(hr:cj k X.A)(hg:Gl X x)(ha:PA X (e::es) t)(hk:j<=k:=by decide)(gB:(x == ("__debug__" : Str))=false:=by decide)
  (he:starEach (e::es) X.env=(false,eval e X.env)::starEach es X.env:=by rfl) (aR:(backTo pos (starEach es X.env)).any (·.1)=false:=by rfl) :
  PE X (.Call (.Name x p) (e::es) [] pos) (MF sp [] E0 t):=by
 obtain⟨f,fd,F,b,kp,m⟩:=G.ex;exact UL (F.room hk) hr hg m kp b .nil yI ha gB he aR
end
section
variable{X:Cx}
def fP(z:Str)(n:Nat):Str:=⟨(List.replicate n z.cps).foldl (· ++ ·) #[]⟩
theorem SE(z:Str):fP z 0=Str.empty:=rfl
theorem JS{α : Type}:∀(l:List (Array α))(a:Array α),(l.foldl (· ++ ·) a).toList=a.toList++l.flatMap (·.toList)
 | [],a=>by simp
 | x::l,a=>by rw[List.foldl_cons,JS l];simp
theorem KN(z:Str)(n:Nat):(fP z n).cps.toList=(List.replicate n z.cps.toList).flatten:=by
 unfold fP;rw[JS]
 induction n with
 | zero=>rfl
 | succ n ih =>
  rw[List.replicate_succ,List.replicate_succ,List.flatMap_cons,List.flatten_cons];simp at ih ⊢;exact ih
theorem SQ(z:Str):fP z 1=z:=by
 cases z with
 | mk c=>unfold fP;simp
theorem xZ(z:Str)(n:Nat):(fP z n).length=n*z.length:=by
 show(fP z n).cps.size=n*z.cps.size;rw[<- aA,KN];simp
theorem R_:bB X (binaryOp .Mult) (fun x y H Q=>∃z k,x=.str z/\y=.int k /\ -(2 ^ 63)<=k/\k<2 ^ 63/\k.toNat*z.length<=sizeLine/\Q (.str (fP z k.toNat)) H):=by
 intro pins s σ H x y v u Q I rx ry h;obtain⟨z,k,rfl,rfl,h1,h2,hz,q⟩:=h;obtain⟨t,rfl⟩:=rx;obtain⟨t',rfl⟩:=ry;have zG:=fH;refine PySem.P.mul_str ?_ (fun hk hc=>?_) (fun hk hc=>?_) ?_
 ·rw[aZ (by lia),aZ (by lia)];rfl
 ·intro nK;have Gk:(z.length:Int)*k<=(2 ^ 63-1):=by
   have:((k.toNat*z.length:Nat):Int)<=sizeLine:=by exact_mod_cast hz
   rw[Int.natCast_mul,show((k.toNat:Nat):Int)=k by lia,Int.mul_comm] at this;lia
  have:=(Int.le_ediv_iff_mul_le (by lia:0<k)).mpr Gk;lia
 ·unfold Builtin.Str.tooLong;refine aZ ?_;rw[Nat.mul_comm];lia
 ·by_cases c1:k<1
  ·rw[ah c1];have e:k.toNat=0:=by lia
   rw[e,SE] at q;exact⟨by decide,.str Str.empty,H,I.tok _,⟨_,rfl⟩,q⟩
  ·rw[af c1];by_cases c2:(k == 1 || z.length == 0)=true
   ·rw[ah c2];have e:fP z k.toNat=z:=by
     rw[qI] at c2;rcases c2 with c2|c2
     ·have:k=1:=eq_of_beq c2;subst this;exact SQ z
     ·have kP:z.length=0:=eq_of_beq c2;have a:(fP z k.toNat).cps.toList=z.cps.toList:=by
       have l1:(fP z k.toNat).cps.toList.length=0:=by
        rw[aA];have:=xZ z k.toNat;rw[kP,Nat.mul_zero] at this;exact this
       have l2:z.cps.toList.length=0:=by
        rw[aA];exact kP
       rw[la l1,la l2]
      cases z with
      | mk c =>
       have b:(fP ⟨c⟩ k.toNat).cps=c:=Array.toList_inj.mp a;cases hr:fP ⟨c⟩ k.toNat with
       | mk d=>rw[hr] at b;exact congrArg Str.mk b
    rw[e] at q;exact⟨.str z,H,I,⟨_,rfl⟩,q⟩
   ·rw[af c2];refine⟨?_,.str (fP z k.toNat),H,I.tok _,⟨_,rfl⟩,q⟩;have:=xZ z k.toNat;show(fP z k.toNat).length<=sizeLine;rw[this];exact hz
end
end L2
namespace HT
open PySem PyProof.Rows
section
variable{prog:Program}{w:World}{A:Around}{E:Value->Shared->Prop}{s:Shared}
theorem Qr{t sl:Addr}{items:Array Value}{vl vu:Value}{lo hi:Option Int}{Q:Value->Shared->Prop}(ht:IsTup s.heap t items)(hs:s.heap.IsSliceOf sl vl vu .none)(pl:IsPart vl lo)(pu:IsPart vu hi)
  (h1:aP items.size 0 lo=0) (h2:aP items.size items.size hi=items.size) (h:Q (.ref t) s):wpAny (model prog w) A (getItem (.ref t) (.ref sl)) Q E s:=by
 obtain⟨os,mi,vK,vO⟩:=id hs;have iD:s.TypeIs (.ref sl) "slice" := ⟨os,mi,vK⟩;unfold getItem
 try with_reducible refine iR ?_
 first|refine ae (ai ?_)|skip
 refine ae (wpAny_sequenceKey ht.typeIs (by decide) ?_);refine ae (t9 (name:=Str.ofString "__getitem__") ht.typeIs t4
  (ll t4 ht.typeIs entry_tuple_getitem ?_ (args_tuple_getitem _ _)))
 show wpAny _ _ (Builtin.Tuple.tupleItemsOf (.ref t) >>= _) _ _ s;refine ae (tupleItemsOf_ ht ?_);refine ae (qQ iD ?_);rw[ah (by decide)];refine ae (IV hs pl pu ?_);rw[h1,h2];have Zsw:((((0:Nat):Int) == 0&&(1:Int) == 1&&(items.size-0) == items.size)=true):=by simp
 show wpAny _ _ (if(((0:Nat):Int) == 0&&(1:Int) == 1&&(items.size-0) == items.size)=true then _ else _) _ _ s
 rw[ah Zsw];refine ae (m:=Builtin.Tuple.tupleIsExact (.ref t)) ?_;unfold Builtin.Tuple.tupleIsExact;refine ae (qQ ht.typeIs (ai ?_));show wpAny _ _ (if((Value.type "tuple") ==.type "tuple")=true then _ else _) _ _ s
 rw[ah (by decide)];refine ae (mH ?_)
 first
  | exact ai ⟨_,rfl,ai h⟩
  | exact ae (ai (ai ⟨_,rfl,ai h⟩))
end
end HT
namespace L2
open PySem PySem.Spec PyProof.Rows
mutual
inductive Dp(K:PySem.W.Frag)(H:Hp):V->PyData->Prop
 | aD:Dp K H .aD .none
 | bl (b:Bool):Dp K H (.bl b) (.bool b)
 | int (i:Int):Dp K H (.int i) (.int i)
 | str (x:Str):Dp K H (.str x) (.str x)
 | lst {a:Addr} {xs:List V} {ds:List PyData}:ak K H a xs->jr K H xs ds->Dp K H (.ref a) (.list ds)
 | tup {a:Addr} {xs:List V} {ds:List PyData}:aL K H a xs->jr K H xs ds->Dp K H (.ref a) (.tuple ds)
inductive jr(K:PySem.W.Frag)(H:Hp):List V->List PyData->Prop
 | nil:jr K H [] []
 | cons {v:V} {vs:List V} {d:PyData} {ds:List PyData}:Dp K H v d->jr K H vs ds->jr K H (v::vs) (d::ds)
end
section
variable{X:Cx}{pins:List (Addr×Obj)}{σ : St}{H:Hp}{s:Shared}
mutual
theorem Dp.reads(I:Inv X pins σ H s):∀{v:V}{d:PyData}{u:Value},Dp X.K H v d->RelV v u->∃as,Reads s.heap u d as
 | _,_,u,.aD,r=>by
  obtain rfl:u=Value.none:=r;exact⟨_,.none⟩
 | _,_,u,.bl b,r=>by
  obtain rfl:u=Value.bool b:=r;exact⟨_,.bool b⟩
 | _,_,_,.int i,⟨t,e⟩=>by
  subst e;exact⟨_,.int i t⟩
 | _,_,_,.str x,⟨t,e⟩=>by
  subst e;exact⟨_,.str x t⟩
 | _,_,u,@Dp.lst _ _ a xs ds hq cx,r=>by
  obtain rfl:u=Value.ref a:=r;obtain⟨its,rv,⟨o,n,e,hc,_,hd⟩,_⟩:=I.list hq;obtain⟨as,ha⟩:=jr.reads I cx rv;exact⟨_,.list e hc hd (by simpa using ha)⟩
 | _,_,u,@Dp.tup _ _ a xs ds hq cx,r=>by
  obtain rfl:u=Value.ref a:=r;obtain⟨its,rv,⟨o,e,hc,n,hd⟩,_⟩:=I.tuple hq;obtain⟨as,ha⟩:=jr.reads I cx rv;exact⟨_,.tuple e hc hd (by simpa using ha)⟩
theorem jr.reads(I:Inv X pins σ H s):∀{vs:List V}{ds:List PyData}{us:List Value},jr X.K H vs ds->Vals vs us->∃as,ReadsAll s.heap us ds as
 | _,_,_,.nil,.nil=>⟨_,.nil⟩
 | _,_,_,.cons h t,.cons r rs=>by
  obtain⟨as,ha⟩:=Dp.reads I h r;obtain⟨bs,hb⟩:=jr.reads I t rs;exact⟨_,.cons ha hb⟩
end
end
section
variable{X:Cx}
def ML(K:PySem.W.Frag)(neg:Bool):R2:=fun x y H Q=>∃d e,Dp K H x d/\Dp K H y e/\d.canLay0=true/\e.canLay0=true/\min d.depth e.depth<=200/\Q (.bl (if neg then !PyData.eqv d e else PyData.eqv d e)) H
theorem Vv(hu:X.A.units+200<cLine):bB X (compareOp .Eq) (ML X.K false):=by
 intro pins s σ H x y v u Q I rx ry h;obtain⟨d,e,hx,hy,h1,h2,hd,q⟩:=h;obtain⟨as,ra⟩:=hx.reads I rx;obtain⟨bs,rb⟩:=hy.reads I ry;exact PySem.SeqAt.compareEq_reads ra rb h1 h2 (by lia) ⟨.bl _,H,I,rfl,q⟩
theorem LQ(hu:X.A.units+200<cLine):bB X (compareOp .NotEq) (ML X.K true):=by
 intro pins s σ H x y v u Q I rx ry h;obtain⟨d,e,hx,hy,h1,h2,hd,q⟩:=h;obtain⟨as,ra⟩:=hx.reads I rx;obtain⟨bs,rb⟩:=hy.reads I ry;exact PySem.SeqAt.compareNe_reads ra rb h1 h2 (by lia) ⟨.bl _,H,I,rfl,q⟩
theorem pE{A:Around}{k:Nat}(hr:cj k A):A.units+200<cLine:=by
 have:=hr.un;lia
end
section
variable{X:Cx}{e:Expr}{te:TE}{pos p2 p3 p4:Pos}{j:Nat}
def VC(K:PySem.W.Frag):V->Option Int->Option Int->Hp->VK->Prop:=fun x lo hi H Q=>∃a xs,x=.ref a/\aL K H a xs /\
 ((HT.aP xs.length 0 lo=0/\HT.aP xs.length xs.length hi=xs.length)->Q (.ref a) H)/\∀p,H p=none->Q (.ref p) (upd H p (.tup (dI xs lo hi)))
theorem UR:qZ X (VC X.K):=by
 intro pins s σ H x v vl vu lo hi sl Q I rx hs pl pu h;obtain⟨a,xs,rfl,hx,q1,q2⟩:=h;by_cases c:HT.aP xs.length 0 lo=0/\HT.aP xs.length xs.length hi=xs.length
 ·cases rx;obtain⟨its,r,ht,hz⟩:=I.tuple hx;have hlen:its.toArray.size=xs.length:=by rw[bW];exact r.length.symm
  refine⟨"tuple",_,t4.lookup,ht.typeIs,?_⟩;exact HT.Qr ht hs pl pu (by rw[hlen];exact c.1) (by rw[hlen];exact c.2) ⟨.ref a,H,I,rfl,q1 c⟩
 ·exact U6 pins s σ H (.ref a) v vl vu lo hi sl Q I rx hs pl pu ⟨a,xs,rfl,hx,c,q2⟩
end
def TK(H H':Hp):Prop := ∀b xs,H b=some (.tup xs)->H' b=some (.tup xs)
theorem TK.trans{H H1 H2:Hp}(a:TK H H1)(b:TK H1 H2):TK H H2:=fun c xs h=>b c xs (a c xs h)
theorem TK.new{H:Hp}{p:Addr}{o:HO}(h:H p=none):TK H (upd H p o):=fun b xs q=>by
 rw[Zi (Zo q h)];exact q
theorem TK.lst{H:Hp}{p:Addr}{xs:List V}{o:HO}(h:H p=some (.lst xs)):TK H (upd H p o):=fun b ys q=>by
 by_cases e:b=p
 ·subst e;rw[h] at q;cases q
 ·rw[Zi e];exact q
theorem ZD.tk{H H':Hp}(h:ZD H H'):TK H H':=fun b xs q=>h b _ q
theorem ZD.new{H:Hp}{p:Addr}{o:HO}(h:H p=none):ZD H (upd H p o):=fun b u q=>by
 rw[Zi (Zo q h)];exact q
theorem ZD.eV{H H':Hp}{p:Addr}{o:HO}(h:ZD H H')(hp:H p=none):ZD H (upd H' p o):=fun b u q=>by
 rw[Zi (Zo q hp)];exact h b u q
theorem Z1{H:Hp}{p b:Addr}{o:HO}(h:upd H p o b=none):b≠p/\H b=none:=by
 by_cases e:b=p
 ·subst e;rw[Zc] at h;cases h
 ·rw[Zi e] at h;exact⟨e,h⟩
section
variable{X:Cx}
def VI:V->Option Int->Option Int->Hp->VK->Prop:=fun x lo hi H Q=>∃a xs,x=.ref a/\H a=some (.tup xs)/\∀p H',ZD H H'->H' p=some (.tup (dI xs lo hi))->Q (.ref p) H'
theorem Lv:qZ X VI:=by
 intro pins s σ H x v vl vu lo hi sl Q I rx hs pl pu h;obtain⟨a,xs,rfl,hx,q⟩:=h;refine UR pins s σ H (.ref a) v vl vu lo hi sl Q I rx hs pl pu ⟨a,xs,rfl,aL.of hx,fun c=>q a H (ZD.refl H) ?_,fun p hp=>q p _ (ZD.new hp) Zc⟩;rw[hx];unfold dI;rw[c.1,c.2,qL,Nat.sub_zero,oG]
end
theorem Paired.app{α β : Type}{F : α -> β -> Prop}:∀{l₁ OX : List α}{l₂ OY : List β},Paired F l₁ l₂ -> Paired F OX OY -> Paired F (l₁ ++ OX) (l₂ ++ OY)
 | _,_,_,_,.nil,s=>s
 | _,_,_,_,.cons r t,s=>.cons r (Paired.app t s)
theorem mR{α : Type}(l:List α)(a : α):(l ++ [a])[(l ++ [a]).length-1]?= some a:=by
 simp
theorem mW{α : Type}(l:List α)(a : α):(l ++ [a]).dropLast=l:=by
 simp
end L2
namespace Fg
open PySem L2 js
def pP(t:Str):Prop:=t.cps.toList ≠ []/\∀c∈t.cps.toList,97<=c/\c<=122
def jH(t:Str):Prop := ∀c∈t.cps.toList,97<=c/\c<=122
theorem B7(x y:Str):(x++y).cps.toList=x.cps.toList++y.cps.toList:=by
 show(x.cps++y.cps).toList=_;simp
theorem KO{x y:Str}(hx:jH x)(hy:jH y):jH (x++y):=fun c hc=>by
 rw[B7] at hc;exact(bK.mp hc).elim (hx c) (hy c)
theorem SR{x:Str}(hx:jH x)(n:Nat):jH (fP x n):=fun c hc=>by
 rw[KN] at hc;obtain⟨l,hl,hc⟩:=List.mem_flatten.mp hc;rw[(List.mem_replicate.mp hl).2] at hc;exact hx c hc
theorem pP.Zti{t:Str}(h:pP t):jH t:=h.2
theorem V4{x y:Str}(hx:pP x)(hy:jH y):pP (x++y):=⟨by rw[B7];intro z;exact hx.1 (List.append_eq_nil_iff.mp z).1,KO hx.2 hy⟩
theorem Ku{c:Nat}(h1:97<=c)(h2:c<=122):pP ⟨#[c]⟩:=⟨by simp,fun d hd=>by simp at hd;lia⟩
def kf:Str := "abcdefghijklmnopqrstuvwxyz"
theorem UZ:∀n:_root_.Fin 26,97<=kf.cps.toList.getD n.val 0/\kf.cps.toList.getD n.val 0<=122/\n.val<kf.cps.toList.length:=by decide
theorem LN{i:Int}(h0:0<=i)(h1:i<26):∃c,dO kf.cps.toList i=some c/\97<=c/\c<=122:=by
 obtain⟨n,rfl⟩:=Int.eq_ofNat_of_zero_le h0;obtain⟨a,b,c⟩:=UZ ⟨n,by lia⟩;refine⟨_,i8 (cH c),?_,?_⟩
 ·rw[List.getD_eq_getElem?_getD,cH c] at a;exact a
 ·rw[List.getD_eq_getElem?_getD,cH c] at b;exact b
theorem Lo{ns:List Int}{k:Int}(h0:0<=k)(h:k<(ns.length:Int)):∃v:Int,dO (ns.map V.int) k=some (.int v):=by
 obtain⟨n,rfl⟩:=Int.eq_ofNat_of_zero_le h0;have hn:n<ns.length:=by lia
 exact⟨ns[n],i8 (by rw[f',cH hn];rfl)⟩
theorem K4{ws:List Str}{n:Nat}(h:n<ws.length):dO (ws.map V.str) ((n:Nat):Int)=some (.str ws[n]):=i8 (by rw[f',cH h];rfl)
def yu(K:PySem.W.Frag):Sp:=fun vs H Q _=>∃(a:Addr)(ns:List Int)(k:Int),vs=[.ref a,.int k]/\ak K H a (ns.map V.int)/\ns.length<=63/\0<=k/\∀v:Int,Q (.int v) H
def yG(K:PySem.W.Frag):Sp:=fun vs H Q _=>∃(a:Addr)(ns:List Int),vs=[.ref a]/\ak K H a (ns.map V.int)/\ns.length<=63/\∀H',Q (.bl true) H'
theorem Zk{n:Nat}(h:n<=100000):n<=sizeLine:=cY h (by decide)
theorem ZW{n:Nat}(h:n<=100000):n<sizeLine:=xi h (by decide)
theorem ZG(x y:Str):(x++y).length=x.length+y.length:=by
 show(x.cps++y.cps).size=_;rw[Array.size_append];rfl
theorem Lh(j:Int):(0:Int)<if j > 1 then j else 1:=by
 split
 ·rename_i h
  exact Int.lt_trans (by decide) h
 ·decide
theorem Kx(xs:List V)(n:Nat):dI xs (some (n:Int)) none=xs.drop n:=by
 unfold dI;rw[HT.yb,HT.Ks];rw[j6 (by rw[dE];exact az _)];by_cases h:n<=xs.length
 ·rw[Nat.min_eq_left h]
 ·rw[Nat.min_eq_right (by lia),List.drop_length,wZ (by lia)]
theorem S8(xs:List V)(n:Nat):dI xs none (some (n:Int))=xs.take n:=by
 unfold dI;rw[HT.yb,HT.Ks,qL,Nat.sub_zero];by_cases h:n<=xs.length
 ·rw[Nat.min_eq_left h]
 ·rw[Nat.min_eq_right (by lia),oG,j6 (by lia)]
end Fg
namespace L2
open PySem PySem.Spec PyProof.Rows
theorem Jv:∀{ys:List Str}{us:List Value},Vals (ys.map V.str) us->StrsAre us ys
 | [],_,.nil=>.nil
 | y::ys,_,.cons r t=>by
  obtain⟨tk,e⟩:=r;subst e;exact .cons y tk (Jv t)
section
variable{X:Cx}
def rJoin(K:PySem.W.Frag):V->List V->Hp->VK->Prop:=fun x vs H Q=>∃z a ys,x=.str z/\vs=[.ref a]/\ak K H a (ys.map V.str)/\(ys.map (·.length)).sum+ys.length*z.length<=16777216/\Q (.str (Txt.join z ys)) H
theorem rV:qV X "str.join" (rJoin X.K):=by
 intro pins s σ H x vs v us Q I rx rv h;obtain⟨z,a,ys,rfl,rfl,hS,hz,q⟩:=h;obtain⟨t,rfl⟩:=rx;obtain⟨u,rfl,ru⟩:=rv.one;cases ru;obtain⟨its,r,pl,_⟩:=I.list hS;exact join_list pl.isList (by simpa using Jv r) hz fun t' k=>⟨.str _,H,I.tok _,⟨_,rfl⟩,q⟩
theorem Sv(hu:X.A.units+200<cLine):bB X (compareOp .NotEq) (fun x y H Q=>∃a b xs,x=.ref a/\y=.ref b/\ak X.K H a xs/\ak X.K H b []/\Q (.bl (!xs.isEmpty)) H):=by
 intro pins s σ H x y v u Q I rx ry h;obtain⟨a,b,xs,rfl,rfl,ha,hb,q⟩:=h;cases xs with
 | nil=>exact LQ hu pins s σ H _ _ v u Q I rx ry ⟨.list [],.list [],.lst ha .nil,.lst hb .nil,rfl,rfl,by decide,q⟩
 | cons x xs =>
  cases rx;cases ry;obtain⟨its,r,pl,_⟩:=I.list ha;obtain⟨mr,r2,G8,_⟩:=I.list hb;have l1:=r.length;have l2:=r2.length;refine PySem.SeqAt.RcNeAt.lists_lengths pl.isList G8.isList ?_ (by lia) X.prog X.w X.xe _ ⟨.bl _,H,I,rfl,q⟩;rw[bW,bW,<- l1,<- l2];rfl
theorem BA(hu:X.A.units+200<cLine):bB X (compareOp .Eq) (fun x y H Q=>∃a b xs,x=.ref a/\y=.ref b/\ak X.K H a xs/\ak X.K H b []/\Q (.bl xs.isEmpty) H):=by
 intro pins s σ H x y v u Q I rx ry h;obtain⟨a,b,xs,rfl,rfl,ha,hb,q⟩:=h;cases xs with
 | nil=>exact Vv hu pins s σ H _ _ v u Q I rx ry ⟨.list [],.list [],.lst ha .nil,.lst hb .nil,rfl,rfl,by decide,q⟩
 | cons x xs =>
  cases rx;cases ry;obtain⟨its,r,pl,_⟩:=I.list ha;obtain⟨mr,r2,G8,_⟩:=I.list hb;have l1:=r.length;have l2:=r2.length;refine PySem.SeqAt.RcAt.lists_lengths pl.isList G8.isList ?_ (by lia) X.prog X.w X.xe _ ⟨.bl _,H,I,rfl,q⟩;rw[bW,bW,<- l1,<- l2];rfl
end
end L2
namespace Fg
open PySem L2 js
def cs(x:Str):List Nat:=x.cps.toList
theorem jB{x y:Str}(h:cs x=cs y):x=y:=by
 cases x with
 | mk a =>
  cases y with
  | mk b=>exact congrArg Str.mk (Array.toList_inj.mp h)
theorem Z2(x y:Str):cs (x++y)=cs x++cs y:=B7 x y
def jn(sep:Str):List Str->List Nat
 | []=>[]
 | [x]=>cs x
 | x::y::r=>cs x++(cs sep++jn sep (y::r))
theorem JG(sep:Str):∀ys:List Str,cs (Str.join sep ys)=jn sep ys
 | []=>rfl
 | [x]=>rfl
 | x::y::r=>by
  show cs (x++sep++Str.join sep (y::r))=_;rw[Z2,Z2,JG sep (y::r),bS];rfl
theorem rR(sep:Str)(ys:List Str):cs (Txt.join sep ys)=jn sep ys:=by
 have e:Txt.join sep ys=Str.join sep ys:=PySem.StrLaws.glued_eq_join sep ys;rw[e,JG]
end Fg
namespace L2
open PySem PySem.Spec PyProof.Rows
section
variable{P:Program}{w:World}{H:Hp}{h h':Heap}{a:Addr}{o:HO}
theorem bL.there(x:bL P w H h a o):∃ob,h.get? a=some ob:=by
 cases o with
 | lst xs=>obtain⟨_,_,_,_,e⟩:=x;exact⟨_,e⟩
 | tup xs=>obtain⟨_,_,_,ob,e,_⟩:=x;exact⟨_,e⟩
 | dK aj=>obtain⟨_,_,_,_,ob,_,_,e,_⟩:=x;exact⟨_,e⟩
 | dT aj=>obtain⟨_,_,_,_,ob,_,_,e,_⟩:=x;exact⟨_,e⟩
 | set S n=>obtain⟨ob,_,_,_,e,_⟩:=x;exact⟨_,e⟩
 | ins C dx fs=>obtain⟨_,_,_,e,_⟩:=x;exact⟨_,e⟩
 | own y=>obtain⟨_,e⟩:=x;exact⟨_,e⟩
 | xd fs=>obtain⟨_,⟨_,_,_,e,_⟩,_⟩:=x;exact⟨_,e⟩
 | AA lo hi=>obtain⟨_,_,_,e⟩:=x;exact⟨_,e⟩
 | gx ob u=>obtain⟨e,_⟩:=x;exact⟨_,e⟩
 | ou ps=>exact⟨_,(show h.get? a=some _ from x)⟩
 | met f y=>exact⟨_,(show h.get? a=some _ from x)⟩
 | ext φ=>obtain⟨_,⟨_,e⟩,_⟩:=x;exact⟨_,e⟩
theorem bE.NG(x:bE P w H h)(e:h.get? a=none):H a=none:=by
 cases q:H a with
 | none=>rfl
 | some u =>
  obtain⟨ob,e'⟩:=(x a u q).there;rw[e] at e';cases e'
end
section
variable{X:Cx}{pins:List (Addr×Obj)}{σ : St}{H:Hp}{s:Shared}{h':Heap}
theorem Inv.Ztd{a:Addr}{o:HO}{t':Nat}(I:Inv X pins σ H s)(k:∀b u,s.heap.get? b=some u->h'.get? b=some u)(hp:s.heap.get? a=none)(new:bL X.prog X.w (upd H a o) h' a o) :
  Inv X pins σ (upd H a o) { s with heap:=h',toks:=t' }:=by
 have hn:=I.aq.NG hp;have ne:∀b u,s.heap.get? b=some u->b≠a:=fun b u e z=>by
  rw[z,hp] at e;cases e
 refine I.un ⟨fun b u q _ _ _=>k b u q,fun b u q _ _ _=>⟨u.slots,k b u q⟩,fun b u q n _=>by rw[Zi (ne b u q)];exact n,fun b u q _=>⟨u,k b u q⟩,
  fun b xs q=>by rw[Zi (Zo q hn)];exact q,fun b u xs q=>by rw[Zi (Zo q hn)];exact q,fun b ps q=>⟨#[],by rw[Zi (Zo q hn),q];simp⟩⟩ fun b u e=>?_
 by_cases hb:b=a
 ·subst hb;rw[Zc] at e;cases e;exact new
 ·rw[Zi hb] at e;exact(I.aq b u e).oq (fun c v _ q=>k c v q) (fun c q=>by rw[Zi (Zo q hn)];exact q) fun c xs q=>by rw[Zi (Zo q hn)];exact q
end
def uk(z:Str):It:=⟨fun i _=>i<z.cps.size,fun i H x H'=>H'=H/\∃c,z.cps[i]?= some c/\x=.str ⟨#[c]⟩,fun i _=>z.cps.size<=i⟩
def Be(z:Str):Prop:=z.cps.all (· < 128)=true
theorem Tj{P:Program}{w:World}{K:PySem.W.Frag}{tg:Expr}(z:Str)(t:Tok)(it:Addr):Turn P w K tg (uk z) [it] it (fun i h=>h.IsStrIter it "str_ascii_iterator" z t i) where
 mem:=by simp
 obj:=fun i h st b hb=>by
  have e:b=it:=by simpa using hb
  subst e;obtain⟨o,e,c,d⟩:=st;exact⟨o,e,fun v y=>by rw[d] at y;cases y⟩
 keep:=fun i h h' st k=>by
  obtain⟨o,e,r⟩:=st;exact⟨o,k it (by simp) o e,r⟩
 item:=by
  intro X hP hw hK hc i pins s σ H E I hf st hg;subst hP hw hK;have gh:i<z.cps.size:=hg;obtain⟨f0,f1,f2,f3,f4,f5⟩:=hf it (by simp);have hx:z.cps[i]?= some z.cps[i]:=eX gh;refine wpAny_pyNext_ascii_item st hx fun h' ag sb=>?_;have I1:Inv X pins σ H { s with heap:=h',toks:=s.toks+1 }:=I.turned (t':=s.toks+1) (fun b o hb e=>(sb.2 b hb).trans e) f0 f1 f3 f4 f5;obtain⟨o,e,c,d⟩:=id ag;exact⟨_,rfl,va (s:={ s with heap:=h',toks:=s.toks+1 }) e c d (by decide) ⟨.str _,H,I1,⟨_,rfl⟩,⟨rfl,_,hx,rfl⟩,ag,fun b hb=>(hf b hb).1⟩⟩
 done:=by
  intro X hP hw hK hc i pins s σ H E I hf st hg;subst hP hw hK;have gh:z.cps.size<=i:=hg;obtain⟨f0,f1,f2,f3,f4,f5⟩:=hf it (by simp);exact wpAny_pyNext_ascii_end (I.ok.hd hc) st (tK gh) fun h' eb=>⟨rfl,I.turned (t':=s.toks) (fun b o hb e=>eb b o hb e) f0 f1 f3 f4 f5⟩
 self:=fun _ _ _ _ _ st h=>wpAny_pyIter_striter_ascii st h
section
variable{X:Cx}{tg:Expr}
def Wn(tl:TE):TI:=fun σ H R=>tl σ H fun x H1=>∃z,x=.str z/\Be z/\R (uk z) H1
theorem L1{l:Expr}{tl:TE}(hl:PE X l tl):PI X tg l (Wn tl):=by
 intro pins s σ H R I h;refine aw (hl pins s σ H _ I h) fun v s1 ⟨x,H1,I1,r1,q1⟩=>?_;obtain⟨z,e,ha,q⟩:=q1;subst e;obtain⟨t,rfl⟩:=r1;refine wpAny_pyIter_ascii ha ⟨s1.heap.objs.size,[s1.heap.objs.size],_,_,H1,rfl,I1.kept (t':=s1.toks) fun b o e=>aJ _ e,Tj z t _,⟨_,cb _ rfl,rfl,rfl⟩,fun b hb=>?_,q⟩;have e:b=s1.heap.objs.size:=by simpa using hb
 subst e;exact I1.nv (az _) (I1.aq.fresh (az _))
end
theorem Lb{z:Str}{g:TG}{tb:TS}{D:Ends}{σ : St}{H:Hp}(Pv:Nat->St->Hp->Prop)(h0:Pv 0 σ H)
  (hs:∀i c σ H,z.cps.toList[i]?= some c->Pv i σ H->g (.str ⟨#[c]⟩) σ H fun dU H2=>tb { D with nx:=Pv (i+1),ct:=Pv (i+1),bk:=D.nx } dU H2) (hd:∀ σ H,Pv z.cps.toList.length σ H->D.nx σ H) :
  ∃W:Nat->Nat->St->Hp->Prop,(∃m,W 0 m σ H)/\∀i m σ H,W i m σ H ->
   ((uk z).stop i H/\D.nx σ H)\/((uk z).go i H/\∃N:St->Hp->Prop,(∀ ao H',N ao H'->∃m',m'<m/\W (i+1) m' ao H')/\∀x H',(uk z).kW i H x H'->g x σ H' fun dU H2=>tb { D with nx:=N,ct:=N,bk:=D.nx } dU H2):=by
 have hlen:z.cps.toList.length=z.cps.size:=aA;refine⟨fun i m σ H=>m=z.cps.size-i/\i<=z.cps.size/\Pv i σ H,⟨z.cps.size,by simp,bi _,h0⟩,?_⟩;rintro i m σ H ⟨rfl,hi,p⟩;by_cases aC:i<z.cps.size
 ·refine .inr ⟨aC,Pv (i+1),fun ao H' p'=>⟨z.cps.size-(i+1),by lia,rfl,aC,p'⟩,fun x H' y=>?_⟩;obtain⟨e,c,hc,hx⟩:=y;subst e hx;exact hs i c σ _ (by rw[bD];exact hc) p
 ·have e:i=z.cps.size:=by lia
  subst e;refine .inl ⟨az _,hd σ H ?_⟩;rw[hlen];exact p
section
variable{X:Cx}
theorem Kd:∀{bs:List Bool}{us:List Value},Vals (bs.map V.bl) us->∀(i:Nat)(v:Value),us[i]?= some v->∃b,bs[i]?= some b/\v=.bool b
 | [],_,.nil,i,v,e=>by simp at e
 | b::bs,_,.cons r t,0,v,e=>by
  obtain rfl:_=Value.bool b:=r;simp at e;exact⟨b,rfl,e.symm⟩
 | b::bs,_,.cons r t,i+1,v,e=>by
  obtain⟨c,h1,h2⟩:=Kd t i v (by simpa using e);exact⟨c,by simpa using h1,h2⟩
theorem all_range:∀(bs:List Bool),((List.range bs.length).all fun i=>(bs[i]?).getD true)=bs.all id:=by
 intro bs;rw[jl,eZ,eZ];constructor
 ·intro h b hb;obtain⟨i,hi,rfl⟩:=List.getElem_of_mem hb;have:=h i (hX.mpr hi);rw[cH hi] at this;exact this
 ·intro h i hi;have cm:=hX.mp hi;rw[cH cm];exact h _ (w6 cm)
theorem TB(hc:X.calm=true):fO X (.builtin "all") (fun xs H Q=>∃(p:Addr)(bs:List Bool),xs=[.ref p]/\ak X.K H p (bs.map V.bl)/\Q (.bl (bs.all id)) H):=by
 intro pins s σ H xs us Q I r h;obtain⟨p,bs,rfl,hS,q⟩:=h;obtain⟨u,rfl,ru⟩:=Vals.one r;cases ru;obtain⟨its,rv,pl,hz⟩:=I.list hS;have hl:=pl.isList;have hlen:bs.length=its.length:=by
  have:=rv.length;rw[aV] at this;exact this
 refine call_all_walk (wpAny_pyIter_list hl ⟨s.heap.objs.size,[s.heap.objs.size,p],[s.heap.objs.size],its.toArray.size,_,_,fun i=>(bs[i]?).getD true,rfl,
  Walks.list (A:=X.A.in1) (I.ok.hd hc) _ p (bX pl.lt) its.toArray,⟨⟨_,cb _ rfl,rfl,rfl⟩,hl.push _⟩,fun i v s' Q' E' hP hQ=>?_,fun h' tk hk=>?_⟩)
 ·obtain⟨b,e,e2⟩:=Kd rv i v (by simpa using hP);subst e2;simp only[e,Option.getD_some] at hQ;exact mI hQ
 ·rw[bW,<- hlen,all_range];refine⟨.bl _,H,I.kept (t':=tk) fun b o e=>hk b o (fun hm=>?_) (aJ _ e),rfl,q⟩;rw[bh.mp hm] at e;exact gN _ (aT e)
theorem kq:qZ X (fun x lo hi H Q=>∃z,x=.str z/\z.length<=sizeLine/\Q (.str (PySem.StrLaws.sliceText z lo hi)) H):=by
 intro pins s σ H x v vl vu lo hi sl Q I rx hs pl pu h;obtain⟨z,rfl,hz,q⟩:=h;obtain⟨t,rfl⟩:=rx;refine⟨"str",_,F.slot_str_getitem.lookup,oO s z t,?_⟩;have key:∀l u:Option (Int×Tok),s.heap.IsSlice sl l u none->l.map (·.1)=lo->u.map (·.1)=hi->wpAny (model X.prog X.w) X.A (getItem (.str z t) (.ref sl)) (EP X pins σ Q) X.xe s:=by
  intro l u hsl el eu;refine wpAny_getItem_str_slice hsl rfl ?_;unfold sliceMade slicePicked;rw[el,eu];unfold PySem.StrLaws.sliceText at q;by_cases c:((1:Int) == 1&&(Builtin.Str.strSliceIndices lo hi 1 z.length).length == z.length)=true
  ·rw[ah c] at q;rw[ah (show((((none:Option (Int×Tok)).map (·.1)).getD 1 == 1)&&(Builtin.Str.strSliceIndices lo hi (((none:Option (Int×Tok)).map (·.1)).getD 1) z.length).length == z.length)=true from c)];exact⟨.str z,H,I,⟨_,rfl⟩,q⟩
  ·rw[af c] at q;rw[af (show ¬ ((((none:Option (Int×Tok)).map (·.1)).getD 1 == 1)&&(Builtin.Str.strSliceIndices lo hi (((none:Option (Int×Tok)).map (·.1)).getD 1) z.length).length == z.length)=true from c)];refine⟨?_,.str _,H,I.tok _,⟨_,rfl⟩,q⟩;show(((Builtin.Str.strSliceIndices lo hi 1 z.length).filterMap (z.cps[·]?)).toArray).size<=sizeLine;rw[bW];refine cY (List.length_filterMap_le _ _) (cY ?_ hz);refine sliceRange_length_le _ _ _ _ (fun _=>?_) (fun z=>absurd (by decide) z);cases lo with
   | none =>
    cases hi with
    | none=>exact⟨Int.le_refl 0,Int.le_refl _⟩
    | some j=>exact⟨Int.le_refl 0,by simp only[show(1:Int) > 0 by decide,gQ];lia⟩
   | some i =>
    cases hi with
    | none=>exact⟨by simp only[show(1:Int) > 0 by decide,gQ];lia,Int.le_refl _⟩
    | some j=>exact⟨by simp only[show(1:Int) > 0 by decide,gQ];lia,by simp only[show(1:Int) > 0 by decide,gQ];lia⟩
 cases pl with
 | none =>
  cases pu with
  | none=>exact key none none hs rfl rfl
  | int j tj=>exact key none (some (j,tj)) hs rfl rfl
 | int i ti =>
  cases pu with
  | none=>exact key (some (i,ti)) none hs rfl rfl
  | int j tj=>exact key (some (i,ti)) (some (j,tj)) hs rfl rfl
end
def du(c:Nat):Bool:=decide (97<=c)&&decide (c<=122)
theorem L9(a b:Nat):decide (([a]:List Nat) < [b])=decide (a<b):=by
 have h:(([a]:List Nat) < [b])↔a<b:=by
  constructor
  ·intro h;cases h with
   | rel h=>exact h
   | cons h=>cases h
  ·intro h;exact List.Lex.rel h
 exact j9.mpr h
section
variable{prog:Program}{w:World}{A:Around}{E:Value->Shared->Prop}{s:Shared}
theorem CP{x y:Str}{t u:Tok}{Q:Value->Shared->Prop}(h:Q (.bool (!decide (y.cps.toList<x.cps.toList))) s):wpAny (model prog w) A (compareOp .LtE (.str x t) (.str y u)) Q E s:=PySem.P.le_str h
theorem VR{jX : Shared}{C:Addr}{m:Str->Option Value}{sc:Scope}{env:Env}{n:Str}{pos:Pos}{v:Value}{Q:Value->Shared->Prop}(x:InComp jX C m s)(hk:sc.kind=.function)(hl:sc.names.lookup n=some .local)
  (hv:m n=some v) (hd:(n == ("__debug__" : Str))=false) (h:Q v s):wpAny (model prog w) A (eval (.Name n pos) (compEnv sc C env)) Q E s:=PySem.ldK x hk hl hv h hd
theorem V3{scope:Scope}{C:Addr}{env:Env}{m:Str->Option Value}{x:Str}{c:Nat}{u:Tok}{j j2:Nat}{p1 p2 p3 pos:Pos}(hk:scope.kind=.function)(hx:scope.names.lookup x=some .local)(hd:(x == ("__debug__" : Str))=false)
  (hn:s.heap.Ns C m) (hm:m x=some (.str ⟨#[c]⟩ u)) :
  wpAny (model prog w) A (eval (.Compare (.Constant (.str "a") j p1) [.LtE,.LtE] [.Name x p2,.Constant (.str "z") j2 p3] pos) (compEnv scope C env)) (fun r s'=>r=.bool (du c)/\Keeps s s') E s:=by
 have I0:=(InComp.start hn).tok (s.toks+1);have ea:("a" : Str).cps.toList=[97]:=by decide +kernel
 have ez:("z" : Str).cps.toList=[122]:=by decide +kernel
 have e1:decide (([c]:List Nat) < [97])=decide (c<97):=L9 c 97;have e2:decide (([122]:List Nat) < [c])=decide (122<c):=L9 122 c;refine Compare_chain (Calls.Constant_str ?_);refine chain_link ?_;refine VR I0 hk hx hm hd ?_;refine CP ?_;rw[ea];show wpAny (model prog w) A (truthy (.bool (!decide (([c]:List Nat) < [97])))) _ _ _;rw[e1];refine mI ?_;by_cases h1:c<97
 ·rw[aQ h1];refine ite_ff ⟨?_,I0.done⟩;unfold du;rw[aZ (by lia : ¬ 97<=c)];rfl
 ·rw[aZ h1];refine ite_tt ?_;refine chain_last ?_;refine Calls.Constant_str ?_;refine CP ?_;rw[ez];refine⟨?_,(I0.tok _).done⟩;show Value.bool (!decide (([122]:List Nat) < [c]))=_;rw[e2];unfold du;rw[aQ (by lia:97<=c)];by_cases h2:c<=122
  ·rw[aQ h2,aZ (by lia)];rfl
  ·rw[aZ h2,aQ (by lia)];rfl
end
theorem LK:∀{cs:List Nat}{vs us:List Value},(∀(j:Nat)(v:Value),vs[j]?= some v->∃(c:Nat)(u:Tok),cs[j]?= some c/\v=Value.str ⟨#[c]⟩ u)->vs.length=cs.length->Paired (fun v r=>∃c u,v=Value.str ⟨#[c]⟩ u/\r=Value.bool (du c)) vs us ->
  Vals (cs.map fun c=>.bl (du c)) us
 | [],[],_,_,_,.nil=>.nil
 | [],v::vs,_,_,h,_=>by simp at h
 | c::cs,[],_,_,h,_=>by simp at h
 | c::cs,v::vs,_,hP,hl,.cons hr t=>by
  obtain⟨c',u',e1,e2⟩:=hP 0 v rfl;obtain⟨c2,u2,e3,e4⟩:=hr;simp at e1;subst e1;rw[e2] at e3;injection e3 with e5 _;injection e5 with e6;simp at e6;subst e6;refine .cons e4 (LK (fun j v hv=>?_) (by simpa using hl) t);obtain⟨c3,u3,f1,f2⟩:=hP (j+1) v (by simpa using hv);exact⟨c3,u3,by simpa using f1,f2⟩
section
variable{X:Cx}{iter:Expr}{te:TE}{scope:Scope}{x:Str}{px p1 p2 p3 p4 pos:Pos}{j j2:Nat}
theorem R9(hi:PE X iter te)(hc:X.calm=true)(zu:∀y∈scope.names,y.2 ≠ .free)(nH:∀y∈scope.names,y.2 ≠ .cell)(hk:scope.kind=.function)
  (FQ:∀y∈scope.names,y.2=.local->scope.names.lookup y.1=some .local) (hx:scope.names.lookup x=some .local) (hd:(x == ("__debug__" : Str))=false) (hs:∀v,foldedSetIterable iter X.env v=pure v) :
  PE X (.ListComp (.Compare (.Constant (.str "a") j p1) [.LtE,.LtE] [.Name x p2,.Constant (.str "z") j2 p3] p4) [⟨.Name x px,iter,[],0⟩] scope pos)
   (fun σ H Q=>te σ H fun v H1=>∃z,v=.str z/\z.length<=sizeLine/\∀p,H1 p=none->Q (.ref p) (upd H1 p (.lst (z.cps.toList.map fun c=>.bl (du c))))):=by
 intro pins s σ H Q I h;refine wpAny_ListComp_walk (fun _=>true) (fun v r=>∃c u,v=Value.str ⟨#[c]⟩ u/\r=Value.bool (du c)) zu nH hk FQ hx (aw (hi pins s σ H _ I h) fun v s1 ⟨xv,H1,I1,r1,q1⟩=>?_) hs;obtain⟨z,rfl,hz,q⟩:=q1;obtain⟨t,rfl⟩:=r1;refine wpAny_pyIter_str fun o St W dh=>⟨s1.heap.objs.size,[s1.heap.objs.size],[s1.heap.objs.size],z.cps.size,SignAt z,St,rfl,W X.A (I1.ok.hd hc),hz,dh,fun b hb=>?_,⟨?_,?_⟩,?_⟩
 ·show b<(s1.heap.push o).objs.size;rw[iN,bh.mp hb];exact gO _
 ·intro C i v s3 m3 E' hP hn hm _ _;exact ai ⟨rfl,(InComp.start hn).done⟩
 ·intro C i v s3 m3 E' hP hp hn hm _ _;obtain⟨c,u,_,e⟩:=hP;subst e;exact eI (V3 hk hx hd hn hm) (fun r s4 h4=>⟨⟨c,u,rfl,h4.1⟩,h4.2⟩) fun _ _ e=>e
 ·intro D h' tk ys vs nU hlD ZrL hlen hP hF sQ;have P4:Paired (fun v r=>∃c u,v=Value.str ⟨#[c]⟩ u/\r=Value.bool (du c)) vs ys.toList:=by
   rw[List.filter_eq_self.mpr (fun _ _=>rfl)] at hF;exact hF
  have hV:=LK (cs:=z.cps.toList) (fun j v hv=>by
   obtain⟨c,u,e1,e2⟩:=hP j v hv;exact⟨c,u,by rw[bD];exact e1,e2⟩) (by rw[hlen,aA]) P4
  have up:∀b ob,s1.heap.get? b=some ob->h'.get? b=some ob:=fun b ob e=>sQ b ob (fun hm=>by
   rw[bh.mp hm] at e;exact gN _ (aT e)) (aJ _ e)
  have hD:s1.heap.get? D=none:=by
   cases e:s1.heap.get? D with
   | none=>rfl
   | some ob =>
    rw[aJ _ e] at nU;cases nU
  obtain⟨nD,eD⟩:=ZrL;refine⟨.ref D,_,I1.Ztd (a:=D) (o:=.lst (z.cps.toList.map fun c=>.bl (du c))) (t':=tk) up hD ⟨?_,ys.toList,nD,hV,by rw[Array.toArray_toList];exact eD⟩,rfl,q D (I1.aq.NG hD)⟩;rw[aV,aA];exact hz
end
end L2
namespace L2
open PySem
theorem Vt:bootBuiltins "all" = some (.builtin "all"):=by decide +kernel
end L2
namespace Fg
open PySem L2 js
def gu(z:Str):Bool:=decide (1<=z.length)&&decide (z.length<=8)&&z.cps.toList.all du
def Ci:Sp:=fun vs H Q _=>∃z:Str,vs=[.str z]/\z.length<=100000/\∀H',ZD H H'->Q (.bl (gu z)) H'
def ix(z:Str):Prop := ∀c∈z.cps.toList,c<128
theorem ix.asc{z:Str}(h:ix z):Be z:=by
 unfold Be;rw[Array.all_eq_true_iff_forall_mem];intro c hc;exact aQ (h c (by simpa using hc))
theorem Ss:∀c:_root_.Fin 128,(Builtin.Str.occurrences kf ⟨#[c.val]⟩ 0 kf.length 1).isEmpty= !du c.val:=by decide +kernel
theorem TX{c:Nat}(h:c<128):(Builtin.Str.occurrences kf ⟨#[c]⟩ 0 kf.length 1).isEmpty= !du c:=Ss ⟨c,h⟩
theorem QC{l:List Nat}{i c:Nat}(h:l[i]?= some c):(l.take (i+1)).all du=((l.take i).all du&&du c):=by
 obtain⟨hi,e⟩:=cA.mp h;rw[AY hi,List.all_append,e];simp
end Fg
namespace L2
open PySem PySem.Spec PyProof.Rows
section
variable{prog:Program}{w:World}{A:Around}{s:Shared}{R:Result->Shared->Prop}
abbrev oi:Value->Shared->Prop:=fun _ _=>False
theorem Rp{elt target iter:Expr}{scope:Scope}{pos:Pos}{it acc:Value}{env:Env}(I:Nat->Shared->Prop)
  (turn:∀n s,I n s->wpAny (model prog w) A (pyNext it) (fun r s1=>match r with
   | none=>R (.ok .next) s1
   | some v=>wpAny (model prog w) A (letOwnedTupleGo target it v) (fun _ s2=>wpAny (model prog w) A (assign target env v) (fun _ s3=>wpAny (model prog w) A (eval elt env) (fun x s4 =>
     wpAny (model prog w) A (call (.builtin "list.append") [acc,x]) (fun _ s5=>∃m,m<n/\I m s5) oi s4) oi s3) oi s2) oi s1) oi s)
  (n:Nat) (h:I n s):codeAny (model prog w) A (.compLoop (.ListComp elt [⟨target,iter,[],0⟩] scope pos) 0 it acc env) R s:=by
 refine codeAny_loop rfl I (fun n s hI=>?_) n h;show wpAny _ _ ((compTurn (.ListComp elt [⟨target,iter,[],0⟩] scope pos) 0 it acc env).onRaise (fun x=>do noteFrame x env;theTreesLotGoes x)) _ _ s;refine wpAny_noted ?_;rw[compTurn_list1];refine ae (wpAny_standAt (ae (eI (turn n s hI) (fun r s1 h1=>?_) fun _ _ h'=>h'.elim)));cases r with
 | none=>exact ai h1
 | some v =>
  refine ae (eI h1 (fun _ s2 h2=>?_) fun _ _ h'=>h'.elim);refine ae (eI h2 (fun _ s3 h3=>?_) fun _ _ h'=>h'.elim);refine ae (ae (eI h3 (fun x s4 h4=>?_) fun _ _ h'=>h'.elim));exact ae (eI h4 (fun _ s5 h5=>ai (ai ⟨rfl,h5⟩)) fun _ _ h'=>h'.elim)
end
def jC(X:Cx)(N:List Str)(scope:Scope)(cl:List (Str×Addr))(C:Addr)(fp:List Addr)(s:Shared)(H:Hp):Cx where
 prog:=X.prog
 w:=X.w
 K:=X.K
 mg:=X.mg
 base:=X.base
 A:=X.A
 N:=N
 dj := s
 qS := H
 env:=compEnvC scope cl C X.env
 outer:=X.stack
 stack:=X.stack
 ex:=fp
 fn:=fun _=>false
 calm:=X.calm
 pn:=[]
 xe:=oi
section
variable{X:Cx}{pins:List (Addr×Obj)}{σ : St}{H:Hp}{s:Shared}
theorem Tn{N:List Str}{scope:Scope}{cl:List (Str×Addr)}{C:Addr}{fp:List Addr}(I:Inv X pins σ H s)(hk:scope.kind=.function)(hC:s.heap.objs.size<=C)(bM:∀x c,cl.lookup x=some c->X.env.cells.lookup x=some c)
  (kG:∀x,((compEnvC scope cl C X.env).kindOf x=some .cell\/(compEnvC scope cl C X.env).kindOf x=some .free)->∃c,cl.lookup x=some c)
  (hf:∀b∈fp,eN X pins H b) (aC:∀b∈fp,b<s.heap.objs.size):(jC X N scope cl C fp s H).Ok where
 mod:=I.ok.mod
 kind:=hk
 glob:=I.ok.glob
 blt:=I.ok.blt
 above:=hC
 inj:=fun x y c e1 e2=>I.ok.inj x y c (bM x c e1) (bM y c e2)
 has:=kG
 lT:=fun x c e=>by cases e
 hd:=I.ok.hd
 frames:=I.ok.frames
 ot:=.inl rfl
 nu:=fun b hb=>⟨fun z=>absurd (cQ (aC b hb) hC) (by rw[show b=C from z];exact gN _),fun x c e=>(hf b hb).2.2.2.2.1 x c (bM x c e)⟩
 bs:=fun b o e=>⟨(I.bs b o e).1,(I.bs b o e).2⟩
 iA:=cY I.ok.iA I.sz
 mv:=fun b o e hb=>by
  rcases(hf b hb).2.2.2.1 with z|z
  ·exact I.ok.mv b o e z
  ·exact absurd (cQ (aT e) (cY I.ok.iA z)) (gN _)
 lV:=fun b hb hm=>by
  rcases aG.mp (I.He b hm) with z|z
  ·exact(hf b hb).2.1 z
  ·exact(hf b hb).2.2.1 z
 fU:=I.stack
 jN:=I.Hd
def vi(σ : St)(k:Nat)(cU:List (Str×Nat)):St:=List.replicate k none++cU.map fun p=>(σ[p.2]?).getD none
theorem QP{scope:Scope}{cl:List (Str×Addr)}{fp:List Addr}{tn:List Str}{cU:List (Str×Nat)}{h1:Heap}(I:Inv X pins σ H s)(hk:scope.kind=.function)(bM:∀x c,cl.lookup x=some c->X.env.cells.lookup x=some c)
  (kG:∀x,((compEnvC scope cl s.heap.objs.size X.env).kindOf x=some .cell\/(compEnvC scope cl s.heap.objs.size X.env).kindOf x=some .free)->∃c,cl.lookup x=some c)
  (hf:∀b∈fp,eN X pins H b) (aC:∀b∈fp,b<s.heap.objs.size)
  (vJ:∀p∈cU,X.N[p.2]?= some p.1/\X.env.scope.names.lookup p.1=some .cell/\((compEnvC scope cl s.heap.objs.size X.env).kindOf p.1=some .cell\/(compEnvC scope cl s.heap.objs.size X.env).kindOf p.1=some .free))
  (sT:h1.Ns s.heap.objs.size (fun _=>none)) (sQ:∀b o,s.heap.get? b=some o->h1.get? b=some o) :
  Inv (jC X (tn++cU.map (·.1)) scope cl s.heap.objs.size fp s H) [] (vi σ tn.length cU) H { s with heap:=h1 } where
 ok:=Tn I hk (az _) bM kG hf aC
 os:=rfl
 bare:=I.bare
 base:=Un.kept sQ
 loc:=by
  refine⟨fun _=>none,sT,fun i x v e1 e2 hv=>?_⟩;unfold vi at e2;by_cases hi:i<tn.length
  ·rw[oC (by rw[w8];exact hi),List.getElem?_replicate,ah hi] at e2;cases e2
  ·have hN:(cU.map (·.1))[i-tn.length]?= some x:=by
    have:(tn++cU.map (·.1))[i]?= some x:=e1;rw[mE (by lia)] at this;exact this
   rw[mE (by rw[w8];lia),w8,f'] at e2;rw[f'] at hN;cases hp:cU[i-tn.length]? with
   | none=>rw[hp] at hN;cases hN
   | some p =>
    rw[hp] at hN e2;have hx:p.1=x:=dk hN;have he:(σ[p.2]?).getD none=some v:=dk e2;obtain⟨c1,c2,c3⟩:=vJ p (cP hp);subst hx;have hs : σ[p.2]?= some (some v):=by
     cases q : σ[p.2]? with
     | none=>rw[q] at he;cases he
     | some z=>rw[q] at he;rw[show z=some v from he]
    obtain⟨m,hn,hl⟩:=I.loc;obtain⟨u,r,l⟩:=hl p.2 p.1 v c1 hs (.inr (.inl c2));refine⟨u,r,.inr ⟨c3,?_⟩⟩;obtain⟨c,hc⟩:=kG p.1 c3;refine⟨c,hc,?_⟩;rcases l with⟨l1,_⟩|⟨_,c',l2,o,ho,hd⟩
    ·have:X.env.kindOf p.1=some .cell:=c2;rw[this] at l1;cases l1
    ·have:c=c':=dk ((bM p.1 c hc).symm.trans l2);subst this;exact⟨o,sQ _ _ ho,hd⟩
 cell:=fun x c e=>by
  obtain⟨v,o,ho,hd⟩:=I.cell x c (bM x c e);exact⟨v,o,sQ _ _ ho,hd⟩
 free:=I.aq.fresh (az _)
 fS:=fun x c e=>I.fS x c (bM x c e)
 pin:=fun p hp=>by cases hp
 aq:=I.aq.kept sQ
 len:=by
  unfold vi;show _=(tn++cU.map (·.1)).length;rw[bu,bu,w8,aV,aV]
end
def VJ(wi:TI)(k:Nat)(cU:List (Str×Nat))(g:TG)(te:TE):TE:=fun σ H Q=>wi σ H fun J H1=>∀p,H1 p=none->∃W:Nat->Nat->List V->St->Hp->Prop,(∃m,W 0 m [] (vi σ k cU) (upd H1 p (.lst []))) /\
 ∀i m ys oz H2,W i m ys oz H2->H2 p=some (.lst ys)/\((J.stop i H2/\Q (.ref p) H2)\/(J.go i H2/\∀x H3,J.kW i H2 x H3->g x oz H3 fun dD H4=>te dD H4 fun v H5 =>
  H5 p=some (.lst ys)/\ys.length<sizeLine/\∃m',m'<m/\W (i+1) m' (ys ++ [v]) dD (upd H5 p (.lst (ys ++ [v])))))
section
variable{X:Cx}{elt iter tg:Expr}{scope:Scope}{pos:Pos}{wi:TI}{g:TG}{te:TE}{cl:List (Str×Addr)}
theorem Ru{pins:List (Addr×Obj)}{σ : St}{H2:Hp}{s2:Shared}{it:Addr}{fp:List Addr}{wM:Nat->Heap->Prop}{J:It}{R:Addr->Hp->Prop}{use:Option (Value->Sem Unit)}{Qp:Value->Shared->Prop}(tn:List Str)(cU:List (Str×Nat))(hg:∀C fp s H,PG (jC X (tn++cU.map (·.1)) scope cl C fp s H) tg g)(he:∀C fp s H,PE (jC X (tn++cU.map (·.1)) scope cl C fp s H) elt te)(hc:X.calm=true)(nH:∀y∈scope.names,y.2 ≠ .cell)(hk:scope.kind=.function)(bM:∀x c,cl.lookup x=some c->X.env.cells.lookup x=some c)(kG:∀C x,((compEnvC scope cl C X.env).kindOf x=some .cell\/(compEnvC scope cl C X.env).kindOf x=some .free)->∃c,cl.lookup x=some c)(vJ:∀C,∀p∈cU,X.N[p.2]?= some p.1/\X.env.scope.names.lookup p.1=some .cell/\((compEnvC scope cl C X.env).kindOf p.1=some .cell\/(compEnvC scope cl C X.env).kindOf p.1=some .free))
  (I2:Inv X pins σ H2 s2) (T:Turn X.prog X.w X.K tg J fp it wM) (aF:wM 0 s2.heap) (f2:∀b∈fp,eN X pins H2 b) (q2:∀p,H2 p=none->∃W:Nat->Nat->List V->St->Hp->Prop,(∃m,W 0 m [] (vi σ tn.length cU) (upd H2 p (.lst []))) /\
 ∀i m ys oz H2,W i m ys oz H2->H2 p=some (.lst ys)/\((J.stop i H2/\R p H2)\/(J.go i H2/\∀x H3,J.kW i H2 x H3->g x oz H3 fun dD H4=>te dD H4 fun v H5=>H5 p=some (.lst ys)/\ys.length<sizeLine/\∃m',m'<m/\W (i+1) m' (ys ++ [v]) dD (upd H5 p (.lst (ys ++ [v]))))))
  (qc:∀(s3:Shared)(H3:Hp),Inv X pins σ H3 s3->(∀b∈fp,eN X pins H3 b)->∀(acc:Addr)(AM:St)(H6:Hp)(s6:Shared),Inv (jC X (tn++cU.map (·.1)) scope cl s3.heap.objs.size fp s3 H3) [] AM H6 s6->R acc H6->compPost (model X.prog X.w) X.A X.xe use Qp (.ref acc) s3.heap.objs.size (.ok .next) s6) :
  wpAny (model X.prog X.w) X.A (newList []) (fun acc AH=>wpAny (model X.prog X.w) X.A (newFunctionEnv scope X.env.globals cl [] X.env.qual none Value.none (some X.env)) (fun Nn Zv3=>codeAny (model X.prog X.w) X.A (Code.compStart (.ListComp elt [⟨tg,iter,[],0⟩] scope pos) 0 (Value.ref it) acc { Nn with scope:=relabel scope X.env }) (compPost (model X.prog X.w) X.A X.xe use Qp acc Nn.locals) Zv3) X.xe AH) X.xe s2:=by
 have fresh:H2 s2.heap.objs.size=none:=I2.fresh;obtain⟨W,⟨m0,w0⟩,turn⟩:=q2 s2.heap.objs.size fresh;have qx:∀b∈fp,b<s2.heap.objs.size:=fun b hb=>by
  obtain⟨o,ho,_⟩:=T.obj _ _ aF b hb;exact aT ho
 have I3:Inv X pins σ (upd H2 s2.heap.objs.size (.lst [])) { s2 with heap:=s2.heap.push { cls:=.type "list",data:=.seq ([]:List Value).toArray } }:=I2.O2 (its:=[]) (t':=s2.toks) .nil (bi _);refine iS (wpAny_newFunctionEnv nH (by intro y hy;simp at hy) (fun h1 FT FX=>?_) hk);dsimp only at FT FX ⊢;generalize zj:({ s2 with heap:=s2.heap.push { cls:=.type "list",dict:=none,data:=.seq ([]:List Value).toArray } }:Shared)=s3 at I3;have FH:s2.heap.push { cls:=.type "list",dict:=none,data:=.seq ([]:List Value).toArray }=s3.heap:=by rw[<- zj]
 rw[FH] at FT FX ⊢;have sz3:s3.heap.objs.size=s2.heap.objs.size+1:=by rw[<- FH,iN]
 have lt3:∀b∈fp,b<s3.heap.objs.size:=fun b hb=>cQ (qx b hb) (by rw[sz3];exact h_ _);have f3:∀b∈fp,eN X pins (upd H2 s2.heap.objs.size (.lst [])) b:=fun b hb=>⟨by rw[Zi (bX (qx b hb))];exact(f2 b hb).1,(f2 b hb).2⟩;have OW:∀b o,s3.heap.get? b=some o->h1.get? b=some o:=fun b o q=>FX.extBut b o (bX (aT q)) (aJ _ q);have aS:wM 0 h1:=T.keep _ _ _ aF fun b hb o q=>OW b o (by rw[<- FH];exact aJ _ q);have I4:=(QP (tn:=tn) I3 hk bM (kG _) f3 lt3 (vJ _) FT OW).tok (s2.toks+([]:List (Str×Value)).length);have loop:codeAny (model X.prog X.w) X.A (.compLoop (.ListComp elt [⟨tg,iter,[],0⟩] scope pos) 0 (.ref it) (.ref s2.heap.objs.size) (compEnvC scope cl s3.heap.objs.size X.env))
   (compPost (model X.prog X.w) X.A X.xe use Qp (.ref s2.heap.objs.size) s3.heap.objs.size) { s3 with heap:=h1,toks:=s2.toks+([]:List (Str×Value)).length }:=by
  refine Rp (fun n s'=>∃i ys ao H',Inv (jC X (tn++cU.map (·.1)) scope cl s3.heap.objs.size fp s3 (upd H2 s2.heap.objs.size (.lst []))) [] ao H' s'/\wM i s'.heap/\(∀b∈fp,H' b=none)/\W i n ys ao H') ?_ m0
   ⟨0,[],_,_,I4,aS,fun b hb=>(f3 b hb).1,w0⟩
  rintro n s5 ⟨i,ys,wU,H5,I5,cN,y_,w5⟩;obtain⟨hD,alt⟩:=turn i n ys wU H5 w5;have qE:∀{H':Hp},(∀b∈fp,H' b=none)->∀b∈fp,eN (jC X (tn++cU.map (·.1)) scope cl s3.heap.objs.size fp s3 (upd H2 s2.heap.objs.size (.lst []))) [] H' b :=
   fun hn b hb=>⟨hn b hb,(I4.ok.nu b hb).1,I4.ok.lV b hb,.inl hb,(I4.ok.nu b hb).2,fun p hp=>by cases hp⟩
  rcases alt with⟨stop,qn⟩|⟨go,step⟩
  ·refine aw (T.done (jC X (tn++cU.map (·.1)) scope cl s3.heap.objs.size fp s3 (upd H2 s2.heap.objs.size (.lst []))) rfl rfl rfl hc i [] s5 wU H5 oi I5 (qE y_) cN stop) fun r s6 ⟨hr,I6⟩=>?_;subst hr;exact qc s3 _ I3 f3 _ wU H5 s6 I6 qn
  ·refine aw (T.item (jC X (tn++cU.map (·.1)) scope cl s3.heap.objs.size fp s3 (upd H2 s2.heap.objs.size (.lst []))) rfl rfl rfl hc i [] s5 wU H5 oi I5 (qE y_) cN go) fun r s6 ⟨u,hr,h6⟩=>?_;subst hr;refine aw h6 fun _ s7 ⟨x,H7,I7,r7,y7,gJ,fr7⟩=>?_;have PV:=I7.pinned (qE fr7) (T.obj _ _ gJ);refine aw (hg _ _ _ _ _ s7 wU H7 x u _ PV r7 (step x H7 y7)) fun _ s8 ⟨H_,H8,I8,q8⟩=>?_;refine aw (he _ _ _ _ _ s8 H_ H8 _ I8 q8) fun xv s9 ⟨v9,H9,I9,r9,q9⟩=>?_;obtain⟨hD9,Og,m',uf,w9⟩:=q9;refine aw (ZL _ s9 H_ H9 (.ref s2.heap.objs.size) [v9] (.ref s2.heap.objs.size) [xv] (fun z H'=>z=.aD/\H'=upd H9 s2.heap.objs.size (.lst (ys ++ [v9]))) I9 rfl (.cons r9 .nil)
    ⟨s2.heap.objs.size,ys,v9,rfl,rfl,hD9,Og,rfl,rfl⟩) fun z qC ⟨zv,mO,Bh,_,_,eH⟩=>?_
   subst eH;refine⟨m',uf,i+1,ys ++ [v9],H_,_,Bh.AL,T.keep _ _ _ gJ fun b hb o q=>(Bh.pin (b,o) (ft _ (ft _ (xF hb q)))).1,fun b hb=>?_,w9⟩;obtain⟨o,q,d⟩:=T.obj _ _ gJ b hb;exact(Bh.pin (b,o) (ft _ (ft _ (xF hb q)))).2.1
 subst zj;exact codeAny_compStart_list loop (T.self X.A 0 _ _ _ aS loop)
end
end L2
namespace L2
open PySem PySem.Spec PyProof.Rows PySem.SeqAt
theorem Q8:bootBuiltins "reversed" = some (.type "reversed"):=by decide +kernel
theorem S0:typeLookup (.type "list_reverseiterator") "__len__" = pure none:=by rw[typeLookup_type,builtinLookup_eq_fast];kernel_rfl
theorem UT:typeLookup (.type "list_reverseiterator") "__length_hint__" = pure (some (.builtin "list_reverseiterator.__length_hint__")):=by rw[typeLookup_type,builtinLookup_eq_fast];kernel_rfl
section
variable{prog:Program}{w:World}{A:Around}{E:Value->Shared->Prop}{s:Shared}
theorem TH{I:Addr}{Q:Bool->Shared->Prop}(hT:s.TypeIs (.ref I) "list_reverseiterator") (h:Q false s):wpAny (model prog w) A (Builtin.List.listLengthHint (.ref I)) Q E s:=by
 unfold Builtin.List.listLengthHint;refine ae (wpAny_specialOf hT S0 ?_);show wpAny _ A (specialOf (Value.ref I) (Str.ofString "__length_hint__") >>= _) Q E s;refine ae (wpAny_specialOf hT UT ?_);generalize vP:("list_reverseiterator.__length_hint__" : String)=Gp
 wp_delta
 rw[show splitId Gp=some ("list_reverseiterator","__length_hint__") from by subst vP;decide +kernel];subst vP;refine ae (xp (b:=true) hT (by rw[isSubtype_type];kernel_rfl) ?_);exact ai h
theorem UB{I l:Addr}{items:Array Value}{Q:Value->Shared->Prop}(hh:A.handled=none)(bP:l≠I)(hit:s.heap.IsRevIter I l ((items.size:Int)-1))(hl:s.heap.IsList l items)(hn:items.size<=sizeLine)
  (hQ:∀h' tk c',(∀b o,b≠I->s.heap.get? b=some o->h'.get? b=some o)->h'.get? s.heap.objs.size=some { cls:=.type "list",dict:=none,data:=.seq items.toList.reverse.toArray c',slots :=#[] }->Q (.ref s.heap.objs.size) { s with heap:=h',toks:=tk }) :
  wpAny (model prog w) A (call (.type "list") [.ref I]) Q E s:=by
 have aC:I<s.heap.objs.size:=let ⟨_,ho,_⟩:=hit;aT ho;have zH:l<s.heap.objs.size:=let ⟨_,ho,_⟩:=hl;aT ho;have As:s.heap.objs.size≠I:=qO aC;have nSl:s.heap.objs.size≠l:=qO zH;have nf:s.heap.objs.size ∉ [I,l]:=by simp only[aG,xa,or_false,not_or];exact⟨As,nSl⟩
 refine callType_codes (Q₁ := fun z a_=>z=.ref s.heap.objs.size/\a_ = { s with heap:=s.heap.push { cls:=.type "list",data:=.seq #[] } }) PySem.F.called_list (PySem.F.typeCall_list_1 _) PySem.F.entry_list_init (code_list_new _ ⟨rfl,rfl⟩) fun z a_ hz=>?_;obtain⟨rfl,rfl⟩:=hz;have e0:(s.heap.push { cls:=.type "list",data:=.seq #[] }).get? s.heap.objs.size=some { cls:=.type "list",data:=.seq #[] }:=cb _ rfl;refine⟨⟨_,e0,rfl⟩,PySem.F.args_list_init_2 _ _,?_⟩;show wpAny _ _ (do let old <- Builtin.List.listItems (.ref s.heap.objs.size);Builtin.List.listUpdate (.ref s.heap.objs.size) (fun _=>#[]);letGo old.toList.reverse;Builtin.List.listExtendWith (.ref s.heap.objs.size) (.ref I) .none) _ _ _;refine ae ?_;unfold Builtin.List.listItems;refine ae (wpAny_seqItems e0 rfl (ai ?_));show wpAny _ _ (updateSeq s.heap.objs.size (fun _=>#[]) >>= fun _=>letGo (#[]:Array Value).toList.reverse >>= fun _=>Builtin.List.listExtendWith (.ref s.heap.objs.size) (.ref I) .none) _ _ _;refine ae (wpAny_updateSeq e0 rfl ?_);have e1:=qJ (Obj.mapSeq (fun _=>(#[]:Array Value))) e0 rfl;have ke:∀b o,s.heap.get? b=some o->((s.heap.push { cls:=.type "list",data:=.seq #[] }).update s.heap.objs.size (Obj.mapSeq (fun _=>(#[]:Array Value)))).get? b=some o:=fun b o e=>(hW _ _ (qO (aT e))).trans (aJ _ e);refine ae (wpAny_letGo ?_);have FJ:=hit.at (h':=((s.heap.push { cls:=.type "list",data:=.seq #[] }).update s.heap.objs.size (Obj.mapSeq (fun _=>(#[]:Array Value))))) fun o e=>ke _ o e;have dg:=hl.at (h':=((s.heap.push { cls:=.type "list",data:=.seq #[] }).update s.heap.objs.size (Obj.mapSeq (fun _=>(#[]:Array Value))))) fun o e=>ke _ o e;have hT:Shared.TypeIs { s with heap:=((s.heap.push { cls:=.type "list",data:=.seq #[] }).update s.heap.objs.size (Obj.mapSeq (fun _=>(#[]:Array Value)))) } (.ref I) "list_reverseiterator" := Heap.IsRevIter.typeIs (s:={ s with heap:=_ }) FJ;unfold Builtin.List.listExtendWith;refine ae (qQ hT ?_);have z1:Builtin.List.listSameRef (.ref s.heap.objs.size) (.ref I)=false:=by simp[Builtin.List.listSameRef,As]
 rw[af (by rw[z1];decide)];refine ae (wpAny_pyIter_revIter FJ ?_);refine ae (iR (TH hT ?_));rw[af (by decide)];have W:=(Walks.listRev (prog:=prog) (w:=w) (A:=A.in1.in1) hh I l bP items).toS;refine ai ⟨plainId_quiet PySem.F.plain_extend_loop _,codeAny_extend_loopS W hn _ nf _ items.size 0 _ _ _ rfl (bi _) ⟨bi _,by simpa using FJ,dg⟩ e1 (ItemsOf.nil _) fun s' oQ c' hm xt nF=>?_⟩;rw[Moved.eq_with hm];have ea:oQ=items.toList.reverse.toArray:=by
  apply Array.ext
  ·simp[nF.1]
  ·intro j h1 h2;have this:items[items.size-1-j]?= some oQ[j]:=nF.2 j oQ[j] (eX h1);have hj:j<items.size:=by rw[<- nF.1];exact h1
   rw[eX (by lia)] at this;simp only[List.getElem_toArray,List.getElem_reverse,Array.getElem_toList,aA];exact(dk this).symm
 rw[ea] at xt;refine⟨rfl,hQ s'.heap s'.toks c' (fun b o hb e=>hm.heap b o (fun fY=>?_) (ke b o e)) xt⟩;rcases aG.mp fY with e'|fY
 ·exact absurd (aT e) (by rw[e'];exact gN _)
 ·exact hb (bh.mp fY)
end
section
variable{X:Cx}{e:Expr}{te:TE}{p p' pos pos':Pos}
def Kt(K:PySem.W.Frag)(v:V)(H:Hp)(Q:VK):Prop := ∃l ys,v=.ref l/\ak K H l ys/\∀r,H r=none->Q (.ref r) (upd H r (.lst ys.reverse))
theorem Q4(hc:X.calm=true)(hg:Gl X "list") (hm:X.mg "list" = none) (gh:Gl X "reversed") (uf:X.mg "reversed" = none) (pa:PA X [e] (uY te so))
  (hs:starEach [e] X.env=[(false,eval e X.env)]:=by rfl) (oZ:starEach [.Call (.Name "reversed" p') [e] [] pos'] X.env=[(false,eval (.Call (.Name "reversed" p') [e] [] pos') X.env)]:=by rfl) :
  PE X (.Call (.Name "list" p) [.Call (.Name "reversed" p') [e] [] pos'] [] pos) (fun σ H Q=>te σ H fun v H1=>Kt X.K v H1 Q):=by
 intro pins s σ H Q I h;refine lj (lQ I hg hm Lz ?_);refine tZ ?_ oZ rfl;rw[oZ];refine Calls.spliced_cons ?_;refine lj (lQ I gh uf Q8 ?_);refine tZ (aw (pa pos' pins s σ H (fun vs H1=>match vs with | [v]=>Kt X.K v H1 Q|_=>False) I h) fun us s1 ⟨vs,H1,I1,r,q⟩=>?_) hs rfl
 match vs,r,q with
 | [v],r,q =>
  obtain⟨u,rfl,ru⟩:=r.one;obtain⟨l,ys,rfl,hq,q⟩:=q;cases ru;obtain⟨its,rv,pl,hz⟩:=I1.list hq;refine call_reversed_list pl.isList ?_;refine Calls.spliced_nil ?_;have hlen:=rv.length;have e1:(s1.heap.push (revObj l ((its.toArray.size:Int)-1))).get? s1.heap.objs.size=some (revObj l ((its.toArray.size:Int)-1)):=cb _ rfl;have zH:l<s1.heap.objs.size:=let ⟨_,ho,_⟩:=pl.isList;aT ho;refine UB (items:=its.toArray) (I1.ok.hd hc) (bX zH) ⟨_,e1,rfl,rfl⟩ (pl.isList.at fun o e=>aJ _ e) (by rw[bW];lia) fun h' tk c' kp e=>?_;have sz:(s1.heap.push (revObj l ((its.toArray.size:Int)-1))).objs.size=s1.heap.objs.size+1:=iN ..;have le:s1.heap.objs.size<=(s1.heap.push (revObj l ((its.toArray.size:Int)-1))).objs.size:=by rw[sz];exact h_ _
  have rr:=Vals.reverse rv;have jg:ys.reverse.length<=sizeLine:=by rw[tV];exact hz
  exact⟨.ref _,_,I1.laid (t':=tk) (fun b o eb=>kp b o (bX (aT eb)) (aJ _ eb)) le (show bL X.prog X.w _ h' _ (.lst ys.reverse) from⟨jg,its.reverse,c',rr,e⟩),rfl,q _ (I1.aq.fresh le)⟩
end
end L2
namespace L2
open PySem PySem.Spec PyProof.Rows
def CW(n:Nat)(Pv:Nat->List V->St->Hp->Prop):Nat->Nat->List V->St->Hp->Prop:=fun i m ys σ H=>m=n-i/\i<=n/\Pv i ys σ H
theorem CW.next{n i:Nat}{Pv:Nat->List V->St->Hp->Prop}{ys:List V}{σ : St}{H:Hp}(hi:i<n)(h:Pv (i+1) ys σ H):∃m',m'<n-i/\CW n Pv (i+1) m' ys σ H:=⟨_,by lia,rfl,hi,h⟩
theorem nd1{x:Str}:[x].Nodup:=by simp
theorem JT{K:PySem.W.Frag}{a p:Addr}{xs:List V}{g:TG}{te:TE}{R:Hp->Prop}{PR:St}{H0:Hp}(Pv:Nat->List V->St->Hp->Prop)(h0:Pv 0 [] PR H0)
  (hl:∀i ys σ H,i<=xs.length->Pv i ys σ H->ak K H a xs/\H p=some (.lst ys))
  (hs:∀i ys x σ H,i<xs.length->xs[i]?= some x->Pv i ys σ H->g x σ H fun dD H4=>te dD H4 fun v H5=>H5 p=some (.lst ys)/\ys.length<sizeLine/\∃m',m'<xs.length-i/\CW xs.length Pv (i+1) m' (ys ++ [v]) dD (upd H5 p (.lst (ys ++ [v]))))
  (hd:∀ys σ H,Pv xs.length ys σ H->R H) :
  ∃W:Nat->Nat->List V->St->Hp->Prop,(∃m,W 0 m [] PR H0)/\∀i m ys oz H2,W i m ys oz H2->H2 p=some (.lst ys)/\(((mP K a).stop i H2/\R H2)\/((mP K a).go i H2/\∀x H3,(mP K a).kW i H2 x H3->g x oz H3 fun dD H4=>te dD H4 fun v H5 =>
   H5 p=some (.lst ys)/\ys.length<sizeLine/\∃m',m'<m/\W (i+1) m' (ys ++ [v]) dD (upd H5 p (.lst (ys ++ [v]))))):=by
 refine⟨CW xs.length Pv,⟨_,rfl,bi _,h0⟩,?_⟩;rintro i m ys σ H ⟨rfl,hi,hp⟩;obtain⟨h1,h2⟩:=hl i ys σ H hi hp;refine⟨h2,?_⟩;by_cases aC:i<xs.length
 ·refine .inr ⟨⟨xs,xs[i],h1,cH aC⟩,?_⟩;rintro x H3 ⟨rfl,hx⟩;exact hs i ys x σ _ aC (hx xs h1) hp
 ·refine .inl ⟨⟨xs,h1,by lia⟩,hd ys σ H ?_⟩;have e:i=xs.length:=by lia
  rw[<- e];exact hp
theorem Cr{scope:Scope}{env:Env}(h:∀y∈scope.names,y.2 ≠ .cell/\y.2 ≠ .free){cl:List (Str×Addr)}:∀(C:Addr)(x:Str),((compEnvC scope cl C env).kindOf x=some .cell\/(compEnvC scope cl C env).kindOf x=some .free)->∃c,cl.lookup x=some c:=by
 have key:∀(l:List (Str×NameKind))(x:Str),(∀y∈l,y.2 ≠ .cell/\y.2 ≠ .free)->∀k,(l.map fun(n,k)=>if(k ==.free&&env.scope.kind ==.function&&env.kindOf n == some .cell) then(n,.cell) else(n,k)).lookup x=some k->k ≠ .cell/\k ≠ .free:=by
  intro l
  induction l with
  | nil=>intro x _ k e;simp at e
  | cons y l ih =>
   intro x hy k e;obtain⟨n,kd⟩:=y;have hk:=hy _ (ba ..);have e0:(kd == NameKind.free&&env.scope.kind ==.function&&env.kindOf n == some .cell)=false:=by
    have:(kd == NameKind.free)=false:=by
     cases kd <;> first|rfl|exact absurd rfl hk.2
    rw[this];rfl
   simp only[br,e0,qH,ie,List.lookup_cons] at e;cases hx:x == n with
   | true =>
    rw[hx] at e;cases e;exact hk
   | false =>
    rw[hx] at e;exact ih x (fun y hm=>hy y (aW _ hm)) k e
 intro C x hx;rcases hx with e|e
 ·exact absurd rfl (key _ x h _ e).1
 ·exact absurd rfl (key _ x h _ e).2
section
variable{X:Cx}{elt iter tg:Expr}{scope:Scope}{pos:Pos}{wi:TI}{g:TG}{te:TE}{cl:List (Str×Addr)}
theorem Jl{y:Str}{py Px:Pos}{n0:Nat}(hN:X.N.Nodup)(sO:X.N[n0]?= some y)(hx:Loc X.env.scope y)(tn:List Str)(cU:List (Str×Nat))(hi:PI X tg iter wi)(hg:∀C fp s H,PG (jC X (tn++cU.map (·.1)) scope cl C fp s H) tg g)(he:∀C fp s H,PE (jC X (tn++cU.map (·.1)) scope cl C fp s H) elt te)
  (hc:X.calm=true) (ZqZ:closureFor scope X.env=pure cl) (nH:∀y∈scope.names,y.2 ≠ .cell) (hk:scope.kind=.function) (FQ:∀y∈scope.names,y.2=.local->scope.names.lookup y.1=some .local)
  (bM:∀x c,cl.lookup x=some c->X.env.cells.lookup x=some c)
  (kG:∀C x,((compEnvC scope cl C X.env).kindOf x=some .cell\/(compEnvC scope cl C X.env).kindOf x=some .free)->∃c,cl.lookup x=some c)
  (vJ:∀C,∀p∈cU,X.N[p.2]?= some p.1/\X.env.scope.names.lookup p.1=some .cell/\((compEnvC scope cl C X.env).kindOf p.1=some .cell\/(compEnvC scope cl C X.env).kindOf p.1=some .free))
  (hs:∀v,foldedSetIterable iter X.env v=pure v) (OH:swapsWith (.ListComp elt [⟨tg,iter,[],0⟩] scope pos) (some (.Name y py)) Px.line X.env=pure true) (hf:X.fn y=true\/X.env.scope.names.lookup y=some .local:=by first|exact .inl rfl|exact .inr rfl|assumption) :
  PS X (.Assign [.Name y py] (.ListComp elt [⟨tg,iter,[],0⟩] scope pos) Px) (C0 (VJ wi tn.length cU g te) (yF n0)):=by
 intro pins s σ H D I h;rw[exec_Assign_Name_used _ _ _ _ OH];refine ae (wpAny_standAt (ae ?_));show wpAny _ X.A (do let _ <- comprehension (.ListComp elt [⟨tg,iter,[],0⟩] scope pos) scope X.env _ (newList []) false (eval iter X.env) (some (assign (.Name y py) X.env))) _ _ s;refine ae (eI (wpAny_comprehension_free (use:=some (assign (.Name y py) X.env)) (Q:=fun _ s'=>SP X pins D .next s') rfl hs ZqZ hk FQ (aw (hi pins s σ H _ I h) fun v s1 h1=>aw h1 fun Gq s2 h2=>?_)) (fun _ s' hq=>ai (ai hq)) fun _ _ e=>e)
 obtain⟨it,fp,wM,J,H2,e,I2,T,aF,f2,q2⟩:=h2;subst e;refine Ru (R:=fun p H6=>yF n0 (.ref p) σ H6 (fun ao H'=>D.nx ao H')) tn cU hg he hc nH hk bM kG vJ I2 T aF f2 q2 fun s3 H3 I3 f3 acc AM H6 s6 I6 q6=>?_;obtain⟨m,hn,_⟩:=I6.loc;have I':Inv X pins σ H6 s6:=I3.A5 (ch:=fp) I6.os I6.base I6.aq I6.bare fun b hb=>⟨(f3 b hb).2.2.2.1,(f3 b hb).2.1,(f3 b hb).2.2.2.2.1,(f3 b hb).2.2.2.2.2⟩;have fC:eN X pins H6 s3.heap.objs.size:=I3.nv (az _) I6.free;show wpAny _ X.A (assign (.Name y py) X.env (.ref acc)) _ _ s6;refine wpAny_assign_Name (J4 (v:=.ref acc) I' hN sO hx rfl (fun s7 I7 ⟨a,sb,ha⟩=>?_) hf);have nCa:s3.heap.objs.size≠a:=by
  rcases ha with z|z
  ·rw[z];exact fC.2.1
  ·exact(fC.2.2.2.2.1 _ _ z).symm
 exact⟨m,hn.sameBut sb nCa,fun h' xx=>⟨_,H6,I7.turned (t':=s7.toks) (fun b o hb e=>(xx.2 b hb).trans e) fC.1 fC.2.1 fC.2.2.2.1 fC.2.2.2.2.1 fC.2.2.2.2.2,q6⟩⟩
end
section
variable{κ : Type}[DecidableEq κ]
def gv(aj:List (κ × V))(k : κ):Option V:=(aj.find? fun kv=>decide (kv.1=k)).map (·.2)
def putK(aj:List (κ × V))(k : κ)(v:V):List (κ × V) :=
 if(aj.any fun kv=>decide (kv.1=k))=true then aj.map (fun kv=>if kv.1=k then(kv.1,v) else kv) else aj ++ [(k,v)]
theorem xI{p : κ × V}{r:List (κ × V)}{k : κ}(e:p.1=k):gv (p::r) k=some p.2:=by simp[gv,tS,e]
theorem xY{p : κ × V}{r:List (κ × V)}{k : κ}(e : ¬ p.1=k):gv (p::r) k=gv r k:=by simp[gv,tS,e]
theorem Kc(k : κ):∀aj:List (κ × V),(aj.any fun kv=>decide (kv.1=k))=(gv aj k).isSome
 | []=>rfl
 | p::r=>by
  rw[oA];by_cases e:p.1=k
  ·simp only[xI e,aQ e,Bool.true_or,Option.isSome_some]
  ·rw[xY e,aZ e,Bool.false_or];exact Kc k r
theorem Jk(aj:List (κ × V))(k : κ)(v:V):(putK aj k v).length<=aj.length+1:=by
 unfold putK
 split
 ·rw[aV];lia
 ·rw[bu,aN,tT];lia
theorem fR.ZsE{o:Option V}{u:Option Value}(r:fR o u):o.isSome=u.isSome:=by
 cases o with
 | none=>cases u with
  | none=>rfl
  | some _=>exact(show False from r).elim
 | some _=>cases u with
  | none=>exact(show False from r).elim
  | some _=>rfl
theorem KV.val{aj:List (κ × V)}{vs:List (κ × Value)}(r:KV aj vs)(k : κ):fR (gv aj k) (valueAt vs k):=by
 unfold KV at r
 induction r with
 | nil=>exact True.intro
 | @cons p q ps qs h t ih =>
  obtain⟨h1,h2⟩:=h;by_cases e:p.1=k
  ·have e':q.1=k:=h1.symm.trans e;have b:valueAt (q::qs) k=some q.2:=by simp[valueAt,tS,e']
   rw[xI e,b];exact h2
  ·have e' : ¬ q.1=k:=fun z=>e (h1.trans z);have b:valueAt (q::qs) k=valueAt qs k:=by simp[valueAt,tS,e']
   rw[xY e,b];exact ih
theorem KV.any{aj:List (κ × V)}{vs:List (κ × Value)}(r:KV aj vs)(k : κ):(aj.any fun kv=>decide (kv.1=k))=vs.any fun kv=>decide (kv.1=k):=by
 unfold KV at r
 induction r with
 | nil=>rfl
 | cons h t ih=>rw[oA,oA,ih,h.1]
theorem KV.G9{aj:List (κ × V)}{vs:List (κ × Value)}(r:KV aj vs)(k : κ){y:V}{u:Value}(ry:RelV y u) :
  KV (aj.map fun kv=>if kv.1=k then(kv.1,y) else kv) (vs.map fun kv=>if kv.1=k then(kv.1,u) else kv):=by
 unfold KV at r ⊢
 induction r with
 | nil=>exact .nil
 | @cons p q ps qs h t ih =>
  rw[br,br];refine .cons ?_ ih;obtain⟨h1,h2⟩:=h;by_cases e:p.1=k
  ·rw[ah e,ah (h1.symm.trans e)];exact⟨h1,ry⟩
  ·rw[af e,af (fun z=>e (h1.trans z))];exact⟨h1,h2⟩
theorem KV.put{aj:List (κ × V)}{vs:List (κ × Value)}(r:KV aj vs)(k : κ){y:V}{u:Value}(ry:RelV y u):KV (putK aj k y) (stored vs k u):=by
 unfold putK stored;rw[r.any k];by_cases e:(vs.any fun kv=>decide (kv.1=k))=true
 ·rw[ah e,ah e];exact r.G9 k ry
 ·rw[af e,af e];exact Paired.snoc r ⟨rfl,ry⟩
theorem KV.length{aj:List (κ × V)}{vs:List (κ × Value)}(r:KV aj vs):aj.length=vs.length:=f_ r
end
theorem CK{P:Program}{w:World}{k:Key}{u:Value}(r:RelV (kV k) u):(Z9 P w).is k u=true:=by
 cases k with
 | inl i=>obtain⟨t,e⟩:=(show ∃t,u=Value.int i t from r);subst e;exact Rf P w i t
 | inr x=>obtain⟨t,e⟩:=(show ∃t,u=Value.str x t from r);subst e;exact Q9 P w x t
theorem J6{P:Program}{w:World}:∀{ks:List Key}{us:List Value},Vals (ks.map kV) us->ItemsAre (Z9 P w) ks us
 | [],_,r=>by rw[List.map_nil] at r;cases r;exact .nil
 | k::ks,_,r=>by
  rw[br] at r;cases r with
  | cons h t=>exact .cons (CK h) (J6 t)
abbrev KT(H:Hp):List (List Key×V)->List (List Key×Addr×Value)->Prop:=Paired fun p q=>p.1=q.1/\H q.2.1=some (.tup (p.1.map kV))/\RelV p.2 q.2.2
theorem KT.val{H:Hp}{aj:List (List Key×V)}{xs:List (List Key×Addr×Value)}(r:KT H aj xs)(k:List Key):fR (gv aj k) ((atKey xs k).map (·.2)):=by
 induction r with
 | nil=>exact True.intro
 | @cons p q ps qs h t ih =>
  obtain⟨h1,_,h2⟩:=h;by_cases e:p.1=k
  ·have e':q.1=k:=h1.symm.trans e;have b:atKey (q::qs) k=some q.2:=by simp[atKey,tS,e']
   rw[xI e,b];exact h2
  ·have e' : ¬ q.1=k:=fun z=>e (h1.trans z);have b:atKey (q::qs) k=atKey qs k:=by simp[atKey,tS,e']
   rw[xY e,b];exact ih
theorem KT.G9{H:Hp}{aj:List (List Key×V)}{xs:List (List Key×Addr×Value)}(r:KT H aj xs)(k:List Key){y:V}{u:Value}(ry:RelV y u) :
  KT H (aj.map fun kv=>if kv.1=k then(kv.1,y) else kv) (xs.map (putAt k u)):=by
 induction r with
 | nil=>exact .nil
 | @cons p q ps qs h t ih =>
  rw[br,br];refine .cons ?_ ih;obtain⟨h1,h2,h3⟩:=h;unfold putAt;by_cases e:p.1=k
  ·rw[ah e,ah (h1.symm.trans e)];exact⟨h1,h2,ry⟩
  ·rw[af e,af (fun z=>e (h1.trans z))];exact⟨h1,h2,h3⟩
theorem KT.put{H:Hp}{aj:List (List Key×V)}{xs:List (List Key×Addr×Value)}(r:KT H aj xs)(k:List Key){b:Addr}{y:V}{u:Value}(hb:H b=some (.tup (k.map kV)))(ry:RelV y u) :
  KT H (putK aj k y) (storedH xs k b u):=by
 have e:(aj.any fun kv=>decide (kv.1=k))=(atKey xs k).isSome:=by
  rw[Kc,(r.val k).ZsE,Option.isSome_map]
 unfold putK storedH;rw[e];by_cases q:(atKey xs k).isSome=true
 ·rw[ah q,ah q];exact r.G9 k ry
 ·rw[af q,af q];exact Paired.snoc r ⟨rfl,hb,ry⟩
theorem KT.keeps{H H':Hp}{aj:List (List Key×V)}{xs:List (List Key×Addr×Value)}(r:KT H aj xs)(ht:∀b ys,H b=some (.tup ys)->H' b=some (.tup ys)):KT H' aj xs :=
 Paired.GP r fun _ _ z=>⟨z.1,ht _ _ z.2.1,z.2.2⟩
section
variable{P:Program}{w:World}{H:Hp}{h:Heap}{a:Addr}
theorem Md{u:HO}(ok:bE P w H h)(e:Rd H a u):bL P w H h a u:=e.ok ok
theorem CL{aj:List (Key×V)}(ok:bE P w H h)(e:Rd H a (.dK aj)):aj.length<=sizeLine/\(a == sysModules)=false/\∃vs,KV aj vs/\h.DictOf (Z9 P w) a vs :=
 show bL P w H h a (.dK aj) from Md ok e
theorem V9{aj:List (Key×V)}(ok:bE P w H h)(e:H a=some (.dK aj)):aj.length<=sizeLine/\(a == sysModules)=false/\∃vs,KV aj vs/\h.DictOf (Z9 P w) a vs:=CL ok (.inl e)
theorem yx{ks:List Key}(ok:bE P w H h)(e:H a=some (.tup (ks.map kV))):(tupleKind (Z9 P w)).is h ks a:=by
 obtain⟨_,its,r,o,h1,h2,n,h3⟩:=(show bL P w H h a (.tup (ks.map kV)) from ok a _ e);exact⟨o,its.toArray,n,h1,h2,h3,by simpa using J6 r⟩
theorem CO{aj:List (List Key×V)}(ok:bE P w H h)(e:Rd H a (.dT aj)):aj.length<=sizeLine/\(a == sysModules)=false /\
  ∃xs,KT H aj xs/\h.DictOfH (tupleKind (Z9 P w)) a xs:=by
 obtain⟨z,y,xs,r,o,es,ep,h1,h2,h3,h4,h5⟩:=(show bL P w H h a (.dT aj) from Md ok e);refine⟨z,y,xs,r,o,es,ep,h1,h2,h3,h4,fun x hx=>?_,h5⟩;have all:∀{l:List (List Key×V)}{m:List (List Key×Addr×Value)},KT H l m->∀x∈m,(tupleKind (Z9 P w)).is h x.1 x.2.1:=by
  intro l m q
  induction q with
  | nil=>intro x hx;exact nomatch hx
  | @cons p q ps qs hq t ih =>
   intro x hx;rcases aG.mp hx with e|hx
   ·subst e;exact yx ok (by rw[<- hq.1];exact hq.2.1)
   ·exact ih x hx
 exact all r x hx
theorem VF{aj:List (List Key×V)}(ok:bE P w H h)(e:H a=some (.dT aj)):aj.length<=sizeLine/\(a == sysModules)=false /\
  ∃xs,KT H aj xs/\h.DictOfH (tupleKind (Z9 P w)) a xs:=CO ok (.inl e)
end
def pQ(H:Hp)(a:Addr)(y:V)(r:Option V):Prop :=
 (∃aj k,Rd H a (.dK aj)/\y=kV k/\r=gv aj k)\/∃aj k b,Rd H a (.dT aj)/\y=.ref b/\H b=some (.tup (k.map kV))/\r=gv aj k
def vd(H:Hp)(a:Addr)(y v:V)(H':Hp):Prop :=
 (∃aj k,H a=some (.dK aj)/\y=kV k/\aj.length<sizeLine/\H'=upd H a (.dK (putK aj k v))) \/
 ∃aj k b,H a=some (.dT aj)/\y=.ref b/\H b=some (.tup (k.map kV))/\aj.length<sizeLine/\H'=upd H a (.dT (putK aj k v))
theorem pQ.t{H:Hp}{a b:Addr}{aj:List (List Key×V)}{k:List Key}(e:H a=some (.dT aj))(eb:H b=some (.tup (k.map kV))):pQ H a (.ref b) (gv aj k):=.inr ⟨aj,k,b,.inl e,rfl,eb,rfl⟩
theorem vd.t{H:Hp}{a b:Addr}{aj:List (List Key×V)}{k:List Key}{v:V}(e:H a=some (.dT aj))(eb:H b=some (.tup (k.map kV)))(hl:aj.length<sizeLine) :
  vd H a (.ref b) v (upd H a (.dT (putK aj k v))):=.inr ⟨aj,k,b,e,rfl,eb,hl,rfl⟩
section
variable{X:Cx}{pins:List (Addr×Obj)}{σ : St}{H:Hp}{s:Shared}{a:Addr}{y v:V}{u r:Value}{o:Option V}{A:Around}{E:Value->Shared->Prop}
theorem Inv.big(I:Inv X pins σ H s):sysModules<s.heap.objs.size:=by
 have h:mainGlobals<s.heap.objs.size:=(I.mod.glob.keeps I.bk).lt;exact Nat.lt_trans (by decide) h
theorem RQ{Q:Value->Shared->Prop}(hu:A.units+1<cLine)(I:Inv X pins σ H s)(g:pQ H a y (some v))(ry:RelV y u)(h:∀w' s',Inv X pins σ H s'->RelV v w'->Q w' s') :
  wpAny (model X.prog X.w) A (getItem (.ref a) u) Q E s:=by
 rcases g with⟨aj,k,e,ey,l⟩|⟨aj,k,b,e,ey,eb,l⟩
 ·subst ey;obtain⟨z,hd,vs,rel,dd⟩:=CL I.aq e;obtain⟨w',hw,lD⟩:=fR.some_of (v:=v) (o:=valueAt vs k) (by rw[l];exact rel.val k);exact wpAny_getItem_of (CK ry) dd.mapOf hw (h w' _ (I.tok _) lD)
 ·subst ey;cases (show u=Value.ref b from ry);obtain⟨z,hd,xs,rel,dd⟩:=CO I.aq e;obtain⟨w',hw,lD⟩:=fR.some_of (v:=v) (o:=(atKey xs k).map (·.2)) (by rw[l];exact rel.val k);obtain⟨p,hp,bG⟩:=oI.mp hw;refine wpAny_getItem_heap (tupleKind_room_in1 hu) (yx I.aq eb) dd hp ?_;rw[bG];exact h w' _ (I.tok _) lD
theorem K_{h':Heap}{t':Nat}{ob:HO}(I:Inv X pins σ H s)(mu:uq (H a))(hs:Heap.SameBut a s.heap h')(he:∃q,h'.get? a=some q)(new:bL X.prog X.w (upd H a ob) h' a ob) :
  Inv X pins σ (upd H a ob) { s with heap:=h',toks:=t' } :=
 I.write (x:=a) (e:=a) mu (.inl rfl) (fun b q hb z=>(hs.2 b hb).trans z) he new
theorem U4{P:Program}{w:World}{H':Hp}{h':Heap}{aj:List (Key×V)}{vs:List (Key×Value)}(z:aj.length<=sizeLine)(hd:(a == sysModules)=false)(rel:KV aj vs)(dd:h'.DictOf (Z9 P w) a vs) :
  bL P w H' h' a (.dK aj):=⟨z,hd,vs,rel,dd⟩
theorem RI{H':Hp}{Q:Unit->Shared->Prop}(hu:A.units+1<cLine)(I:Inv X pins σ H s)(g:vd H a y v H')(ry:RelV y u)(rv:RelV v r)(h:∀s',Inv X pins σ H' s'->Q () s') :
  wpAny (model X.prog X.w) A (setItem (.ref a) u r) Q E s:=by
 rcases g with⟨aj,k,e,ey,l,eH⟩|⟨aj,k,b,e,ey,eb,l,eH⟩
 ·subst ey eH;obtain⟨z,hd,vs,rel,dd⟩:=V9 I.aq e;have hz:vs.length<=sizeLine:=by rw[<- rel.length];exact z
  have hl:(putK aj k v).length<=sizeLine:=by have:=Jk aj k v;lia
  refine wpAny_setItem_pairs (hsz:=hz) (CK ry) dd fun h' xr hs=>h _ ?_;have he:∃q,h'.get? a=some q:=let ⟨q,_,_,hq,_⟩:=xr;⟨q,hq⟩;exact K_ I (by rw[e];exact True.intro) hs he (U4 hl hd (rel.put k rv) xr)
 ·subst ey eH;cases (show u=Value.ref b from ry);obtain⟨z,hd,xs,rel,dd⟩:=VF I.aq e;have hz:xs.length<=sizeLine:=by rw[<- f_ rel];exact z
  have hl:(putK aj k v).length<=sizeLine:=by have:=Jk aj k v;lia
  refine wpAny_setItem_heap (hsz:=hz) (tupleKind_room_in1 hu) (yx I.aq eb) dd fun h' xr hs=>h _ ?_;obtain⟨q,es,ep,hq,h2,h3,h4,_,h5⟩:=xr;refine K_ I (by rw[e];exact True.intro) hs ⟨q,hq⟩ ⟨hl,hd,_,(rel.put k eb rv).keeps fun c ys ec=>?_,q,es,ep,hq,h2,h3,h4,h5⟩;rw[Zi (Mo ec e (fun z=>nomatch z))]
  exact ec
end
def MO(i:Expr):Prop := ∀ov iv,subscripted i false ov iv=operate [ov,iv] (getItem ov iv)
theorem Ul{prog:Program}{w:World}{A:Around}{E:Value->Shared->Prop}{s:Shared}{env:Env}{value slice:Expr}{pos:Pos}{T id:String}{Q:Value->Shared->Prop}
  (hl:typeLookup (.type T) "__getitem__" = pure (some (.builtin id))) (hs:MO slice)
  (h:wpAny (model prog w) A (eval value env) (fun o a_=>wpAny (model prog w) A (eval slice env) (fun i jX=>jX.TypeIs o T/\wpAny (model prog w) A (getItem o i) Q E jX) E a_) E s) :
  wpAny (model prog w) A (eval (.Subscript value slice pos) env) Q E s:=by
 refine Subscript_ (eI h (fun o a_ Zsz=>eI Zsz (fun i jX Gn=>?_) fun _ _ x=>x) fun _ _ x=>x);obtain⟨hT,Gn⟩:=Gn;unfold subscriptTail;refine ae ?_;rw[getitemInPython_of_ne hT.not_modules];refine ae (wpAny_specialOf hT hl ?_);have fin:wpAny (model prog w) A (subscripted slice false o i) (fun r AH=>wpAny (model prog w) A (letTemporaryGo value o r >>= fun _=>pure r) Q E AH) E jX := by
  rw[hs o i];exact wpAny_operating (eI Gn (fun r AH ZsA=>ae (wpAny_letTemporaryGo (ai ZsA))) fun _ _ x=>x)
 first
  | exact ai (ae fin)
  | exact ae (ai (ae fin))
  | exact ae fin
theorem Q7{X:Cx}{pins:List (Addr×Obj)}{σ : St}{H:Hp}{s:Shared}{a:Addr}{y:V}{o:Option V}(I:Inv X pins σ H s)(g:pQ H a y o):s.TypeIs (.ref a) "dict" := by
 rcases g with⟨aj,k,e,_,_⟩|⟨aj,k,b,e,_,_,_⟩
 ·obtain⟨_,_,vs,_,dd⟩:=CL I.aq e;exact dd.typeIs
 ·obtain⟨_,_,xs,_,dd⟩:=CO I.aq e;exact dd.typeIs
def VG(td ty:TE):TE:=fun σ H Q=>td σ H fun x H1=>ty σ H1 fun y H2=>∃a v,x=.ref a/\pQ H2 a y (some v)/\Q v H2
def V8(td ty tv:TE):TS:=fun D σ H=>tv σ H fun v H1=>td σ H1 fun x H2=>ty σ H2 fun y H3=>∃a H4,x=.ref a/\vd H3 a y v H4/\D.nx σ H4
section
variable{X:Cx}{o i e value:Expr}{pos pos' PF:Pos}{td ty tv:TE}
theorem Ue(hu:X.A.units+1<cLine)(ho:PE X o td)(hi:PE X i ty)(hs:MO i):PE X (.Subscript o i pos) (VG td ty):=by
 intro pins s σ H Q I h;refine Ul PySem.F.slot_dict_getitem.lookup hs (aw (ho pins s σ H _ I h) fun u s1 ⟨x,H1,I1,rx,q1⟩=>aw (hi pins s1 σ H1 _ I1 q1) fun iv s2 ⟨y,H2,I2,ry,a,v,ex,g,q2⟩=>?_);subst ex;obtain rfl:u=Value.ref a:=rx;exact⟨Q7 I2 g,RQ hu I2 g ry fun w' s3 I3 lD=>⟨v,H2,I3,lD,q2⟩⟩
theorem Uz(hu:X.A.units+1<cLine)(ho:PE X o td)(hi:PE X i ty)(hv:PE X value tv)(hs:swapsWith value (some (.Subscript o i pos')) pos.line X.env=pure false) :
  PS X (.Assign [.Subscript o i pos'] value pos) (V8 td ty tv):=by
 intro pins s σ H D I h;refine wpAny_Assign_Subscript (aw (hv pins s σ H _ I h) fun r s1 ⟨v,H1,I1,rv,q1⟩=>aw (ho pins s1 σ H1 _ I1 q1) fun u s2 ⟨x,H2,I2,rx,q2⟩=>aw (hi pins s2 σ H2 _ I2 q2) fun iv s3 ⟨y,H3,I3,ry,a,H4,ex,g,q3⟩=>?_) hs;subst ex;obtain rfl:u=Value.ref a:=rx;exact RI hu I3 g ry rv fun s4 I4=>⟨σ,H4,I4,q3⟩
end
theorem S'{P:Program}{w:World}{H:Hp}(h:Heap)(hb:sysModules<h.objs.size):bL P w H (h.push { cls:=.type "dict",data:=.dict #[] }) h.objs.size (.dT []) :=
 ⟨bi _,xn.mpr (fG (bX hb)),[],.nil,_,#[],0,cb _ rfl,⟨rfl,rfl,rfl⟩,rfl,rfl,List.nodup_nil⟩
def Vc:TE:=fun _ H Q=>∀p,H p=none->Q (.ref p) (upd H p (.dT []))
section
variable{X:Cx}{pos:Pos}
theorem SV:PE X (.Dict [] [] pos) Vc:=fun pins s σ H Q I h =>
 wpAny_Dict_empty ⟨.ref s.heap.objs.size,_,I.laid (a:=s.heap.objs.size) (o:=.dT []) (t':=s.toks) (fun _ _ q=>aJ _ q) (az _) (S' s.heap I.big),rfl,h _ (I.aq.fresh (az _))⟩
end
structure gj(P:Program)(w:World)(K:PySem.W.Frag)(mg:Str->Option Value)(base:Heap)(C:Addr)(m:Str)(ps:List Str)(j:Nat)(sp:Sp):Prop where
 ex:∃f fd,aX P w K mg base cp j f fd ps sp/\Binds K fd ps []/\Meth K C m f
structure Bf(P:Program)(w:World)(K:PySem.W.Frag)(mg:Str->Option Value)(base:Heap)(C:Addr)(x:Str)(ps:List Str)(j:Nat)(sp:Sp):Prop where
 ex:∃f fd,aX P w K mg base cp j f fd ps sp/\Binds K fd ps []/\Mk K C f/\mg x=some (.ref C)
section
variable{X:Cx}{C:Addr}{m x:Str}{ps:List Str}{j k:Nat}{sp:Sp}{o e:Expr}{es:List Expr}{ta:TE}{t:TA}{p pos apos:Pos}
theorem lL{pl:Sem Bool}(G:gj X.prog X.w X.K X.mg X.base C m ps j sp)(hr:cj k X.A)(he:PE X o ta)(c:gS X.K C)(ha:PA X (e::es) t)(hk:j<=k:=by decide)
  (dh:starEach (e::es) X.env=(false,eval e X.env)::starEach es X.env:=by rfl) (aR:(backTo pos (starEach es X.env)).any (·.1)=false:=by rfl)
  (ht:eval (.Call (.Attribute o m apos) (e::es) [] pos) X.env=(do
   let ov <- eval o X.env
   standAt apos.atName
   let (f,first) <- holding [ov] (getMethod ov m pl)
   callWith pos f first (backTo pos (starEach (e::es) X.env)) (backToKw pos (keywordEach [] X.env))):=by rfl):PE X (.Call (.Attribute o m apos) (e::es) [] pos) (yC C m sp [] E0 ta t):=by
 obtain⟨f,fd,F,b,hm⟩:=G.ex;exact UC (pl:=pl) he c hm (F.room hk) hr b .nil yI ha dh aR ht
theorem KG{pl:Sem Bool}(G:gj X.prog X.w X.K X.mg X.base C m ps j sp)(hr:cj k X.A)(he:PE X o ta)(c:gS X.K C)(hk:j<=k:=by decide)
  (ht:eval (.Call (.Attribute o m apos) [] [] pos) X.env=(do
   let ov <- eval o X.env
   standAt apos.atName
   let (f,first) <- holding [ov] (getMethod ov m pl)
   callWith pos f first (backTo pos (starEach [] X.env)) (backToKw pos (keywordEach [] X.env))):=by rfl):PE X (.Call (.Attribute o m apos) [] [] pos) (yC C m sp [] E0 ta so):=by
 obtain⟨f,fd,F,b,hm⟩:=G.ex;exact SK (pl:=pl) he c hm (F.room hk) hr b .nil yI ht
end
end L2
namespace js
end js
namespace L2
open PySem PySem.Spec PyProof.Rows
theorem aX.none{P:Program}{w:World}{K:PySem.W.Frag}{mg:Str->Option Value}{base:Heap}{CX:ii}{k:Nat}{f:Addr}{fd:FuncData}{ps:List Str}{sp:Sp}(h:∀vs H Q E,¬ sp vs H Q E):aX P w K mg base CX k f fd ps sp :=
 ⟨fun vs H Q E z=>absurd z (h vs H Q E),fun A outer s H args us vs Q E hr e0 hb r z=>absurd z (h vs H Q E)⟩
theorem lookup_mem{β : Type}{x:Str}{c : β}:∀{l:List (Str × β)},l.lookup x=some c->(x,c)∈l
 | [],h=>by cases h
 | (y,d)::l,h=>by
  rw[List.lookup_cons] at h;cases e:x == y with
  | true =>
   rw[e] at h;cases h;rw[j8.mp e];exact ba ..
  | false =>
   rw[e] at h;exact aW _ (lookup_mem h)
theorem Vq{env:Env}{cl:List (Str×Addr)}(h:∀p∈cl,env.cells.lookup p.1=some p.2):∀x c,cl.lookup x=some c->env.cells.lookup x=some c:=fun x c e=>h (x,c) (lookup_mem e)
theorem TN{scope:Scope}{env:Env}{cl:List (Str×Addr)}(h:∀y∈scope.names,(y.2=.cell\/y.2=.free)->∃c,cl.lookup y.1=some c):∀(C:Addr)(x:Str),((compEnvC scope cl C env).kindOf x=some .cell\/(compEnvC scope cl C env).kindOf x=some .free)->∃c,cl.lookup x=some c:=by
 have key:∀(k:NameKind)(x:Str),(k=.cell\/k=.free)->(scope.names.map fun(n,k)=>if(k ==.free&&env.scope.kind ==.function&&env.kindOf n == some .cell) then(n,.cell) else(n,k)).lookup x=some k->∃c,cl.lookup x=some c:=by
  intro k x hk e;obtain⟨⟨n,k0⟩,hy,he⟩:=gL.mp (lookup_mem e);by_cases hc:(k0 ==.free&&env.scope.kind ==.function&&env.kindOf n == some .cell)=true
  ·simp only[hc,gQ] at he;have h0:k0=.free:=by
    simp only[cO] at hc;have:=hc.1.1;cases k0 <;> first|rfl|exact absurd this (by decide)
   injection he with e1 e2;subst e1;exact h _ hy (.inr h0)
  ·simp only[hc] at he;injection he with e1 e2;subst e1 e2;exact h _ hy hk
 intro C x hx;rcases hx with e|e
 ·exact key _ x (.inl rfl) e
 ·exact key _ x (.inr rfl) e
theorem Lm{X:Cx}{K:PySem.W.Frag}(h:X.K=K):qU X (MA K):=by
 subst h;exact lO
def ZV:Stmt->List Stmt
 | .For _ _ b _ _=>b
 | .While _ b _ _=>b
 | .If _ b _ _=>b
 | _=>[]
def i9:Stmt->List Stmt
 | .If _ _ b _=>b
 | _=>[]
theorem Zw{X:Cx}{b:List Stmt}{D:Ends}{σ : St}{H:Hp}(s:List Stmt){t:TS}(h:cJ X s t)(k:∀u,cJ X s u->u=t->∃t,cJ X b t/\t D σ H):∃t,cJ X b t/\t D σ H:=k t h rfl
theorem Zq{u t:TS}(e:u=t){D:Ends}{σ : St}{H:Hp}(h:t D σ H):u D σ H:=e ▸ h
theorem jI{α : Type}:∀{us:List α},us.length=1->∃a,us=[a]
 | [a],_=>⟨a,rfl⟩
theorem MK{α : Type}{n:Nat}:∀{us:List α},us.length=n+1->∃a vs,us=a::vs/\vs.length=n
 | a::vs,h=>⟨a,vs,rfl,Nat.succ.inj h⟩
theorem gT{α : Type}{us:List α}(h:us.length=2):∃a b,us=[a,b]:=by
 obtain⟨a,vs,rfl,h2⟩:=MK h;obtain⟨b,rfl⟩:=jI h2;exact⟨a,b,rfl⟩
theorem yL{α : Type}{us:List α}(h:us.length=3):∃a b c,us=[a,b,c]:=by
 obtain⟨a,vs,rfl,h2⟩:=MK h;obtain⟨b,c,rfl⟩:=gT h2;exact⟨a,b,c,rfl⟩
theorem Vals.inv{v:V}{vs:List V}{us:List Value}(h:Vals (v::vs) us):∃u Im,us=u::Im/\RelV v u/\Vals vs Im:=by
 cases h with
 | cons r t=>exact⟨_,_,rfl,r,t⟩
theorem Vals.end_{us:List Value}(h:Vals [] us):us=[]:=by
 cases h;rfl
def XO(e:Addr)(C:Value)(d:Option Addr):Heap->Prop:=fun h=>∃oe vs,h.get? e=some oe/\oe.cls=C/\oe.dict=d/\oe.data=.fields vs/\4<vs.size
theorem XO.NE{P:Program}{w:World}{H:Hp}{h:Heap}{e:Addr}{C:Value}{d:Option Addr}(x:XO e C d h):bL P w H h e (.ext (XO e C d)):=by
 refine⟨x,?_,fun h1 h2 p k=>?_⟩
 ·obtain⟨oe,_,ho,_⟩:=x;exact⟨oe,ho⟩
 ·obtain⟨oe,vs,ho,r⟩:=p;exact⟨oe,vs,k oe ho,r⟩
theorem S9{H:Hp}{a:Addr}{o:HO}(h:H a=some o):upd H a o=H:=by
 funext b
 unfold upd;by_cases e:b=a
 ·subst e;rw[ah rfl,h]
 ·rw[af e]
section
variable{X:Cx}{pins:List (Addr×Obj)}{σ : St}{H:Hp}{s:Shared}{e T:Addr}{C:Value}{d:Option Addr}{M:Model}{A:Around}{E:Value->Shared->Prop}{Q:Unit->Shared->Prop}
theorem Inv.xo(I:Inv X pins σ H s)(he:H e=some (.ext (XO e C d))):XO e C d s.heap:=(I.aq e _ he).1
theorem Inv.Po{h':Heap}{t':Nat}(I:Inv X pins σ H s)(he:H e=some (.ext (XO e C d)))(k:∀b u,b≠e->s.heap.get? b=some u->h'.get? b=some u)(x:XO e C d h'):Inv X pins σ H { s with heap:=h',toks:=t' }:=by
 have:=I.write (x:=e) (e:=e) (o:=.ext (XO e C d)) (h':=h') (t':=t') (by rw[he];trivial) (.inl rfl) k (by obtain⟨oe,_,ho,_⟩:=x;exact⟨oe,ho⟩) x.NE
 rwa [S9 he] at this
def uw(X:Cx)(pins:List (Addr×Obj))(H:Hp)(h:Heap)(e:Addr)(fl:Value):Prop :=
 ∃T oT ts oe vs,h.get? e=some oe/\oe.data=.fields vs/\vs[1]?= some (.ref T)/\eN X pins H T/\h.get? T=some oT/\oT.data=.fields ts/\ts[3]?= some fl
def IT(X:Cx)(pins:List (Addr×Obj))(H:Hp)(h:Heap)(e:Addr):Prop:=(∃oe vs,h.get? e=some oe/\oe.data=.fields vs/\vs[1]?= some .none)\/uw X pins H h e .none
theorem yo{h:Heap}{a:Addr}{o:Obj}{vs:Array Value}(i:Nat)(x:Value)(ho:h.get? a=some o)(hd:o.data=.fields vs) :
  (h.update a (Obj.mapFields (·.setIfInBounds i x))).get? a=some (o.mapFields (·.setIfInBounds i x)):=qJ _ ho (Obj.isFreed_of_fields (oH hd _))
theorem T'(o:Obj)(f:Array Value->Array Value):(o.mapFields f).dict=o.dict:=by
 obtain⟨c,d,dt,sl⟩:=o;cases dt <;> rfl
theorem XO.put{h:Heap}(x:XO e C d h)(i:Nat)(v:Value):XO e C d (h.update e (Obj.mapFields (·.setIfInBounds i v))):=by
 obtain⟨oe,vs,ho,hc,kF,hd,hz⟩:=x;exact⟨_,_,yo i v ho hd,(Obj.cls_mapFields ..).trans hc,(T' ..).trans kF,oH hd _,by simpa using hz⟩
theorem Inv.slots{h':Heap}(I:Inv X pins σ H s)(hs:Heap.SlotsOnly (gW X.stack) s.heap h'):Inv X pins σ H { s with heap:=h' }:=by
 refine I.A5 (s':={ s with heap:=h' }) (ch:=[]) rfl ⟨fun b o q n hb _=>(hs.2.1 b hb).trans q,fun b o q _ _ _=>hs.2.2 b o q,fun _ _ _ n _=>n,fun b o q _=>let ⟨sl,e⟩:=hs.2.2 b o q;⟨_,e⟩,fun _ _ q=>q,fun _ _ _ q=>q,fun _ ps q=>⟨#[],by rw[q];simp⟩⟩ ?_ I.bare (fun b z=>absurd z (by simp));intro b o q;have N8:=I.Hd;refine(I.aq b o q).oq (fun c u hc z=>?_) (fun _ z=>z) (fun _ _ z=>z);have hn:c∉gW X.stack:=by
  intro hm;rcases hc with rfl|hc
  ·rw[N8 _ hm] at q;cases q
  ·rw[N8 _ hm] at hc;cases hc
 exact(hs.2.1 c hn).trans z
theorem KQ{head:Value}{ZqO:Bool}(hA:A.frames=some (X.env::X.outer))(n9:X.stack=X.env::X.outer)(hf:X.env.frame=some X.env.locals)(I:Inv X pins σ H s)(he:H e=some (.ext (XO e C d)))
  (h:∀h',Inv X pins σ H { s with heap:=h' }->uw X pins H h' e (rawInt X.env.locals)->Q () { s with heap:=h' }) :
  wpAny M A (frameOf X.env >>= fun a=>entryPlaceOf X.env.locals ZqO >>= fun pl=>EntryCells.newEntry head a .none (rawInt X.env.locals) .none pl >>= fun b=>setField (.ref e) 1 b) Q E s:=by
 have hl:s.heap.FunFrames X.base (X.env::X.outer):=n9 ▸ I.stack;refine ae (wpAny_frameOf_fun hA hl hf fun h1 nZ=>?_);have I1:Inv X pins σ H { s with heap:=h1 }:=I.slots (by rw[n9];exact nZ);refine ae (wpAny_entryPlaceOf fun pl aR=>?_);unfold EntryCells.newEntry newFields;refine ae (iS ?_ (aR.sizeOk5 _ _ _ _ _));generalize Ov:({ cls:=Value.type "traceback",dict:=none,data:=Data.fields ([head,Value.ref X.env.locals,Value.none,rawInt X.env.locals,Value.none]++(if pl.isEmpty then List.replicate 6 Value.none else pl)).toArray }:Obj)=ob
 have I2:Inv X pins σ H { s with heap:=h1.push ob }:=I1.kept (h':=h1.push ob) (t':=s.toks) fun b u q=>aJ _ q;obtain⟨oe,vs,ho,hc,kF,hd,hz⟩:=I2.xo he;refine oP ho hd (by lia) (h _ (I2.Po (t':=s.toks) he (fun b u hb q=>(hW _ _ (fG hb)).trans q) ((I2.xo he).put 1 _)) ?_);have hT:(h1.push ob).get? h1.objs.size=some ob:=cb _ (by rw[<- Ov];rfl);have bP:e≠h1.objs.size:=fun z=>by
  have:=I1.aq.lt he;rw[z] at this;exact absurd this (gN _)
 refine⟨h1.objs.size,ob,([head,Value.ref X.env.locals,Value.none,rawInt X.env.locals,Value.none]++(if pl.isEmpty then List.replicate 6 Value.none else pl)).toArray,_,_,yo 1 _ ho hd,oH hd _,?_,I1.nv (az _) (I1.aq.fresh (az _)),(hW _ _ bP).trans hT,?_,?_⟩
 ·rw[Array.getElem?_setIfInBounds_self_of_lt (by lia)]
 ·rw[<- Ov]
 ·simp
theorem La(hA:A.frames=some (X.env::X.outer))(n9:X.stack=X.env::X.outer)(hf:X.env.frame=some X.env.locals)(I:Inv X pins σ H s)(he:H e=some (.ext (XO e C d)))(x:IT X pins H s.heap e)
  (h:∀h',Inv X pins σ H { s with heap:=h' }->uw X pins H h' e (rawInt X.env.locals)->Q () { s with heap:=h' }):wpAny M A (noteFrame (.ref e) X.env) Q E s:=by
 unfold noteFrame;simp only[hf];rcases x with⟨oe,vs,ho,hd,h1⟩|⟨T,oT,ts,oe,vs,ho,hd,h1,fT,hT,cX,h3⟩
 ·refine ae (lm ho hd h1 ?_);rw[af (by decide)];exact KQ hA n9 hf I he h
 ·refine ae (lm ho hd h1 ?_);rw[ah (show(Value.ref T != Value.none)=true by simp)];refine ae (lm hT cX h3 ?_);rw[af (show ¬ ((Value.none == rawInt X.env.locals)=true) by simp[rawInt])];refine ae (oP hT cX (mC.mp h3).1 ?_);obtain⟨f0,f1,f2,f3,f4,f5⟩:=fT;have I1:=I.turned (t':=s.toks) (h':=s.heap.update T (Obj.mapFields (·.setIfInBounds 3 Value.none))) (fun b u hb q=>(hW _ _ (fG hb)).trans q) f0 f1 f3 f4 f5;exact KQ hA n9 hf I1 he h
theorem K7{fl:Value}(I:Inv X pins σ H s)(he:H e=some (.ext (XO e C d)))(x:uw X pins H s.heap e fl)
  (h:∀h',Inv X pins σ H { s with heap:=h' }->uw X pins H h' e .none->Q () { s with heap:=h' }):wpAny M A (setFlight (.ref e) none) Q E s:=by
 obtain⟨T,oT,ts,oe,vs,ho,hd,h1,fT,hT,cX,h3⟩:=x;unfold setFlight;refine ae (lm ho hd h1 ?_);rw[ah (show(Value.ref T != Value.none)=true by simp)];refine oP hT cX (mC.mp h3).1 ?_;obtain⟨f0,f1,f2,f3,f4,f5⟩:=id fT;have bP:T≠e:=fun z=>by subst z;rw[f0] at he;cases he
 refine h _ (I.turned (t':=s.toks) (fun b u hb q=>(hW _ _ (fG hb)).trans q) f0 f1 f3 f4 f5) ⟨T,_,_,oe,vs,(hW _ _ bP).trans ho,hd,h1,fT,yo 3 _ hT cX,oH cX _,?_⟩;rw[Array.getElem?_setIfInBounds_self_of_lt (mC.mp h3).1];rfl
end
abbrev ki:=St->XK
def gR(P:Program)(w:World):ii:=fun outer H s E ev s'=>∃(e:Addr)(C:Value)(d:Option Addr)(H':Hp),ev=.ref e/\s'.os=s.os/\AllBare s'.gens/\Un (gW outer) [] H H' s.heap s'.heap/\bE P w H' s'.heap /\
 H' e=some (.ext (XO e C d))/\s.heap.objs.size<=e/\(∃T oT ts oe vs,s'.heap.get? e=some oe/\oe.data=.fields vs/\vs[1]?= some (.ref T)/\H' T=none/\s.heap.objs.size<=T/\s'.heap.get? T=some oT/\oT.data=.fields ts/\ts[3]?= some .none)/\E C d H'
def si(X:Cx)(E:ki):Prop := ∀(pins:List (Addr×Obj))(σ : St)(H:Hp)(s:Shared)(e:Addr)(C:Value)(d:Option Addr),Inv X pins σ H s->H e=some (.ext (XO e C d))->(X.ex=[]->X.dj.heap.objs.size<=e)->IT X pins H s.heap e->E σ C d H->X.xe (.ref e) s
theorem Z8{P:Program}{w:World}{K:PySem.W.Frag}{mg:Str->Option Value}{base:Heap}{N:List Str}{qual:Str}{scope:Scope}{f:Addr}{cd:Value}{A:Around}{outer:List Env}{s:Shared}{H:Hp}{E:XK} :
  si (lR (gR P w) P w K mg base N qual scope f cd A outer s H E) (fun _=>E):=by
 intro pins σ H1 s1 e C d I he hy x hE;show wpAny _ _ (leaving _ _) _ _ s1;unfold leaving;refine ae (La (X:=lR (gR P w) P w K mg base N qual scope f cd A outer s H E) I.ok.frames rfl rfl I he x fun h2 I2 x2=>K7 I2 he x2 fun h3 I3 x3=>?_);obtain⟨T,oT,ts,oe,vs,ho,hd,h1,fT,hT,cX,oX⟩:=x3;refine⟨e,C,d,H1,rfl,I3.os,I3.bare,I3.base,I3.aq,he,hy rfl,⟨T,oT,ts,oe,vs,ho,hd,h1,fT.1,?_,hT,cX,oX⟩,hE⟩;rcases fT.2.2.2.1 with z|z
 ·exact absurd z (by show T∉([]:List Addr);simp)
 ·exact z
theorem R8{X:Cx}{E:ki}(hT:si X E){pins:List (Addr×Obj)}{σ : St}{H:Hp}{s s':Shared}{ev:Value}(I:Inv X pins σ H s)(h:gR X.prog X.w X.stack H s (E σ) ev s'):X.xe ev s':=by
 obtain⟨e,C,d,H',rfl,os,bare,un,aq,he,nJ,⟨T,oT,ts,oe,vs,ho,hd,h1,Ft,iD,ue,cX,h3⟩,hE⟩:=h;have I1:=I.A5 (ch:=[]) os un aq bare (fun b z=>absurd z (by simp));exact hT pins σ H' s' e C d I1 he (fun _=>cY I.sz nJ) (.inr ⟨T,oT,ts,oe,vs,ho,hd,h1,I.nv iD Ft,ue,cX,h3⟩) hE
structure fb(P:Program)(w:World)(K:PySem.W.Frag)(mg:Str->Option Value)(base:Heap)(x:Str)(ps:List Str)(k:Nat)(sp:Sp):Prop where
 ex:∃(f:Addr)(fd:FuncData),aX P w K mg base (gR P w) k f fd ps sp/\Binds K fd ps []/\PySem.W.keepIn K (.ref f)=true/\mg x=some (.ref f)
def Vd(sp:Sp)(E:ki)(t:TA):TE:=fun σ H Q=>t σ H fun vs H1=>sp vs H1 Q (E σ)
section
variable{X:Cx}{j k:Nat}{f:Addr}{fd:FuncData}{ps:List Str}{sp:Sp}{E:ki}{x:Str}{p pos:Pos}{e:Expr}{es:List Expr}{t:TA}
theorem TL{pins:List (Addr×Obj)}{σ : St}{H:Hp}{s:Shared}{Q:VK}{us:List Value}{vs:List V}(F:aX X.prog X.w X.K X.mg X.base (gR X.prog X.w) k f fd ps sp)(hr:cj k X.A)(hb:Binds X.K fd ps [])(hT:si X E)
  (I:Inv X pins σ H s) (r:Vals vs us) (h:sp vs H Q (E σ)):wpAny (model X.prog X.w) X.A (call (.ref f) us) (EP X pins σ Q) X.xe s:=by
 have hl:us.length=ps.length:=by rw[<- r.length];exact F.len _ _ _ _ h
 have kD:=hb s us I.bH (by rw[iO];exact hl);rw[iO] at kD;refine wpAny_call (oN (F.run X.A X.stack s H ⟨us,[]⟩ us vs Q (E σ) hr I.ET kD r h) fun r s' hq=>?_);cases r with
 | error e=>exact R8 hT I hq
 | ok fl =>
  cases fl with
  | ret u=>exact I.after hq
  | next=>exact False.elim hq
  | brk=>exact False.elim hq
  | cont=>exact False.elim hq
theorem jD(G:fb X.prog X.w X.K X.mg X.base x ps j sp)(hT:si X E)(hr:cj k X.A)(hg:Gl X x)(ha:PA X (e::es) t)(hk:j<=k:=by decide)(gB:(x == ("__debug__" : Str))=false:=by decide)
  (he:starEach (e::es) X.env=(false,eval e X.env)::starEach es X.env:=by rfl) (aR:(backTo pos (starEach es X.env)).any (·.1)=false:=by rfl) :
  PE X (.Call (.Name x p) (e::es) [] pos) (Vd sp E t):=by
 obtain⟨f,fd,F,b,kp,m⟩:=G.ex;intro pins s σ H Q I h;refine lj (uG I hg m ?_ gB);refine xl (h₀ := X.base) I.ok.mod.qw kp (aw (ha pos pins s σ H _ I h) fun us s1 ⟨vs,H1,I1,r,q⟩=>⟨I1.bH,?_⟩) he aR;exact TL (F.room hk) hr b hT I1 r q
end
theorem bO.qB{P:Program}{w:World}{K:PySem.W.Frag}{mg:Str->Option Value}{base:Heap}{x qual:Str}{st:Stmt}{f:Addr}{fd:FuncData}{N ps:List Str}{k:Nat}{sp:Sp}(F:bO K x qual st f fd)(S:bY N ps (Zh st))(len:∀vs H Q E,sp vs H Q E->vs.length=ps.length)
  (vH:∀(aK:Value)(A:Around)(outer:List Env)(s:Shared)(H:Hp)(vs:List V)(Q:VK)(E:XK),cj k (A.deeper (envOfC qual (Zh st) s.heap.objs.size f aK))->sp vs H Q E ->
   ∃t,cJ (lR (gR P w) P w K mg base N qual (Zh st) f aK A outer s H E) (Zd st) t/\t { nx:=fun _ H'=>Q .aD H',rt:=Q } (start N vs) H):aX P w K mg base (gR P w) (k+1) f fd ps sp:=by
 obtain⟨oc,od,kV,doc,pm,an,aK,ct,mw,rfl,lk,cW⟩:=F.ex;exact Me lk cW S len fun A outer s H vs Q E hr je=>vH aK A outer s H vs Q E hr je
structure eJ(K:PySem.W.Frag)(D:Addr):Prop where
 cl:PySem.W.isClsIn K D=true
 exc:PySem.W.mroIn K D (.type "BaseException")=some true
 nt:PySem.W.instIn K (.ref D) (.type "tuple")=some false
inductive Spec(K:PySem.W.Frag)(H:Hp):V->List Addr->Prop
 | one {D:Addr}:eJ K D->Spec K H (.ref D) [D]
 | many {p:Addr} {Ds:List Addr}:aL K H p (Ds.map V.ref)->(∀D∈Ds,eJ K D)->Spec K H (.ref p) Ds
theorem JR:∀{Ds:List Addr}{us:List Value},Vals (Ds.map V.ref) us->us=Ds.map Value.ref
 | [],_,.nil=>rfl
 | D::Ds,_,.cons r t=>by
  rw[JR t];obtain rfl:_=Value.ref D:=r;rfl
section
variable{M:Model}{A:Around}{E:Value->Shared->Prop}{s:Shared}{K:PySem.W.Frag}{D:Addr}
theorem eJ.isExc(x:eJ K D)(X:K.In s.heap){Q:Bool->Shared->Prop}(h:Q true s):wpAny M A (isExcClass (.ref D)) Q E s:=by
 have hc:=x.cl;unfold PySem.W.isClsIn PySem.W.clsIn at hc
 split at hc
 ·rename_i ho
  unfold isExcClass;refine ae ?_;show wpAny M A (loadHead D >>= _) _ _ s;refine ae (wpAny_loadPart (X _ _ ho) (ai ?_));dsimp only;rw[if_pos rfl];exact(PySem.W.looks_mroIn X x.exc).here h
 ·cases hc
theorem B5{g:Value->PUnit->Sem (ForInStep PUnit)}:∀(Ls:List Addr),(∀D∈Ls,∀{Q:ForInStep PUnit->Shared->Prop},Q (.yield PUnit.unit) s->wpAny M A (g (.ref D) PUnit.unit) Q E s)->∀{Q:PUnit->Shared->Prop},Q PUnit.unit s->wpAny M A (forIn (Ls.map Value.ref) PUnit.unit g) Q E s
 | [],_,_,h=>ai h
 | D::Ls,hg,_,h=>by
  rw[br,List.forIn_cons];exact ae (hg D (ba ..) (B5 Ls (fun y hy=>hg y (aW _ hy)) h))
theorem Cz{f:Addr->Bool}{g:Value->Option Bool×Unit->Sem (ForInStep (Option Bool×Unit))}:∀(Ls:List Addr),(∀D∈Ls,∀{Q:ForInStep (Option Bool×Unit)->Shared->Prop},Q (if f D=true then .done (some true,()) else .yield (none,())) s->wpAny M A (g (.ref D) (none,())) Q E s) ->
  ∀{Q:Option Bool×Unit->Shared->Prop},Q (if Ls.any f=true then some true else none,()) s->wpAny M A (forIn (Ls.map Value.ref) ((none,()):Option Bool×Unit) g) Q E s
 | [],_,_,h=>ai h
 | D::Ls,hg,_,h=>by
  rw[br,List.forIn_cons];rw[oA] at h;refine ae (hg D (ba ..) ?_);cases hf:f D with
  | true =>
   rw[hf] at h;exact ai h
  | false =>
   rw[hf] at h;exact Cz Ls (fun y hy=>hg y (aW _ hy)) h
theorem Mq{X:Cx}{pins:List (Addr×Obj)}{σ : St}{H:Hp}{f:Addr->Bool}{C e:Addr}{oe:Obj}{Q:Bool->Shared->Prop}{v:V}{u:Value}{Ds:List Addr}(I:Inv X pins σ H s)(hv:Spec X.K H v Ds)(r:RelV v u)(he:s.heap.get? e=some oe)(hc:oe.cls=.ref C)
  (hb:∀D∈Ds,PySem.W.mroIn X.K C (.ref D)=some (f D)) (h:Q (Ds.any f) s):wpAny M A (excMatches (.ref e) u) Q E s:=by
 cases hv with
 | @one D hD =>
  obtain rfl:u=Value.ref D:=r;unfold excMatches;refine ae ((PySem.W.looks_instIn I.bH hD.nt).here ?_);dsimp only;rw[if_neg Bool.false_ne_true];refine ae (ai ?_);refine ae (B5 [D] (fun y hy {Q} q=>?_) (ae (wpAny_typeOf_ref he (ae (Cz (f:=f) [D] (fun y hy {Q} q=>?_) ?_)))))
  ·obtain rfl:=bh.mp hy;exact ae (hD.isExc I.bH (ai q))
  ·rw[hc];refine ae ((PySem.W.looks_mroIn I.bH (hb y hy)).here ?_);cases hf:f y with
   | true=>rw[hf] at q;exact ai q
   | false=>rw[hf] at q;exact ai q
  ·cases hf:[D].any f with
   | true=>rw[hf] at h;exact ai h
   | false=>rw[hf] at h;exact ai h
 | @many p _ hp hD =>
  obtain rfl:u=Value.ref p:=r;obtain⟨its,rv,⟨o,ho,bM,n,hd⟩,_⟩:=I.tuple hp;unfold excMatches;refine ae (xp (T := "tuple") ⟨o,ho,bM⟩ (show isSubtype (.type "tuple") (.type "tuple")=pure true by rw[isSubtype_type];kernel_rfl) ?_);dsimp only;rw[if_pos rfl];refine ae (wpAny_seqItems ho hd (ae (ai ?_)));have e1:((some its.toArray).getD #[]).toList=Ds.map Value.ref:=by
   rw[<- JR rv];rfl
  rw[e1];refine ae (B5 Ds (fun y hy {Q} q=>?_) (ae (wpAny_typeOf_ref he (ae (Cz (f:=f) Ds (fun y hy {Q} q=>?_) ?_)))))
  ·exact ae ((hD y hy).isExc I.bH (ai q))
  ·rw[hc];refine ae ((PySem.W.looks_mroIn I.bH (hb y hy)).here ?_);cases hf:f y with
   | true=>rw[hf] at q;exact ai q
   | false=>rw[hf] at q;exact ai q
  ·cases hf:Ds.any f with
   | true=>rw[hf] at h;exact ai h
   | false=>rw[hf] at h;exact ai h
end
abbrev Cx.tr(X:Cx)(pins:List (Addr×Obj))(E:Value->Shared->Prop):Cx:={ X with pn:=X.pn++pins,xe:=E }
abbrev Cx.hd(X:Cx)(e:Addr):Cx:={ X with A:=X.A.mark (some (.ref e)),calm:=false,xe:=fun _ _=>False }
section
variable{X:Cx}{pins o7:List (Addr×Obj)}{σ : St}{H:Hp}{s:Shared}{e:Addr}{E:Value->Shared->Prop}
theorem Inv.tr(I:Inv X pins σ H s)(E:Value->Shared->Prop):Inv (X.tr pins E) [] σ H s :=
 ⟨⟨I.ok.mod,I.ok.kind,I.ok.glob,I.ok.blt,I.ok.above,I.ok.inj,I.ok.has,I.ok.lT,I.ok.hd,I.ok.frames,I.ok.ot,I.ok.nu,I.ok.bs,I.ok.iA,I.ok.mv,I.ok.lV,I.ok.fU,I.ok.jN⟩,I.os,I.bare,I.base,I.loc,I.cell,I.free,I.fS,fun p hp=>I.pin p (by simpa using hp),I.aq,I.len⟩
theorem Inv.jj(I:Inv (X.tr pins E) o7 σ H s):Inv X pins σ H s :=
 ⟨⟨I.ok.mod,I.ok.kind,I.ok.glob,I.ok.blt,I.ok.above,I.ok.inj,I.ok.has,I.ok.lT,I.ok.hd,I.ok.frames,I.ok.ot,I.ok.nu,I.ok.bs,I.ok.iA,I.ok.mv,I.ok.lV,I.ok.fU,I.ok.jN⟩,I.os,I.bare,I.base,I.loc,I.cell,I.free,I.fS,fun p hp=>I.pin p (oE _ hp),I.aq,I.len⟩
theorem eN.jj{T:Addr}(f:eN (X.tr pins E) o7 H T):eN X pins H T:=⟨f.1,f.2.1,f.2.2.1,f.2.2.2.1,f.2.2.2.2.1,fun p hp=>f.2.2.2.2.2 p (oE _ hp)⟩
theorem Inv.hd(I:Inv X pins σ H s)(e:Addr):Inv (X.hd e) pins σ H s :=
 ⟨⟨I.ok.mod,I.ok.kind,I.ok.glob,I.ok.blt,I.ok.above,I.ok.inj,I.ok.has,I.ok.lT,(fun z=>nomatch z),I.ok.frames,I.ok.ot,I.ok.nu,I.ok.bs,I.ok.iA,I.ok.mv,I.ok.lV,I.ok.fU,I.ok.jN⟩,I.os,I.bare,I.base,I.loc,I.cell,I.free,I.fS,I.pin,I.aq,I.len⟩
theorem Inv.tG(I:Inv (X.hd e) pins σ H s)(ok:X.Ok):Inv X pins σ H s:=⟨ok,I.os,I.bare,I.base,I.loc,I.cell,I.free,I.fS,I.pin,I.aq,I.len⟩
theorem Inv.YO{p:Addr×Obj}(I:Inv X (p::pins) σ H s):Inv X pins σ H s:=I.Az fun q hq=>I.pin q (ft _ (aW _ hq))
theorem SP.jj{D:Ends}{f:Flow}{s':Shared}(h:SP (X.tr pins E) o7 D f s'):SP X pins D f s':=by
 cases f with
 | next=>obtain⟨ao,H',I,q⟩:=h;exact⟨ao,H',I.jj,q⟩
 | brk=>obtain⟨ao,H',I,q⟩:=h;exact⟨ao,H',I.jj,q⟩
 | cont=>obtain⟨ao,H',I,q⟩:=h;exact⟨ao,H',I.jj,q⟩
 | ret u=>obtain⟨v,ao,H',I,r,q⟩:=h;exact⟨v,ao,H',I.jj,r,q⟩
end
def Known(e:Addr)(oe:Obj):HO:=.ext fun h=>h.get? e=some oe
theorem S2{P:Program}{w:World}{H:Hp}{h:Heap}{e:Addr}{oe:Obj}(x:h.get? e=some oe):bL P w H h e (Known e oe):=⟨x,⟨oe,x⟩,fun _ _ p k=>k _ p⟩
abbrev Bl:=Ends->St->Hp->Addr->Obj->Prop
def PH(X:Cx)(hs:List ExceptHandler)(t:Bl):Prop := ∀(pins:List (Addr×Obj))(s:Shared)(σ : St)(H:Hp)(D:Ends)(e:Addr)(oe:Obj)(T:Addr)(oT:Obj)(ts vs:Array Value),
 Inv X ((T,oT)::pins) σ H s->eN X pins H T->oe.data=.fields vs->vs[1]?= some (.ref T)->oT.data=.fields ts->ts[3]?= some .none->H e=some (Known e oe)->t D σ H e oe ->
 wpAny (model X.prog X.w) X.A (handleBy (.ref e) X.env hs) (SP X pins D) X.xe s
def Wm(tb:ki->TS)(th:Bl):TS:=fun D σ H=>∃E:ki,tb E D σ H/\∀(ao:St)(C:Value)(d:Option Addr)(H':Hp)(e:Addr)(oe:Obj),E ao C d H'->H' e=some (.ext (XO e C d))->oe.cls=C->oe.dict=d->(∃vs,oe.data=.fields vs)->th D ao (upd H' e (Known e oe)) e oe
section
variable{X:Cx}{body:List Stmt}{h₀ : ExceptHandler}{hs rest:List ExceptHandler}{tb:ki->TS}{th tr:Bl}{pos:Pos}
theorem U2(n9:X.stack=X.env::X.outer)(hf:X.env.frame=some X.env.locals)
  (hb:∀(E:ki)(pins:List (Addr×Obj))(xB : Value->Shared->Prop),si (X.tr pins xB) E->PassesOwn (model X.prog X.w) X.A X.env xB -> cJ (X.tr pins xB) body (tb E)) (hh:PH X (h₀ :: hs) th):PS X (.Try body (h₀ :: hs) [] [] pos) (Wm tb th):=by
 intro pins s σ H D I h;obtain⟨E,h1,h2⟩:=h;refine wpAny_Try_except ?_;refine eI (hb E pins _ ?_ PassesOwn.looking [] s σ H D (I.tr _) h1) (fun f s1 q=>?_) fun e s1 q=>q
 ·intro o7 ao H' s1 e C d I1 he hy x hE;refine La (X:=X.tr pins _) (by rw[I.ok.frames,n9]) n9 hf I1 he x fun h2' I2 x2=>K7 I2 he x2 fun h3 I3 x3=>?_;obtain⟨T,oT,ts,oe,vs,ho,hd,vY,fT,hT,cX,oX⟩:=x3;obtain⟨oe',vs',cn,hc,kF,_⟩:=I3.xo he;rw[ho] at cn;cases cn;have I4:=I3.jj;have I5:=I4.write (x:=e) (e:=e) (o:=Known e oe) (t':=s1.toks) (h':=h3) (by rw[he];trivial) (.inl rfl) (fun b u _ z=>z) ⟨oe,ho⟩ (S2 ho);have A8:=fT.jj;have bP:T≠e:=fun z=>by subst z;rw[A8.1] at he;cases he
  have y9:eN X pins (upd H' e (Known e oe)) T:=⟨by rw[Zi bP];exact A8.1,A8.2⟩;have I6:Inv X ((T,oT)::pins) ao (upd H' e (Known e oe)) { s1 with heap:=h3 }:=I5.Az fun p hp=>by
   rcases aG.mp hp with rfl|hp
   ·exact⟨hT,y9.1,y9.2.1,y9.2.2.1,fun v z=>by rw[cX] at z;cases z⟩
   ·exact I5.pin p (ft _ hp)
  exact hh pins _ ao _ D e oe T oT ts vs I6 y9 hd vY cX oX Zc (h2 ao C d H' e oe hE he hc kF ⟨vs,hd⟩)
 ·cases f with
  | next =>
   obtain⟨ao,H',I',q⟩:=q;exact wpAny_execs_nil ⟨ao,H',I'.jj,q⟩
  | brk=>exact SP.jj q
  | cont=>exact SP.jj q
  | ret u=>exact SP.jj q
theorem KY{t:Expr}{name:Option Str}{sb:List Stmt}{tt:TE}(ht:∀e,PE (X.hd e) t tt)(hr:PH X rest tr):PH X (.ExceptHandler (some t) name sb pos::rest)
  (fun D σ H e oe=>tt σ H fun v H1=>∃Ds C,Spec X.K H1 v Ds/\oe.cls=.ref C/\(∀D∈Ds,PySem.W.mroIn X.K C (.ref D)=some false)/\H1 e=some (Known e oe)/\tr D σ H1 e oe):=by
 intro pins s σ H D e oe T oT ts vs I fT hd h1 cX h3 he h;refine wpAny_handleBy_cons (codeAny_handlers_test (eI ((ht e) ((T,oT)::pins) s σ H _ (I.hd e) h) (fun u s1 q=>?_) fun _ _ z=>z.elim)) (by intro z;cases z);obtain⟨v,H1,I1,r,Ds,C,hs,hc,hb,hk,q⟩:=q;have lq:=I1.tG I.ok;refine Mq (f:=fun _=>false) lq hs r (lq.aq e _ hk).1 hc hb ?_;have e0:Ds.any (fun _=>false)=false:=by simp
 rw[e0];have Ft:=(lq.pin (T,oT) (ft _ (ba ..))).2.1;exact hr pins s1 σ H1 D e oe T oT ts vs lq ⟨Ft,fT.2⟩ hd h1 cX h3 hk q
theorem xK{M:Model}{A:Around}{E:Value->Shared->Prop}{pins:List (Addr×Obj)}{σ : St}{H:Hp}{s:Shared}{i:Nat}{n:Str}{Q:Unit->Shared->Prop}(I:Inv X pins σ H s)(hN:X.N.Nodup)(hi:X.N[i]?= some n)(hk:X.env.scope.names.lookup n=some .local)
  (h:∀s',Inv X pins (σ.set i none) H s'->Q () s'):wpAny M A (bindName X.env n .none >>= fun _=>unbindBehindTheSuite X.env n pos) Q E s:=by
 obtain⟨m,hn,hl⟩:=id I.loc;have zp:(X.env.scope.kind ==.class || (X.env.scope.kind ==.module&&X.env.locals != X.env.globals))=false:=by rw[I.ok.kind];rfl
 have zD:X.env.kindOf n=some .local:=hk;refine ae (wpAny_bindName (wpAny_storeName_local zD hn (fun ha mh hsa=>?_) zp));unfold unbindBehindTheSuite;refine wpAny_onRaise ?_;unfold unbindName deleteName;refine ae (wpAny_point (ae ?_));simp only[zD,zp];rw[af (by decide)];refine ae (wpAny_nsDel_keeps mh fun hb v Ou hsb=>?_);simp only[gQ,Option.isSome_some,Bool.not_true,qH,ie];refine ai (wpAny_point (h _ ?_));have hs:=hsa.trans hsb;obtain⟨oL,_,_,qh,_⟩:=id hn;have jJ:=I.jJ;refine⟨I.ok,I.os,I.bare,⟨fun b o e n hb hx=>?_,fun b o e n hb hx=>?_,I.base.free,fun b o e hx=>?_,I.base.mz,I.base.kA,I.base.my⟩,⟨_,Ou,fun j y v' e1 e2 e3=>?_⟩,fun y c e=>?_,I.free,I.fS,fun p hp=>?_,fun b ob e=>?_,by simpa using I.len⟩
 ·exact(hs.2 b (bX (cQ (aT e) I.ok.above))).trans (I.base.keep b o e n hb hx)
 ·obtain⟨sl,e1⟩:=I.base.slot b o e n hb hx;exact⟨sl,(hs.2 b (bX (cQ (aT e) I.ok.above))).trans e1⟩
 ·obtain⟨o',e1⟩:=I.base.there b o e hx;exact⟨o',(hs.2 b (bX (cQ (aT e) I.ok.above))).trans e1⟩
 ·by_cases hj:j=i
  ·subst hj;by_cases aC:j < σ.length
   ·rw[List.getElem?_set_self aC] at e2;cases e2
   ·rw[AS (by rw[List.length_set];lia)] at e2;cases e2
  ·rw[List.getElem?_set_ne (fG hj)] at e2;obtain⟨u',r',q⟩:=hl j y v' e1 e2 e3;refine⟨u',r',?_⟩;rcases q with⟨k,e⟩|⟨k,c,e,z⟩
   ·refine .inl ⟨k,?_⟩;have:y≠n:=fun e=>hj (BP hN e1 (e ▸ hi));simp[this,e]
   ·exact .inr ⟨k,c,e,z.sameBut hs (jJ y c e)⟩
 ·obtain⟨w',z⟩:=I.cell y c e;exact⟨w',z.sameBut hs (jJ y c e)⟩
 ·obtain⟨e,n,ne,nf,d⟩:=I.pin p hp;exact⟨(hs.2 p.1 ne).trans e,n,ne,nf,d⟩
 ·refine(I.aq b ob e).oq (fun c w' hc q=>(hs.2 c ?_).trans q) (fun _ q=>q) fun _ _ q=>q;rintro rfl;rcases hc with rfl|hc
  ·rw[I.free] at e;cases e
  ·rw[I.free] at hc;cases hc
def PQ(D:Ends)(i:Nat):Ends:={ nx:=fun σ H=>D.nx (σ.set i none) H,rt:=D.rt,bk:=fun σ H=>D.bk (σ.set i none) H,ct:=fun σ H=>D.ct (σ.set i none) H }
theorem Q6{M:Model}{A:Around}{E:Value->Shared->Prop}{s:Shared}{e T:Addr}{oe oT:Obj}{vs ts:Array Value}{Q:Unit->Shared->Prop}(ho:s.heap.get? e=some oe)(hd:oe.data=.fields vs)(h1:vs[1]?= some (.ref T))(hT:s.heap.get? T=some oT)(cX:oT.data=.fields ts)(h3:ts[3]?= some .none)(h:Q () s) :
  wpAny M A (setFlight (.ref e) none) Q E s:=by
 unfold setFlight;refine ae (lm ho hd h1 ?_);rw[ah (show(Value.ref T != Value.none)=true by simp)];refine oP hT cX (mC.mp h3).1 ?_;show Q () { s with heap:=s.heap.update T (Obj.mapFields (·.setIfInBounds 3 Value.none)) };rw[Heap.update_setField_same s.heap T oT ts 3 .none hT cX h3];exact h
theorem VL{t:Expr}{n:Str}{MU : Stmt}{sb:List Stmt}{tt:TE}{tu:TS}{i:Nat}(ht:∀e,PE (X.hd e) t tt)(hN:X.N.Nodup)(hi:X.N[i]?= some n)(hk:X.env.scope.names.lookup n=some .local)(hs:∀e,cJ (X.hd e) (MU :: sb) tu):PH X (.ExceptHandler (some t) (some n) (MU :: sb) pos::rest)
  (fun D σ H e oe=>tt σ H fun v H1=>∃Ds C f,Spec X.K H1 v Ds/\oe.cls=.ref C/\(∀D∈Ds,PySem.W.mroIn X.K C (.ref D)=some (f D))/\Ds.any f=true/\H1 e=some (Known e oe)/\tu (PQ D i) (σ.set i (some (.ref e))) H1):=by
 intro pins s σ H D e oe T oT ts vs I fT hd h1 cX h3 he h;refine wpAny_handleBy_cons (codeAny_handlers_test (eI ((ht e) ((T,oT)::pins) s σ H _ (I.hd e) h) (fun u s1 q=>?_) fun _ _ z=>z.elim)) (by intro z;cases z);obtain⟨v,H1,I1,r,Ds,C,f,je,hc,hb,ZqQ,me,q⟩:=q;have lq:=I1.tG I.ok;have Ox:=(lq.aq e _ me).1;refine Mq (f:=f) lq je r Ox hc hb ?_;rw[ZqQ];refine codeAny_handlers_suite_as ?_;have hTo:=(lq.pin (T,oT) (ft _ (ba ..))).1;refine Q6 Ox hd h1 hTo cX h3 ?_;refine BZ lq.YO hN hi (.inl hk) (show RelV (.ref e) (.ref e) from rfl) (fun s2 I2=>?_) (.inr hk);refine eI ((hs e) pins s2 _ H1 (PQ D i) (I2.hd e) q) (fun fl s3 q3=>?_) fun _ _ z=>z.elim;show wpAny _ X.A (bindName X.env n .none >>= fun _=>unbindBehindTheSuite X.env n pos) _ _ s3;cases fl with
 | next =>
  obtain⟨ao,H',I3,q3⟩:=q3;exact xK (I3.tG I.ok) hN hi hk fun s' I'=>⟨_,_,I',q3⟩
 | brk =>
  obtain⟨ao,H',I3,q3⟩:=q3;exact xK (I3.tG I.ok) hN hi hk fun s' I'=>⟨_,_,I',q3⟩
 | cont =>
  obtain⟨ao,H',I3,q3⟩:=q3;exact xK (I3.tG I.ok) hN hi hk fun s' I'=>⟨_,_,I',q3⟩
 | ret u =>
  obtain⟨v3,ao,H',I3,r3,q3⟩:=q3;exact xK (I3.tG I.ok) hN hi hk fun s' I'=>⟨v3,_,_,I',r3,q3⟩
end
end L2
namespace L2
open PySem PySem.Spec PyProof.Rows PySem.W
abbrev sq:List Value:=[.type "ValueError",.type "Exception",.type "BaseException",.type "object"]
def keysOk(es:Array DictEntry):Bool:=es.toList.all fun e=>match e.key with | .str _ _=>true|_=>false
structure Bp(K:Frag)(G:Addr):Prop where
 ob:∃c0 dd cd sl oc od es ep xy,K.lookup G=some ⟨c0,dd,.cls cd,sl⟩/\K.lookup cd.ns=some ⟨oc,od,.dict es ep,xy⟩/\keysOk es=true/\nsIn K cd.ns "__init__" = some none
structure pe(K:Frag)(C G:Addr):Prop where
 ob:∃nm q N bs sJ sn sub ab col dd k0 k1 k2 k3 k5,K.lookup C=some (excClassObj nm q C N bs (.ref G::sq) sJ sn sub ab col dd k0 k1 k2 k3 k5 "ValueError.__new__")
 mid:Bp K G
 call:specialIn K (.ref C) "__call__" = some (some (.builtin "type.__call__"))
 typ:instIn K (.ref C) (.type "type")=some true
 kp:keepIn K (.ref C)=true
theorem Bp.tail{K:Frag}{G:Addr}{h:Heap}(x:Bp K G)(X:K.In h):OwnTail h sq (.ref G::sq):=by
 obtain⟨c0,dd,cd,sl,oc,od,es,ep,xy,h1,h2,h3,h4⟩:=x.ob;have sT:h.isNs cd.ns=true:=by
  unfold Heap.isNs;rw[X _ _ h2];have h5:=h3;unfold keysOk at h5;rw[Array.all_toList] at h5;exact h5
 have hN:=Heap.Ns.of_isNs sT;exact .own (X _ _ h1) hN (ns_none_of X hN h4) .base
theorem pe.mro{K:Frag}{C G:Addr}(x:pe K C G):∃cd,clsIn K C=some cd/\cd.mro=.ref C :: .ref G::sq:=by
 obtain⟨nm,q,N,bs,sJ,sn,sub,ab,col,dd,k0,k1,k2,k3,k5,h1⟩:=x.ob;have e:clsIn K C=some { name:=nm,bases:=bs,mro:=.ref C :: .ref G::sq,ns:=N,qualname:=q,hasDict:=sJ,slotNames:=sn,subclasses:=sub,abstract:=ab,collection:=col,hasDel:=false }:=by
  unfold clsIn;rw[h1]
 exact⟨_,e,rfl⟩
abbrev dH(C t:Addr):Obj:={ cls:=.ref C,data:=.fields #[.ref t,.none,.none,.none,.bool false,.none] }
abbrev da(vs:List Value):Obj:={ cls:=.type "tuple",data:=.seq vs.toArray }
section
variable{prog:Program}{w:World}{A:Around}{K:Frag}{C G f:Addr}{R:Result->Shared->Prop}{s:Shared}
theorem Rw{us:List Value}{init:Value}(x:pe K C G)(X:K.In s.heap)(hi:findIn K (.ref C) "__init__" = some (some init)) (b0:∀self,Looks (model prog w) s.heap (bindSpecial init self) (init,[self])) (hl:us.length<=sizeLine)
  (hq:codeAny (model prog w) (A.under (.builtin "type.__call__" ⟨.ref C::us,[]⟩)) (.call init ⟨.ref (s.heap.objs.size+1)::us,[]⟩) (InitBack (s.heap.objs.size+1) R)
   { s with heap:=(s.heap.push (da us)).push (dH C s.heap.objs.size) }) :
  codeAny (model prog w) A (.call (.ref C) ⟨us,[]⟩) R s:=by
 obtain⟨hh,g,d,t,os⟩:=s;obtain⟨nm,q,N,bs,sJ,sn,sub,ab,col,dd,k0,k1,k2,k3,k5,hK⟩:=x.ob;have hC:=X _ _ hK;have T:=x.mid.tail X;have call:=looks_specialIn (M:=model prog w) X x.call;have typ:=looks_instIn (M:=model prog w) X x.typ;have i0:=looks_findIn (M:=model prog w) X hi;refine codeAny_of_tree ?_;show wpAny _ _ (callAny (.ref C) _) _ _ _;refine nd_load hC ?_;show wpAny _ _ (callAny.viaDunder (.ref C) _) _ _ _;unfold callAny.viaDunder;refine ae (call.at ?_);dsimp only;rw[tc_bind];refine ae (ai (ae (ai ?_)));refine ai (a:=Fin.again (.call (.builtin "type.__call__") ⟨.ref C::us,[]⟩)) ⟨rfl,?_⟩;refine codeAny_call_builtin_at (Code.quiet_builtin _ (by decide +kernel)) entry_typeCall (check_slot tc_kind tc_split typ (tc_args _ _ _) ?_)
 repeat (first|with_reducible refine wpAny_loadPart_at hC ?_|with_reducible refine wpAny_madeBy_exc hC ?_|wp_step)
 refine codeAny_call_builtin_code (Code.quiet_builtin _ F.excBase_ValueError.quiet) (wpAny_check_new_subT F.excBase_ValueError T hC (codeAny_exc_new_subT F.excBase_ValueError T hC ?_ hl));show wpAny _ _ _ _ _ _;have k:∀b o,hh.get? b=some o->((hh.push (da us)).push (dH C hh.objs.size)).get? b=some o:=fun b o e=>aJ _ (aJ _ e);have hx:((hh.push (da us)).push (dH C hh.objs.size)).get? (hh.objs.size+1)=some (dH C hh.objs.size):=by heap_get
 have t1:Looks (model prog w) ((hh.push (da us)).push (dH C hh.objs.size)) (typeOf (.ref (hh.objs.size+1))) (.ref C):=(Looks.ld hx).andThen .now;have s1:Looks (model prog w) ((hh.push (da us)).push (dH C hh.objs.size)) (isSubtype (.ref C) (.ref C)) true:=by
  obtain⟨cd,hc,hm⟩:=x.mro;refine(looks_mroIn X ?_).keeps k;unfold mroIn;rw[hc,Option.bind_some,hm];simp
 have i1:=i0.keeps k;have b1:=(b0 (.ref (hh.objs.size+1))).keeps k;unfold isInstance callSpecial? specialOf
 repeat (first|with_reducible refine wpAny_call ?_|lk)
 refine oN hq fun r s' z=>?_;rcases r with e|(v|_|_|_) <;> first|exact z|exact z.elim|skip
 obtain⟨rfl,z⟩:=z;exact ai (ai z)
end
def We(x:Addr)(C:Value)(d:Option Addr):Heap->Prop:=fun h=>∃ox vs t,h.get? x=some ox/\ox.cls=C/\ox.dict=d/\ox.data=.fields vs/\4<vs.size/\vs[0]?= some (.ref t)/\vs[1]?= some .none
theorem Tw{M:Model}{A:Around}{E:Value->Shared->Prop}{s:Shared}{env:Env}{K:Frag}{C G:Addr}{x0:Sem Value}{Q:Flow->Shared->Prop}(hh:A.handled=none)(y:pe K C G)
  (h:wpAny M A x0 (fun v s1=>∃x d,v=.ref x/\K.In s1.heap/\We x (.ref C) d s1.heap/\E (.ref x) s1) E s):wpAny M A (raiseStmt env (some x0) none) Q E s:=by
 unfold raiseStmt;refine ae (eI h (fun v s1 q=>?_) fun _ _ z=>z);obtain⟨x,d,rfl,X,⟨ox,vs,t,ho,hc,hd,hf,hz,h0,h1⟩,hE⟩:=q;obtain⟨cd,cW,Oo⟩:=y.mro;have ty:Looks M s1.heap (typeOf (.ref x)) (.ref C):=hc ▸ (Looks.ld ho).andThen .now;have isb:Looks M s1.heap (isInstance (.ref x) (.type "BaseException")) true:=ty.andThen (looks_mroIn X (by unfold mroIn;rw[cW,Option.bind_some,Oo];rfl));have nt:Looks M s1.heap (isType (.ref x)) false:=by
  intro A' Q' E' s' k q;unfold isType loadHead;refine ae (wpAny_loadPart (k _ _ ho) ?_);rw[hf];exact ai q
 obtain⟨nm,q,N,bs,sJ,sn,sub,ab,col,dd,k0,k1,k2,k3,k5,hK⟩:=y.ob;have tt:Looks M s1.heap (typeOf (.ref C)) (.type "type"):=(Looks.ld (X _ _ hK)).andThen .now;refine ae (ai (ae (iR ?_)));unfold excFromValue isExcClass;refine ae (ae (nt.here ?_));rw[af bb];refine ai ?_;rw[af bb];refine ae (isb.here ?_);rw[ah rfl];refine ai ?_;refine ae (nt.here ?_);rw[af bb];unfold raisedInstance;refine ae (ae (ty.here (ae (tt.here ?_))));rw[ah (by decide)];refine ai ?_;unfold setFlight;refine ae (ae (lm ho hf h1 ?_));rw[af (by decide)];exact ai (wpAny_raiseNew_none hh hE)
structure Qk(K:Frag)(G:Addr):Prop where
 ga:specialIn K (.ref G) "__getattribute__" = some (some (.builtin "type.__getattribute__"))
 rd:readsIn K G (.type "type")=true
 fi:findCls K (.ref G) (.type "type") "__init__" = some (.val (.builtin "ValueError.__init__"))
theorem Kj{prog:Program}{w:World}{A:Around}{E:Value->Shared->Prop}{s:Shared}{K:Frag}{x:Addr}{C c:Value}{Q:Value->Shared->Prop}(X:K.In s.heap)(ty:∀M,Looks M s.heap (typeOf (.ref x)) C)(bP:(C == c)=false)(e:kitCls K C c=some true)
  (h:Q (.bool true) s):wpAny (model prog w) A (call (.builtin "isinstance") [.ref x,c]) Q E s:=by
 refine call_isinstance (S:=fun _ R s=>(K.In s.heap/\∀M,Looks M s.heap (typeOf (.ref x)) C)/\R (.ok (.ret (.bool true))) s) (fun prog w A R s hs=>isinstance_outer ?_ (fun z=>nomatch z)) ⟨⟨X,ty⟩,h⟩
 ·obtain⟨⟨X,LT⟩,hq⟩:=hs;obtain⟨h0,g,d,tt,os⟩:=s;unfold Builtin.«isinstance.nested»;refine ae ((LT _).at ?_);rw[af (by rw[bP];decide)];obtain⟨kL,his,sX⟩:=kit_cls (M:=model prog w) X e;refine ae (kL.at ?_);rw[ah (by decide)]
  k_delta "plainIsInstance"
  refine ae (ae (his.at ?_));simp only[Bool.not_true,qH,ie];refine ae (((LT _).andThen sX).at ?_)
  first|exact ai (ai hq)|(simp only[gQ];first|exact ai (ai hq)|exact ai hq)
section
variable{prog:Program}{w:World}{A:Around}{K:Frag}{C G:Addr}{R:Result->Shared->Prop}{s:Shared}
theorem Vl{us:List Value}(x:pe K C G)(X:K.In s.heap)(hi:findIn K (.ref C) "__init__" = some (some (.builtin "ValueError.__init__"))) (hl:us.length<=sizeLine)
  (hq:R (.ok (.ret (.ref (s.heap.objs.size+1)))) { s with heap:=(((s.heap.push (da us)).push (dH C s.heap.objs.size)).push (da us)).update (s.heap.objs.size+1) (Obj.mapFields (·.setIfInBounds 0 (.ref (s.heap.objs.size+2)))) }) :
  codeAny (model prog w) A (.call (.ref C) ⟨us,[]⟩) R s:=by
 have F0:=F.excBase_ValueError;refine Rw x X hi (fun self=>Looks.of_pure (F0.init.bind self)) hl ?_;obtain⟨hh,g,d,tk,os⟩:=s;obtain⟨nm,q,N,bs,sJ,sn,sub,ab,col,dd,k0,k1,k2,k3,k5,hK⟩:=x.ob;have k:∀b o,hh.get? b=some o->((hh.push (da us)).push (dH C hh.objs.size)).get? b=some o:=fun b o e=>aJ _ (aJ _ e);have hx:((hh.push (da us)).push (dH C hh.objs.size)).get? (hh.objs.size+1)=some (dH C hh.objs.size):=by heap_get
 have X2:=X.keeps k;refine codeAny_call_builtin F0.init.plain F0.initEntry (wpAny_check_init_subT F0 (x.mid.tail X2) (X2 _ _ hK) hx rfl ?_);have fB:(((hh.push (da us)).push (dH C hh.objs.size)).push (da us)).get? (hh.objs.size+1)=some (dH C hh.objs.size):=aJ _ hx;unfold Builtin.«BaseException.__init__»;refine ae (wpAny_newTuple ?_ hl);unfold Builtin.BaseException.bexcPut;refine ae (ae (lm (s:=⟨((hh.push (da us)).push (dH C hh.objs.size)).push (da us),g,d,tk,os⟩) fB rfl (x:=.ref hh.objs.size) rfl (ae (oP (s:=⟨((hh.push (da us)).push (dH C hh.objs.size)).push (da us),g,d,tk,os⟩) fB rfl (by simp) ?_))))
 wp_walk
 refine⟨rfl,?_⟩;have e2:((hh.push (da us)).push (dH C hh.objs.size)).objs.size=hh.objs.size+2:=by rw[iN,iN]
 rw[<- e2] at hq;exact hq
end
def Uv(C:Addr)(E:ki)(t:TA):TS:=fun _ σ H=>t σ H fun vs H1=>vs.length<=1000/\∀y,H1 y=none->E σ (.ref C) none (upd H1 y (.ext (XO y (.ref C) none)))
section
variable{X:Cx}{j k:Nat}{C G:Addr}{E:ki}{x:Str}{p pos gV:Pos}{e:Expr}{es:List Expr}{t:TA}
theorem rE(Z:pe X.K C G)(hi:findIn X.K (.ref C) "__init__" = some (some (.builtin "ValueError.__init__"))) (nm:X.mg x=some (.ref C)) (hT:si X E) (hr:cj k X.A) (hg:Gl X x) (ha:PA X (e::es) t) (gB:(x == ("__debug__" : Str))=false:=by decide)
  (he:starEach (e::es) X.env=(false,eval e X.env)::starEach es X.env:=by rfl) (aR:(backTo gV (starEach es X.env)).any (·.1)=false:=by rfl) :
  PS X (.Raise (some (.Call (.Name x p) (e::es) [] gV)) none pos) (Uv C E t):=by
 intro pins s σ H D I h;show wpAny _ _ (standAt pos >>= fun _=>raiseStmt X.env (some (eval (.Call (.Name x p) (e::es) [] gV) X.env >>= fun v=>standAt pos >>= fun _=>pure v)) none) _ _ s;refine ae (wpAny_standAt (Tw (hr.hd) Z (ae ?_)));refine lj (uG I hg nm ?_ gB);refine xl (h₀ := X.base) I.ok.mod.qw Z.kp (aw (ha gV pins s σ H _ I h) fun us s1 ⟨vs,H1,I1,r,hl,q⟩=>⟨I1.bH,?_⟩) he aR;have hlu:us.length<=sizeLine:=by rw[<- r.length];exact cY hl (by decide)
 have hy:H1 (s1.heap.objs.size+1)=none:=I1.aq.fresh (h_ _);have hE:=q (s1.heap.objs.size+1) hy;refine wpAny_call (Vl Z I1.bH hi hlu ?_);have hx:((s1.heap.push (da us)).push (dH C s1.heap.objs.size)).get? (s1.heap.objs.size+1)=some (dH C s1.heap.objs.size):=by heap_get
 have fB:(((s1.heap.push (da us)).push (dH C s1.heap.objs.size)).push (da us)).get? (s1.heap.objs.size+1)=some (dH C s1.heap.objs.size):=aJ _ hx;have I2:Inv X pins σ (upd H1 (s1.heap.objs.size+1) (.ext (XO (s1.heap.objs.size+1) (.ref C) none))) { s1 with heap:=(s1.heap.push (da us)).push (dH C s1.heap.objs.size) }:=by
  have a:=I1.kept (t':=s1.toks) (h':=s1.heap.push (da us)) fun b u q=>aJ _ q;exact a.laid (t':=s1.toks) (fun b u q=>aJ _ q) (by show(s1.heap.push (da us)).objs.size<=_;rw[iN];exact az _) (XO.NE ⟨_,_,hx,rfl,rfl,rfl,by simp⟩)
 have I3:=I2.kept (t':=s1.toks) (h':=((s1.heap.push (da us)).push (dH C s1.heap.objs.size)).push (da us)) fun b u q=>aJ _ q;have I4:=I3.Po (t':=s1.toks) (h':=(((s1.heap.push (da us)).push (dH C s1.heap.objs.size)).push (da us)).update (s1.heap.objs.size+1) (Obj.mapFields (·.setIfInBounds 0 (.ref (s1.heap.objs.size+2))))) Zc (fun b u hb z=>(hW _ _ (fG hb)).trans z) (XO.put ⟨_,_,fB,rfl,rfl,rfl,by simp⟩ 0 _);have N':=yo 0 (.ref (s1.heap.objs.size+2)) fB rfl;refine ae (wpAny_standAt (ai ⟨_,none,rfl,I4.bH,⟨_,_,s1.heap.objs.size+2,N',rfl,rfl,rfl,by simp,rfl,rfl⟩,?_⟩));exact hT pins σ _ _ _ (.ref C) none I4 Zc (fun _=>cY I1.sz (h_ _)) (.inl ⟨_,_,N',rfl,rfl⟩) hE
end
section
variable{X:Cx}
theorem SH:fO X (.builtin "isinstance") (fun xs H Q=>∃a oe C D,xs=[.ref a,.ref D]/\H a=some (Known a oe)/\oe.cls=.ref C/\C≠D/\isClsIn X.K D=true/\typeIn X.K (.ref D)=some (.type "type")/\mroIn X.K C (.ref D)=some true/\Q (.bl true) H):=by
 intro pins s σ H xs us Q I r h;obtain⟨a,oe,C,D,rfl,hk,hc,bP,h1,h2,h3,q⟩:=h;obtain⟨u,v,rfl,rx,ry⟩:=Vals.two r;obtain rfl:u=Value.ref a:=rx;obtain rfl:v=Value.ref D:=ry;have ho:s.heap.get? a=some oe:=(I.aq a _ hk).1;refine Kj I.bH (C:=.ref C) (fun M=>hc ▸ (Looks.ld ho).andThen .now) (by simpa using bP) ?_ ⟨.bl true,H,I,rfl,q⟩;unfold kitCls;dsimp only;unfold isClsIn at h1;rw[h1,h2,if_pos (by decide)];exact h3
theorem Sd:fO X (.builtin "isinstance") (fun xs H Q=>∃a oe C n,xs=[.ref a,.ty n]/\H a=some (Known a oe)/\oe.cls=.ref C/\kitMeta n=true/\mroIn X.K C (.type n)=some true/\Q (.bl true) H):=by
 intro pins s σ H xs us Q I r h;obtain⟨a,oe,C,n,rfl,hk,hc,h1,h3,q⟩:=h;obtain⟨u,v,rfl,rx,ry⟩:=Vals.two r;obtain rfl:u=Value.ref a:=rx;obtain rfl:v=Value.type n:=ry;have ho:s.heap.get? a=some oe:=(I.aq a _ hk).1;refine Kj I.bH (C:=.ref C) (fun M=>hc ▸ (Looks.ld ho).andThen .now) rfl ?_ ⟨.bl true,H,I,rfl,q⟩;unfold kitCls;dsimp only;rw[if_pos h1];exact h3
end
end L2
namespace L2
open PySem PySem.Spec PyProof.Rows
abbrev TJ:=St->Hp->Str->(Str->Hp->Prop)->Prop
def PJ(X:Cx)(es:List Expr)(t:TJ):Prop := ∀(pins:List (Addr×Obj))(s:Shared)(σ : St)(H:Hp)(acc:Str)(Q:Str->Hp->Prop),Inv X pins σ H s->t σ H acc Q ->
 wpAny (model X.prog X.w) X.A (joinParts acc (evalEach es X.env)) (EP X pins σ fun v H'=>∃z,v=.str z/\Q z H') X.xe s
def VD:TJ:=fun _ H acc Q=>acc.length<=sizeLine/\Q acc H
def Vz(te:TE)(t:TJ):TJ:=fun σ H acc Q=>te σ H fun v H1=>∃y,v=.str y/\(acc++y).length<=sizeLine/\t σ H1 (acc++y) Q
def tFv(tv:TE):TE:=fun σ H Q=>tv σ H fun v H1=>(∃z,v=.str z/\z.length<=sizeLine/\Q (.str z) H1)\/∃i:Int,v=.int i/\i.natAbs.log2<1920/\Q (.str (Str.ofString (toString i))) H1
def UM(t:TJ):TE:=fun σ H Q=>t σ H Str.empty fun z H'=>Q (.str z) H'
section
variable{X:Cx}{e:Expr}{es:List Expr}{te:TE}{t:TJ}{pos:Pos}
theorem Co:PJ X [] VD:=fun _ _ _ H acc _ I h=>joinParts_nil ⟨.str acc,H,I.tok _,⟨_,rfl⟩,acc,rfl,h.2⟩ h.1
theorem lJ(he:PE X e te)(hr:PJ X es t)(hs:evalEach (e::es) X.env=eval e X.env::evalEach es X.env:=by rfl):PJ X (e::es) (Vz te t):=by
 intro pins s σ H acc Q I h;rw[hs];refine joinParts_cons (aw (he pins s σ H _ I h) fun u s1 ⟨v,H1,I1,r,y,ev,hz,q⟩=>?_);subst ev;obtain⟨tk,rfl⟩:=r;exact⟨hz,hr pins s1 σ H1 _ Q I1 q⟩
theorem Mv(he:PE X e te):PE X (.FormattedValue e (-1) none pos) (tFv te):=by
 intro pins s σ H Q I h;refine FormattedValue_plain (aw (he pins s σ H _ I h) fun u s1 ⟨v,H1,I1,r,q⟩=>?_);rcases q with⟨z,rfl,hz,q⟩|⟨i,rfl,hi,q⟩
 ·obtain⟨tk,rfl⟩:=r;exact formatField_str (fun t' tk=>⟨.str z,H1,I1.tok _,⟨_,rfl⟩,q⟩) hz
 ·obtain⟨tk,rfl⟩:=r;exact formatField_int_small hi ⟨.str _,H1,I1.tok _,⟨_,rfl⟩,q⟩
theorem BE{e2:Expr}(h:PJ X (e::e2::es) t):PE X (.JoinedStr (e::e2::es) pos) (UM t):=by
 intro pins s σ H Q I hw;refine JoinedStr_many (aw (h pins s σ H _ _ I hw) fun u s1 ⟨v,H1,I1,r,z,ev,q⟩=>⟨v,H1,I1,r,by rw[ev];exact q⟩)
end
def strsOf:List Expr->Option (List Str)
 | []=>some []
 | .Constant (.str x) _ _::es=>(strsOf es).map (x :: ·)
 | _=>none
def Mm(ss:List Str):TA:=fun _ H Q=>Q (ss.map V.str) H
theorem RA{X:Cx}:∀{es:List Expr}{ss:List Str},strsOf es=some ss->PA X es (Mm ss):=by
 intro es
 induction es with
 | nil =>
  intro ss h;cases h;exact Zb
 | cons e es ih =>
  intro ss h;cases e with
  | Constant k j p =>
   cases k with
   | str x =>
    cases h1:strsOf es with
    | none=>simp[strsOf,h1] at h
    | some ss' =>
     simp[strsOf,h1] at h;subst h;exact fun pos pins s σ H Q I h=>Za Zm (ih h1) rfl pos pins s σ H Q I h
   | _=>simp[strsOf] at h
  | _=>simp[strsOf] at h
theorem Lp{X:Cx}{es:List Expr}{ss:List Str}(h:strsOf es=some ss:=by rfl):PA X es (Mm ss):=RA h
end L2
namespace L2
open PySem PySem.Spec PyProof.Rows PySem.W
variable{X:Cx}
theorem R6{K:Frag}(hK:X.K=K):fO X (.builtin "isinstance") (fun xs H Q=>∃a oe C D,xs=[.ref a,.ref D]/\H a=some (Known a oe)/\oe.cls=.ref C/\C≠D/\isClsIn K D=true/\typeIn K (.ref D)=some (.type "type")/\mroIn K C (.ref D)=some true/\Q (.bl true) H):=by
 subst hK;exact SH
theorem Rr{K:Frag}(hK:X.K=K):fO X (.builtin "isinstance") (fun xs H Q=>∃a oe C n,xs=[.ref a,.ty n]/\H a=some (Known a oe)/\oe.cls=.ref C/\kitMeta n=true/\mroIn K C (.type n)=some true/\Q (.bl true) H):=by
 subst hK;exact Sd
end L2
namespace uu
open PySem PyProof.Rows
def B6:Bool->Keyed->Array Keyed->Nat->Nat->Nat->StateT SortSt Sem (Option Nat):=sortPriv% PySem.Builtin.gallop
def S6:Array Keyed->Array Keyed->StateT SortSt Sem (Array Keyed):=sortPriv% PySem.Builtin.mergeLo
def Tb:Array Keyed->Array Keyed->StateT SortSt Sem (Array Keyed):=sortPriv% PySem.Builtin.mergeHi
structure bT(st ag:SortSt):Prop where
 arr:arrOf ag=arrOf st
 kind:kindOf ag=kindOf st
 fail:failedOf ag=failedOf st
 pend:pendingOf ag=pendingOf st
theorem bT.refl(st:SortSt):bT st st:=⟨rfl,rfl,rfl,rfl⟩
theorem bT.trans{a b c:SortSt}(x:bT a b)(y:bT b c):bT a c:=⟨y.arr.trans x.arr,y.kind.trans x.kind,y.fail.trans x.fail,y.pend.trans x.pend⟩
section
variable{prog:Program}{w:World}{A:Around}{E:Value->Shared->Prop}{s:Shared}{κ : SortKind}{Ok:Keyed->Prop}{st:SortSt}
theorem ZP{arr:Array Keyed}{i:Nat}{Q:Keyed->SortSt->Prop}(hi:i<arr.size)(h:∀p,p∈arr.toList->arr[i]?= some p->Q p st):wpS (model prog w) A E s (elem' arr i) Q st:=by
 have e:arr[i]?= some arr[i]:=jo arr i hi;rw[elem'_eq,e];exact ar (h _ (by simp) e)
end
def Out(a b:Array Keyed)(out:Array Keyed)(ia ib:Nat):Prop:=out.toList.Perm (a.toList.take ia++b.toList.take ib)
section
variable{a b out:Array Keyed}{ia ib:Nat}
theorem Mj{α : Type}(x y z w:List α):(x++y++(z++w)).Perm (x++z++(y++w)):=by
 rw[bS,bS];refine mD x ?_;rw[<- bS,<- bS];exact kY w j4
theorem Out.done(h:Out a b out ia ib):(out++a.extract ia a.size++b.extract ib b.size).toList.Perm (a.toList++b.toList):=by
 rw[bN,bN,fE,fE];have e1:a.toList.extract ia a.size=a.toList.drop ia:=by rw[List.extract_eq_drop_take];apply j6;rw[dE,aA];exact az _
 have e2:b.toList.extract ib b.size=b.toList.drop ib:=by rw[List.extract_eq_drop_take];apply j6;rw[dE,aA];exact az _
 rw[e1,e2,bS];refine(kY _ h).trans ((Mj ..).trans ?_);rw[j5,j5]
theorem Out.last(h:Out a b out ia ib):(out++b.extract ib b.size++a.extract ia a.size).toList.Perm (a.toList++b.toList):=by
 refine List.Perm.trans ?_ h.done;rw[bN,bN,bN,bN,bS,bS];exact mD _ j4
theorem Out.lW{k:Nat}(h:Out a b out ia ib)(hk:ia+k<=a.size):Out a b (out++a.extract ia (ia+k)) (ia+k) ib:=by
 unfold Out;rw[bN,fE,List.extract_eq_drop_take];have e:a.toList.take (ia+k)=a.toList.take ia++(a.toList.drop ia).take k:=List.take_add ..;rw[e,show ia+k-ia=k by lia];refine(kY _ h).trans ?_;rw[bS,bS];exact mD _ j4
theorem Out.pS{k:Nat}(h:Out a b out ia ib)(hk:ib+k<=b.size):Out a b (out++b.extract ib (ib+k)) ia (ib+k):=by
 unfold Out;rw[bN,fE,List.extract_eq_drop_take];have e:b.toList.take (ib+k)=b.toList.take ib++(b.toList.drop ib).take k:=List.take_add ..;rw[e,show ib+k-ib=k by lia];refine(kY _ h).trans ?_;rw[bS]
theorem BN{α : Type}{xs:List α}{i:Nat}{p : α}(h:xs[i]?= some p):xs.take (i+1)=xs.take i ++ [p]:=by
 obtain⟨hi,e⟩:=cA.mp h;rw[AY hi,e]
theorem Out.kS{p:Keyed}(h:Out a b out ia ib)(hp:a[ia]?= some p):Out a b (out.push p) (ia+1) ib:=by
 have lB:a.toList[ia]?= some p:=by rw[<- hp];simp
 unfold Out;rw[fk,BN lB];refine(kY _ h).trans ?_;rw[bS,bS];exact mD _ j4
theorem Out.kT{p:Keyed}(h:Out a b out ia ib)(hp:b[ib]?= some p):Out a b (out.push p) ia (ib+1):=by
 have lB:b.toList[ib]?= some p:=by rw[<- hp];simp
 unfold Out;rw[fk,BN lB];refine(kY _ h).trans ?_;rw[bS]
theorem Wq{p:Keyed}(hp:b[0]?= some p):Out a b #[p] 0 1:=by
 have h0:Out a b #[] 0 0:=by
  unfold Out;rw[List.take_zero,List.take_zero];exact jm _
 exact h0.kT hp
end
section
variable{prog:Program}{w:World}{A:Around}{E:Value->Shared->Prop}{s:Shared}{κ : SortKind}{Ok:Keyed->Prop}{st:SortSt}
theorem rg(st:SortSt)(g:Nat):bT st (SortSt.mk' (kindOf st) (arrOf st) (pendingOf st) g (failedOf st)):=⟨rfl,rfl,rfl,rfl⟩
end
def dr(a b:Array Keyed)(out:Array Keyed)(na nb:Nat):Prop:=out.toList.Perm (a.toList.drop na++b.toList.drop nb)
section
variable{a b out:Array Keyed}{na nb:Nat}
theorem nr(a:Array Keyed)(n:Nat):(a.extract 0 n).toList=a.toList.take n:=by
 rw[fE,List.extract_eq_drop_take,qL,Nat.sub_zero]
theorem dr.done(h:dr a b out na nb):(a.extract 0 na++b.extract 0 nb++out.reverse).toList.Perm (a.toList++b.toList):=by
 rw[bN,bN,nr,nr,kX];refine(mD _ ((List.reverse_perm _).trans h)).trans ((Mj ..).trans ?_);rw[j5,j5]
theorem dr.first(h:dr a b out na nb):(b.extract 0 nb++a.extract 0 na++out.reverse).toList.Perm (a.toList++b.toList):=by
 refine List.Perm.trans ?_ h.done;rw[bN,bN,bN,bN];exact kY _ j4
theorem J_{α : Type}{xs:List α}{i:Nat}{p : α}(h:xs[i]?= some p):xs.drop i=p::xs.drop (i+1):=by
 obtain⟨hi,e⟩:=cA.mp h;rw[<- e];exact List.drop_eq_getElem_cons hi
theorem dr.kS{p:Keyed}(h:dr a b out na nb)(h1:1<=na)(hp:a[na-1]?= some p):dr a b (out.push p) (na-1) nb:=by
 have lB:a.toList[na-1]?= some p:=by rw[<- hp];simp
 unfold dr;rw[fk,J_ lB,Nat.sub_add_cancel h1];refine(kY _ h).trans ?_;exact j4
theorem dr.kT{p:Keyed}(h:dr a b out na nb)(h1:1<=nb)(hp:b[nb-1]?= some p):dr a b (out.push p) na (nb-1):=by
 have lB:b.toList[nb-1]?= some p:=by rw[<- hp];simp
 unfold dr;rw[fk,J_ lB,Nat.sub_add_cancel h1];refine(kY _ h).trans ?_;rw[bS];refine mD _ ?_;exact j4
theorem Kv{α : Type}(xs:List α){i j:Nat}(h:i<=j):xs.drop i=(xs.drop i).take (j-i)++xs.drop j:=by
 have:=j5 (j-i) (xs.drop i);rw[k_,Nat.add_sub_cancel' h] at this;exact this.symm
theorem dr.lW{k:Nat}(h:dr a b out na nb)(hk:k<=na):dr a b (out++(a.extract k na).reverse) k nb:=by
 unfold dr;rw[bN,kX,fE,List.extract_eq_drop_take];refine(List.Perm.append h (List.reverse_perm _)).trans ?_;refine j4.trans ?_;rw[<- bS,<- Kv a.toList hk]
theorem dr.pS{k:Nat}(h:dr a b out na nb)(hk:k<=nb):dr a b (out++(b.extract k nb).reverse) na k:=by
 unfold dr;rw[bN,kX,fE,List.extract_eq_drop_take];refine(List.Perm.append h (List.reverse_perm _)).trans ?_;rw[bS];refine mD _ (j4.trans ?_);rw[<- Kv b.toList hk]
theorem VN{p:Keyed}(h1:1<=a.size)(hp:a[a.size-1]?= some p):dr a b #[p] (a.size-1) b.size:=by
 have h0:dr a b #[] a.size b.size:=by
  unfold dr;rw[wZ (by rw[aA];exact az _),wZ (by rw[aA];exact az _)];exact jm _
 exact h0.kS h1 hp
end
structure Pm(st ag:SortSt):Prop where
 arr:(arrOf ag).toList.Perm (arrOf st).toList
 kind:kindOf ag=kindOf st
 fail:failedOf ag=failedOf st
 pend:pendingOf ag=pendingOf st
theorem Pm.refl(st:SortSt):Pm st st:=⟨jm _,rfl,rfl,rfl⟩
theorem Pm.trans{a b c:SortSt}(x:Pm a b)(y:Pm b c):Pm a c:=⟨y.arr.trans x.arr,y.kind.trans x.kind,y.fail.trans x.fail,y.pend.trans x.pend⟩
theorem Pm.size{a b:SortSt}(x:Pm a b):(arrOf b).size=(arrOf a).size:=by
 have:=x.arr.length_eq;rw[aA,aA] at this;exact this
theorem Pm.ok{a b:SortSt}{Ok:Keyed->Prop}(x:Pm a b)(h:∀p∈(arrOf a).toList,Ok p):∀p∈(arrOf b).toList,Ok p:=fun p hp=>h p (x.arr.mem_iff.mp hp)
theorem Pm.mirror(st:SortSt)(i j:Nat):Pm st (setArr st (mirror (arrOf st) i j ((j-i) / 2))):=⟨Array.perm_iff_toList_perm.mp (mirror_perm _ _ _ _),rfl,rfl,rfl⟩
theorem Pm.bubble(st:SortSt)(i j:Nat):Pm st (setArr st (bubble (arrOf st) i (i-j))):=⟨Array.perm_iff_toList_perm.mp (bubble_perm _ _ _),rfl,rfl,rfl⟩
def ci:List (Nat×Nat×Nat)->Nat->Nat->Prop
 | [],lo,hi=>lo=hi
 | x::r,lo,hi=>x.1=lo/\1<=x.2.1/\ci r (lo+x.2.1) hi
theorem ci.le:∀{l:List (Nat×Nat×Nat)}{lo hi:Nat},ci l lo hi->lo+l.length<=hi
 | [],lo,hi,h=>Nat.le_of_eq h
 | x::r,lo,hi,⟨_,h1,h2⟩=>by
  have:=ci.le h2;rw[aN];lia
theorem ci.push:∀{l:List (Nat×Nat×Nat)}{lo hi n p:Nat},ci l lo hi->1<=n->ci (l ++ [(hi,n,p)]) lo (hi+n)
 | [],lo,hi,n,p,h,h1=>by
  have e:lo=hi:=h;subst e;exact⟨rfl,h1,rfl⟩
 | x::r,lo,hi,n,p,⟨a,b,c⟩,h1=>⟨a,b,c.push h1⟩
theorem ci.at:∀{l:List (Nat×Nat×Nat)}{i lo hi sa na p sb nb q:Nat},ci l lo hi->l[i]?= some (sa,na,p)->l[i+1]?= some (sb,nb,q) ->
  sb=sa+na/\1<=na/\1<=nb/\sb+nb<=hi/\ci ((l.set i (sa,na+nb,p)).eraseIdx (i+1)) lo hi
 | x::y::r,0,lo,hi,sa,na,p,sb,nb,q,⟨a,b,c1,c2,c3⟩,h1,h2=>by
  have e1:x=(sa,na,p):=by simpa using h1
  have e2:y=(sb,nb,q):=by simpa using h2
  subst e1;subst e2;have a':sa=lo:=a;have oR:sb=lo+na:=c1;have hle:=c3.le;subst a';refine⟨oR,b,c2,?_,rfl,?_,?_⟩
  ·have:sa+na+nb<=hi:=by
    have h3:sa+na+nb+r.length<=hi:=hle;lia
   lia
  ·show 1<=na+nb;have:1<=na:=b;lia
  ·show ci r (sa+(na+nb)) hi;rw[<- Nat.add_assoc];exact c3
 | x::r,i+1,lo,hi,sa,na,p,sb,nb,q,⟨a,b,c⟩,h1,h2=>by
  obtain⟨k1,k2,k3,k4,k5⟩:=ci.at (l:=r) (i:=i) c (by simpa using h1) (by simpa using h2);exact⟨k1,k2,k3,k4,a,b,k5⟩
 | [x],0,_,_,_,_,_,_,_,_,_,_,h2=>by simp at h2
 | [],_,_,_,_,_,_,_,_,_,_,h1,_=>by simp at h1
theorem ci.last:∀{l:List (Nat×Nat×Nat)}{lo hi:Nat}(f:Nat×Nat×Nat->Nat×Nat×Nat)(_:∀x,(f x).1=x.1/\(f x).2.1=x.2.1)(i:Nat),ci l lo hi->ci (l.modify i f) lo hi
 | [],lo,hi,f,hf,i,h=>by cases i <;> exact h
 | x::r,lo,hi,f,hf,0,⟨a,b,c⟩=>by
  refine⟨(hf x).1.trans a,by rw[(hf x).2];exact b,?_⟩;rw[(hf x).2];exact c
 | x::r,lo,hi,f,hf,i+1,⟨a,b,c⟩=>⟨a,b,ci.last f hf i c⟩
theorem Pw(base:Nat):∀(m:List Keyed)(n:Nat)(arr:Array Keyed),base+n+m.length<=arr.size ->
  ((m.zipIdx n).foldl (fun(a:Array Keyed)(x:Keyed×Nat)=>match x with|(p,j)=>a.setIfInBounds (base+j) p) arr).toList=arr.toList.take (base+n)++m++arr.toList.drop (base+n+m.length)
 | [],n,arr,_=>by
  show arr.toList=_;rw[iO,tT,Nat.add_zero,j5]
 | p::m,n,arr,h=>by
  rw[aN] at h;rw[List.zipIdx_cons,List.foldl_cons];have hs:(arr.setIfInBounds (base+n) p).size=arr.size:=AN;rw[Pw base m (n+1) _ (by rw[hs];lia),Array.toList_setIfInBounds];have hl:base+n<arr.toList.length:=by rw[aA];lia
  rw[<- Nat.add_assoc,List.take_set,List.drop_set_of_lt (by lia)];have e1:(arr.toList.take (base+n+1)).set (base+n) p=arr.toList.take (base+n) ++ [p]:=by
   rw[AY hl,List.set_append_right _ _ (by rw[dM];lia)];rw[show base+n-(arr.toList.take (base+n)).length=0 by rw[dM];lia];rfl
  rw[e1,aN,show base+n+1+m.length=base+n+(m.length+1) by lia];simp
section
variable{prog:Program}{w:World}{A:Around}{E:Value->Shared->Prop}{s:Shared}{κ : SortKind}{Ok:Keyed->Prop}{st:SortSt}
structure SB(a₀ : Array Keyed)(κ : SortKind)(hi:Nat)(st:SortSt):Prop where
 arr:(arrOf st).toList.Perm a₀.toList
 kind:kindOf st= κ
 fail:failedOf st=none
 ja:ci (pendingOf st).toList 0 hi
theorem SB.size{a₀ : Array Keyed}{hi:Nat}(x:SB a₀ κ hi st):(arrOf st).size=a₀.size:=by
 have:=x.arr.length_eq;rw[aA,aA] at this;exact this
theorem SB.ok{a₀ : Array Keyed}{hi:Nat}(x:SB a₀ κ hi st)(h:∀p∈a₀.toList,Ok p):∀p∈(arrOf st).toList,Ok p:=fun p hp=>h p (x.arr.mem_iff.mp hp)
theorem SB.pm{a₀ : Array Keyed}{hi:Nat}{ag:SortSt}(x:SB a₀ κ hi st)(p:Pm st ag):SB a₀ κ hi ag:=⟨p.arr.trans x.arr,p.kind.trans x.kind,p.fail.trans x.fail,by rw[p.pend];exact x.ja⟩
theorem Uo{v:SortSt}{Q:PUnit->SortSt->Prop}(h:Q ⟨⟩ v):wpS (model prog w) A E s (set v:StateT SortSt Sem PUnit) Q st:=by
 unfold wpS;rw[StateT.run_set];exact ai ⟨rfl,h⟩
theorem K3(base:Nat)(m:List Keyed)(arr:Array Keyed)(h:base+m.length<=arr.size) :
  (m.zipIdx.foldl (fun(a:Array Keyed)(x:Keyed×Nat)=>a.setIfInBounds (base+x.2) x.1) arr).toList=arr.toList.take base++m++arr.toList.drop (base+m.length):=Pw base m 0 arr h
theorem LW(L:List Keyed){m b e:Nat}(h1:m<=b)(h2:b<=e):L.extract m b++L.extract b e=(L.drop m).take (e-m):=by
 rw[List.extract_eq_drop_take,List.extract_eq_drop_take,show e-m=(b-m)+(e-b) by lia,List.take_add,k_,Nat.add_sub_cancel' h1]
theorem Kg{L r:List Keyed}{m c:Nat}(h:r.Perm ((L.drop m).take c))(hc:r.length=c):(L.take m++r++L.drop (m+r.length)).Perm L:=by
 subst hc;have e:L=L.take m++(L.drop m).take r.length++L.drop (m+r.length):=by
  rw[bS,<- k_,j5,j5]
 refine List.Perm.trans ?_ (tN e.symm);exact kY _ (mD _ h)
end
section
variable{prog:Program}{w:World}{A:Around}{E:Value->Shared->Prop}{s:Shared}
theorem J1{vs:List Value}{xs:Array Keyed}(h:xs.toList.Perm (pairsOf vs).toList):(xs.map (·.2)).toList.Perm vs:=by
 rw[Array.toList_map];refine(h.map (·.2)).trans (tN ?_);rw[pairsOf_toList,show(fun p:Keyed=>p.2)=Prod.snd from rfl,List.map_snd_zip (az _)]
end
end uu
namespace L2
open PySem PySem.Spec PyProof.Rows
theorem BR:∀{vs:List V}{us:List Value},Vals vs us->∀u∈us,∃v∈vs,RelV v u
 | _,_,.cons a t,u,hu=>by
  rcases aG.mp hu with rfl|hu
  ·exact⟨_,ba ..,a⟩
  ·obtain⟨v,hv,r⟩:=BR t u hu;exact⟨v,aW _ hv,r⟩
end L2
namespace L2
open PySem PySem.Spec PyProof.Rows PySem.W
def jG(h:Heap)(d:Addr)(es:Array DictEntry)(ep:Nat):Prop := ∃o,h.get? d=some o/\o.ExactDict/\o.data=.dict es ep
theorem jG.Hg{s:Shared}{d:Addr}{es:Array DictEntry}{ep:Nat}(x:jG s.heap d es ep):s.TypeIs (.ref d) "dict" := let ⟨o,ho,hc,_⟩:=x;⟨o,ho,hc.1⟩
theorem jG.to{h h':Heap}{d:Addr}{es:Array DictEntry}{ep:Nat}(x:jG h d es ep)(e:∀o,h.get? d=some o->h'.get? d=some o):jG h' d es ep:=let ⟨o,ho,r⟩:=x;⟨o,e _ ho,r⟩
section
variable{prog:Program}{w:World}{A:Around}{E:Value->Shared->Prop}{s:Shared}{it d:Addr}{es:Array DictEntry}{i ep:Nat}
theorem Th{Q:Value->Shared->Prop}(lo:(d == sysModules)=false)(x:jG s.heap d es ep)
  (q:Q (.ref s.heap.objs.size) { s with heap:=s.heap.push { cls:=.type "dict_keyiterator",data:=.fields #[.ref d,.int 0 0,.int es.size 0,.int ep 0] } }):wpAny (model prog w) A (pyIter (.ref d)) Q E s:=by
 obtain⟨o,ho,hx,zr⟩:=id x;have hT:=x.Hg;refine wpAny_pyIter_slot hT PySem.F.slot_dict_iter (ll PySem.F.slot_dict_iter hT PySem.F.entry_dict_iter ?_ (PySem.F.args_dict_iter_1 _));unfold Builtin.«dict.__iter__»;refine ae ?_;unfold Builtin.Dict.dictSlotNone;refine ae (wpAny_notOrdered_dict hT ?_);refine ai (?_:wpAny _ _ (Builtin.Dict.showsAll d >>= _) _ _ s);unfold Builtin.Dict.showsAll;rw[af (by rw[lo];exact bb)];refine ae (ai (ae (wpAny_dictEntries ho zr (ae (wpAny_dictEpoch ho zr ?_)))));exact ae (iS (ai ⟨_,rfl,"dict_keyiterator",_,⟨_,cb _ rfl,rfl⟩,xk.lookup,q⟩))
theorem T9{Q:Option Value->Shared->Prop}(st:s.heap.IsKeyIter it d i es.size ep)(x:jG s.heap d es ep)(hi:i<es.size)
  (q:∀h',h'.IsKeyIter it d (i+1) es.size ep->Heap.SameBut it s.heap h'->Q (some es[i].key) { s with heap:=h' }):wpAny (model prog w) A (pyNext (.ref it)) Q E s:=by
 obtain⟨o,ho,hc,hd⟩:=id st;obtain⟨od,vS,hxd,kF⟩:=id x;unfold pyNext;refine ae (wpAny_attempt (t9 (name:=Str.ofString "__next__") st.typeIs xk (ll xk st.typeIs PySem.F.entry_dict_keyiterator_next ?_ (PySem.F.args_dict_keyiterator_next_1 _))));refine ae (ai (ae (ae ?_)))
 first|refine ae (A3 st.typeIs (ai (ae (t_ ho hd ?_))))|refine ae (A4 st.typeIs (ai (ae (t_ ho hd ?_))))
 have own:Builtin.Dict_items.ownsTuple "dict_keyiterator" = false:=by decide
 simp only[own,qH,ie];change wpAny _ _ (if(Value.ref d == Value.none)=true then _ else _) _ _ s
 rw[af (fun z:(Value.ref d == Value.none)=true=>bb z)];refine ae (ai (ae (wpAny_dictEntries vS kF ?_)));rw[af (by simp)];refine ae (ai (ae (wpAny_dictEpoch vS kF ?_)));rw[af (by simp)];refine ai ?_;simp only[show ¬ ((i:Int)<0) by lia,ie,tM,eX hi];refine ae ?_;first|refine ae (A3 st.typeIs (ai (ae (wpAny_isOneOf_keyiter st.typeIs ?_))))|refine ae (A4 st.typeIs (ai (ae (wpAny_isOneOf_keyiter st.typeIs ?_))))
 change wpAny _ _ (setField (.ref it) 1 (rawInt ((i:Int)+1)) >>= _) _ _ s;refine ae (oP ho hd (by simp) ?_);have aF:(s.heap.update it (Obj.mapFields (·.setIfInBounds 1 (rawInt ((i:Int)+1))))).IsKeyIter it d (i+1) es.size ep:=⟨_,qJ _ ho (Obj.isFreed_of_fields (oH hd _)),(Obj.cls_mapFields ..).trans hc,by rw[oH hd];simp[rawInt]⟩;refine ae (iR (ae (wpAny_isOneOf_keyiter (s:={ s with heap:=s.heap.update it (Obj.mapFields (·.setIfInBounds 1 (rawInt ((i:Int)+1)))) }) aF.typeIs ?_)));change wpAny _ _ (pure es[i].key) _ _ _;exact ai (ai ⟨_,rfl,ai (q _ aF (wX ..))⟩)
theorem TF{Q:Option Value->Shared->Prop}(hh:A.handled=none)(st:s.heap.IsKeyIter it d i es.size ep)(x:jG s.heap d es ep)(hi:es.size<=i)
  (q:∀h',Heap.ExtBut it s.heap h'->Q none { s with heap:=h' }):wpAny (model prog w) A (pyNext (.ref it)) Q E s:=by
 obtain⟨o,ho,hc,hd⟩:=id st;obtain⟨od,vS,hxd,kF⟩:=id x;unfold pyNext;refine ae (wpAny_attempt (t9 (name:=Str.ofString "__next__") st.typeIs xk (ll xk st.typeIs PySem.F.entry_dict_keyiterator_next ?_ (PySem.F.args_dict_keyiterator_next_1 _))));refine ae (ai (ae (ae ?_)))
 first|refine ae (A3 st.typeIs (ai (ae (t_ ho hd ?_))))|refine ae (A4 st.typeIs (ai (ae (t_ ho hd ?_))))
 have own:Builtin.Dict_items.ownsTuple "dict_keyiterator" = false:=by decide
 simp only[own,qH,ie];change wpAny _ _ (if(Value.ref d == Value.none)=true then _ else _) _ _ s
 rw[af (fun z:(Value.ref d == Value.none)=true=>bb z)];refine ae (ai (ae (wpAny_dictEntries vS kF ?_)));rw[af (by simp)];refine ae (ai (ae (wpAny_dictEpoch vS kF ?_)));rw[af (by simp)];refine ai ?_;simp only[show ¬ ((i:Int)<0) by lia,ie,tM,tK hi];refine ae ?_;first|refine ae (A3 st.typeIs (ai ?_))|refine ae (A4 st.typeIs (ai ?_))
 change wpAny _ _ (setField (.ref it) 0 .none >>= _) _ _ s;refine ae (oP ho hd (by simp) ?_);change wpAny _ _ (newExc (.type "StopIteration") [] >>= _) _ _ _;refine ae ?_;simp only[newExc,newTuple];refine ae (iS (ae (m:=firstArgMember _ _) (wpAny_of_eq (a:=Value.none) (by first|rfl|(simp only[firstArgMember];rfl)) (iS ?_ (by size_fits)))) (by size_fits))
 simp only[raiseNew];refine ae (wpAny_handled ?_);rw[show A.in1.handled=none from hh];refine ae (ai (wpAny_throw ?_));refine ae (xp (T := "StopIteration") (b:=true) (v:=.ref _) (by exact⟨_,cb _ rfl,rfl⟩) isSubtype_stop ?_);exact ai (q _ (((wX ..).extBut.push _).push _))
theorem SD(hh:A.handled=none)(bP:d≠it):Walks prog w A it [it,d] [it] es.size (fun i v=>∃e,es[i]?= some e/\v=e.key) (fun i h=>h.IsKeyIter it d i es.size ep/\jG h d es ep) where
 sub:=fun b hb=>aG.mpr (.inl (bh.mp hb))
 frame:=fun _ _ _ st hk=>⟨st.1.at fun o e=>hk it (ba ..) o e,st.2.to fun o e=>hk d (aW _ (ba ..)) o e⟩
 item:=fun j s Q E hj st hQ=>T9 st.1 st.2 hj fun h' ag sb=>hQ _ h' s.toks ⟨_,eX hj,rfl⟩ ⟨ag,st.2.to fun o e=>sb.extBut d o bP e⟩ fun b o hb e=>sb.extBut b o (fun z=>hb (bh.mpr z)) e
 done:=fun s Q E st hQ=>TF hh st.1 st.2 (az _) fun h' he=>hQ h' s.toks fun b o hb e=>he b o (fun z=>hb (bh.mpr z)) e
 self:=fun _ _ _ _ st hQ=>wpAny_pyIter_keyiter st.1 hQ
theorem UK(lo:(d == sysModules)=false):KdlSrc prog w "dict" d d es.size (fun i v=>∃e,es[i]?= some e/\v=e.key) (fun h=>jG h d es ep) where
 type:=fun _ x=>x.Hg
 there:=fun _ ⟨o,ho,_⟩=>⟨aT ho,aT ho⟩
 keep:=fun _ _ x hk=>x.to fun o e=>hk d (.inl rfl) o e
 notList:=by decide
 notTuple:=by decide
 hint:=fun _ _ _ _ x hq=>kdl_hint_dict x.Hg hq
 iter:=fun _ _ hh x=>⟨_,_,(fun _ _ hq=>Th lo x hq),SD hh (let ⟨o,ho,_⟩:=x;bX (aT ho)),⟨⟨_,cb _ rfl,rfl,rfl⟩,x.to fun _ e=>aJ _ e⟩⟩
end
end L2
namespace L2
open PySem PySem.Spec PyProof.Rows
def vb(lo c:Int)(n:Nat):It:=⟨fun i _=>i<n,fun i H x H'=>H'=H/\x=.int (lo+i*c),fun i _=>n<=i⟩
theorem RD{P:Program}{w:World}{K:PySem.W.Frag}{tg:Expr}(it:Addr)(lo c:Int)(n:Nat):Turn P w K tg (vb lo c n) [it] it (fun i h=>IsRangeIter h it (lo+(i:Nat)*c) ((n:Int)-(i:Nat)) c) where
 mem:=bh.mpr rfl
 obj:=fun i h st b hb=>by
  obtain rfl:=bh.mp hb;exact⟨_,st,fun v z=>by
   have z2:Data.fields _=Data.cell v:=z;exact nomatch z2⟩
 keep:=fun i h h' st k=>k it (bh.mpr rfl) _ st
 item:=by
  intro X eP ew eK hc i pins s σ H E I hf st hg;subst eP ew eK;obtain⟨f0,f1,f2,f3,f4,f5⟩:=hf it (bh.mpr rfl);refine(Walks.range (prog:=X.prog) (w:=X.w) (I.ok.hd hc) it lo c n).item i s _ _ hg st fun v h' tk hv ag kk=>?_;obtain⟨t,rfl⟩:=hv;have I1:Inv X pins σ H { s with heap:=h',toks:=tk }:=I.turned (fun b o hb e=>kk b o (fun z=>hb (bh.mp z)) e) f0 f1 f3 f4 f5;exact⟨_,rfl,va (s:={ s with heap:=h',toks:=tk }) (n := "range_iterator") ag rfl rfl (by decide) ⟨.int (lo+i*c),H,I1,⟨t,rfl⟩,⟨rfl,rfl⟩,ag,fun b hb=>(hf b hb).1⟩⟩
 done:=by
  intro X eP ew eK hc i pins s σ H E I hf st hg;subst eP ew eK;obtain⟨f0,f1,f2,f3,f4,f5⟩:=hf it (bh.mpr rfl);have hni:n<=i:=hg;exact wpAny_pyNext_range_end (I.ok.hd hc) st (by lia) fun h' eb=>⟨rfl,I.turned (t':=s.toks) (fun b o hb e=>eb b o hb e) f0 f1 f3 f4 f5⟩
 self:=fun _ _ _ _ _ st h=>wpAny_pyIter_rangeiter st h
theorem Sw{lo c:Int}{n:Nat}{g:TG}{tb:TS}{D:Ends}{σ : St}{H:Hp}(Pv:Nat->St->Hp->Prop)(h0:Pv 0 σ H)
  (hs:∀i σ H,i<n->Pv i σ H->g (.int (lo+i*c)) σ H fun dU H2=>tb { D with nx:=Pv (i+1),ct:=Pv (i+1),bk:=D.nx } dU H2) (hd:∀ σ H,Pv n σ H->D.nx σ H) :
  ∃W:Nat->Nat->St->Hp->Prop,(∃m,W 0 m σ H)/\∀i m σ H,W i m σ H ->
   ((vb lo c n).stop i H/\D.nx σ H)\/((vb lo c n).go i H/\∃N:St->Hp->Prop,(∀ ao H',N ao H'->∃m',m'<m/\W (i+1) m' ao H')/\∀x H',(vb lo c n).kW i H x H'->g x σ H' fun dU H2=>tb { D with nx:=N,ct:=N,bk:=D.nx } dU H2):=by
 refine⟨fun i m σ H=>m=n-i/\i<=n/\Pv i σ H,⟨n,rfl,bi _,h0⟩,?_⟩;rintro i m σ H ⟨rfl,hi,hp⟩;rcases Nat.lt_or_ge i n with hl|hl
 ·refine .inr ⟨hl,Pv (i+1),fun ao H' hN=>⟨n-(i+1),by lia,rfl,hl,hN⟩,?_⟩;rintro x H' ⟨rfl,rfl⟩;exact hs i σ _ hl hp
 ·obtain rfl:i=n:=by lia
  exact .inl ⟨hl,hd σ H hp⟩
end L2
namespace iX
open PySem
def nx(m i:Nat):Nat:=(i*5+1) % (m+1)
def kQ(m:Nat):Nat->Nat->Nat
 | 0,i=>i
 | n+1,i=>kQ m n (nx m i)
theorem yd(m:Nat):∀a b i,kQ m (a+b) i=kQ m b (kQ m a i)
 | 0,b,i=>by rw[mF];rfl
 | a+1,b,i=>by rw[A2];exact yd m a b (nx m i)
def seen(m:Nat):Nat->Nat->Nat->Nat
 | 0,_,acc=>acc
 | n+1,i,acc=>seen m n (nx m i) (acc ||| (1 <<< i))
theorem Kk(m:Nat):∀n i acc j,(seen m n i acc).testBit j=true->acc.testBit j=true\/∃k,k<n/\kQ m k i=j
 | 0,_,_,_,h=>.inl h
 | n+1,i,acc,j,h=>by
  rcases Kk m n (nx m i) _ j h with h|⟨k,hk,e⟩
  ·rw[Nat.testBit_or,qI] at h;rcases h with h|h
   ·exact .inl h
   ·rw[Nat.testBit_shiftLeft] at h;have h2:i<=j/\(1:Nat).testBit (j-i)=true:=by simpa using h
    have h3:j-i=0:=by
     have:=h2.2;rw[Nat.testBit_one_eq_true_iff_self_eq_zero] at this;exact this
    exact .inr ⟨0,tY _,by show i=j;lia⟩
  ·exact .inr ⟨k+1,Nat.succ_lt_succ hk,e⟩
def Good(m:Nat):Prop:=m=7\/m=15\/m=31\/m=63\/m=127\/m=255\/m=511\/m=1023\/m=2047\/m=4095
def C5(m:Nat):Bool:=seen m (m+1) 0 0 == 2 ^ (m+1)-1&&kQ m (m+1) 0 == 0
theorem LC{m:Nat}(h:Good m):C5 m=true:=by
 rcases h with h|h|h|h|h|h|h|h|h|h <;> subst h <;> decide +kernel
theorem NH{m j:Nat}(h:Good m)(hj:j<=m):∃n,n<=m/\kQ m n 0=j:=by
 have hc:=LC h;unfold C5 at hc;rw[cO] at hc;have h1:=eq_of_beq hc.1;have hb:(seen m (m+1) 0 0).testBit j=true:=by
  rw[h1,Nat.testBit_two_pow_sub_one];exact aQ (by lia)
 rcases Kk m (m+1) 0 0 j hb with h|⟨k,hk,e⟩
 ·simp at h
 ·exact⟨k,by lia,e⟩
theorem VZ{m:Nat}(h:Good m):kQ m (m+1) 0=0:=by
 have hc:=LC h;unfold C5 at hc;rw[cO] at hc;exact eq_of_beq hc.2
theorem reach{m i j:Nat}(h:Good m)(hi:i<=m)(hj:j<=m):∃n,n<=m/\kQ m n i=j:=by
 obtain⟨a,ha,ea⟩:=NH h hi;obtain⟨b,hb,eb⟩:=NH h hj;by_cases jR:a<=b
 ·refine⟨b-a,by lia,?_⟩;rw[<- ea,<- yd,Nat.add_sub_cancel' jR];exact eb
 ·refine⟨m+1-a+b,by lia,?_⟩;rw[<- ea,<- yd,show a+(m+1-a+b)=(m+1)+b by lia,yd,VZ h];exact eb
def bz(t:SetTable):Nat->SetTable.Probe->SetTable.Probe
 | 0,p=>p
 | n+1,p=>bz t n (t.advance p)
theorem pA(t:SetTable):∀a b p,bz t (a+b) p=bz t b (bz t a p)
 | 0,b,p=>by rw[mF];rfl
 | a+1,b,p=>by rw[A2];exact pA t a b (t.advance p)
def lp(t:SetTable)(p:SetTable.Probe):SetTable.Probe:={ p with j:=(p.i*5+1+p.perturb / 32) % (t.mask+1),more:=SetTable.runEnd t.mask ((p.i*5+1+p.perturb / 32) % (t.mask+1))-(p.i*5+1+p.perturb / 32) % (t.mask+1),i:=(p.i*5+1+p.perturb / 32) % (t.mask+1),perturb:=p.perturb / 32 }
theorem Cw(t:SetTable):∀(n:Nat)(p:SetTable.Probe),p.more=n->bz t (n+1) p=lp t p
 | 0,p,h=>by
  show t.advance p=lp t p;unfold SetTable.advance;rw[af (by lia)];rfl
 | n+1,p,h=>by
  show bz t (n+1) (t.advance p)=lp t p;have e:t.advance p= { p with j:=p.j+1,more:=p.more-1 }:=by
   unfold SetTable.advance;rw[ah (by lia)]
  rw[e,Cw t n { p with j:=p.j+1,more:=p.more-1 } (by show p.more-1=n;lia)];rfl
def cy(t:SetTable):Nat->SetTable.Probe->SetTable.Probe
 | 0,p=>p
 | n+1,p=>cy t n (lp t p)
theorem Ut(t:SetTable)(p:SetTable.Probe):(lp t p).more<=9:=by
 show SetTable.runEnd t.mask _-_<=9;unfold SetTable.runEnd
 split <;> lia
theorem KZ(t:SetTable):∀(k:Nat)(p:SetTable.Probe),p.more<=9->∃n,n<=10*k/\bz t n p=cy t k p
 | 0,p,_=>⟨0,az _,rfl⟩
 | k+1,p,h=>by
  obtain⟨n,hn,e⟩:=KZ t k (lp t p) (Ut t p);refine⟨p.more+1+n,by lia,?_⟩;rw[pA,Cw t p.more p rfl,e];rfl
theorem xX(t:SetTable):∀(k:Nat)(p:SetTable.Probe),cy t (k+1) p=lp t (cy t k p)
 | 0,_=>rfl
 | k+1,p=>xX t k (lp t p)
theorem Cd(t:SetTable):∀(k:Nat)(p:SetTable.Probe),(cy t k p).perturb=p.perturb / 32 ^ k
 | 0,p=>by simp[cy]
 | k+1,p=>by
  show(cy t k (lp t p)).perturb=_;rw[Cd t k (lp t p)];show p.perturb / 32 / 32 ^ k=_;rw[Nat.div_div_eq_div_mul,Nat.pow_succ,Nat.mul_comm]
theorem BU(t:SetTable):∀(n:Nat)(p:SetTable.Probe),p.perturb=0->(cy t n p).i=kQ t.mask n p.i/\(1<=n->(cy t n p).j=(cy t n p).i)/\(cy t n p).perturb=0
 | 0,p,h=>⟨rfl,fun z=>absurd z (by decide),h⟩
 | n+1,p,h=>by
  have h0:(lp t p).perturb=0:=by show p.perturb / 32=0;rw[h]
  have hi:(lp t p).i=nx t.mask p.i:=by show(p.i*5+1+p.perturb / 32) % (t.mask+1)=_;rw[h];rfl
  obtain⟨a,b,c⟩:=BU t n (lp t p) h0;refine⟨?_,fun _=>?_,c⟩
  ·show(cy t n (lp t p)).i=_;rw[a,hi];rfl
  ·cases n with
   | zero=>rfl
   | succ n=>exact b (by lia)
theorem meets{t:SetTable}{p:SetTable.Probe}(hg:Good t.mask)(hm:p.more<=9)(hp:p.perturb<2 ^ 64){j:Nat}(hj:j<=t.mask):∃n,n<10*SetTable.turns t.mask/\(bz t n p).j=j:=by
 have h0:(cy t 13 p).perturb=0:=by
  rw[Cd];exact Nat.div_eq_of_lt (cQ hp (by decide))
 have hi:(cy t 13 p).i<=t.mask:=by
  rw[xX];exact xh (tX _ (tY _))
 have hji:(cy t 13 p).j=(cy t 13 p).i:=by
  rw[xX];rfl
 obtain⟨n,hn,e⟩:=reach hg hi hj;obtain⟨a,b,_⟩:=BU t n (cy t 13 p) h0;have hl:(cy t n (cy t 13 p)).j=j:=by
  cases n with
  | zero=>exact hji.trans e
  | succ n=>rw[b (by lia),a,e]
 have Fy:∀(a b:Nat)(p:SetTable.Probe),cy t (a+b) p=cy t b (cy t a p):=by
  intro a
  induction a with
  | zero=>intro b p;rw[mF];rfl
  | succ a ih=>intro b p;rw[A2];exact ih b (lp t p)
 obtain⟨c,hc,ec⟩:=KZ t (13+n) p hm;refine⟨c,?_,?_⟩
 ·unfold SetTable.turns;lia
 ·rw[ec,Fy];exact hl
theorem xV(t:SetTable)(h:Int):(t.probeStart h).more<=9/\(t.probeStart h).perturb<2 ^ 64/\(t.probeStart h).dummy=none:=by
 refine⟨?_,?_,rfl⟩
 ·show SetTable.runEnd t.mask _-_<=9;unfold SetTable.runEnd
  split <;> lia
 ·show SetTable.bits h<2 ^ 64;unfold SetTable.bits;have h1:=dW h (by decide:((2:Int) ^ 64)≠0);have h2:=eY h (by decide:(0:Int)<2 ^ 64);lia
theorem Rv{t:SetTable}(hd:t.dummies=#[])(hf:t.fill<=t.mask):∃j,j<=t.mask/\t.slot j=.empty:=by
 apply AQ;intro hn;have cx:∀j,j<=t.mask->j∈t.place.toList:=fun j hj=>by
  have h1:t.slot j ≠ .empty:=fun z=>hn ⟨j,hj,z⟩;unfold SetTable.slot at h1;dsimp only at h1
  split at h1
  ·rename_i h2
   have h3:=eq_of_beq h2;rw[<- bD] at h3;exact cP h3
  ·exfalso;rw[hd] at h1;exact h1 rfl
 have sX:(List.range (t.mask+1)) ⊆ t.place.toList:=fun j hj=>cx j (by have:=hX.mp hj;lia);have hlen:=(List.nodup_range (n:=t.mask+1)).length_le_of_subset sX;rw[tU,aA] at hlen;unfold SetTable.fill at hf;lia
theorem JU{t:SetTable}{p:SetTable.Probe}(hg:Good t.mask)(hp:p.perturb<2 ^ 64){j:Nat}(hj:j<=t.mask):∃k,k<=13+t.mask/\(cy t k p).i=j:=by
 have h0:(cy t 13 p).perturb=0:=by
  rw[Cd];exact Nat.div_eq_of_lt (cQ hp (by decide))
 have hi:(cy t 13 p).i<=t.mask:=by
  rw[xX];exact xh (tX _ (tY _))
 obtain⟨n,hn,e⟩:=reach hg hi hj;obtain⟨a,_,_⟩:=BU t n (cy t 13 p) h0;have Fy:∀(a b:Nat)(p:SetTable.Probe),cy t (a+b) p=cy t b (cy t a p):=by
  intro a
  induction a with
  | zero=>intro b p;rw[mF];rfl
  | succ a ih=>intro b p;rw[A2];exact ih b (lp t p)
 exact⟨13+n,by lia,by rw[Fy,a,e]⟩
theorem BH{t:SetTable}{owner:Array (Option Nat)}{j:Nat}(ho:owner.getD j (some 0)=none):∀(k cV:Nat)(p:SetTable.Probe),k<cV->(cy t k p).i=j ->
  ∃j',SetTable.layClean.free t.mask owner cV p.i p.perturb=some j'/\owner.getD j' (some 0)=none
 | k,0,_,h,_=>absurd h (ic _)
 | k,cV+1,p,hk,e=>by
  unfold SetTable.layClean.free;cases hf:(List.range (SetTable.runEnd t.mask p.i+1-p.i)).find? fun k=>(owner.getD (p.i+k) (some 0)).isNone with
  | some k' =>
   have h1:=List.find?_some hf;exact⟨p.i+k',rfl,Option.isNone_iff_eq_none.mp h1⟩
  | none =>
   cases k with
   | zero =>
    exfalso;have e':p.i=j:=e;have h1:=List.find?_eq_none.mp hf 0 (hX.mpr (by unfold SetTable.runEnd;split <;> lia))
    rw[Nat.add_zero,e',ho] at h1;exact h1 rfl
   | succ k =>
    exact BH ho k cV (lp t p) (by lia) e
theorem Jc{β : Type}{g g':Nat->Option β}:∀l:List Nat,(∀k∈l,g' k=g k)->l.filterMap g'=l.filterMap g
 | [],_=>rfl
 | y::l,h=>by
  have ih:=Jc l fun k hk=>h k (aW _ hk);have hy:=h y (ba ..);cases hg:g y with
  | none=>rw[tQ (by rw[hy,hg]),tQ hg,ih]
  | some z=>rw[oB (by rw[hy,hg]),oB hg,ih]
theorem IZ{β : Type}{g g':Nat->Option β}{j:Nat}{x : β}(h0:g j=none)(h1:g' j=some x)(h2:∀k,k≠j->g' k=g k):∀l:List Nat,l.Nodup->j∈l->(l.filterMap g').Perm (x::l.filterMap g)
 | y::l,hn,hj=>by
  obtain⟨hy,hl⟩:=dN.mp hn;by_cases e:y=j
  ·subst e;rw[oB h1,tQ h0];have:l.filterMap g'=l.filterMap g:=Jc l fun k hk=>h2 k fun z=>hy (z ▸ hk);rw[this]
  ·have lA:j∈l:=(aG.mp hj).resolve_left (fG e);have ih:=IZ h0 h1 h2 l hl lA;cases hg:g y with
   | none =>
    rw[tQ (by rw[h2 y e,hg]),tQ hg];exact ih
   | some z =>
    rw[oB (by rw[h2 y e,hg]),oB hg];exact(ih.cons z).trans (List.Perm.swap ..)
def de(m:Nat)(owner:Array (Option Nat)):List (Nat×Nat):=(List.range (m+1)).filterMap fun j=>(owner.getD j none).map (j,·)
structure Own(m:Nat)(owner:Array (Option Nat))(k:Nat):Prop where
 size:owner.size=m+1
 perm:((de m owner).map (·.2)).Perm (List.range k)
theorem Ll{m:Nat}{owner:Array (Option Nat)}{k:Nat}(h:Own m owner k):(de m owner).length=k:=by
 have:=h.perm.length_eq;rw[aV,tU] at this;exact this
theorem KP{m:Nat}{owner:Array (Option Nat)}{k:Nat}(h:Own m owner k)(hk:k<=m):∃j,j<=m/\owner.getD j (some 0)=none:=by
 apply AQ;intro hn;have cx:∀j∈List.range (m+1),((owner.getD j none).map (Prod.mk j)).isSome=true:=fun j hj=>by
  have lA:=hX.mp hj;cases ho:owner.getD j none with
  | some v=>rfl
  | none =>
   exfalso;refine hn ⟨j,by lia,?_⟩;have hs:j<owner.size:=by rw[h.size];exact lA
   simp only[Array.getD,hs,dif_pos] at ho ⊢;exact ho
 have hl:(de m owner).length=m+1:=by
  unfold de;have:∀(l:List Nat)(g:Nat->Option (Nat×Nat)),(∀j∈l,(g j).isSome=true)->(l.filterMap g).length=l.length:=by
   intro l g
   induction l with
   | nil=>exact fun _=>rfl
   | cons y l ih =>
    intro hg;obtain⟨z,hz⟩:=Option.isSome_iff_exists.mp (hg y (ba ..));rw[oB hz,aN,aN,ih fun j hj=>hg j (aW _ hj)]
  rw[this _ _ cx,tU]
 have:=Ll h;lia
theorem Lu{m:Nat}{owner:Array (Option Nat)}{k j:Nat}(h:Own m owner k)(hj:owner.getD j (some 0)=none):Own m (owner.setIfInBounds j (some k)) (k+1):=by
 have hs:j<owner.size:=by
  apply AQ;intro hn;rw[Array.getD,dif_neg hn] at hj;cases hj
 refine⟨by rw[AN];exact h.size,?_⟩;have hp:(de m (owner.setIfInBounds j (some k))).Perm ((j,k)::de m owner):=by
  refine IZ ?_ ?_ (fun y hy=>?_) _ List.nodup_range (hX.mpr (by rw[<- h.size];exact hs))
  ·have:owner.getD j none=none:=by
    simp only[Array.getD,hs,dif_pos] at hj ⊢;exact hj
   rw[this];rfl
  ·have:(owner.setIfInBounds j (some k)).getD j none=some k:=by
    simp[Array.getD,hs]
   rw[this];rfl
  ·have:(owner.setIfInBounds j (some k)).getD y none=owner.getD y none:=by
    simp only[Array.getD,AN]
    split
    ·rename_i hG
     exact Array.getElem_setIfInBounds_ne (by simpa using hG) (fG hy)
    ·rfl
   rw[this]
 refine(hp.map (·.2)).trans ?_;rw[br];refine((h.perm.cons k)).trans ?_;rw[List.range_succ];exact j4 (l₁ :=[k]) (l₂ := List.range k)
theorem Kf{m:Nat}(hg:Good m):∀(hs:List Int)(owner:Array (Option Nat))(k:Nat),Own m owner k->k+hs.length<=m ->
  ∃kc,hs.foldl (fun(acc:Option (Array (Option Nat)×Nat)) h=>do
   let (owner,k) <- acc
   let j <- SetTable.layClean.free m owner (SetTable.turns m) (SetTable.bits h % (m+1)) (SetTable.bits h)
   pure (owner.setIfInBounds j (some k),k+1)) (some (owner,k))=some (kc,k+hs.length)/\Own m kc (k+hs.length)
 | [],owner,k,h,_=>⟨owner,rfl,h⟩
 | x::hs,owner,k,h,hl=>by
  rw[aN] at hl;obtain⟨j,hj,ho⟩:=KP h (by lia);have t:SetTable:={ mask:=m,place :=#[],dummies :=#[],finger:=0,led:=true,moves:=0,plain:=true };have hb:SetTable.bits x<2 ^ 64:=(xV (SetTable.fresh 0 0 true) x).2.1;obtain⟨n,hn,e⟩:=JU (t:={ mask:=m,place :=#[],dummies :=#[],finger:=0,led:=true,moves:=0,plain:=true }) (p:={ j:=0,more:=0,i:=SetTable.bits x % (m+1),perturb:=SetTable.bits x,dummy:=none }) hg hb hj;obtain⟨j',hf,cn⟩:=BH ho n (SetTable.turns m) _ (by unfold SetTable.turns;have:n<=13+m:=hn;lia) e;have xu:SetTable.layClean.free m owner (SetTable.turns m) (SetTable.bits x % (m+1)) (SetTable.bits x)=some j':=hf;obtain⟨kc,h1,h2⟩:=Kf hg hs _ (k+1) (Lu h cn) (by lia);refine⟨kc,?_,by rw[aN,show k+(hs.length+1)=k+1+hs.length by lia];exact h2⟩;rw[List.foldl_cons];simp only[Option.bind_eq_bind,Option.bind_some,xu,Option.pure_def];rw[aN,show k+(hs.length+1)=k+1+hs.length by lia];exact h1
theorem UW{m:Nat}(hg:Good m)(fi mo:Nat)(led plain:Bool)(hs:Array Int)(hl:hs.size<=m):∃t order,SetTable.laid m fi mo led plain hs=some (t,order)/\t.mask=m/\t.dummies=#[]/\t.place.size=hs.size/\order.toList.Perm (List.range hs.size)/\t.led=led/\t.plain=plain/\t.moves=mo/\t.place.toList.Pairwise (· < ·):=by
 have h0:Own m (Array.replicate (m+1) none) 0:=by
  refine⟨Array.size_replicate,?_⟩;have:de m (Array.replicate (m+1) none)=[]:=by
   unfold de;rw[List.filterMap_eq_nil_iff];intro j hj;have:(Array.replicate (m+1) (none:Option Nat)).getD j none=none:=by
    simp[Array.getD]
   rw[this];rfl
  rw[this];exact jm _
 obtain⟨owner,h1,h2⟩:=Kf hg hs.toList _ 0 h0 (by rw[aA];lia);rw[mF,aA] at h1 h2;have hc:SetTable.layClean m hs=some owner:=by
  unfold SetTable.layClean;rw[<- Array.foldl_toList];have:=congrArg (Option.map (·.1)) h1;exact this
 refine⟨{ mask:=m,place:=((de m owner).map (·.1)).toArray,dummies :=#[],finger:=fi,led:=led,moves:=mo,plain:=plain },((de m owner).map (·.2)).toArray,?_,rfl,rfl,?_,?_,rfl,rfl,rfl,?_⟩
 ·unfold SetTable.laid;rw[hc];rfl
 ·show((de m owner).map (·.1)).toArray.size=_;rw[bW,aV,Ll h2]
 ·show((de m owner).map (·.2)).toArray.toList.Perm _;exact h2.perm
 ·show((de m owner).map (·.1)).toArray.toList.Pairwise (· < ·);have sX:((de m owner).map (·.1)).Sublist (List.range (m+1)):=by
   unfold de;generalize List.range (m+1)=l
   induction l with
   | nil=>exact List.Sublist.slnil
   | cons y l ih =>
    cases hy:owner.getD y none with
    | none =>
     rw[tQ (by rw[hy];rfl)];exact ih.cons _
    | some v =>
     rw[oB (b:=(y,v)) (by rw[hy];rfl)];exact ih.cons_cons y
  exact qK sX List.pairwise_lt_range
def iW(xs:Array Nat):Prop:=xs.toList.Pairwise (· < ·)
theorem rN{xs:Array Nat}(h:iW xs){i j:Nat}(eS:i<j)(hj:j<xs.size):xs[i]'(Nat.lt_trans eS hj)<xs[j]:=by
 have:=lc.mp h i j (by rw[aA];lia) (by rw[aA];exact hj) eS
 simpa using this
theorem BM{xs:Array Nat}(h:iW xs)(j:Nat):∀(cV lo hi:Nat),lo<=hi->hi<=xs.size->hi-lo<=cV->(∀i (cm:i<xs.size),i<lo->xs[i]<j)->(∀i (cm:i<xs.size),hi<=i -> ¬ xs[i]<j) ->
  ∀r,SetTable.below.go xs j cV lo hi=r->r<=xs.size/\(∀i (cm:i<xs.size),i<r->xs[i]<j)/\(∀i (cm:i<xs.size),r<=i -> ¬ xs[i]<j)
 | 0,lo,hi,h1,h2,h3,a,b,r,e=>by
  have e':lo=r:=e;subst e';have:lo=hi:=by lia
  subst this;exact⟨h2,a,b⟩
 | cV+1,lo,hi,h1,h2,h3,a,b,r,e=>by
  unfold SetTable.below.go at e;by_cases hl:lo<hi
  ·rw[ah hl] at e;dsimp only at e;have hm:(lo+hi) / 2<xs.size:=by lia
   have hgd:xs.getD ((lo+hi) / 2) j=xs[(lo+hi) / 2]:=by simp[Array.getD,hm]
   rw[hgd] at e;by_cases hx:xs[(lo+hi) / 2]<j
   ·rw[ah hx] at e;refine BM h j cV ((lo+hi) / 2+1) hi (by lia) h2 (by lia) (fun i cm aC=>?_) b r e;by_cases e2:i=(lo+hi) / 2
    ·subst e2;exact hx
    ·exact Nat.lt_trans (rN h (show i<(lo+hi) / 2 by lia) hm) hx
   ·rw[af hx] at e;refine BM h j cV lo ((lo+hi) / 2) (by lia) (by lia) (by lia) a (fun i cm hle=>?_) r e;by_cases e2:i=(lo+hi) / 2
    ·subst e2;exact hx
    ·have:=rN h (show(lo+hi) / 2<i by lia) cm;lia
  ·rw[af hl] at e;subst e;have:lo=hi:=by lia
   subst this;exact⟨h2,a,b⟩
theorem uA{xs:Array Nat}(h:iW xs)(j:Nat):SetTable.below xs j<=xs.size/\(∀i (cm:i<xs.size),i<SetTable.below xs j->xs[i]<j)/\(∀i (cm:i<xs.size),SetTable.below xs j<=i -> ¬ xs[i]<j) :=
 BM h j xs.size 0 xs.size (bi _) (az _) (by lia) (fun _ _ z=>absurd z (ic _)) (fun i cm z=>by lia) _ rfl
theorem Jd{α : Type}(xs:Array α)(p:Nat)(x : α):(SetTable.insertAt xs p x).toList=xs.toList.take p++x::xs.toList.drop p:=by
 unfold SetTable.insertAt;simp[fE,List.extract];rw[j6];simp
theorem R4{xs:Array Nat}(h:iW xs){j:Nat}(hj:j∉xs.toList):iW (SetTable.insertAt xs (SetTable.below xs j) j):=by
 obtain⟨h1,h2,h3⟩:=uA h j;unfold iW;rw[Jd,e_];refine⟨qK (xf _ _) h,?_,?_⟩
 ·rw[AW];refine⟨fun y hy=>?_,qK (List.drop_sublist _ _) h⟩;obtain⟨i,hi,e⟩:=AU.mp hy;rw[dE,aA] at hi;rw[List.getElem_drop] at e;have:=h3 (SetTable.below xs j+i) (by lia) (by lia);have e2:y=xs[SetTable.below xs j+i]'(by lia):=by rw[<- e];simp
  have bP:y≠j:=fun z=>hj (z ▸ tW hy);lia
 ·intro a ha b hb;obtain⟨i,hi,e⟩:=AU.mp ha;rw[dM,aA] at hi;rw[List.getElem_take] at e;have h4:=h2 i (by lia) (by lia);have e2:a=xs[i]'(by lia):=by rw[<- e];simp
  rcases aG.mp hb with rfl|hb
  ·lia
  ·obtain⟨k,hk,ek⟩:=AU.mp hb;rw[dE,aA] at hk;rw[List.getElem_drop] at ek;have h5:=h3 (SetTable.below xs j+k) (by lia) (by lia);have e3:b=xs[SetTable.below xs j+k]'(by lia):=by rw[<- ek];simp
   lia
theorem Rn{xs:Array Nat}(h:iW xs){i:Nat}(hi:i<xs.size):SetTable.below xs (xs[i]+1)=i+1:=by
 obtain⟨h1,h2,h3⟩:=uA h (xs[i]+1);rcases xj (SetTable.below xs (xs[i]+1)) (i+1) with z|z|z
 ·exact absurd (gO xs[i]) (h3 i hi (by lia))
 ·exact z
 ·exfalso;have h4:=h2 (i+1) (by lia) (by lia);have h5:=rN h (show i<i+1 by lia) (show i+1<xs.size by lia);lia
theorem RG{xs:Array Nat}(h:iW xs):SetTable.below xs 0=0:=by
 obtain⟨h1,h2,h3⟩:=uA h 0;rcases Nat.eq_zero_or_pos (SetTable.below xs 0) with z|z
 ·exact z
 ·exact absurd (h2 0 (by lia) z) (ic _)
theorem BI{t:SetTable}(h:iW t.place){j:Nat}(he:t.slot j=.empty):j∉t.place.toList:=fun hm=>by
 obtain⟨i,hi,e⟩:=AU.mp hm;rw[aA] at hi;have e2:t.place[i]=j:=by rw[<- e];simp
 obtain⟨h1,h2,h3⟩:=uA h j;have hb:SetTable.below t.place j=i:=by
  rcases xj (SetTable.below t.place j) i with z|z|z
  ·have h4:=rN h z hi;have h5:=h3 (SetTable.below t.place j) (by lia) (az _);lia
  ·exact z
  ·have h4:=h2 i hi z;lia
 unfold SetTable.slot at he;dsimp only at he;rw[hb,Array.getElem?_eq_getElem hi,e2] at he;simp at he
section
variable{prog:Program}{w:World}{K:Type}[DecidableEq K]{knd:KeyKind prog w K}{A:Around}{E:Value->Shared->Prop}{s:Shared}
theorem TV{n:Nat}{v:Value}(h:carriedByValue v=true):ofAClassStatement n v=pure false:=by
 cases v <;> first|(unfold ofAClassStatement;rfl)|(cases h)
theorem JP{ks:List K}{a:Addr}{Q:Bool->Shared->Prop}(hk:IsTupleKey knd s.heap ks a)(h:Q false s):wpAny (model prog w) A (ofAClassStatement 8 (.ref a)) Q E s:=by
 have hT:=hk.typeIs;obtain⟨o,items,n,ho,hc,hd,hi⟩:=hk;unfold ofAClassStatement;refine ae (qQ hT ?_);dsimp only;rw[if_pos (by decide)];refine ae (ai ?_);rw[af (by decide)];refine ae (wpAny_seqItems ho hd ?_);dsimp only;rw[<- Array.forIn_toList];refine ae (wpAny_forIn_list _ (fun rest r s'=>r.1=none/\s'=s/\∀v∈rest,carriedByValue v=true) _ ?_ ?_ _ _ ⟨rfl,rfl,hi.byValue⟩)
 ·rintro v rest r s' ⟨hr,rfl,cx⟩;rw[TV (cx v ba)];refine ae (ai ?_);rw[af (by decide)];exact ai ⟨rfl,rfl,fun u Bb=>cx u (aW _ Bb)⟩
 ·rintro⟨r1,r2⟩ s' ⟨hr,rfl,_⟩;obtain rfl:r1=none:=hr;exact ai h
theorem T8{n:Nat}{v:Value}(h:carriedByValue v=true):∃b,hashByValue n v=pure b:=by
 cases v <;> first|exact⟨_,by unfold hashByValue;rfl⟩|(cases h)
theorem Se{ks:List K}{a:Addr}{Q:Bool->Shared->Prop}(hk:IsTupleKey knd s.heap ks a)(h:∀b,Q b s):wpAny (model prog w) A (hashByValue 8 (.ref a)) Q E s:=by
 have hT:=hk.typeIs;obtain⟨o,items,n,ho,hc,hd,hi⟩:=hk;unfold hashByValue;refine ae (wpAny_specialOf hT F.slot_tuple_hash.lookup ?_);dsimp only;refine wpAny_bind (wpAny_seqItems ho hd ?_);dsimp only[Option.getD_some];rw[<- Array.forIn_toList];refine ae (wpAny_forIn_list _ (fun rest r s'=>r.1=none/\s'=s/\∀v∈rest,carriedByValue v=true) _ ?_ ?_ _ _ ⟨rfl,rfl,hi.byValue⟩)
 ·rintro v rest r s' ⟨hr,rfl,cx⟩;obtain⟨b,hb⟩:=T8 (n:=7) (cx v ba);rw[hb];refine ae (ai ?_);cases b with
  | true =>
   rw[af (by decide)];exact ai ⟨rfl,rfl,fun u Bb=>cx u (aW _ Bb)⟩
  | false =>
   rw[ah (by decide)];exact ai (ai (h _))
 ·rintro⟨r1,r2⟩ s' ⟨hr,rfl,_⟩;obtain rfl:r1=none:=hr;exact ai (h _)
theorem Vr{ks:List K}{a:Addr}(hk:IsTupleKey knd s.heap ks a):∀(stored:List Value){Q:Bool->Shared->Prop},(∀v∈stored,∃ks b,v=.ref b/\IsTupleKey knd s.heap ks b)->Q false s->wpAny (model prog w) A (searchCouldBeSeen (.ref a) stored) Q E s:=by
 intro stored Q hs h;unfold searchCouldBeSeen;refine ae (wpAny_forIn_list _ (fun rest r s'=>r.1=none/\s'=s/\∀v∈rest,∃ks b,v=Value.ref b/\IsTupleKey knd s.heap ks b) _ ?_ ?_ _ _ ⟨rfl,rfl,hs⟩)
 ·rintro v rest r s' ⟨hr,rfl,cx⟩;obtain⟨ka,b,rfl,hb⟩:=cx v ba;have vW:∀v∈rest,∃ks b,v=Value.ref b/\IsTupleKey knd s'.heap ks b:=fun v hv=>cx v (aW _ hv);dsimp only
  split
  ·exact ai ⟨rfl,rfl,vW⟩
  ·refine ae (wpAny_eqIsQuiet_tuple hk ?_);rw[af (by decide)];refine ae (wpAny_eqIsQuiet_tuple hb ?_);rw[af (by decide)];refine ae (JP hk ?_);rw[af (by decide)];refine ae (JP hb ?_);rw[af (by decide)];exact ai ⟨rfl,rfl,vW⟩
 ·rintro⟨r1,r2⟩ s' ⟨hr,rfl,_⟩;obtain rfl:r1=none:=hr;exact ai h
def EK(knd:KeyKind prog w K):Bool->Heap->Int×Value->Prop
 | true,_,e=>∃i t,e.2=Value.int i t/\e.1=(intKind prog w).hash i
 | false,h,e=>∃ks b,e.2=.ref b/\IsTupleKey knd h ks b
def Wg(knd:KeyKind prog w K)(b:Bool)(h:Heap)(es:Array (Int×Value)):Prop := ∀e∈es.toList,EK knd b h e
structure Tab(es:Array (Int×Value))(t:SetTable):Prop where
 size:t.place.size=es.size
 none:t.dummies=#[]
 good:Good t.mask
 room:t.fill*5<t.mask*3
 mx:iW t.place
theorem Tab.fill_eq{es:Array (Int×Value)}{t:SetTable}(h:Tab es t):t.fill=es.size:=by
 unfold SetTable.fill;rw[h.size,h.none];rfl
theorem Tab.fits{es:Array (Int×Value)}{t:SetTable}(h:Tab es t):t.fits es.size=true:=by
 have:=h.room;unfold SetTable.fits;rw[h.size];simp;lia
theorem Tt{m:Nat}(h:Good m):m % 2=1:=by
 rcases h with h|h|h|h|h|h|h|h|h|h <;> subst h <;> rfl
theorem Ju(t:SetTable):∀(n:Nat)(p:SetTable.Probe),p.dummy=none->(bz t n p).dummy=none
 | 0,_,h=>h
 | n+1,p,h=>Ju t n (t.advance p) (by
  unfold SetTable.advance
  split
  ·exact h
  ·exact h)
theorem Lx{t:SetTable}{j i:Nat}(h:t.slot j=.live i):i<t.place.size:=by
 unfold SetTable.slot at h;dsimp only at h
 split at h
 ·rename_i h2
  cases h;have h3:=eq_of_beq h2;exact(mC.mp h3).1
 ·split at h <;> cases h
end
def L8(n:Nat):Bool:=(SetTable.sizeAbove n-1 == 7 || SetTable.sizeAbove n-1 == 15 || SetTable.sizeAbove n-1 == 31 || SetTable.sizeAbove n-1 == 63 || SetTable.sizeAbove n-1 == 127 || SetTable.sizeAbove n-1 == 255 || SetTable.sizeAbove n-1 == 511 || SetTable.sizeAbove n-1 == 1023 || SetTable.sizeAbove n-1 == 2047 || SetTable.sizeAbove n-1 == 4095)&&decide (n<SetTable.sizeAbove n)&&decide (SetTable.sizeAbove n<=4096)
theorem RK:(List.range 4096).all L8=true:=by decide +kernel
theorem above{n:Nat}(h:n<4096):Good (SetTable.sizeAbove n-1)/\n<SetTable.sizeAbove n/\SetTable.sizeAbove n<=4096:=by
 have:=eZ.mp RK n (hX.mpr h);unfold L8 at this;simp only[cO,qI,j8,cB] at this;obtain⟨⟨h1,h2⟩,h3⟩:=this;refine⟨?_,h2,h3⟩;unfold Good
 simpa only[or_assoc] using h1
section
variable{prog:Program}{w:World}{K:Type}[DecidableEq K]{knd:KeyKind prog w K}{A:Around}{E:Value->Shared->Prop}{s:Shared}
theorem stored{h:Heap}{S:Addr}{o:Obj}{es:Array (Int×Value)}{ep:Nat}{t:SetTable}(ho:h.get? S=some o)(hd:o.data=.set es ep t)(cZ:Array (Int×Value))(t':SetTable) :
  (h.update S (Obj.putSet cZ t')).get? S=some { o with data:=.set cZ (ep+1) t' }:=by
 have:=qJ (Obj.putSet cZ t') ho (by rw[putSet_of cZ t' hd];rfl);rw[putSet_of cZ t' hd] at this;exact this
theorem UY{h h':Heap}{S a:Addr}{o:Obj}{es:Array (Int×Value)}{ep:Nat}{t:SetTable}{ks:List K}(ho:h.get? S=some o)(hd:o.data=.set es ep t)(sb:Heap.SameBut S h h')(hk:IsTupleKey knd h ks a):IsTupleKey knd h' ks a:=by
 obtain⟨o2,items,n,h1,h2,h3,h4⟩:=hk;have bP:a≠S:=fun z=>by
  rw[z,ho] at h1;cases h1;rw[hd] at h3;cases h3
 exact⟨o2,items,n,(sb.2 a bP).trans h1,h2,h3,h4⟩
theorem Q5{es:Array (Int×Value)}{t:SetTable}(hT:Tab es t)(h:Int):∃n,n<10*SetTable.turns t.mask/\t.slot (bz t n (t.probeStart h)).j=.empty:=by
 obtain⟨a,b,c⟩:=xV t h;have hr:=hT.room;obtain⟨j,hj,he⟩:=Rv hT.none (by lia);obtain⟨n,hn,e⟩:=meets hT.good a b hj;exact⟨n,hn,by rw[e];exact he⟩
theorem Q2{m:Nat}(h:Good m):10*SetTable.turns m<100000:=by
 unfold SetTable.turns;rcases h with h|h|h|h|h|h|h|h|h|h <;> subst h <;> decide
end
end iX
namespace iX
open PySem PyProof.Rows
section
variable{prog:Program}{w:World}{K:Type}[DecidableEq K]{knd:KeyKind prog w K}{A:Around}{E:Value->Shared->Prop}{s:Shared}
abbrev uZ(w:World):Bool := !w.params.followText "set-order"
abbrev ip(w:World):Obj:={ cls:=.type "set",dict:=none,data:=.set #[] 0 (.fresh 0 0 (uZ w)) }
theorem TY(a:Value){Q₁ : Value->Shared->Prop}(h:Q₁ (.ref s.heap.objs.size) { s with heap:=s.heap.push (ip w) }) :
  codeAny (model prog w) A (.call (.builtin "set.__new__") ⟨[.type "set",a],[]⟩) (wants Q₁ E) s:=by
 refine codeAny_of_tree ?_;change wpAny _ A.in1 (do checkBuiltinCall "set.__new__" ⟨[.type "set",a],[]⟩;again (.builtin "set.__new__" ⟨[.type "set",a],[]⟩)) _ _ s;refine ae (wpAny_of_eq (PySem.F.newCall_set_1 a) (ai ⟨plainId_quiet PySem.F.plain_set_new _,t7 PySem.F.entry_set_new ?_⟩));rw[Around.under_plainId PySem.F.plain_set_new _];unfold Builtin.«set.__new__» Builtin.Frozenset.newClass;have ZxU:=sub_set_self;obtain⟨hp,g,d,tk,os⟩:=s;dsimp only
 wp_walk
 refine wpAny_askSetting (ai ?_);dsimp only;simp only[newObj];exact ae (wpAny_alloc (ai (ai h)))
end
theorem pj:Slot "set_iterator" "__next__" "set_iterator.__next__" :=
 .of (owner := "set_iterator") (n := "__next__") (by rw[typeLookup_type,builtinLookup_eq_fast];kernel_rfl) (by decide +kernel) (by decide +kernel) (by decide +kernel) (by first|exact .inl (by decide +kernel)|exact .inr (by decide +kernel)) (by rw[isSubtype_type];kernel_rfl)
theorem Je:entryFor table "set_iterator.__next__" = some Builtin.«set_iterator.__next__» := entryFor_of_tree (by kernel_rfl)
theorem Ke:Manifest.owners.lookup (String.ofList ['r','o','t','a','r','e','t','i','_','t','e','s'].reverse)=some Manifest.sig_set_iterator:=by kernel_rfl
theorem I_(a:Value):argsOk "set_iterator.__next__" ⟨[a],[]⟩:=by
 unfold argsOk;rw[signature?_of (id := "set_iterator.__next__") (n:=['_','_','t','x','e','n','_','_']) (o:=['r','o','t','a','r','e','t','i','_','t','e','s']) (by kernel_rfl) Ke];kernel_rfl
theorem IX:Slot "set_iterator" "__iter__" "set_iterator.__iter__" :=
 .of (owner := "set_iterator") (n := "__iter__") (by rw[typeLookup_type,builtinLookup_eq_fast];kernel_rfl) (by decide +kernel) (by decide +kernel) (by decide +kernel) (by first|exact .inl (by decide +kernel)|exact .inr (by decide +kernel)) (by rw[isSubtype_type];kernel_rfl)
theorem QV:entryFor table "set_iterator.__iter__" = some Builtin.«dict_keyiterator.__iter__» := entryFor_alias (id' := "dict_keyiterator.__iter__") (by kernel_rfl) rfl (by decide +kernel) (by kernel_rfl)
theorem QZ(a:Value):argsOk "set_iterator.__iter__" ⟨[a],[]⟩:=by
 unfold argsOk;rw[signature?_of (id := "set_iterator.__iter__") (n:=['_','_','r','e','t','i','_','_']) (o:=['r','o','t','a','r','e','t','i','_','t','e','s']) (by kernel_rfl) Ke];kernel_rfl
theorem QW:entryFor table "set.__iter__" = some Builtin.«frozenset.__iter__» := entryFor_alias (id' := "frozenset.__iter__") (by kernel_rfl) rfl (by decide +kernel) (by kernel_rfl)
theorem Bv{α : Type}:∀{l:List α}{i:Nat}(hi:i<l.length),(l[i]::l.eraseIdx i).Perm l
 | x::l,0,_=>jm _
 | x::l,i+1,hi=>by
  have cm:i<l.length:=by simpa using hi
  show(l[i]::x::l.eraseIdx i).Perm (x::l);exact(List.Perm.swap ..).trans ((Bv cm).cons x)
section
variable{prog:Program}{w:World}{A:Around}{E:Value->Shared->Prop}{s:Shared}
theorem wp_choose{src:Source}{n:Nat}{Q:Nat->Shared->Prop}(hn:n≠0)(h:∀i d,i<n->Q i { s with drawn:=d }):wpAny (model prog w) A (choose src n) Q E s:=fun _ _ _=>⟨hn,h _ _ (tX _ (Nat.pos_of_ne_zero hn))⟩
theorem Lr{α : Type}:∀(n:Nat)(xs:List α)(s:Shared){Q:List α -> Shared->Prop},xs.length=n->(∀ys d,ys.Perm xs->Q ys { s with drawn:=d })->wpAny (model prog w) A (drawOrder n xs) Q E s
 | 0,xs,s,Q,hl,h=>by
  obtain rfl:=la hl;unfold drawOrder;exact ai (h [] s.drawn (jm _))
 | n+1,[],s,Q,hl,h=>by simp at hl
 | n+1,x::xs,s,Q,hl,h=>by
  unfold drawOrder;refine ae (wp_choose (by simp) fun i d hi=>?_);rw[cH hi];dsimp only;refine wpAny_bind (Lr n ((x::xs).eraseIdx i) { s with drawn:=d } (by rw[List.length_eraseIdx_of_lt hi,hl];rfl) fun ys d' hp=>ai (h _ d' ?_));refine(hp.cons _).trans ?_;exact(Bv hi)
theorem J2{α : Type}(next:Nat->Nat):∀(n k:Nat)(left:List α)(out:Array α),left.length=n->(pickOrder.go next n k left out).toList.Perm (out.toList++left)
 | 0,k,left,out,hl=>by
  obtain rfl:=la hl;unfold pickOrder.go;rw[iO]
 | n+1,k,left,out,hl=>by
  unfold pickOrder.go;have hi:next k % left.length<left.length:=tX _ (by lia)
  rw[cH hi];dsimp only;refine(J2 next n (k+1) _ _ (by rw[List.length_eraseIdx_of_lt hi,hl];rfl)).trans ?_
  rw[fk,bS];exact mD _ (Bv hi)
structure lG(w:World)(h:Heap)(I S T:Addr)(es:Array (Int×Value))(ep:Nat)(t:SetTable)(ys:List Value)(i:Nat):Prop where
  set:∃o,h.get? S=some o/\o.data=.set es ep t
  tab:t.fits es.size=true
  at_:∃first o,h.get? I=some o/\o.cls=.type "set_iterator" /\ o.data=.fields #[first,.int i 0,.ref S,.int es.size 0,.int ep 0] /\
    ((∃sl:Nat,first=Value.int sl 0/\w.params.followText "set-order" = true/\ys=(pickOrder (w.params.setOrder S ep) es).toList.map (·.2)) \/
     (∃sl:Nat,first=Value.int sl 0/\w.params.followText "set-order" = false/\(!t.plain&&decide (es.size > 1))=false/\t.led=true/\SetTable.below t.place sl=i/\iW t.place/\ys=es.toList.map (·.2)) \/
     (∃places n oT,first=Value.ref T/\h.get? T=some oT/\oT.data=.seq places n/\places.toList.length=es.size/\∀(k:Nat)(v:Value),places[k]?= some v->∃(j:Nat)(tk:Tok),v=Value.int (j:Nat) tk/\(es[j]?).map (·.2)=ys[k]? /\ j<es.size))
theorem lG.ty{h:Heap}{I S T:Addr}{es:Array (Int×Value)}{ep:Nat}{t:SetTable}{ys:List Value}{i:Nat}{s:Shared}(x:lG w s.heap I S T es ep t ys i):s.TypeIs (.ref I) "set_iterator" := let ⟨_,o,ho,hc,_⟩:=x.at_;⟨o,ho,hc⟩
theorem B8{S:Addr}{o:Obj}{es:Array (Int×Value)}{ep:Nat}{t:SetTable}{Q:Array (Int×Value)->Shared->Prop}(ho:s.heap.get? S=some o)(hd:o.data=.set es ep t)(hf:t.fits es.size=true)(h:Q es s):wpAny (model prog w) A (setEntries S) Q E s:=by
 unfold setEntries;exact ae (jq ho hd hf (ai h))
theorem yP{Q:Bool->Shared->Prop}(h:Q (w.params.followText "set-order") s):wpAny (model prog w) A setsByText Q E s:=by
 unfold setsByText;exact ae (wpAny_askSetting (ai h))
theorem fld{I:Addr}{o:Obj}{fs:Array Value}{k:Nat}{v:Value}{Q:Unit->Shared->Prop}(ho:s.heap.get? I=some o)(hd:o.data=.fields fs)(hk:k<fs.size)(hc:o.cls=.type "set_iterator")
  (h:∀h' o',h'.get? I=some o'->o'.cls=.type "set_iterator" -> o'.data=.fields (fs.setIfInBounds k v)->Heap.SameBut I s.heap h'->Q () { s with heap:=h' }):wpAny (model prog w) A (setField (.ref I) k v) Q E s :=
 oP ho hd hk (h _ _ (qJ _ ho (Obj.isFreed_of_fields (oH hd _))) ((Obj.cls_mapFields ..).trans hc) (oH hd _) (wX ..))
theorem J3{S:Addr}{o:Obj}{es:Array (Int×Value)}{ep:Nat}{t:SetTable}{sl i:Nat}{Q:Option (Value×Nat)->Shared->Prop}(hT:w.params.followText "set-order" = true) (ho:s.heap.get? S=some o) (hd:o.data=.set es ep t) (hf:t.fits es.size=true)
  (h:Q (((pickOrder (w.params.setOrder S ep) es)[i]?).map fun e=>(e.2,sl)) s):wpAny (model prog w) A (setNext S sl i ep) Q E s:=by
 unfold setNext;refine ae (jq ho hd hf ?_);dsimp only;refine wpAny_bind (yP ?_);rw[hT,if_pos rfl,if_neg (by simp)];unfold setWalk;refine ae (ae (jq ho hd hf ?_));dsimp only;refine wpAny_bind (yP ?_);rw[hT,if_pos rfl];exact ae (wpAny_askSetting (ai (ai h)))
theorem JO{S:Addr}{o:Obj}{es:Array (Int×Value)}{ep:Nat}{t:SetTable}{sl i:Nat}{Q:Option (Value×Nat)->Shared->Prop}(hT:w.params.followText "set-order" = false) (hp:(!t.plain&&decide (es.size > 1))=false) (hl:t.led=true) (ho:s.heap.get? S=some o) (hd:o.data=.set es ep t) (hf:t.fits es.size=true)
  (h:Q (match es[SetTable.below t.place sl]?,t.place[SetTable.below t.place sl]? with|some (_,x),some j=>some (x,j+1)|_,_=>none) s):wpAny (model prog w) A (setNext S sl i ep) Q E s:=by
 unfold setNext;refine ae (jq ho hd hf ?_);dsimp only;refine wpAny_bind (yP ?_);rw[hT,if_neg (by decide)];change wpAny _ _ (if(!t.plain&&decide (es.size > 1))=true then _ else _) _ _ _
 rw[hp,af (by decide)];refine ae ?_;change wpAny _ _ (if(!t.led && !es.isEmpty)=true then _ else _) _ _ _
 rw[hl,af (by simp)];exact ai (ai h)
set_option maxHeartbeats 1000000 in
theorem US{I S T:Addr}{es:Array (Int×Value)}{ep:Nat}{t:SetTable}{ys:List Value}{i:Nat}{Q:Option Value->Shared->Prop}(x:lG w s.heap I S T es ep t ys i)(hy:ys.length=es.size)(hi:i<ys.length)
  (q:∀h',lG w h' I S T es ep t ys (i+1)->Heap.SameBut I s.heap h'->Q (some ys[i]) { s with heap:=h' }):wpAny (model prog w) A (pyNext (.ref I)) Q E s:=by
 have hT:=x.ty (h:=s.heap);obtain⟨⟨oS,fj,iF⟩,hf,first,o,ho,hc,hd,vQ⟩:=id x
 have NQ:S≠I:=fun z=>by
  rw[z,ho] at fj;cases fj;rw[hd] at iF;cases iF
 unfold pyNext;refine ae (wpAny_attempt (t9 (name:=Str.ofString "__next__") hT pj (ll pj hT Je ?_ (I_ _))));unfold Builtin.«set_iterator.__next__»;refine ae (ai (ae (t_ ho hd ?_)));dsimp only;refine wpAny_bind (B8 fj iF hf ?_);rw[if_neg (by simp)];have key:∀nx:Nat,(∀h',(∃o',h'.get? I=some o'/\o'.cls=.type "set_iterator" /\ o'.data=.fields #[Value.int nx 0,.int (i+1:Nat) 0,.ref S,.int es.size 0,.int ep 0])->Heap.SameBut I s.heap h'->lG w h' I S T es ep t ys (i+1)) ->
   wpAny (model prog w) A.in1 (do
     setField (Value.ref I) 0 (rawInt nx)
     setField (Value.ref I) 1 (rawInt ((i:Int)+1))
     ret ys[i]) (fun fin s'=>∃v,fin=Fin.done (Flow.ret v)/\wpAny (model prog w) A (pure (some v)) Q E s')
    (fun e s'=>wpAny (model prog w) A (do
     let __do_lift <- isInstance e (Value.type "StopIteration")
     if __do_lift=true then pure none else throw e) Q E s') s:=fun nx hS=>by
  refine ae (fld ho hd (by simp) hc fun h1 o1 gD zo iE jh=>ae (fld (s:={ s with heap:=h1 }) gD iE (by simp) zo fun h2 o2 kJ fW hd2 tD=>ai ⟨_,rfl,ai (q h2 (hS h2 ⟨o2,kJ,fW,?_⟩ (jh.trans tD)) (jh.trans tD))⟩));rw[hd2];rfl
 have Fq:∀h',Heap.SameBut I s.heap h'->∃o,h'.get? S=some o/\o.data=.set es ep t:=fun h' sb=>⟨oS,(sb.2 S NQ).trans fj,iF⟩;have ZxF:t.place.size=es.size:=by
  unfold SetTable.fits at hf;rw[cO] at hf;exact eq_of_beq hf.1
 rcases vQ with⟨sl,rfl,l_,e⟩|⟨sl,rfl,l_,aR,zF,sG,hr,e⟩|⟨places,n,oT,rfl,nV,cX,iI,FV⟩
 ·dsimp only;rw[Int.toNat_natCast,Int.toNat_natCast,Int.toNat_natCast];refine ae (J3 l_ fj iF hf ?_);have nW:((pickOrder (w.params.setOrder S ep) es)[i]?).map (fun e=>(e.2,sl))=some (ys[i],sl):=by
   have h1:((pickOrder (w.params.setOrder S ep) es).toList.map (·.2))[i]?= some ys[i]:=by rw[<- e];exact cH hi
   rw[f',bD] at h1;obtain⟨x,hx,fB⟩:=oI.mp h1;rw[hx];show some (x.2,sl)=_;rw[fB]
  rw[nW];dsimp only;exact key sl fun h' ⟨o',a1,a2,a3⟩ sb=>⟨Fq h' sb,hf,_,o',a1,a2,a3,.inl ⟨sl,rfl,l_,e⟩⟩
 ·dsimp only;rw[Int.toNat_natCast,Int.toNat_natCast,Int.toNat_natCast];refine ae (JO l_ aR zF fj iF hf ?_);have qe:i<es.size:=by lia
  rw[sG,eX qe,eX (show i<t.place.size by lia)];have Gh:ys[i]=es[i].2:=by
   have h1:ys[i]?= some es[i].2:=by rw[e,f',bD,eX qe];rfl
   rw[cH hi] at h1;exact dk h1
  dsimp only;rw[<- Gh];exact key (t.place[i]+1) fun h' ⟨o',a1,a2,a3⟩ sb=>⟨Fq h' sb,hf,_,o',a1,a2,a3,.inr (.inl ⟨_,rfl,l_,aR,zF,Rn hr _,hr,e⟩)⟩
 ·dsimp only;refine wpAny_bind (wpAny_seqItems nV cX ?_);dsimp only;rw[Int.toNat_natCast,Int.toNat_natCast];have nW:i<places.size:=by rw[<- aA];lia
  obtain⟨j,tk,hv,hj,nS⟩:=FV i _ (eX nW);rw[eX nW,hv];dsimp only;rw[Int.toNat_natCast];rw[cH hi,eX nS] at hj;have Gh:es[j].2=ys[i]:=dk hj;unfold setNextDrawn;refine ae (ae (jq fj iF hf ?_));dsimp only;rw[if_neg (by simp),Array.getElem?_eq_getElem nS];refine ai ?_;rw[show(es.toList.get ⟨j,nS⟩).snd=ys[i] from Gh];have NV:T≠I:=fun z=>by
   rw[z,ho] at nV;cases nV;rw[hd] at cX;cases cX
  refine ae (fld ho hd (by simp) hc fun h2 o2 kJ fW hd2 tD=>ai ⟨_,rfl,ai (q h2 ⟨Fq h2 tD,hf,_,o2,kJ,fW,?_,.inr (.inr ⟨places,n,oT,rfl,(tD.2 T NV).trans nV,cX,iI,FV⟩)⟩ tD)⟩);rw[hd2];rfl
theorem Cf{I:Addr}{o:Obj}{fs:Array Value}{Q:Option Value->Shared->Prop}(hh:A.handled=none)(ho:s.heap.get? I=some o)(hd:o.data=.fields fs)(hk:2<fs.size)(hc:o.cls=.type "set_iterator") (q:∀h',Heap.ExtBut I s.heap h'->Q none { s with heap:=h' }) :
  wpAny (model prog w) A.in1 (do
    setField (Value.ref I) 2 Value.none
    let __do_lift <- newExc (Value.type "StopIteration") []
    raiseNew __do_lift) (fun fin s'=>∃v,fin=Fin.done (Flow.ret v)/\wpAny (model prog w) A (pure (some v)) Q E s')
   (fun e s'=>wpAny (model prog w) A (do
    let __do_lift <- isInstance e (Value.type "StopIteration")
    if __do_lift=true then pure none else throw e) Q E s') s:=by
 refine ae (fld ho hd hk hc fun h1 o1 gD zo iE jh=>?_);refine ae ?_;simp only[newExc,newTuple];refine ae (iS (ae (m:=firstArgMember _ _) (wpAny_of_eq (a:=Value.none) (by first|rfl|(simp only[firstArgMember];rfl)) (iS ?_ (by size_fits)))) (by size_fits))
 simp only[raiseNew];refine ae (wpAny_handled ?_);rw[show A.in1.handled=none from hh];refine ae (ai (wpAny_throw ?_));refine ae (xp (T := "StopIteration") (b:=true) (v:=.ref _) (by exact⟨_,cb _ rfl,rfl⟩) isSubtype_stop ?_);exact ai (q _ ((jh.extBut.push _).push _))
set_option maxHeartbeats 1000000 in
theorem Vf{I S T:Addr}{es:Array (Int×Value)}{ep:Nat}{t:SetTable}{ys:List Value}{Q:Option Value->Shared->Prop}(hh:A.handled=none)(x:lG w s.heap I S T es ep t ys ys.length)(hy:ys.length=es.size)
  (q:∀h',Heap.ExtBut I s.heap h'->Q none { s with heap:=h' }):wpAny (model prog w) A (pyNext (.ref I)) Q E s:=by
 have hT:=x.ty (h:=s.heap);obtain⟨⟨oS,fj,iF⟩,hf,first,o,ho,hc,hd,vQ⟩:=id x
 unfold pyNext;refine ae (wpAny_attempt (t9 (name:=Str.ofString "__next__") hT pj (ll pj hT Je ?_ (I_ _))));unfold Builtin.«set_iterator.__next__»;refine ae (ai (ae (t_ ho hd ?_)));dsimp only;refine wpAny_bind (B8 fj iF hf ?_);rw[if_neg (by simp)];rcases vQ with⟨sl,rfl,l_,e⟩|⟨sl,rfl,l_,aR,zF,sG,hr,e⟩|⟨places,n,oT,rfl,nV,cX,iI,FV⟩
 ·dsimp only;rw[Int.toNat_natCast,Int.toNat_natCast,Int.toNat_natCast];refine ae (J3 l_ fj iF hf ?_);have nW:(pickOrder (w.params.setOrder S ep) es)[ys.length]?= none:=by
   have h1:ys.length=(pickOrder (w.params.setOrder S ep) es).size:=by
    rw[e,aV,aA]
   exact tK (Nat.le_of_eq h1.symm)
  rw[nW];exact Cf hh ho hd (by simp) hc q
 ·dsimp only;rw[Int.toNat_natCast,Int.toNat_natCast,Int.toNat_natCast];refine ae (JO l_ aR zF fj iF hf ?_);rw[sG,tK (show es.size<=ys.length by lia)];exact Cf hh ho hd (by simp) hc q
 ·dsimp only;refine wpAny_bind (wpAny_seqItems nV cX ?_);dsimp only;rw[Int.toNat_natCast];have nW:places.size<=ys.length:=by rw[<- aA];lia
  rw[tK nW];dsimp only;refine ae (fld ho hd (by simp) hc fun h1 o1 gD zo iE jh=>Cf (s:={ s with heap:=h1 }) hh gD iE (by simp) zo fun h' eb=>q h' fun b o2 hb e2=>eb b o2 hb ((jh.2 b hb).trans e2))
theorem TC{I S T:Addr}{es:Array (Int×Value)}{ep:Nat}{t:SetTable}{ys:List Value}(hh:A.handled=none)(NQ:S≠I)(NV:T≠I)(hy:ys.length=es.size):Walks prog w A I [I,S,T] [I] ys.length (fun i v=>ys[i]?= some v) (fun i h=>lG w h I S T es ep t ys i) where
 sub:=fun b hb=>aG.mpr (.inl (bh.mp hb))
 frame:=fun i h h' x hk=>by
  obtain⟨⟨oS,fj,iF⟩,hf,first,o,ho,hc,hd,vQ⟩:=x
  refine⟨⟨oS,hk S (by simp) oS fj,iF⟩,hf,first,o,hk I (by simp) o ho,hc,hd,?_⟩
  rcases vQ with h1|h1|⟨places,n,oT,e,nV,r⟩
  ·exact .inl h1
  ·exact .inr (.inl h1)
  ·exact .inr (.inr ⟨places,n,oT,e,hk T (by simp) oT nV,r⟩)
 item:=fun i s Q E hi x hQ=>US x hy hi fun h' x' sb=>hQ _ h' s.toks (cH hi) x' fun b o hb e=>(sb.2 b (fun z=>hb (bh.mpr z))).trans e
 done:=fun s Q E x hQ=>Vf hh x hy fun h' eb=>hQ h' s.toks fun b o hb e=>eb b o (fun z=>hb (bh.mpr z)) e
 self:=fun i s Q E x hQ=>by
  have hT:=x.ty (h:=s.heap);refine wpAny_pyIter_slot hT IX (ll IX hT QV ?_ (QZ _));change wpAny _ _ (ret (.ref I)) _ _ s;exact ai ⟨_,rfl,"set_iterator",_,hT,pj.lookup,hQ⟩
end
section
variable{prog:Program}{w:World}{K:Type}[DecidableEq K]{knd:KeyKind prog w K}{A:Around}{E:Value->Shared->Prop}{s:Shared}
theorem TR{S:Addr}{o:Obj}{es:Array (Int×Value)}{ep:Nat}{t:SetTable}{Q:Bool->Shared->Prop}(ho:s.heap.get? S=some o)(hd:o.data=.set es ep t)(hf:t.fits es.size=true)(h:Q (!w.params.followText "set-order" && (!t.plain&&decide (es.size > 1))) s):wpAny (model prog w) A (setDrawn S) Q E s:=by
 unfold setDrawn;refine ae (jq ho hd hf ?_);dsimp only;exact ae (yP (ai h))
end
end iX
namespace iX
open PySem PyProof.Rows PySem.W
section
variable{prog:Program}{w:World}{K:Type}[DecidableEq K]{knd:KeyKind prog w K}{A:Around}{E:Value->Shared->Prop}{s:Shared}
theorem Ta{r:Addr}{Q:Bool->Shared->Prop}(hT:s.TypeIs (.ref r) "set") (h:Q false s):wpAny (model prog w) A (Builtin.List.listLengthHint (.ref r)) Q E s:=by
 unfold Builtin.List.listLengthHint;refine ae (wpAny_specialOf hT PySem.F.slot_set_len.lookup ?_);generalize vP:("set.__len__" : String)=Gp
 wp_delta
 rw[show splitId Gp=some ("set","__len__") from by subst vP;decide +kernel];subst vP;refine ae (xp (T := "set") (b:=true) hT (by rw[isSubtype_type];kernel_rfl) (wpAny_ite_split (fun jR=>absurd jR (by decide)) (fun _=>wpAny_ite_split (fun _=>?_) (fun jR=>absurd (by decide +kernel) jR))));exact ae (qQ hT (ai h))
end
end iX
namespace L2
open PySem PySem.Spec PyProof.Rows PySem.W
section
variable{X:Cx}{e:Expr}{te:TE}{p p' pos pos':Pos}
theorem Inv.draws{pins:List (Addr×Obj)}{σ : St}{H:Hp}{s:Shared}{d:Drawn}(I:Inv X pins σ H s):Inv X pins σ H { s with drawn:=d } :=
 I.step (g':=s.gens) (d':=d) (t':=s.toks) (ch:=[]) (fun _ z=>nomatch z) (fun _ _ _ _ _ e _=>e) (fun _ o _ _ _ e _=>⟨o.slots,e⟩) (fun _ _ _ _ n=>n) (fun _ o _ e=>⟨o,e⟩) (fun _ _ h=>h) (fun _ _ _ h=>h) (fun _ ps h=>⟨#[],by simpa using h⟩) (fun _ h=>h) I.aq I.bare
theorem U3:bootBuiltins "set" = some (.type "set"):=by decide +kernel
theorem Ry:bootBuiltins "sorted" = some (.builtin "sorted"):=by decide +kernel
end
end L2
namespace bj
open PySem PyProof.Rows uu
structure cK(lt:Keyed->Keyed->Bool):Prop where
 yO:∀x y,lt x y=true->lt y x=false
 neg:∀x y z,lt x y=false->lt y z=false->lt x z=false
def Le(lt:Keyed->Keyed->Bool)(x y:Keyed):Prop:=lt y x=false
section
variable{lt:Keyed->Keyed->Bool}(o:cK lt){x y z:Keyed}
include o
theorem cK.le_trans(h1:Le lt x y)(h2:Le lt y z):Le lt x z:=o.neg z y x h2 h1
theorem cK.gF(h:lt x y=true):Le lt x y:=o.yO x y h
theorem cK.Zto(h1:lt x y=true)(h2:Le lt y z):lt x z=true:=by
 cases h:lt x z with
 | true=>rfl
 | false=>rw[o.neg x z y h h2] at h1;cases h1
theorem cK.Ztg(h1:Le lt x y)(h2:lt y z=true):lt x z=true:=by
 cases h:lt x z with
 | true=>rfl
 | false=>rw[o.neg y x z h1 h] at h2;cases h2
theorem cK.le_refl(x:Keyed):Le lt x x:=by
 show lt x x=false;cases h:lt x x with
 | false=>rfl
 | true=>have:=o.yO x x h;rw[h] at this;exact this
end
def iz(prog:Program)(w:World)(A:Around)(s:Shared)(κ : SortKind)(Ok:Keyed->Prop)(lt:Keyed->Keyed->Bool):Prop :=
 ∀x y,Ok x->Ok y->∀E:Value->Shared->Prop,wpAny (model prog w) A (keyLt' κ x.1 y.1) (fun b s'=>s'=s/\b=lt x y) E s
def Up(lt:Keyed->Keyed->Bool)(arr:Array Keyed)(i j:Nat):Prop := ∀x y p q,i<=x->x<y->y<j->arr[x]?= some p->arr[y]?= some q->Le lt p q
def bv(lt:Keyed->Keyed->Bool)(l:Bool)(key p:Keyed):Bool:=if l=true then lt p key else !lt key p
def BV(lt:Keyed->Keyed->Bool)(l:Bool)(key:Keyed)(a:Array Keyed)(base i:Nat):Bool:=match a[base+i]? with|some p=>bv lt l key p|none=>false
theorem BV.Xc{lt:Keyed->Keyed->Bool}(o:cK lt){l:Bool}{key:Keyed}{a:Array Keyed}{base n:Nat}(hb:base+n<=a.size)(hu:Up lt a base (base+n)){i j:Nat}(eS:i<=j)(hj:j<n)(h:BV lt l key a base j=true):BV lt l key a base i=true:=by
 rcases Nat.eq_or_lt_of_le eS with rfl|aC
 ·exact h
 have ei:a[base+i]?= some a[base+i]:=jo a _ (by lia);have ej:a[base+j]?= some a[base+j]:=jo a _ (by lia);have hle:=hu (base+i) (base+j) _ _ (by lia) (by lia) (by lia) ei ej;unfold BV at h ⊢;rw[ej] at h;rw[ei];dsimp only at h ⊢;unfold bv at h ⊢;cases l with
 | true =>
  rw[ah rfl] at h ⊢;exact o.Ztg hle h
 | false =>
  rw[af (by decide)] at h ⊢;have h1:lt key a[base+j]=false:=by simpa using h
  have:lt key a[base+i]=false:=o.le_trans (lt:=lt) hle h1;rw[this];rfl
section
variable{prog:Program}{w:World}{A:Around}{E:Value->Shared->Prop}{s:Shared}{κ : SortKind}{Ok:Keyed->Prop}{st:SortSt}{lt:Keyed->Keyed->Bool}
theorem uM{x y:Keyed}{Q:Option Bool->SortSt->Prop}(hc:iz prog w A s κ Ok lt)(hk:kindOf st= κ)(hx:Ok x)(hy:Ok y)(h:Q (some (lt x y)) st):wpS (model prog w) A E s (lt' x y) Q st:=by
 rw[lt'_eq];refine ap (iT ?_);rw[hk];refine ap (wpS_lift (wpAny_attempt (eI (hc x y hx hy _) (fun b s' e=>⟨e.1,?_⟩) fun _ _ z=>z)));rw[e.2];exact ar h
theorem WB{l:Bool}{key:Keyed}{a:Array Keyed}{base n i:Nat}{Q:Option Bool->SortSt->Prop}(hc:iz prog w A s κ Ok lt)(hk:kindOf st= κ)(jc:Ok key)(ha:∀p∈a.toList,Ok p)(hb:base+n<=a.size)(hi:i<n)(h:Q (some (BV lt l key a base i)) st) :
  wpS (model prog w) A E s (elem' a (base+i) >>= fun x=>if l=true then lt' x key else(lt' key x >>= fun r=>pure (Option.map (fun z=>!z) r))) Q st:=by
 refine ap (ZP (by lia) fun p hp e=>?_);unfold BV at h;rw[e] at h;dsimp only at h;unfold bv at h;cases l with
 | true =>
  rw[ah rfl] at h ⊢;exact uM hc hk (ha p hp) jc h
 | false =>
  rw[af bb] at h ⊢;exact ap (uM hc hk jc (ha p hp) (ar h))
set_option maxHeartbeats 1000000 in
theorem mT{l:Bool}{key:Keyed}{a:Array Keyed}{base n hint:Nat}{Q:Option Nat->SortSt->Prop}(o:cK lt)(hc:iz prog w A s κ Ok lt)(hk:kindOf st= κ)(jc:Ok key)(ha:∀p∈a.toList,Ok p)(hb:base+n<=a.size)(hh:hint<n)(hu:Up lt a base (base+n))
  (h:∀k,k<=n->(∀i,i<k->BV lt l key a base i=true)->(∀i,k<=i->i<n->BV lt l key a base i=false)->Q (some k) st):wpS (model prog w) A E s (B6 l key a base n hint) Q st:=by
 have up:∀{i j},i<=j->j<n->BV lt l key a base j=true->BV lt l key a base i=true:=fun eS hj h=>BV.Xc o hb hu eS hj h;have dn:∀{i j},i<=j->j<n->BV lt l key a base i=false->BV lt l key a base j=false:=fun{i j} eS hj h=>by
  cases e:BV lt l key a base j with
  | false=>rfl
  | true=>rw[up eS hj e] at h;cases h
 generalize hBB:BV lt l key a base=BB at up dn h;have vg:∀{ag:SortSt}{i:Nat}{Q':Option Bool->SortSt->Prop},ag=st->i<n->Q' (some (BB i)) ag->wpS (model prog w) A E s (elem' a (base+i) >>= fun x=>if l=true then lt' x key else(lt' key x >>= fun r=>pure (Option.map (fun z=>!z) r))) Q' ag:=fun{ag i Q'} e hi hq=>by
  subst e;exact WB hc hk jc ha hb hi (by rw[hBB];exact hq)
 refine ap (vg rfl hh ?_);cases OC:BB hint with
 | true =>
  dsimp only;rw[if_pos rfl];refine ap (dF (dZ (I:=fun x c ag=>ag=st/\∃lo of,c=(none,lo,of)/\lo<n-hint/\lo<of/\BB (hint+lo)=true/\x+1<=of) (Q:=fun c ag=>ag=st/\∃lo of,c=(none,lo,of)/\lo<n-hint/\lo<of/\BB (hint+lo)=true/\(n-hint<=of\/BB (hint+of)=false)) ?_ ?_ ⟨rfl,0,1,rfl,by lia,by lia,OC,by lia⟩) ?_)
  ·rintro i c ag _ _ ⟨rfl,lo,of,rfl,h1,h2,h3,h4⟩;dsimp only;by_cases aC:of>=n-hint
   ·rw[ah aC];exact ar ⟨rfl,lo,of,rfl,h1,h2,h3,.inl aC⟩
   ·rw[af aC];refine ap (vg rfl (by lia) ?_);cases dw:BB (hint+of) with
    | true=>exact ar ⟨rfl,_,_,rfl,by lia,by lia,dw,by lia⟩
    | false=>exact ar ⟨rfl,lo,of,rfl,h1,h2,h3,.inr dw⟩
  ·rintro c ag ⟨rfl,lo,of,rfl,h1,h2,h3,h4⟩;exact⟨rfl,lo,of,rfl,h1,h2,h3,.inl (by lia)⟩
  ·rintro c uh ⟨rfl,lo,of,rfl,h1,h2,h3,h4⟩;dsimp only;have g1:hint+lo+1<=hint+min of (n-hint):=by lia
   have g2:hint+min of (n-hint)<=n:=by lia
   have g3:∀i,i<hint+lo+1->BB i=true:=fun i hi=>up (show i<=hint+lo by lia) (by lia) h3;have g4:∀i,hint+min of (n-hint)<=i->i<n->BB i=false:=fun i hi iG=>by
    rcases h4 with h4|h4
    ·lia
    ·exact dn (show hint+of<=i by lia) iG h4
   generalize hint+lo+1=lo1 at g1 g3;generalize hint+min of (n-hint)=kH at g1 g2 g4;refine ap (dF (dZ (I:=fun x c ag=>ag=uh/\∃lo hi,c=(none,lo,hi)/\lo<=hi/\hi<=n/\(∀i,i<lo->BB i=true)/\(∀i,hi<=i->i<n->BB i=false)/\hi-lo+x<=n) (Q:=fun c ag=>ag=uh/\∃lo hi,c=(none,lo,hi)/\lo=hi/\hi<=n/\(∀i,i<lo->BB i=true)/\(∀i,hi<=i->i<n->BB i=false)) ?_ ?_ ⟨rfl,lo1,kH,rfl,g1,g2,g3,g4,by lia⟩) ?_)
   ·rintro i c ag _ _ ⟨rfl,lo,hi,rfl,h1,h2,h3,h4,h5⟩;dsimp only;by_cases aC:lo>=hi
    ·rw[ah aC];exact ar ⟨rfl,lo,hi,rfl,by lia,h2,h3,h4⟩
    ·rw[af aC];refine ap (vg rfl (by lia) ?_);cases dw:BB (lo+(hi-lo) / 2) with
     | true=>exact ar ⟨rfl,_,_,rfl,by lia,by lia,fun i cm=>up (show i<=lo+(hi-lo) / 2 by lia) (by lia) dw,h4,by lia⟩
     | false=>exact ar ⟨rfl,_,_,rfl,by lia,by lia,h3,fun i cm iG=>dn cm iG dw,by lia⟩
   ·rintro c ag ⟨rfl,lo,hi,rfl,h1,h2,h3,h4,h5⟩;exact⟨rfl,lo,hi,rfl,by lia,h2,h3,h4⟩
   ·rintro c ag ⟨rfl,lo,hi,rfl,h1,h2,h3,h4⟩;exact ar (h hi h2 (fun i cm=>h3 i (by lia)) h4)
 | false =>
  dsimp only;rw[if_neg Bool.false_ne_true];refine ap (dF (dZ (I:=fun x c ag=>ag=st/\∃lo of,c=(none,lo,of)/\lo<hint+1/\lo<of/\BB (hint-lo)=false/\x+1<=of) (Q:=fun c ag=>ag=st/\∃lo of,c=(none,lo,of)/\lo<hint+1/\lo<of/\BB (hint-lo)=false/\(hint+1<=of\/BB (hint-of)=true)) ?_ ?_ ⟨rfl,0,1,rfl,by lia,by lia,OC,by lia⟩) ?_)
  ·rintro i c ag _ _ ⟨rfl,lo,of,rfl,h1,h2,h3,h4⟩;dsimp only;by_cases aC:of>=hint+1
   ·rw[ah aC];exact ar ⟨rfl,lo,of,rfl,h1,h2,h3,.inl aC⟩
   ·rw[af aC];refine ap (vg rfl (by lia) ?_);cases dw:BB (hint-of) with
    | true=>exact ar ⟨rfl,lo,of,rfl,h1,h2,h3,.inr dw⟩
    | false=>exact ar ⟨rfl,_,_,rfl,by lia,by lia,dw,by lia⟩
  ·rintro c ag ⟨rfl,lo,of,rfl,h1,h2,h3,h4⟩;exact⟨rfl,lo,of,rfl,h1,h2,h3,.inl (by lia)⟩
  ·rintro c uh ⟨rfl,lo,of,rfl,h1,h2,h3,h4⟩;dsimp only;have g1:hint+1-min of (hint+1)<=hint-lo:=by lia
   have g2:hint-lo<=n:=by lia
   have g3:∀i,i<hint+1-min of (hint+1)->BB i=true:=fun i hi=>by
    rcases h4 with h4|h4
    ·lia
    ·exact up (show i<=hint-of by lia) (by lia) h4
   have g4:∀i,hint-lo<=i->i<n->BB i=false:=fun i hi iG=>dn hi iG h3;generalize hint+1-min of (hint+1)=lo1 at g1 g3;generalize hint-lo=kH at g1 g2 g4;refine ap (dF (dZ (I:=fun x c ag=>ag=uh/\∃lo hi,c=(none,lo,hi)/\lo<=hi/\hi<=n/\(∀i,i<lo->BB i=true)/\(∀i,hi<=i->i<n->BB i=false)/\hi-lo+x<=n) (Q:=fun c ag=>ag=uh/\∃lo hi,c=(none,lo,hi)/\lo=hi/\hi<=n/\(∀i,i<lo->BB i=true)/\(∀i,hi<=i->i<n->BB i=false)) ?_ ?_ ⟨rfl,lo1,kH,rfl,g1,g2,g3,g4,by lia⟩) ?_)
   ·rintro i c ag _ _ ⟨rfl,lo,hi,rfl,h1,h2,h3,h4,h5⟩;dsimp only;by_cases aC:lo>=hi
    ·rw[ah aC];exact ar ⟨rfl,lo,hi,rfl,by lia,h2,h3,h4⟩
    ·rw[af aC];refine ap (vg rfl (by lia) ?_);cases dw:BB (lo+(hi-lo) / 2) with
     | true=>exact ar ⟨rfl,_,_,rfl,by lia,by lia,fun i cm=>up (show i<=lo+(hi-lo) / 2 by lia) (by lia) dw,h4,by lia⟩
     | false=>exact ar ⟨rfl,_,_,rfl,by lia,by lia,h3,fun i cm iG=>dn cm iG dw,by lia⟩
   ·rintro c ag ⟨rfl,lo,hi,rfl,h1,h2,h3,h4,h5⟩;exact⟨rfl,lo,hi,rfl,by lia,h2,h3,h4⟩
   ·rintro c ag ⟨rfl,lo,hi,rfl,h1,h2,h3,h4⟩;exact ar (h hi h2 (fun i cm=>h3 i (by lia)) h4)
end
section
variable{lt:Keyed->Keyed->Bool}{a b out:Array Keyed}{ia ib k:Nat}{p q:Keyed}
abbrev So(lt:Keyed->Keyed->Bool)(l:List Keyed):Prop:=l.Pairwise (Le lt)
theorem yH(h:a[ia]?= some p):a.toList[ia]?= some p:=by rw[<- h];simp
theorem fM{i:Nat}{x y:Keyed}(h1:a[i]?= some x)(h2:a[i]?= some y):x=y:=by
 rw[h1] at h2;exact dk h2
theorem xM(h:a[ia]?= some p):a.toList.drop ia=p::a.toList.drop (ia+1):=by
 obtain⟨hi,e⟩:=cA.mp (yH h);rw[List.drop_eq_getElem_cons hi,e]
theorem So.drop{l:List Keyed}(h:So lt l)(n:Nat):So lt (l.drop n):=qK (List.drop_sublist n l) h
theorem So.head(h:So lt a.toList)(hp:a[ia]?= some p):∀y∈a.toList.drop (ia+1),Le lt p y:=by
 have:=h.drop ia;rw[xM hp] at this;exact(AW.mp this).1
theorem uP(o:cK lt)(h:So lt a.toList)(hp:a[ia]?= some p){x:Keyed}(hx:Le lt x p):∀y∈a.toList.drop ia,Le lt x y:=fun y hy=>by
 rw[xM hp] at hy;rcases aG.mp hy with rfl|hy
 ·exact hx
 ·exact o.le_trans hx (h.head hp y hy)
theorem pO(h:So lt a.toList)(i j:Nat):Up lt a i j:=fun x y p q _ kN _ ex ey=>by
 obtain⟨hx,rfl⟩:=cA.mp (yH ex);obtain⟨hy,rfl⟩:=cA.mp (yH ey);exact(lc.mp h) x y hx hy kN
theorem Mp{n:Nat}(h:Up lt a 0 n)(hn:a.size<=n):So lt a.toList:=by
 refine lc.mpr fun i j hi hj eS=>?_;have cm:i<a.size:=by rw[<- aA];exact hi
 have lA:j<a.size:=by rw[<- aA];exact hj
 exact h i j _ _ (bi _) eS (by lia) (by rw[<- bD];exact cH hi) (by rw[<- bD];exact cH hj)
theorem Bz{l:List Keyed}{n:Nat}{y:Keyed}(h:y∈l.drop n):∃i,l[n+i]?= some y:=by
 obtain⟨i,hi⟩:=j3.mp h;rw[jZ] at hi;exact⟨i,hi⟩
theorem yJ(F:∀i,k<=i->i<a.size-ia->BV lt false p a ia i=false)(o:cK lt):∀y∈a.toList.drop (ia+k),Le lt p y:=fun y hy=>by
 obtain⟨i,hi⟩:=Bz hy;obtain⟨hl,_⟩:=cA.mp hi;rw[aA] at hl;have h1:=F (k+i) (by lia) (by lia);unfold BV at h1;rw[show ia+(k+i)=ia+k+i by lia,<- bD,hi] at h1;have h2:(!lt p y)=false:=h1;exact o.gF (by simpa using h2)
theorem Ml(F:∀i,i<k->BV lt false p a ia i=true):∀x∈(a.toList.drop ia).take k,Le lt x p:=fun x hx=>by
 obtain⟨i,hi⟩:=j3.mp hx;have nO:i<k:=by
  have:=(cA.mp hi).1;rw[dM] at this;lia
 rw[qM nO,jZ] at hi;have h1:=F i nO;unfold BV at h1;rw[<- bD,hi] at h1;have h2:(!lt p x)=true:=h1;show lt p x=false
 simpa using h2
theorem Mz(F:∀i,k<=i->i<b.size-ib->BV lt true q b ib i=false):∀y∈b.toList.drop (ib+k),Le lt q y:=fun y hy=>by
 obtain⟨i,hi⟩:=Bz hy;obtain⟨hl,_⟩:=cA.mp hi;rw[aA] at hl;have h1:=F (k+i) (by lia) (by lia);unfold BV at h1;rw[show ib+(k+i)=ib+k+i by lia,<- bD,hi] at h1;exact h1
theorem Wc(F:∀i,i<k->BV lt true q b ib i=true)(o:cK lt):∀x∈(b.toList.drop ib).take k,Le lt x q:=fun x hx=>by
 obtain⟨i,hi⟩:=j3.mp hx;have nO:i<k:=by
  have:=(cA.mp hi).1;rw[dM] at this;lia
 rw[qM nO,jZ] at hi;have h1:=F i nO;unfold BV at h1;rw[<- bD,hi] at h1;exact o.gF h1
structure cu(lt:Keyed->Keyed->Bool)(a b out:Array Keyed)(ia ib:Nat):Prop where
 perm:Out a b out ia ib
 sort:So lt out.toList
 og:∀x∈out.toList,∀y∈a.toList.drop ia,Le lt x y
 oh:∀x∈out.toList,∀y∈b.toList.drop ib,Le lt x y
structure Rs(lt:Keyed->Keyed->Bool)(a b r:Array Keyed):Prop where
 perm:r.toList.Perm (a.toList++b.toList)
 sort:So lt r.toList
theorem mem_push{x:Keyed}(h:x∈(out.push p).toList):x∈out.toList\/x=p:=by
 rw[fk] at h;rcases bK.mp h with h|h
 ·exact .inl h
 ·exact .inr (bh.mp h)
theorem Li(h:So lt out.toList)(hp:∀x∈out.toList,Le lt x p):So lt (out.push p).toList:=by
 rw[fk];refine e_.mpr ⟨h,List.pairwise_singleton _ _,fun x hx y hy=>?_⟩;rw[bh.mp hy];exact hp x hx
theorem x9{l:List Keyed}{i j:Nat}(h:i<=j){y:Keyed}(hy:y∈l.drop j):y∈l.drop i:=by
 rw[show j=i+(j-i) by lia,<- k_] at hy;exact tW hy
theorem cu.kS(h:cu lt a b out ia ib)(SA:So lt a.toList)(hp:a[ia]?= some p)(hb:∀y∈b.toList.drop ib,Le lt p y):cu lt a b (out.push p) (ia+1) ib:=by
 have hm:p∈a.toList.drop ia:=by rw[xM hp];exact ba ..
 refine⟨h.perm.kS hp,Li h.sort fun x hx=>h.og x hx p hm,fun x hx y hy=>?_,fun x hx y hy=>?_⟩
 ·rcases mem_push hx with hx|rfl
  ·exact h.og x hx y (x9 (by lia) hy)
  ·exact SA.head hp y hy
 ·rcases mem_push hx with hx|rfl
  ·exact h.oh x hx y hy
  ·exact hb y hy
theorem cu.kT(h:cu lt a b out ia ib)(SB:So lt b.toList)(hp:b[ib]?= some p)(ha:∀y∈a.toList.drop ia,Le lt p y):cu lt a b (out.push p) ia (ib+1):=by
 have hm:p∈b.toList.drop ib:=by rw[xM hp];exact ba ..
 refine⟨h.perm.kT hp,Li h.sort fun x hx=>h.oh x hx p hm,fun x hx y hy=>?_,fun x hx y hy=>?_⟩
 ·rcases mem_push hx with hx|rfl
  ·exact h.og x hx y hy
  ·exact ha y hy
 ·rcases mem_push hx with hx|rfl
  ·exact h.oh x hx y (x9 (by lia) hy)
  ·exact SB.head hp y hy
theorem xT(a:Array Keyed)(i k:Nat):(a.extract i (i+k)).toList=(a.toList.drop i).take k:=by
 rw[fE,List.extract_eq_drop_take,show i+k-i=k by lia]
theorem rL(a:Array Keyed)(i:Nat):(a.extract i a.size).toList=a.toList.drop i:=by
 rw[fE,List.extract_eq_drop_take];apply j6;rw[dE,aA];exact az _
theorem Ja{l:List Keyed}{i k:Nat}(h:So lt l){x y:Keyed}(hx:x∈(l.drop i).take k)(hy:y∈l.drop (i+k)):Le lt x y:=by
 have h1:=h.drop i;rw[<- j5 k (l.drop i),k_] at h1;exact(e_.mp h1).2.2 x hx y hy
theorem cu.lW(h:cu lt a b out ia ib)(SA:So lt a.toList)(hk:ia+k<=a.size)(hb:∀x∈(a.toList.drop ia).take k,∀y∈b.toList.drop ib,Le lt x y):cu lt a b (out++a.extract ia (ia+k)) (ia+k) ib:=by
 have hm:∀x,x∈(out++a.extract ia (ia+k)).toList->x∈out.toList\/x∈(a.toList.drop ia).take k:=fun x hx=>by
  rw[bN,xT] at hx;exact bK.mp hx
 refine⟨h.perm.lW hk,?_,fun x hx y hy=>?_,fun x hx y hy=>?_⟩
 ·rw[bN,xT];exact e_.mpr ⟨h.sort,qK (xf _ _) (SA.drop ia),fun x hx y hy=>h.og x hx y (oF hy)⟩
 ·rcases hm x hx with hx|hx
  ·exact h.og x hx y (x9 (by lia) hy)
  ·exact Ja SA hx hy
 ·rcases hm x hx with hx|hx
  ·exact h.oh x hx y hy
  ·exact hb x hx y hy
theorem cu.pS(h:cu lt a b out ia ib)(SB:So lt b.toList)(hk:ib+k<=b.size)(ha:∀x∈(b.toList.drop ib).take k,∀y∈a.toList.drop ia,Le lt x y):cu lt a b (out++b.extract ib (ib+k)) ia (ib+k):=by
 have hm:∀x,x∈(out++b.extract ib (ib+k)).toList->x∈out.toList\/x∈(b.toList.drop ib).take k:=fun x hx=>by
  rw[bN,xT] at hx;exact bK.mp hx
 refine⟨h.perm.pS hk,?_,fun x hx y hy=>?_,fun x hx y hy=>?_⟩
 ·rw[bN,xT];exact e_.mpr ⟨h.sort,qK (xf _ _) (SB.drop ib),fun x hx y hy=>h.oh x hx y (oF hy)⟩
 ·rcases hm x hx with hx|hx
  ·exact h.og x hx y hy
  ·exact ha x hx y hy
 ·rcases hm x hx with hx|hx
  ·exact h.oh x hx y (x9 (by lia) hy)
  ·exact Ja SB hx hy
theorem cu.su(h:cu lt a b out ia ib)(SA:So lt a.toList)(e:(ib == b.size)=true):Rs lt a b (out++a.extract ia a.size++b.extract ib b.size):=by
 refine⟨h.perm.done,?_⟩;have e':b.toList.drop ib=[]:=wZ (by rw[aA,eq_of_beq e];exact az _);rw[bN,bN,rL,rL,e',iO];exact e_.mpr ⟨h.sort,SA.drop ia,fun x hx y hy=>h.og x hx y hy⟩
theorem cu.nj(h:cu lt a b out ia ib)(SB:So lt b.toList)(e:(ia == a.size)=true):Rs lt a b (out++a.extract ia a.size++b.extract ib b.size):=by
 refine⟨h.perm.done,?_⟩;have e':a.toList.drop ia=[]:=wZ (by rw[aA,eq_of_beq e];exact az _);rw[bN,bN,rL,rL,e',iO];exact e_.mpr ⟨h.sort,SB.drop ib,fun x hx y hy=>h.oh x hx y hy⟩
theorem cu.wc(h:cu lt a b out ia ib)(SA:So lt a.toList)(SB:So lt b.toList)(LA:∀x∈b.toList,∀q,a[a.size-1]?= some q->Le lt x q)(e:(ia+1 == a.size)=true):Rs lt a b (out++b.extract ib b.size++a.extract ia a.size):=by
 refine⟨h.perm.last,?_⟩;have e1:=eq_of_beq e;rw[bN,bN,rL,rL];refine e_.mpr ⟨e_.mpr ⟨h.sort,SB.drop ib,fun x hx y hy=>h.oh x hx y hy⟩,SA.drop ia,fun x hx y hy=>?_⟩;rcases bK.mp hx with hx|hx
 ·exact h.og x hx y hy
 ·refine LA x (tW hx) y ?_;obtain⟨i,hi⟩:=Bz hy;have hl:=(cA.mp hi).1;rw[aA] at hl;rw[show a.size-1=ia+i by lia,<- bD];exact hi
theorem VY(SB:So lt b.toList)(hp:b[0]?= some p)(gA:∀p,b[0]?= some p->∀y∈a.toList,Le lt p y):cu lt a b #[p] 0 1:=by
 refine⟨Wq hp,List.pairwise_singleton _ _,fun x hx y hy=>?_,fun x hx y hy=>?_⟩
 ·obtain rfl:x=p:=by simpa using hx
  exact gA x hp y hy
 ·obtain rfl:x=p:=by simpa using hx
  exact SB.head hp y hy
end
section
variable{prog:Program}{w:World}{A:Around}{E:Value->Shared->Prop}{s:Shared}{κ : SortKind}{Ok:Keyed->Prop}{st:SortSt}{lt:Keyed->Keyed->Bool}
abbrev uo:=Option (Array Keyed)×Array Keyed×Nat×Nat×Nat×Nat×Nat
def Ap(a b out:Array Keyed)(ia ib g ac bc:Nat):StateT SortSt Sem (ForInStep uo) :=
 elem' a ia >>= fun p=>if(ia+1+1 == a.size)=true then pure (.done (some (out.push p++b.extract ib b.size++a.extract (ia+1) a.size),out.push p,ia+1,ib,g,ac,bc))
  else if(decide (ac<7)&&decide (bc<7))=true then pure (.done (none,out.push p,ia+1,ib,g,ac,bc)) else pure (.yield (none,out.push p,ia+1,ib,g,ac,bc))
def IP(lt:Keyed->Keyed->Bool)(a b:Array Keyed)(st:SortSt)(x:Nat):ForInStep uo->SortSt->Prop:=fun r ag=>match r with
 | .done c=>bT st ag/\((∃r out ia ib g ac bc,c=(some r,out,ia,ib,g,ac,bc)/\Rs lt a b r)\/∃out ia ib g ac bc,c=(none,out,ia,ib,g,ac,bc)/\cu lt a b out ia ib/\ia+1<a.size/\ib<b.size/\x+2<=ia+ib)
 | .yield c=>bT st ag/\∃out ia ib g ac bc,c=(none,out,ia,ib,g,ac,bc)/\cu lt a b out ia ib/\ia+1<a.size/\ib<b.size/\x+2<=ia+ib
structure Bi(lt:Keyed->Keyed->Bool)(a b:Array Keyed)(st:SortSt)(N:Nat)(Q:ForInStep uo->SortSt->Prop):Prop where
 R:∀r out ia ib g ac bc,Rs lt a b r->Q (.done (some r,out,ia,ib,g,ac,bc)) st
 N:∀out ia ib g ac bc,cu lt a b out ia ib->ia+1<a.size->ib<b.size->N<=ia+ib->Q (.done (none,out,ia,ib,g,ac,bc)) st/\Q (.yield (none,out,ia,ib,g,ac,bc)) st
section
variable{a b out:Array Keyed}{ia ib g ac bc N:Nat}{Q:ForInStep uo->SortSt->Prop}
theorem LI(SA:So lt a.toList)(SB:So lt b.toList)(LA:∀x∈b.toList,∀q,a[a.size-1]?= some q->Le lt x q)(q:Bi lt a b st N Q)(ho:cu lt a b out ia ib)(h1:ia+1<a.size)(h2:ib<b.size)(hN:N<=ia+ib)(hp:∀p,a[ia]?= some p->∀y∈b.toList.drop ib,Le lt p y) :
  wpS (model prog w) A E s (Ap a b out ia ib g ac bc) Q st:=by
 unfold Ap;refine ap (ZP (by lia) fun p4 h4 e4=>?_);have o4:=ho.kS SA e4 (hp p4 e4);by_cases f1:(ia+1+1 == a.size)=true
 ·rw[ah f1];exact ar (q.R _ _ _ _ _ _ _ (o4.wc SA SB LA f1))
 rw[af f1];have n4:ia+1+1<a.size:=by
  have : ¬ ia+1+1=a.size:=fun e=>f1 (by simp[<- e]);lia
 have z:=q.N _ _ _ g ac bc o4 n4 h2 (by lia);by_cases f2:(decide (ac<7)&&decide (bc<7))=true
 ·rw[ah f2];exact ar z.1
 ·rw[af f2];exact ar z.2
theorem yv(o:cK lt)(hc:iz prog w A s κ Ok lt)(hk:kindOf st= κ)(ha:∀p∈a.toList,Ok p)(hb:∀p∈b.toList,Ok p)(SA:So lt a.toList)(SB:So lt b.toList)(LA:∀x∈b.toList,∀q,a[a.size-1]?= some q->Le lt x q)(q:Bi lt a b st N Q)(ho:cu lt a b out ia ib)(h1:ia+1<a.size)(h2:ib<b.size)(hN:N<=ia+ib)(hp:∀p,b[ib]?= some p->∀y∈a.toList.drop ia,Le lt p y)
  {T:Keyed->Option Nat->StateT SortSt Sem (ForInStep uo)} (hT:∀p k,T p (some k)=if k > 0 then(if(ib+1+k == b.size)=true then pure (.done (some (out.push p++b.extract (ib+1) (ib+1+k)++a.extract ia a.size++b.extract (ib+1+k) b.size),out.push p++b.extract (ib+1) (ib+1+k),ia,ib+1+k,g,ac,k))
     else Ap a b (out.push p++b.extract (ib+1) (ib+1+k)) ia (ib+1+k) g ac k)
    else Ap a b (out.push p) ia (ib+1) g ac k) :
  wpS (model prog w) A E s (elem' b ib >>= fun p=>if(ib+1 == b.size)=true then pure (.done (some (out.push p++a.extract ia a.size++b.extract (ib+1) b.size),out.push p,ia,ib+1,g,ac,bc))
   else elem' a ia >>= fun q=>B6 true q b (ib+1) (b.size-(ib+1)) 0 >>= T p) Q st:=by
 refine ap (ZP (by lia) fun p3 h3 e3=>?_);have o2:=ho.kT SB e3 (hp p3 e3);by_cases c3:(ib+1 == b.size)=true
 ·rw[ah c3];exact ar (q.R _ _ _ _ _ _ _ (o2.su SA c3))
 rw[af c3];have n3:ib+1<b.size:=by
  have : ¬ ib+1=b.size:=fun e=>c3 (by simp[<- e]);lia
 refine ap (ZP (by lia) fun q3 g3 u3=>?_);refine ap (mT o hc hk (ha q3 g3) hb (by lia) (by lia) (pO SB _ _) fun k2 iH G1 G2=>?_);rw[hT];by_cases kR:k2 > 0
 ·rw[ah kR];have o3:=o2.pS SB (k:=k2) (by lia) (fun x hx=>uP o SA u3 (Wc G1 o x hx));by_cases c4:(ib+1+k2 == b.size)=true
  ·rw[ah c4];exact ar (q.R _ _ _ _ _ _ _ (o3.su SA c4))
  rw[af c4];have n5:ib+1+k2<b.size:=by
   have : ¬ ib+1+k2=b.size:=fun e=>c4 (by simp[<- e]);lia
  exact LI SA SB LA q o3 h1 n5 (by lia) fun p e=>by rw[fM e u3];exact Mz G2
 ·rw[af kR];exact LI SA SB LA q o2 h1 n3 (by lia) fun p e=>by rw[fM e u3];exact Mz (k:=0) (fun i _ hi=>G2 i (by lia) hi)
end
set_option maxHeartbeats 2000000 in
theorem QS{a b:Array Keyed}{Q:Array Keyed->SortSt->Prop}(o:cK lt)(hc:iz prog w A s κ Ok lt)(hk:kindOf st= κ)(ha:∀p∈a.toList,Ok p)(hb:∀p∈b.toList,Ok p)(NX:1<=a.size)(kC:1<=b.size)(SA:So lt a.toList)(SB:So lt b.toList)(gA:∀p,b[0]?= some p->∀y∈a.toList,Le lt p y)(LA:∀x∈b.toList,∀q,a[a.size-1]?= some q->Le lt x q)
  (h:∀r ag,bT st ag->Rs lt a b r->Q r ag):wpS (model prog w) A E s (S6 a b) Q st:=by
 refine ap (wpS_lift (mH ⟨rfl,?_⟩));refine ap (ZP (by lia) fun p hp he=>?_)
 try dsimp -zeta only
 have o0:cu lt a b #[p] 0 1:=VY SB he gA;by_cases c1:(1 == b.size)=true
 ·rw[ah c1];exact ar (h _ _ (bT.refl _) (o0.su SA c1))
 rw[af c1];by_cases c2:(0+1 == a.size)=true
 ·rw[ah c2];exact ar (h _ _ (bT.refl _) (o0.wc SA SB LA c2))
 rw[af c2];have n1:1<b.size:=by
  have : ¬ 1=b.size:=fun e=>c1 (by simp[<- e]);lia
 have n2:1<a.size:=by
  have : ¬ 1=a.size:=fun e=>c2 (by simp[<- e]);lia
 refine ap (iT ?_);refine ap (dF (dZ (I:=fun x c ag=>bT st ag/\∃out ia ib g,c=(none,out,ia,ib,g)/\cu lt a b out ia ib/\ia+1<a.size/\ib<b.size/\x+1<=ia+ib)
  (Q:=fun c ag=>bT st ag/\∃r out ia ib g,c=(some r,out,ia,ib,g)/\Rs lt a b r) ?_ ?_ ⟨bT.refl _,_,0,1,_,rfl,o0,by lia,by lia,by lia⟩) ?_)
 ·rintro x c bx _ hx ⟨lk,out,ia,ib,g,rfl,ho,fX,fg,dR⟩
  try dsimp -zeta only
  refine ap (dF (dZ (I:=fun y c ag=>bT st ag/\∃out ia ib ac bc,c=(none,out,ia,ib,ac,bc)/\cu lt a b out ia ib/\ia+1<a.size/\ib<b.size/\x+1+(if y=0 then 0 else 1)<=ia+ib)
   (Q:=fun c ag=>bT st ag/\((∃r out ia ib ac bc,c=(some r,out,ia,ib,ac,bc)/\Rs lt a b r)\/∃out ia ib ac bc,c=(none,out,ia,ib,ac,bc)/\cu lt a b out ia ib/\ia+1<a.size/\ib<b.size/\x+2<=ia+ib)) ?_ ?_ ⟨lk,out,ia,ib,0,0,rfl,ho,fX,fg,by simp;lia⟩) ?_)
  ·rintro y c aF _ hy ⟨di,out,ia,ib,ac,bc,rfl,ho,fX,fg,dR⟩;dsimp only;have Zsu:x+1<=ia+ib:=by split at dR <;> lia
   refine ap (ZP (by lia) fun p hp ep=>?_);refine ap (ZP (by lia) fun q hq eq=>?_);refine ap (uM hc (di.kind.trans hk) (hb p hp) (ha q hq) ?_);cases vI:lt p q with
   | true =>
    try dsimp -zeta only
    rw[ah rfl];refine ap (ZP (by lia) fun p2 bG iB=>?_);have o1:=ho.kT SB iB (by rw[fM iB ep];exact uP o SA eq (o.gF vI));by_cases d1:(ib+1 == b.size)=true
    ·rw[ah d1];exact ar ⟨di,.inl ⟨_,_,_,_,_,_,rfl,(o1.su SA d1)⟩⟩
    rw[af d1];have m1:ib+1<b.size:=by
     have : ¬ ib+1=b.size:=fun e=>d1 (by simp[<- e]);lia
    by_cases d2:bc+1>=g
    ·rw[ah d2];exact ar ⟨di,.inr ⟨_,_,_,_,_,rfl,o1,fX,m1,by lia⟩⟩
    ·rw[af d2];exact ar ⟨di,_,_,_,_,_,rfl,o1,fX,m1,by rw[af (by lia)];lia⟩
   | false =>
    try dsimp -zeta only
    rw[af bb];refine ap (ZP (by lia) fun p2 bG iB=>?_);have o1:=ho.kS SA iB (by rw[fM iB eq];exact uP o SB ep vI);by_cases d1:(ia+1+1 == a.size)=true
    ·rw[ah d1];exact ar ⟨di,.inl ⟨_,_,_,_,_,_,rfl,(o1.wc SA SB LA d1)⟩⟩
    rw[af d1];have m1:ia+1+1<a.size:=by
     have : ¬ ia+1+1=a.size:=fun e=>d1 (by simp[<- e]);lia
    by_cases d2:ac+1>=g
    ·rw[ah d2];exact ar ⟨di,.inr ⟨_,_,_,_,_,rfl,o1,m1,fg,by lia⟩⟩
    ·rw[af d2];exact ar ⟨di,_,_,_,_,_,rfl,o1,m1,fg,by rw[af (by lia)];lia⟩
  ·rintro c aF ⟨di,out,ia,ib,ac,bc,rfl,ho,fX,fg,dR⟩;refine⟨di,.inr ⟨_,_,_,_,_,rfl,ho,fX,fg,?_⟩⟩;rw[af (by lia)] at dR;lia
  ·rintro c aF ⟨di,⟨r,out,ia,ib,ac,bc,rfl,hr⟩|⟨out,ia,ib,ac,bc,rfl,ho,fX,fg,dR⟩⟩
   ·exact ar ⟨di,_,_,_,_,_,rfl,hr⟩
   try dsimp -zeta only
   refine ap (wpS_lift (mH ⟨rfl,?_⟩))
   try dsimp -zeta only
   refine ap (dF (dZ (I:=fun y c ag=>bT st ag/\∃out ia ib g ac bc,c=(none,out,ia,ib,g,ac,bc)/\cu lt a b out ia ib/\ia+1<a.size/\ib<b.size/\x+2<=ia+ib)
    (Q:=fun c ag=>bT st ag/\((∃r out ia ib g ac bc,c=(some r,out,ia,ib,g,ac,bc)/\Rs lt a b r)\/∃out ia ib g ac bc,c=(none,out,ia,ib,g,ac,bc)/\cu lt a b out ia ib/\ia+1<a.size/\ib<b.size/\x+2<=ia+ib)) ?_ ?_ ⟨di,out,ia,ib,_,_,_,rfl,ho,fX,fg,dR⟩) ?_)
   ·rintro y c aS _ hy ⟨gG,out,ia,ib,g3,ac,bc,rfl,ho,fX,fg,dR⟩;dsimp only;refine dF (Q:=IP lt a b st x) ?_ (fun r ag h=>by cases r <;> exact h)
    have Aq:∀{aU},bT st aU->Bi lt a b aU (ia+ib) (IP lt a b st x):=fun bI=>⟨fun r out ia ib g ac bc hr=>⟨bI,.inl ⟨r,out,ia,ib,g,ac,bc,rfl,hr⟩⟩,fun out ia ib g ac bc ho h1 h2 hN=>⟨⟨bI,.inr ⟨out,ia,ib,g,ac,bc,rfl,ho,h1,h2,by lia⟩⟩,⟨bI,out,ia,ib,g,ac,bc,rfl,ho,h1,h2,by lia⟩⟩⟩;by_cases g1:g3 > 1
    ·rw[ah g1];refine ap (gc ?_);have bI:=gG.trans (rg aS (g3-1));refine ap (ZP (by lia) fun p0 h0 e0=>?_);refine ap (mT o hc (bI.kind.trans hk) (hb p0 h0) ha (by lia) (by lia) (pO SA _ _) fun k sP F1 F2=>?_)
     try dsimp -zeta only
     by_cases k0:k > 0
     ·rw[ah k0];have o1:=ho.lW SA (k:=k) (by lia) (fun x hx=>uP o SB e0 (Ml F1 x hx));by_cases c1:(ia+k+1 == a.size)=true
      ·rw[ah c1];exact ar ⟨bI,.inl ⟨_,_,_,_,_,_,_,rfl,(o1.wc SA SB LA c1)⟩⟩
      rw[af c1];by_cases c2:(ia+k == a.size)=true
      ·rw[ah c2];exact ar ⟨bI,.inl ⟨_,_,_,_,_,_,_,rfl,(o1.nj SB c2)⟩⟩
      rw[af c2];have n1:ia+k+1<a.size:=by
       have h1 : ¬ ia+k+1=a.size:=fun e=>c1 (by simp[<- e]);have h2 : ¬ ia+k=a.size:=fun e=>c2 (by simp[<- e]);lia
      refine yv o hc (bI.kind.trans hk) ha hb SA SB LA (N:=ia+ib) (Aq bI) o1 n1 fg (by lia) (fun p e=>by rw[fM e e0];exact yJ F2 o) ?_;exact fun _ _=>rfl
     ·rw[af k0];refine yv o hc (bI.kind.trans hk) ha hb SA SB LA (N:=ia+ib) (Aq bI) ho fX fg (az _) (fun p e=>by rw[fM e e0];exact yJ (k:=0) (fun i _ hi=>F2 i (by lia) hi) o) ?_;exact fun _ _=>rfl
    ·rw[af g1];refine ap (gc ?_);have bI:=gG.trans (rg aS g3);refine ap (ZP (by lia) fun p0 h0 e0=>?_);refine ap (mT o hc (bI.kind.trans hk) (hb p0 h0) ha (by lia) (by lia) (pO SA _ _) fun k sP F1 F2=>?_)
     try dsimp -zeta only
     by_cases k0:k > 0
     ·rw[ah k0];have o1:=ho.lW SA (k:=k) (by lia) (fun x hx=>uP o SB e0 (Ml F1 x hx));by_cases c1:(ia+k+1 == a.size)=true
      ·rw[ah c1];exact ar ⟨bI,.inl ⟨_,_,_,_,_,_,_,rfl,(o1.wc SA SB LA c1)⟩⟩
      rw[af c1];by_cases c2:(ia+k == a.size)=true
      ·rw[ah c2];exact ar ⟨bI,.inl ⟨_,_,_,_,_,_,_,rfl,(o1.nj SB c2)⟩⟩
      rw[af c2];have n1:ia+k+1<a.size:=by
       have h1 : ¬ ia+k+1=a.size:=fun e=>c1 (by simp[<- e]);have h2 : ¬ ia+k=a.size:=fun e=>c2 (by simp[<- e]);lia
      refine yv o hc (bI.kind.trans hk) ha hb SA SB LA (N:=ia+ib) (Aq bI) o1 n1 fg (by lia) (fun p e=>by rw[fM e e0];exact yJ F2 o) ?_;exact fun _ _=>rfl
     ·rw[af k0];refine yv o hc (bI.kind.trans hk) ha hb SA SB LA (N:=ia+ib) (Aq bI) ho fX fg (az _) (fun p e=>by rw[fM e e0];exact yJ (k:=0) (fun i _ hi=>F2 i (by lia) hi) o) ?_;exact fun _ _=>rfl
   ·rintro c aS ⟨gG,out,ia,ib,g3,ac,bc,rfl,ho,fX,fg,dR⟩;exact⟨gG,.inr ⟨_,_,_,_,_,_,rfl,ho,fX,fg,dR⟩⟩
   ·rintro c aS ⟨gG,⟨r,out,ia,ib,g3,ac,bc,rfl,hr⟩|⟨out,ia,ib,g3,ac,bc,rfl,ho,fX,fg,dR⟩⟩
    ·exact ar ⟨gG,_,_,_,_,_,rfl,hr⟩
    ·try dsimp -zeta only
     refine ap (gc ?_);exact ar ⟨gG.trans (rg _ _),_,_,_,_,rfl,ho,fX,fg,by lia⟩
 ·rintro c bx ⟨lk,out,ia,ib,g,rfl,ho,fX,fg,hx⟩;exfalso;lia
 ·rintro c bx ⟨lk,r,out,ia,ib,g,rfl,hr⟩;exact ar (h r bx lk hr)
end
section
variable{lt:Keyed->Keyed->Bool}{a b out:Array Keyed}{na nb k:Nat}{p q:Keyed}
structure cq(lt:Keyed->Keyed->Bool)(a b out:Array Keyed)(na nb:Nat):Prop where
 perm:dr a b out na nb
 sort:So lt out.toList.reverse
 nM:∀x∈out.toList,∀y∈a.toList.take na,Le lt y x
 nN:∀x∈out.toList,∀y∈b.toList.take nb,Le lt y x
theorem xJ(h1:1<=na)(hp:a[na-1]?= some p):a.toList.take na=a.toList.take (na-1) ++ [p]:=by
 have:=BN (yH hp);rw[Nat.sub_add_cancel h1] at this;exact this
theorem So.take{l:List Keyed}(h:So lt l)(n:Nat):So lt (l.take n):=qK (xf n l) h
theorem So.last(h:So lt a.toList)(h1:1<=na)(hp:a[na-1]?= some p):∀y∈a.toList.take (na-1),Le lt y p:=fun y hy=>by
 have:=h.take na;rw[xJ h1 hp] at this;exact(e_.mp this).2.2 y hy p (bh.mpr rfl)
theorem uT(o:cK lt)(h:So lt a.toList)(h1:1<=na)(hp:a[na-1]?= some p){x:Keyed}(hx:Le lt p x):∀y∈a.toList.take na,Le lt y x:=fun y hy=>by
 rw[xJ h1 hp] at hy;rcases bK.mp hy with hy|hy
 ·exact o.le_trans (h.last h1 hp y hy) hx
 ·rw[bh.mp hy];exact hx
theorem yf{l:List Keyed}{i j:Nat}(h:i<=j){y:Keyed}(hy:y∈l.take i):y∈l.take j:=by
 rw[show i=min i j by lia,<- List.take_take] at hy;exact oF hy
theorem uy{l:List Keyed}{n:Nat}{y:Keyed}(h:y∈l.take n):∃i,i<n/\l[i]?= some y:=by
 obtain⟨i,hi⟩:=j3.mp h;have nO:i<n:=by
  have:=(cA.mp hi).1;rw[dM] at this;lia
 rw[qM nO] at hi;exact⟨i,nO,hi⟩
theorem mV{i j:Nat}{x:Keyed}(h:x∈(a.extract i j).toList):∃m,i<=m/\m<j/\a[m]?= some x:=by
 rw[fE,List.extract_eq_drop_take] at h;obtain⟨m,hm,e⟩:=uy h;rw[jZ] at e;exact⟨i+m,by lia,by lia,by rw[<- bD];exact e⟩
theorem Mh(F:∀i,k<=i->i<na->BV lt false p a 0 i=false)(o:cK lt):∀x∈(a.extract k na).toList,Le lt p x:=fun x hx=>by
 obtain⟨m,h1,h2,e⟩:=mV hx;have h3:=F m h1 h2;unfold BV at h3;rw[mF,e] at h3;have h4:(!lt p x)=false:=h3;exact o.gF (by simpa using h4)
theorem yi(F:∀i,i<k->BV lt false p a 0 i=true):∀y∈a.toList.take k,Le lt y p:=fun y hy=>by
 obtain⟨i,hi,e⟩:=uy hy;have h3:=F i hi;unfold BV at h3;rw[mF,<- bD,e] at h3;have h4:(!lt p y)=true:=h3;show lt p y=false
 simpa using h4
theorem VO(F:∀i,k<=i->i<nb->BV lt true q b 0 i=false):∀x∈(b.extract k nb).toList,Le lt q x:=fun x hx=>by
 obtain⟨m,h1,h2,e⟩:=mV hx;have h3:=F m h1 h2;unfold BV at h3;rw[mF,e] at h3;exact h3
theorem Mc(F:∀i,i<k->BV lt true q b 0 i=true)(o:cK lt):∀y∈b.toList.take k,Le lt y q:=fun y hy=>by
 obtain⟨i,hi,e⟩:=uy hy;have h3:=F i hi;unfold BV at h3;rw[mF,<- bD,e] at h3;exact o.gF h3
theorem KS(h:So lt out.toList.reverse)(hp:∀x∈out.toList,Le lt p x):So lt (out.push p).toList.reverse:=by
 rw[fk,List.reverse_append];exact AW.mpr ⟨fun x hx=>hp x (lb.mp hx),h⟩
theorem cq.kS(h:cq lt a b out na nb)(SA:So lt a.toList)(h1:1<=na)(hp:a[na-1]?= some p)(hb:∀y∈b.toList.take nb,Le lt y p):cq lt a b (out.push p) (na-1) nb:=by
 have hm:p∈a.toList.take na:=by rw[xJ h1 hp];exact ft _ (bh.mpr rfl)
 refine⟨h.perm.kS h1 hp,KS h.sort fun x hx=>h.nM x hx p hm,fun x hx y hy=>?_,fun x hx y hy=>?_⟩
 ·rcases mem_push hx with hx|rfl
  ·exact h.nM x hx y (yf (by lia) hy)
  ·exact SA.last h1 hp y hy
 ·rcases mem_push hx with hx|rfl
  ·exact h.nN x hx y hy
  ·exact hb y hy
theorem cq.kT(h:cq lt a b out na nb)(SB:So lt b.toList)(h1:1<=nb)(hp:b[nb-1]?= some p)(ha:∀y∈a.toList.take na,Le lt y p):cq lt a b (out.push p) na (nb-1):=by
 have hm:p∈b.toList.take nb:=by rw[xJ h1 hp];exact ft _ (bh.mpr rfl)
 refine⟨h.perm.kT h1 hp,KS h.sort fun x hx=>h.nN x hx p hm,fun x hx y hy=>?_,fun x hx y hy=>?_⟩
 ·rcases mem_push hx with hx|rfl
  ·exact h.nM x hx y hy
  ·exact ha y hy
 ·rcases mem_push hx with hx|rfl
  ·exact h.nN x hx y (yf (by lia) hy)
  ·exact SB.last h1 hp y hy
theorem LS(h:So lt a.toList)(i j:Nat):So lt (a.extract i j).toList:=by
 rw[fE,List.extract_eq_drop_take];exact(h.drop i).take _
theorem LG{i j:Nat}{x:Keyed}(h:x∈(a.extract i j).toList):x∈a.toList.take j:=by
 obtain⟨m,h1,h2,e⟩:=mV h;rw[<- bD] at e;refine j3.mpr ⟨m,?_⟩;rw[qM h2];exact e
theorem Jx(h:So lt a.toList){i j:Nat}{x y:Keyed}(hy:y∈a.toList.take i)(hx:x∈(a.extract i j).toList):Le lt y x:=by
 obtain⟨m,h1,h2,e⟩:=mV hx;obtain⟨l,hl,e2⟩:=uy hy;rw[bD] at e2;exact pO h 0 (m+1) l m _ _ (bi _) (by lia) (by lia) e2 e
theorem cq.lW(h:cq lt a b out na nb)(SA:So lt a.toList)(hk:k<=na)(hb:∀x∈(a.extract k na).toList,∀y∈b.toList.take nb,Le lt y x):cq lt a b (out++(a.extract k na).reverse) k nb:=by
 have hm:∀x,x∈(out++(a.extract k na).reverse).toList->x∈out.toList\/x∈(a.extract k na).toList:=fun x hx=>by
  rw[bN,kX] at hx;rcases bK.mp hx with hx|hx
  ·exact .inl hx
  ·exact .inr (lb.mp hx)
 refine⟨h.perm.lW hk,?_,fun x hx y hy=>?_,fun x hx y hy=>?_⟩
 ·rw[bN,kX,List.reverse_append,List.reverse_reverse];exact e_.mpr ⟨LS SA _ _,h.sort,fun x hx y hy=>h.nM y (lb.mp hy) x (LG hx)⟩
 ·rcases hm x hx with hx|hx
  ·exact h.nM x hx y (yf (by lia) hy)
  ·exact Jx SA hy hx
 ·rcases hm x hx with hx|hx
  ·exact h.nN x hx y hy
  ·exact hb x hx y hy
theorem cq.pS(h:cq lt a b out na nb)(SB:So lt b.toList)(hk:k<=nb)(ha:∀x∈(b.extract k nb).toList,∀y∈a.toList.take na,Le lt y x):cq lt a b (out++(b.extract k nb).reverse) na k:=by
 have hm:∀x,x∈(out++(b.extract k nb).reverse).toList->x∈out.toList\/x∈(b.extract k nb).toList:=fun x hx=>by
  rw[bN,kX] at hx;rcases bK.mp hx with hx|hx
  ·exact .inl hx
  ·exact .inr (lb.mp hx)
 refine⟨h.perm.pS hk,?_,fun x hx y hy=>?_,fun x hx y hy=>?_⟩
 ·rw[bN,kX,List.reverse_append,List.reverse_reverse];exact e_.mpr ⟨LS SB _ _,h.sort,fun x hx y hy=>h.nN y (lb.mp hy) x (LG hx)⟩
 ·rcases hm x hx with hx|hx
  ·exact h.nM x hx y hy
  ·exact ha x hx y hy
 ·rcases hm x hx with hx|hx
  ·exact h.nN x hx y (yf (by lia) hy)
  ·exact Jx SB hy hx
theorem cq.nj(h:cq lt a b out na nb)(SB:So lt b.toList)(e:(na == 0)=true):Rs lt a b (a.extract 0 na++b.extract 0 nb++out.reverse):=by
 refine⟨h.perm.done,?_⟩;rw[bN,bN,nr,nr,kX,eq_of_beq e,List.take_zero,qN];exact e_.mpr ⟨SB.take nb,h.sort,fun x hx y hy=>h.nN y (lb.mp hy) x hx⟩
theorem cq.su(h:cq lt a b out na nb)(SA:So lt a.toList)(e:(nb == 0)=true):Rs lt a b (a.extract 0 na++b.extract 0 nb++out.reverse):=by
 refine⟨h.perm.done,?_⟩;rw[bN,bN,nr,nr,kX,eq_of_beq e,List.take_zero,iO];exact e_.mpr ⟨SA.take na,h.sort,fun x hx y hy=>h.nM y (lb.mp hy) x hx⟩
theorem cq.y'(h:cq lt a b out na nb)(SA:So lt a.toList)(SB:So lt b.toList)(gA:∀p,b[0]?= some p->∀y∈a.toList,Le lt p y)(e:(nb == 1)=true):Rs lt a b (b.extract 0 nb++a.extract 0 na++out.reverse):=by
 refine⟨h.perm.first,?_⟩
 rw[bN,bN,nr,nr,kX];refine e_.mpr ⟨e_.mpr ⟨SB.take nb,SA.take na,fun x hx y hy=>?_⟩,h.sort,fun x hx y hy=>?_⟩
 ·obtain⟨i,hi,e2⟩:=uy hx;rw[eq_of_beq e] at hi;obtain rfl:i=0:=by lia
  rw[bD] at e2;exact gA x e2 y (oF hy)
 ·rcases bK.mp hx with hx|hx
  ·exact h.nN y (lb.mp hy) x hx
  ·exact h.nM y (lb.mp hy) x hx
theorem VA(SA:So lt a.toList)(h1:1<=a.size)(hp:a[a.size-1]?= some p)(LA:∀x∈b.toList,∀q,a[a.size-1]?= some q->Le lt x q):cq lt a b #[p] (a.size-1) b.size:=by
 refine⟨VN h1 hp,List.pairwise_singleton _ _,fun x hx y hy=>?_,fun x hx y hy=>?_⟩
 ·obtain rfl:x=p:=by simpa using hx
  exact SA.last h1 hp y hy
 ·obtain rfl:x=p:=by simpa using hx
  exact LA y (oF hy) x hp
end
section
variable{prog:Program}{w:World}{A:Around}{E:Value->Shared->Prop}{s:Shared}{κ : SortKind}{Ok:Keyed->Prop}{st:SortSt}{lt:Keyed->Keyed->Bool}
abbrev uj:=Option (Array Keyed)×Nat×Nat×Array Keyed×Nat×Nat×Nat
def zy(a b:Array Keyed)(na nb:Nat)(out:Array Keyed)(g ac bc:Nat):StateT SortSt Sem (ForInStep uj) :=
 elem' a (na-1) >>= fun p=>if(na-1 == 0)=true then pure (.done (some (a.extract 0 (na-1)++b.extract 0 nb++(out.push p).reverse),na-1,nb,out.push p,g,ac,bc))
  else if(decide (ac<7)&&decide (bc<7))=true then pure (.done (none,na-1,nb,out.push p,g,ac,bc)) else pure (.yield (none,na-1,nb,out.push p,g,ac,bc))
structure Bg(lt:Keyed->Keyed->Bool)(a b:Array Keyed)(st:SortSt)(N:Nat)(Q:ForInStep uj->SortSt->Prop):Prop where
 R:∀r na nb out g ac bc,Rs lt a b r->Q (.done (some r,na,nb,out,g,ac,bc)) st
 N:∀na nb out g ac bc,cq lt a b out na nb->1<=na->na<=a.size->2<=nb->nb<=b.size->na+nb<=N->Q (.done (none,na,nb,out,g,ac,bc)) st/\Q (.yield (none,na,nb,out,g,ac,bc)) st
def IM(lt:Keyed->Keyed->Bool)(a b:Array Keyed)(st:SortSt)(x:Nat):ForInStep uj->SortSt->Prop:=fun r ag=>match r with
 | .done c=>bT st ag/\((∃r na nb out g ac bc,c=(some r,na,nb,out,g,ac,bc)/\Rs lt a b r)\/∃na nb out g ac bc,c=(none,na,nb,out,g,ac,bc)/\cq lt a b out na nb/\1<=na/\na<=a.size/\2<=nb/\nb<=b.size/\na+nb+x+2<=a.size+b.size)
 | .yield c=>bT st ag/\∃na nb out g ac bc,c=(none,na,nb,out,g,ac,bc)/\cq lt a b out na nb/\1<=na/\na<=a.size/\2<=nb/\nb<=b.size/\na+nb+x+2<=a.size+b.size
section
variable{a b out:Array Keyed}{na nb g ac bc N:Nat}{Q:ForInStep uj->SortSt->Prop}
theorem LJ(SA:So lt a.toList)(SB:So lt b.toList)(q:Bg lt a b st N Q)(ho:cq lt a b out na nb)(h1:1<=na)(h2:na<=a.size)(h3:2<=nb)(h4:nb<=b.size)(hN:na+nb<=N)(hp:∀p,a[na-1]?= some p->∀y∈b.toList.take nb,Le lt y p) :
  wpS (model prog w) A E s (zy a b na nb out g ac bc) Q st:=by
 unfold zy;refine ap (ZP (by lia) fun p4 w4 e4=>?_);have o4:=ho.kS SA h1 e4 (hp p4 e4);by_cases f1:(na-1 == 0)=true
 ·rw[ah f1];exact ar (q.R _ _ _ _ _ _ _ (o4.nj SB f1))
 rw[af f1];have n4 : ¬ na-1=0:=fun e=>f1 (by simp[e]);have z:=q.N _ _ _ g ac bc o4 (by lia) (by lia) h3 h4 (by lia);by_cases f2:(decide (ac<7)&&decide (bc<7))=true
 ·rw[ah f2];exact ar z.1
 ·rw[af f2];exact ar z.2
theorem yt(o:cK lt)(hc:iz prog w A s κ Ok lt)(hk:kindOf st= κ)(ha:∀p∈a.toList,Ok p)(hb:∀p∈b.toList,Ok p)(gA:∀p,b[0]?= some p->∀y∈a.toList,Le lt p y)(SA:So lt a.toList)(SB:So lt b.toList)(q:Bg lt a b st N Q)(ho:cq lt a b out na nb)(h1:1<=na)(h2:na<=a.size)(h3:2<=nb)(h4:nb<=b.size)(hN:na+nb<=N)(hp:∀p,b[nb-1]?= some p->∀y∈a.toList.take na,Le lt y p)
  {T:Keyed->Option Nat->StateT SortSt Sem (ForInStep uj)} (hT:∀p k,T p (some k)=if nb-1-k > 0 then(if(k == 1)=true then pure (.done (some (b.extract 0 k++a.extract 0 na++(out.push p++(b.extract k (nb-1)).reverse).reverse),na,k,out.push p++(b.extract k (nb-1)).reverse,g,ac,nb-1-k))
     else if(k == 0)=true then pure (.done (some (a.extract 0 na++b.extract 0 k++(out.push p++(b.extract k (nb-1)).reverse).reverse),na,k,out.push p++(b.extract k (nb-1)).reverse,g,ac,nb-1-k))
     else zy a b na k (out.push p++(b.extract k (nb-1)).reverse) g ac (nb-1-k))
    else zy a b na (nb-1) (out.push p) g ac (nb-1-k)) :
  wpS (model prog w) A E s (elem' b (nb-1) >>= fun p=>if(nb-1 == 1)=true then pure (.done (some (b.extract 0 (nb-1)++a.extract 0 na++(out.push p).reverse),na,nb-1,out.push p,g,ac,bc))
   else elem' a (na-1) >>= fun q=>B6 true q b 0 (nb-1) (nb-1-1) >>= T p) Q st:=by
 refine ap (ZP (by lia) fun p3 w3 e3=>?_);have o2:=ho.kT SB (by lia) e3 (hp p3 e3);by_cases c3:(nb-1 == 1)=true
 ·rw[ah c3];exact ar (q.R _ _ _ _ _ _ _ (o2.y' SA SB gA c3))
 rw[af c3];have n3 : ¬ nb-1=1:=fun e=>c3 (by simp[e]);refine ap (ZP (by lia) fun q3 v3 u3=>?_);refine ap (mT o hc hk (ha q3 v3) hb (by lia) (by lia) (pO SB _ _) fun k2 iH G1 G2=>?_);rw[hT];by_cases kR:nb-1-k2 > 0
 ·rw[ah kR];have o3:=o2.pS SB (k:=k2) (by lia) (fun x hx=>uT o SA (by lia) u3 (VO G2 x hx));by_cases c4:(k2 == 1)=true
  ·rw[ah c4];exact ar (q.R _ _ _ _ _ _ _ (o3.y' SA SB gA c4))
  rw[af c4];by_cases c5:(k2 == 0)=true
  ·rw[ah c5];exact ar (q.R _ _ _ _ _ _ _ (o3.su SA c5))
  rw[af c5];have n5 : ¬ k2=1:=fun e=>c4 (by simp[e]);have n6 : ¬ k2=0:=fun e=>c5 (by simp[e]);exact LJ SA SB q o3 h1 h2 (by lia) (by lia) (by lia) fun p e=>by rw[fM e u3];exact Mc G1 o
 ·rw[af kR];exact LJ SA SB q o2 h1 h2 (by lia) (by lia) (by lia) fun p e=>by rw[fM e u3];exact Mc (fun i hi=>G1 i (by lia)) o
end
set_option maxHeartbeats 2000000 in
theorem QL{a b:Array Keyed}{Q:Array Keyed->SortSt->Prop}(o:cK lt)(hc:iz prog w A s κ Ok lt)(hk:kindOf st= κ)(ha:∀p∈a.toList,Ok p)(hb:∀p∈b.toList,Ok p)(NX:1<=a.size)(kC:1<=b.size)(SA:So lt a.toList)(SB:So lt b.toList)(gA:∀p,b[0]?= some p->∀y∈a.toList,Le lt p y)(LA:∀x∈b.toList,∀q,a[a.size-1]?= some q->Le lt x q)
  (h:∀r ag,bT st ag->Rs lt a b r->Q r ag):wpS (model prog w) A E s (Tb a b) Q st:=by
 refine ap (wpS_lift (mH ⟨rfl,?_⟩));refine ap (ZP (by lia) fun p hp he=>?_)
 try dsimp -zeta only
 have o0:cq lt a b #[p] (a.size-1) b.size:=VA SA NX he LA;by_cases c1:(a.size-1 == 0)=true
 ·rw[ah c1];exact ar (h _ _ (bT.refl _) (o0.nj SB c1))
 rw[af c1];by_cases c2:(b.size == 1)=true
 ·rw[ah c2];exact ar (h _ _ (bT.refl _) (o0.y' SA SB gA c2))
 rw[af c2];have n1:1<b.size:=by
  have : ¬ b.size=1:=fun e=>c2 (by simp[e]);lia
 have n2:1<a.size:=by
  have : ¬ a.size-1=0:=fun e=>c1 (by simp[e]);lia
 refine ap (iT ?_);refine ap (dF (dZ (I:=fun x c ag=>bT st ag/\∃na nb out g,c=(none,na,nb,out,g)/\cq lt a b out na nb/\1<=na/\na<=a.size/\2<=nb/\nb<=b.size/\na+nb+x+1<=a.size+b.size)
  (Q:=fun c ag=>bT st ag/\∃r na nb out g,c=(some r,na,nb,out,g)/\Rs lt a b r) ?_ ?_ ⟨bT.refl _,_,_,_,_,rfl,o0,by lia,by lia,by lia,by lia,by lia⟩) ?_)
 ·rintro x c bx _ hx ⟨lk,na,nb,out,g,rfl,ho,h1,h2,h3,h4,dR⟩
  try dsimp -zeta only
  refine ap (dF (dZ (I:=fun y c ag=>bT st ag/\∃na nb out ac bc,c=(none,na,nb,out,ac,bc)/\cq lt a b out na nb/\1<=na/\na<=a.size/\2<=nb/\nb<=b.size/\na+nb+x+1+(if y=0 then 0 else 1)<=a.size+b.size)
   (Q:=fun c ag=>bT st ag/\((∃r na nb out ac bc,c=(some r,na,nb,out,ac,bc)/\Rs lt a b r)\/∃na nb out ac bc,c=(none,na,nb,out,ac,bc)/\cq lt a b out na nb/\1<=na/\na<=a.size/\2<=nb/\nb<=b.size/\na+nb+x+2<=a.size+b.size)) ?_ ?_ ⟨lk,na,nb,out,0,0,rfl,ho,h1,h2,h3,h4,by simp;lia⟩) ?_)
  ·rintro y c aF _ hy ⟨di,na,nb,out,ac,bc,rfl,ho,h1,h2,h3,h4,dR⟩;have Zsu:na+nb+x+1<=a.size+b.size:=by split at dR <;> lia
   try dsimp only
   refine ap (ZP (by lia) fun p hp ep=>?_);refine ap (ZP (by lia) fun q hq eq=>?_);refine ap (uM hc (di.kind.trans hk) (hb p hp) (ha q hq) ?_);cases vI:lt p q with
   | true =>
    try dsimp only
    rw[ah rfl];refine ap (ZP (by lia) fun p2 bG iB=>?_);have o1:=ho.kS SA h1 iB (by rw[fM iB eq];exact uT o SB (by lia) ep (o.gF vI));by_cases d1:(na-1 == 0)=true
    ·rw[ah d1];exact ar ⟨di,.inl ⟨_,_,_,_,_,_,rfl,(o1.nj SB d1)⟩⟩
    rw[af d1];have m1 : ¬ na-1=0:=fun e=>d1 (by simp[e]);by_cases d2:ac+1>=g
    ·rw[ah d2];exact ar ⟨di,.inr ⟨_,_,_,_,_,rfl,o1,by lia,by lia,h3,h4,by lia⟩⟩
    ·rw[af d2];exact ar ⟨di,_,_,_,_,_,rfl,o1,by lia,by lia,h3,h4,by rw[af (by lia)];lia⟩
   | false =>
    try dsimp only
    rw[af bb];refine ap (ZP (by lia) fun p2 bG iB=>?_);have o1:=ho.kT SB (by lia) iB (by rw[fM iB ep];exact uT o SA h1 eq vI);by_cases d1:(nb-1 == 1)=true
    ·rw[ah d1];exact ar ⟨di,.inl ⟨_,_,_,_,_,_,rfl,(o1.y' SA SB gA d1)⟩⟩
    rw[af d1];have m1 : ¬ nb-1=1:=fun e=>d1 (by simp[e]);by_cases d2:bc+1>=g
    ·rw[ah d2];exact ar ⟨di,.inr ⟨_,_,_,_,_,rfl,o1,h1,h2,by lia,by lia,by lia⟩⟩
    ·rw[af d2];exact ar ⟨di,_,_,_,_,_,rfl,o1,h1,h2,by lia,by lia,by rw[af (by lia)];lia⟩
  ·rintro c aF ⟨di,na,nb,out,ac,bc,rfl,ho,h1,h2,h3,h4,dR⟩;refine⟨di,.inr ⟨_,_,_,_,_,rfl,ho,h1,h2,h3,h4,?_⟩⟩;rw[af (by lia)] at dR;lia
  ·rintro c aF ⟨di,⟨r,na,nb,out,ac,bc,rfl,hr⟩|⟨na,nb,out,ac,bc,rfl,ho,h1,h2,h3,h4,dR⟩⟩
   ·exact ar ⟨di,_,_,_,_,_,rfl,hr⟩
   try dsimp -zeta only
   refine ap (wpS_lift (mH ⟨rfl,?_⟩))
   try dsimp -zeta only
   refine ap (dF (dZ (I:=fun y c ag=>bT st ag/\∃na nb out g ac bc,c=(none,na,nb,out,g,ac,bc)/\cq lt a b out na nb/\1<=na/\na<=a.size/\2<=nb/\nb<=b.size/\na+nb+x+2<=a.size+b.size)
    (Q:=fun c ag=>bT st ag/\((∃r na nb out g ac bc,c=(some r,na,nb,out,g,ac,bc)/\Rs lt a b r)\/∃na nb out g ac bc,c=(none,na,nb,out,g,ac,bc)/\cq lt a b out na nb/\1<=na/\na<=a.size/\2<=nb/\nb<=b.size/\na+nb+x+2<=a.size+b.size)) ?_ ?_ ⟨di,na,nb,out,_,_,_,rfl,ho,h1,h2,h3,h4,dR⟩) ?_)
   ·rintro y c aS _ hy ⟨gG,na,nb,out,g3,ac,bc,rfl,ho,h1,h2,h3,h4,dR⟩
    try dsimp only
    refine dF (Q:=IM lt a b st x) ?_ (fun r ag h=>by cases r <;> exact h)
    have nQ:∀{aU},bT st aU->Bg lt a b aU (na+nb) (IM lt a b st x):=fun bI=>⟨fun r na nb out g ac bc hr=>⟨bI,.inl ⟨r,na,nb,out,g,ac,bc,rfl,hr⟩⟩,fun na nb out g ac bc ho h1 h2 h3 h4 hN=>⟨⟨bI,.inr ⟨na,nb,out,g,ac,bc,rfl,ho,h1,h2,h3,h4,by lia⟩⟩,⟨bI,na,nb,out,g,ac,bc,rfl,ho,h1,h2,h3,h4,by lia⟩⟩⟩;by_cases g1:g3 > 1
    ·rw[ah g1];refine ap (gc ?_);have bI:=gG.trans (rg aS (g3-1));refine ap (ZP (by lia) fun p0 w0 e0=>?_);refine ap (mT o hc (bI.kind.trans hk) (hb p0 w0) ha (by lia) (by lia) (pO SA _ _) fun k sP F1 F2=>?_);dsimp only;by_cases k0:na-k > 0
     ·rw[ah k0];have o1:=ho.lW SA (k:=k) (by lia) (fun x hx=>uT o SB (by lia) e0 (Mh F2 o x hx));by_cases c1:(k == 0)=true
      ·rw[ah c1];exact ar ⟨bI,.inl ⟨_,_,_,_,_,_,_,rfl,(o1.nj SB c1)⟩⟩
      rw[af c1];have n1 : ¬ k=0:=fun e=>c1 (by simp[e]);refine yt o hc (bI.kind.trans hk) ha hb gA SA SB (N:=na+nb) (nQ bI) o1 (by lia) (by lia) h3 h4 (by lia) (fun p e=>by rw[fM e e0];exact yi F1) ?_;exact fun _ _=>rfl
     ·rw[af k0];refine yt o hc (bI.kind.trans hk) ha hb gA SA SB (N:=na+nb) (nQ bI) ho h1 h2 h3 h4 (az _) (fun p e=>by rw[fM e e0];exact yi fun i hi=>F1 i (by lia)) ?_;exact fun _ _=>rfl
    ·rw[af g1];refine ap (gc ?_);have bI:=gG.trans (rg aS g3);refine ap (ZP (by lia) fun p0 w0 e0=>?_);refine ap (mT o hc (bI.kind.trans hk) (hb p0 w0) ha (by lia) (by lia) (pO SA _ _) fun k sP F1 F2=>?_);dsimp only;by_cases k0:na-k > 0
     ·rw[ah k0];have o1:=ho.lW SA (k:=k) (by lia) (fun x hx=>uT o SB (by lia) e0 (Mh F2 o x hx));by_cases c1:(k == 0)=true
      ·rw[ah c1];exact ar ⟨bI,.inl ⟨_,_,_,_,_,_,_,rfl,(o1.nj SB c1)⟩⟩
      rw[af c1];have n1 : ¬ k=0:=fun e=>c1 (by simp[e]);refine yt o hc (bI.kind.trans hk) ha hb gA SA SB (N:=na+nb) (nQ bI) o1 (by lia) (by lia) h3 h4 (by lia) (fun p e=>by rw[fM e e0];exact yi F1) ?_;exact fun _ _=>rfl
     ·rw[af k0];refine yt o hc (bI.kind.trans hk) ha hb gA SA SB (N:=na+nb) (nQ bI) ho h1 h2 h3 h4 (az _) (fun p e=>by rw[fM e e0];exact yi fun i hi=>F1 i (by lia)) ?_;exact fun _ _=>rfl
   ·rintro c aS ⟨gG,na,nb,out,g3,ac,bc,rfl,ho,h1,h2,h3,h4,dR⟩;exact⟨gG,.inr ⟨_,_,_,_,_,_,rfl,ho,h1,h2,h3,h4,dR⟩⟩
   ·rintro c aS ⟨gG,⟨r,na,nb,out,g3,ac,bc,rfl,hr⟩|⟨na,nb,out,g3,ac,bc,rfl,ho,h1,h2,h3,h4,dR⟩⟩
    ·exact ar ⟨gG,_,_,_,_,_,rfl,hr⟩
    ·try dsimp only
     refine ap (gc ?_);exact ar ⟨gG.trans (rg _ _),_,_,_,_,rfl,ho,h1,h2,h3,h4,by lia⟩
 ·rintro c bx ⟨lk,na,nb,out,g,rfl,ho,h1,h2,h3,h4,hx⟩;exfalso;lia
 ·rintro c bx ⟨lk,r,na,nb,out,g,rfl,hr⟩;exact ar (h r bx lk hr)
end
structure Pl(lo hi:Nat)(st ag:SortSt):Prop where
 pm:Pm st ag
 out:∀i,i<lo\/hi<=i->(arrOf ag)[i]?= (arrOf st)[i]?
theorem Pl.refl(lo hi:Nat)(st:SortSt):Pl lo hi st st:=⟨Pm.refl _,fun _ _=>rfl⟩
theorem Pl.trans{lo hi:Nat}{a b c:SortSt}(x:Pl lo hi a b)(y:Pl lo hi b c):Pl lo hi a c:=⟨x.pm.trans y.pm,fun i h=>(y.out i h).trans (x.out i h)⟩
theorem Pl.mirror{lo hi i j:Nat}(st:SortSt)(h1:lo<=i)(h2:j<=hi)(hj:j<=(arrOf st).size):Pl lo hi st (setArr st (mirror (arrOf st) i j ((j-i) / 2))):=⟨Pm.mirror st i j,fun k hk=>by
 show(PyProof.Rows.mirror (arrOf st) i j ((j-i) / 2))[k]?= _;rw[lh hj,af (by lia)]⟩
theorem Pl.bubble{lo hi src dst:Nat}(st:SortSt)(h1:lo<=dst)(h2:dst<=src)(h3:src<hi)(hs:src<(arrOf st).size):Pl lo hi st (setArr st (bubble (arrOf st) src (src-dst))):=⟨Pm.bubble st src dst,fun k hk=>by
 show(PyProof.Rows.bubble (arrOf st) src (src-dst))[k]?= _;rw[getElem?_bubble hs _ (by lia),af (by lia),af (by lia)]⟩
section
variable{lt:Keyed->Keyed->Bool}{arr:Array Keyed}{lo hi m:Nat}{p q:Keyed}
def Dn(lt:Keyed->Keyed->Bool)(arr:Array Keyed)(i j:Nat):Prop := ∀x y p q,i<=x->x<y->y<j->arr[x]?= some p->arr[y]?= some q->Le lt q p
def Eqv(lt:Keyed->Keyed->Bool)(arr:Array Keyed)(i j:Nat):Prop := ∀x y p q,i<=x->x<j->i<=y->y<j->arr[x]?= some p->arr[y]?= some q->Le lt p q
theorem LX:Up lt arr lo (lo+1):=fun x y _ _ h1 h2 h3=>by lia
theorem U8:Dn lt arr lo (lo+1):=fun x y _ _ h1 h2 h3=>by lia
theorem Up.ext(o:cK lt)(h:Up lt arr lo m)(hm:lo<m)(hp:arr[m-1]?= some p)(hq:arr[m]?= some q)(hle:Le lt p q):Up lt arr lo (m+1):=fun x y u v h1 h2 h3 eu ev=>by
 by_cases hy:y<m
 ·exact h x y u v h1 h2 hy eu ev
 obtain rfl:y=m:=by lia
 rw[hq] at ev;cases ev;by_cases hx:x=y-1
 ·rw[hx,hp] at eu;cases eu;exact hle
 ·exact o.le_trans (h x (y-1) u p h1 (by lia) (by lia) eu hp) hle
theorem Dn.ext(o:cK lt)(h:Dn lt arr lo m)(hm:lo<m)(hp:arr[m-1]?= some p)(hq:arr[m]?= some q)(hle:Le lt q p):Dn lt arr lo (m+1):=fun x y u v h1 h2 h3 eu ev=>by
 by_cases hy:y<m
 ·exact h x y u v h1 h2 hy eu ev
 obtain rfl:y=m:=by lia
 rw[hq] at ev;cases ev;by_cases hx:x=y-1
 ·rw[hx,hp] at eu;cases eu;exact hle
 ·exact o.le_trans hle (h x (y-1) u p h1 (by lia) (by lia) eu hp)
theorem Dn.mirror(h:Dn lt arr lo hi)(hs:hi<=arr.size):Up lt (mirror arr lo hi ((hi-lo) / 2)) lo hi:=fun x y u v h1 h2 h3 eu ev=>by
 rw[lh hs,ah (by lia)] at eu ev;exact h (lo+hi-1-y) (lo+hi-1-x) v u (by lia) (by lia) (by lia) ev eu
theorem Up.mirror(h:Up lt arr lo hi)(hs:hi<=arr.size):Dn lt (mirror arr lo hi ((hi-lo) / 2)) lo hi:=fun x y u v h1 h2 h3 eu ev=>by
 rw[lh hs,ah (by lia)] at eu ev;exact h (lo+hi-1-y) (lo+hi-1-x) v u (by lia) (by lia) (by lia) ev eu
theorem Dn.turn(h:Dn lt arr lo hi)(he:Eqv lt arr m hi)(hm:lo<=m)(hs:hi<=arr.size):Dn lt (PyProof.Rows.mirror arr m hi ((hi-m) / 2)) lo hi:=fun x y u v h1 h2 h3 eu ev=>by
 rw[lh hs] at eu ev;by_cases hy:m<=y/\y<hi
 ·rw[ah hy] at ev;by_cases hx:m<=x/\x<hi
  ·rw[ah hx] at eu;exact he _ _ _ _ (by lia) (by lia) (by lia) (by lia) ev eu
  ·rw[af hx] at eu;exact h x (m+hi-1-y) u v h1 (by lia) (by lia) eu ev
 ·rw[af hy] at ev;rw[af (by lia)] at eu;exact h x y u v h1 h2 h3 eu ev
end
section
variable{prog:Program}{w:World}{A:Around}{E:Value->Shared->Prop}{s:Shared}{κ : SortKind}{Ok:Keyed->Prop}{st:SortSt}{lt:Keyed->Keyed->Bool}
theorem ju{i j:Nat}{Q:Option Bool->SortSt->Prop}(hc:iz prog w A s κ Ok lt)(hk:kindOf st= κ)(ho:∀p∈(arrOf st).toList,Ok p)(hi:i<(arrOf st).size)(hj:j<(arrOf st).size)(h:∀p q,(arrOf st)[i]?= some p->(arrOf st)[j]?= some q->Q (some (lt p q)) st):wpS (model prog w) A E s (ltAt' i j) Q st:=by
 rw[ltAt'_eq];refine ap (iT ?_);refine ap (ZP hi fun p hp e1=>ap (ZP hj fun q hq e2=>?_));exact uM hc hk (ho p hp) (ho q hq) (h p q e1 e2)
theorem lM{i j:Nat}{Q:PUnit->SortSt->Prop}(h:Q ⟨⟩ (setArr st (mirror (arrOf st) i j ((j-i) / 2)))):wpS (model prog w) A E s (reverseSlice' i j) Q st:=by
 rw[reverseSlice'_eq];exact gc h
theorem RU{i j:Nat}{Q:PUnit->SortSt->Prop}(h:Q ⟨⟩ (setArr st (bubble (arrOf st) i (i-j)))):wpS (model prog w) A E s (moveDown' i j) Q st:=by
 rw[moveDown'_eq];exact gc h
theorem V0(o:cK lt){arr:Array Keyed}{lo k l:Nat}{pv:Keyed}(h:Up lt arr lo (lo+k))(hs:lo+k<arr.size)(hl:l<=k)(ep:arr[lo+k]?= some pv)(h1:∀i p,i<l->arr[lo+i]?= some p->Le lt p pv)(h2:∀i p,l<=i->i<k->arr[lo+i]?= some p->lt pv p=true) :
  Up lt (bubble arr (lo+k) (lo+k-(lo+l))) lo (lo+k+1):=fun x y u v a1 a2 a3 eu ev=>by
 rw[getElem?_bubble hs _ (by lia)] at eu ev;rw[show lo+k-(lo+k-(lo+l))=lo+l by lia] at eu ev;by_cases hy:y=lo+l
 ·rw[ah hy,ep] at ev;cases ev;rw[af (by lia),af (by lia)] at eu;exact h1 (x-lo) u (by lia) (by rw[show lo+(x-lo)=x by lia];exact eu)
 rw[af hy] at ev;by_cases hx:x=lo+l
 ·rw[ah hx,ep] at eu;cases eu;rw[ah (by lia)] at ev;exact o.gF (h2 (y-1-lo) v (by lia) (by lia) (by rw[show lo+(y-1-lo)=y-1 by lia];exact ev))
 rw[af hx] at eu;by_cases hG:lo+l<y/\y<=lo+k
 ·rw[ah hG] at ev;by_cases fB:lo+l<x/\x<=lo+k
  ·rw[ah fB] at eu;exact h (x-1) (y-1) u v (by lia) (by lia) (by lia) eu ev
  ·rw[af fB] at eu;exact h x (y-1) u v (by lia) (by lia) (by lia) eu ev
 ·rw[af hG] at ev;rw[af (by lia)] at eu;exact h x y u v (by lia) (by lia) (by lia) eu ev
set_option maxHeartbeats 1000000 in
theorem Q0{lo n ok:Nat}{Q:Bool->SortSt->Prop}(o:cK lt)(hc:iz prog w A s κ Ok lt)(hk:kindOf st= κ)(ho:∀p∈(arrOf st).toList,Ok p)(hn:lo+n<=(arrOf st).size)(aq:ok<=n)(FO:1<=n)(hu:Up lt (arrOf st) lo (lo+ok))(h:∀ag,Pl lo (lo+n) st ag->Up lt (arrOf ag) lo (lo+n)->Q true ag):wpS (model prog w) A E s (binarySort' lo n ok) Q st:=by
 have hu0:Up lt (arrOf st) lo (lo+max ok 1):=by
  by_cases h0:ok=0
  ·rw[h0];exact LX
  ·rw[show max ok 1=ok by lia];exact hu
 refine ap (dF (dZ (I:=fun x c ag=>c=(none,())/\Pl lo (lo+n) st ag/\Up lt (arrOf ag) lo (lo+x)) (Q:=fun c ag=>c=(none,())/\Pl lo (lo+n) st ag/\Up lt (arrOf ag) lo (lo+n)) ?_ ?_ ⟨rfl,Pl.refl _ _ _,hu0⟩) ?_)
 ·rintro k c bx sP me ⟨rfl,pl,u1⟩
  try dsimp only
  have hsz:=pl.pm.size;obtain⟨pv,NC⟩:∃pv,(arrOf bx)[lo+k]?= some pv:=⟨_,jo _ (lo+k) (by lia)⟩;refine ap (dF (dZ (I:=fun y c ag=>ag=bx/\∃l r,c=(none,l,r)/\l<=r/\r<=k/\(∀i p,i<l->(arrOf bx)[lo+i]?= some p->Le lt p pv)/\(∀i p,r<=i->i<k->(arrOf bx)[lo+i]?= some p->lt pv p=true)/\r-l+y<=k)
   (Q:=fun c ag=>ag=bx/\∃l r,c=(none,l,r)/\l=r/\r<=k/\(∀i p,i<l->(arrOf bx)[lo+i]?= some p->Le lt p pv)/\(∀i p,r<=i->i<k->(arrOf bx)[lo+i]?= some p->lt pv p=true)) ?_ ?_ ⟨rfl,0,k,rfl,by lia,by lia,fun i p hi=>by lia,fun i p h1 h2=>by lia,by lia⟩) ?_)
  ·rintro y c aF _ _ ⟨rfl,l,r,rfl,h1,h2,h3,h4,h5⟩
   try dsimp only
   by_cases Oi:l>=r
   ·rw[ah Oi];exact ar ⟨rfl,l,r,rfl,by lia,h2,h3,h4⟩
   rw[af Oi];refine ap (ju hc (pl.pm.kind.trans hk) (pl.pm.ok ho) (by lia) (by lia) fun p q e1 e2=>?_);rw[NC] at e1;cases e1;cases hb:lt pv q with
   | true =>
    refine ar ⟨rfl,_,_,rfl,by lia,by lia,h3,fun i p kH FI ei=>?_,by lia⟩;by_cases e:i=(l+r) / 2
    ·rw[e,e2] at ei;cases ei;exact hb
    ·exact o.Zto hb (u1 _ _ q p (by lia) (show lo+(l+r) / 2<lo+i by lia) (by lia) e2 ei)
   | false =>
    refine ar ⟨rfl,_,_,rfl,by lia,by lia,fun i p kH ei=>?_,h4,by lia⟩;by_cases e:i=(l+r) / 2
    ·rw[e,e2] at ei;cases ei;exact hb
    ·exact o.le_trans (u1 _ _ p q (by lia) (show lo+i<lo+(l+r) / 2 by lia) (by lia) ei e2) hb
  ·rintro c aF ⟨rfl,l,r,rfl,h1,h2,h3,h4,h5⟩;exact⟨rfl,l,r,rfl,by lia,h2,h3,h4⟩
  ·rintro c aF ⟨rfl,l,r,rfl,rfl,h2,h3,h4⟩
   try dsimp only
   refine ap (RU ?_);exact ar ⟨rfl,pl.trans (Pl.bubble aF (by lia) (by lia) (by lia) (by lia)),V0 o u1 (by lia) h2 NC h3 h4⟩
 ·rintro c bx ⟨rfl,pl,u1⟩;rw[show max (max ok 1) n=n by lia] at u1;exact⟨rfl,pl,u1⟩
 ·rintro c bx ⟨rfl,pl,u1⟩;exact ar (h bx pl u1)
set_option maxHeartbeats 4000000 in
theorem R7{lo bQ:Nat}{Q:Option Nat->SortSt->Prop}(o:cK lt)(hc:iz prog w A s κ Ok lt)(hk:kindOf st= κ)(ho:∀p∈(arrOf st).toList,Ok p)(h1:1<=bQ)(hn:lo+bQ<=(arrOf st).size)(h:∀n ag,1<=n->n<=bQ->Pl lo (lo+bQ) st ag->Up lt (arrOf ag) lo (lo+n)->Q (some n) ag):wpS (model prog w) A E s (countRun' lo bQ) Q st:=by
 refine ap (dF (dZ (I:=fun x c ag=>ag=st/\∃n,c=(none,n)/\n=x/\Up lt (arrOf st) lo (lo+n)) (Q:=fun c ag=>ag=st/\∃n,c=(none,n)/\1<=n/\n<=bQ/\Up lt (arrOf st) lo (lo+n)/\(n=bQ\/∀p q,(arrOf st)[lo+n]?= some p->(arrOf st)[lo+n-1]?= some q->lt p q=true)) ?_ ?_ ⟨rfl,1,rfl,rfl,LX⟩) ?_)
 ·rintro x c bx kM hx ⟨rfl,n,rfl,rfl,u1⟩
  try dsimp only
  refine ap (ju hc hk ho (by lia) (by lia) fun p q e1 e2=>?_);cases hb:lt p q with
  | true=>exact ar ⟨rfl,n,rfl,by lia,by lia,u1,.inr fun p' q' f1 f2=>by rw[e1] at f1;rw[e2] at f2;cases f1;cases f2;exact hb⟩
  | false=>exact ar ⟨rfl,n+1,rfl,rfl,u1.ext (m:=lo+n) o (by lia) e2 e1 hb⟩
 ·rintro c bx ⟨rfl,n,rfl,rfl,u1⟩;exact⟨rfl,_,rfl,by lia,by lia,u1,.inl (by lia)⟩
 ·rintro c bx ⟨rfl,n,rfl,n1,n2,u1,Zsa⟩
  try dsimp only
  by_cases e1:(n == bQ)=true
  ·rw[ah e1];exact ar (h n bx n1 n2 (Pl.refl _ _ _) u1)
  rw[af e1];have n3:n<bQ:=by
   have : ¬ n=bQ:=fun e=>e1 (by simp[e]);lia
  have Zsb:=Zsa.resolve_left (by lia);obtain⟨pn,EW⟩:∃p,(arrOf bx)[lo+n]?= some p:=⟨_,jo _ (lo+n) (by lia)⟩;obtain⟨pm,EV⟩:∃p,(arrOf bx)[lo+n-1]?= some p:=⟨_,jo _ (lo+n-1) (by lia)⟩;have Oh:=Zsb pn pm EW EV;by_cases e2:n > 1
  ·rw[ah e2];refine ap (ju hc hk ho (by lia) (by lia) fun p q f1 f2=>?_);cases hb:lt p q with
   | true =>
    try dsimp only
    rw[ah rfl];exact ar (h n bx n1 n2 (Pl.refl _ _ _) u1)
   | false =>
    try dsimp only
    rw[af bb];refine ap (lM ?_);have p2:=Pl.mirror (lo:=lo) (hi:=lo+bQ) (i:=lo) (j:=lo+n) bx (by lia) (by lia) (by lia);have d2:Dn lt (arrOf (setArr bx (mirror (arrOf bx) lo (lo+n) ((lo+n-lo) / 2)))) lo (lo+n):=u1.mirror (by lia);have d3:Dn lt (arrOf (setArr bx (mirror (arrOf bx) lo (lo+n) ((lo+n-lo) / 2)))) lo (lo+(n+1)):=by
     refine d2.ext (m:=lo+n) o (by lia) (p:=p) (q:=pn) ?_ ?_ ?_
     ·show(mirror (arrOf bx) lo (lo+n) ((lo+n-lo) / 2))[lo+n-1]?= some p;rw[lh (by lia),ah (by lia),show lo+(lo+n)-1-(lo+n-1)=lo by lia];exact f1
     ·show(mirror (arrOf bx) lo (lo+n) ((lo+n-lo) / 2))[lo+n]?= some pn;rw[lh (by lia),af (by lia)];exact EW
     ·rw[EV] at f2;cases f2;exact o.le_trans (o.gF Oh) hb
    generalize setArr bx (mirror (arrOf bx) lo (lo+n) ((lo+n-lo) / 2))=aF at p2 d3;refine ap (wpS_lift (mH ⟨rfl,?_⟩));refine ap (dF (dZ (I:=fun x c ag=>Pl lo (lo+bQ) bx ag/\∃n q,c=(none,n,q)/\n=x/\1<=n/\q+1<=n/\Dn lt (arrOf ag) lo (lo+n)/\Eqv lt (arrOf ag) (lo+n-(q+1)) (lo+n)) (Q:=fun c ag=>Pl lo (lo+bQ) bx ag/\∃n q,c=(none,n,q)/\1<=n/\n<=bQ/\q+1<=n/\Dn lt (arrOf ag) lo (lo+n)/\Eqv lt (arrOf ag) (lo+n-(q+1)) (lo+n)) ?_ ?_ ⟨p2,n+1,0,rfl,rfl,by lia,by lia,d3,fun x y u v a1 a2 a3 a4 eu ev=>by obtain rfl:x=y:=(by lia);rw[eu] at ev;cases ev;exact o.le_refl _⟩) ?_)
    ·rintro x c aS kM hx ⟨p3,n,q,rfl,rfl,m1,m2,d3,q3⟩;have z3:=p3.pm.size
     try dsimp only
     refine ap (ju hc (p3.pm.kind.trans hk) (p3.pm.ok ho) (by lia) (by lia) fun p1 p0 e1 e0=>?_);cases hb:lt p1 p0 with
     | true =>
      try dsimp only
      rw[ah rfl];by_cases q0:q > 0
      ·rw[ah q0];refine ap (lM ?_);have p4:=Pl.mirror (lo:=lo) (hi:=lo+bQ) (i:=lo+n-(q+1)) (j:=lo+n) aS (by lia) (by lia) (by lia);have d4:=d3.turn q3 (by lia) (by lia);refine ar ⟨p3.trans p4,n+1,0,rfl,rfl,by lia,by lia,?_,fun x y u v a1 a2 a3 a4 eu ev=>by obtain rfl:x=y:=(by lia);rw[eu] at ev;cases ev;exact o.le_refl _⟩;obtain⟨p5,e5⟩:∃p5,(arrOf (setArr aS (mirror (arrOf aS) (lo+n-(q+1)) (lo+n) ((lo+n-(lo+n-(q+1))) / 2))))[lo+n-1]?= some p5:=⟨_,jo _ (lo+n-1) (by show _<(mirror _ _ _ _).size;rw[mirror_size];lia)⟩;refine d4.ext (m:=lo+n) o (by lia) e5 (q:=p1) ?_ ?_
       ·show(mirror (arrOf aS) (lo+n-(q+1)) (lo+n) ((lo+n-(lo+n-(q+1))) / 2))[lo+n]?= some p1;rw[lh (by lia),af (by lia)];exact e1
       ·have e6:(mirror (arrOf aS) (lo+n-(q+1)) (lo+n) ((lo+n-(lo+n-(q+1))) / 2))[lo+n-1]?= some p5:=e5;rw[lh (by lia),ah (by lia)] at e6;exact o.le_trans (o.gF hb) (q3 _ _ p0 p5 (show lo+n-(q+1)<=lo+n-1 by lia) (by lia) (by lia) (by lia) e0 e6)
      ·rw[af q0];exact ar ⟨p3,n+1,0,rfl,rfl,by lia,by lia,d3.ext (m:=lo+n) o (by lia) e0 e1 (o.gF hb),fun x y u v a1 a2 a3 a4 eu ev=>by obtain rfl:x=y:=(by lia);rw[eu] at ev;cases ev;exact o.le_refl _⟩
     | false =>
      try dsimp only
      rw[af bb];refine ap (ju hc (p3.pm.kind.trans hk) (p3.pm.ok ho) (by lia) (by lia) fun P9 P' mK mL=>?_);rw[e0] at mK;rw[e1] at mL;cases mK;cases mL;cases dw:lt p0 p1 with
      | true=>exact ar ⟨p3,n,q,rfl,m1,by lia,m2,d3,q3⟩
      | false =>
       refine ar ⟨p3,n+1,q+1,rfl,rfl,by lia,by lia,d3.ext (m:=lo+n) o (by lia) e0 e1 dw,fun x y u v a1 a2 a3 a4 eu ev=>?_⟩;have one:∀x u,lo+(n+1)-(q+1+1)<=x->x<lo+(n+1)->(arrOf aS)[x]?= some u->Le lt u p0/\Le lt p0 u:=fun x u a1 a2 eu=>by
        by_cases hx:x=lo+n
        ·rw[hx,e1] at eu;cases eu;exact⟨dw,hb⟩
        ·exact⟨q3 x (lo+n-1) u p0 (by lia) (by lia) (by lia) (by lia) eu e0,q3 (lo+n-1) x p0 u (by lia) (by lia) (by lia) (by lia) e0 eu⟩
       exact o.le_trans (one x u a1 a2 eu).1 (one y v a3 a4 ev).2
    ·rintro c aS ⟨p3,n',q,rfl,rfl,m1,m2,d3,q3⟩;exact⟨p3,_,q,rfl,m1,by lia,m2,d3,q3⟩
    ·rintro c aS ⟨p3,n,q,rfl,m1,mn,m2,d3,q3⟩;have z3:=p3.pm.size
     try dsimp only
     by_cases q0:q > 0
     ·rw[ah q0];refine ap (lM ?_);have p4:=Pl.mirror (lo:=lo) (hi:=lo+bQ) (i:=lo+n-(q+1)) (j:=lo+n) aS (by lia) (by lia) (by lia);have d4:=d3.turn q3 (by lia) (by lia);have z4:=p4.pm.size;generalize F':setArr aS (mirror (arrOf aS) (lo+n-(q+1)) (lo+n) ((lo+n-(lo+n-(q+1))) / 2))=aU at p4 z4;have d5:Dn lt (arrOf aU) lo (lo+n):=by rw[<- F'];exact d4
      refine ap (lM ?_);have p6:=(p3.trans p4).trans (Pl.mirror (lo:=lo) (hi:=lo+bQ) (i:=lo) (j:=lo+n) aU (by lia) (by lia) (by lia));have u6:Up lt (arrOf (setArr aU (mirror (arrOf aU) lo (lo+n) ((lo+n-lo) / 2)))) lo (lo+n):=d5.mirror (by lia);have z6:=p6.pm.size;generalize setArr aU (mirror (arrOf aU) lo (lo+n) ((lo+n-lo) / 2))=cN at p6 u6 z6;refine ap (dF (dZ (I:=fun x c ag=>ag=cN/\∃k,c=(none,k)/\k=x/\Up lt (arrOf cN) lo (lo+k)) (Q:=fun c ag=>ag=cN/\∃k,c=(none,k)/\n<=k/\k<=bQ/\Up lt (arrOf cN) lo (lo+k)) ?_ ?_ ⟨rfl,n,rfl,rfl,u6⟩) ?_)
      ·rintro x c gJ kM fB ⟨rfl,k,rfl,rfl,u7⟩
       try dsimp only
       refine ap (ju hc (p6.pm.kind.trans hk) (p6.pm.ok ho) (by lia) (by lia) fun p q e1 e2=>?_);cases hb:lt p q with
       | true=>exact ar ⟨rfl,k,rfl,by lia,by lia,u7⟩
       | false=>exact ar ⟨rfl,k+1,rfl,rfl,u7.ext (m:=lo+k) o (by lia) e2 e1 hb⟩
      ·rintro c gJ ⟨rfl,k,rfl,rfl,u7⟩;exact⟨rfl,max n bQ,rfl,by lia,by lia,u7⟩
      ·rintro c gJ ⟨rfl,k,rfl,k1,k2,u7⟩;exact ar (h k _ (by lia) k2 p6 u7)
     ·rw[af q0];refine ap (lM ?_);have p6:=p3.trans (Pl.mirror (lo:=lo) (hi:=lo+bQ) (i:=lo) (j:=lo+n) aS (by lia) (by lia) (by lia));have u6:Up lt (arrOf (setArr aS (mirror (arrOf aS) lo (lo+n) ((lo+n-lo) / 2)))) lo (lo+n):=d3.mirror (by lia);have z6:=p6.pm.size;generalize setArr aS (mirror (arrOf aS) lo (lo+n) ((lo+n-lo) / 2))=cN at p6 u6 z6;refine ap (dF (dZ (I:=fun x c ag=>ag=cN/\∃k,c=(none,k)/\k=x/\Up lt (arrOf cN) lo (lo+k)) (Q:=fun c ag=>ag=cN/\∃k,c=(none,k)/\n<=k/\k<=bQ/\Up lt (arrOf cN) lo (lo+k)) ?_ ?_ ⟨rfl,n,rfl,rfl,u6⟩) ?_)
      ·rintro x c gJ kM fB ⟨rfl,k,rfl,rfl,u7⟩
       try dsimp only
       refine ap (ju hc (p6.pm.kind.trans hk) (p6.pm.ok ho) (by lia) (by lia) fun p q e1 e2=>?_);cases hb:lt p q with
       | true=>exact ar ⟨rfl,k,rfl,by lia,by lia,u7⟩
       | false=>exact ar ⟨rfl,k+1,rfl,rfl,u7.ext (m:=lo+k) o (by lia) e2 e1 hb⟩
      ·rintro c gJ ⟨rfl,k,rfl,rfl,u7⟩;exact⟨rfl,max n bQ,rfl,by lia,by lia,u7⟩
      ·rintro c gJ ⟨rfl,k,rfl,k1,k2,u7⟩;exact ar (h k _ (by lia) k2 p6 u7)
  ·rw[af e2];have p2:=Pl.refl lo (lo+bQ) bx;have d3:Dn lt (arrOf bx) lo (lo+(n+1)):=by
    obtain rfl:n=1:=by lia
    exact U8.ext (m:=lo+1) o (by lia) EV EW (o.gF Oh)
   refine ap (wpS_lift (mH ⟨rfl,?_⟩));refine ap (dF (dZ (I:=fun x c ag=>Pl lo (lo+bQ) bx ag/\∃n q,c=(none,n,q)/\n=x/\1<=n/\q+1<=n/\Dn lt (arrOf ag) lo (lo+n)/\Eqv lt (arrOf ag) (lo+n-(q+1)) (lo+n)) (Q:=fun c ag=>Pl lo (lo+bQ) bx ag/\∃n q,c=(none,n,q)/\1<=n/\n<=bQ/\q+1<=n/\Dn lt (arrOf ag) lo (lo+n)/\Eqv lt (arrOf ag) (lo+n-(q+1)) (lo+n)) ?_ ?_ ⟨p2,n+1,0,rfl,rfl,by lia,by lia,d3,fun x y u v a1 a2 a3 a4 eu ev=>by obtain rfl:x=y:=(by lia);rw[eu] at ev;cases ev;exact o.le_refl _⟩) ?_)
   ·rintro x c aS kM hx ⟨p3,n,q,rfl,rfl,m1,m2,d3,q3⟩;have z3:=p3.pm.size
    try dsimp only
    refine ap (ju hc (p3.pm.kind.trans hk) (p3.pm.ok ho) (by lia) (by lia) fun p1 p0 e1 e0=>?_);cases hb:lt p1 p0 with
    | true =>
     try dsimp only
     rw[ah rfl];by_cases q0:q > 0
     ·rw[ah q0];refine ap (lM ?_);have p4:=Pl.mirror (lo:=lo) (hi:=lo+bQ) (i:=lo+n-(q+1)) (j:=lo+n) aS (by lia) (by lia) (by lia);have d4:=d3.turn q3 (by lia) (by lia);refine ar ⟨p3.trans p4,n+1,0,rfl,rfl,by lia,by lia,?_,fun x y u v a1 a2 a3 a4 eu ev=>by obtain rfl:x=y:=(by lia);rw[eu] at ev;cases ev;exact o.le_refl _⟩;obtain⟨p5,e5⟩:∃p5,(arrOf (setArr aS (mirror (arrOf aS) (lo+n-(q+1)) (lo+n) ((lo+n-(lo+n-(q+1))) / 2))))[lo+n-1]?= some p5:=⟨_,jo _ (lo+n-1) (by show _<(mirror _ _ _ _).size;rw[mirror_size];lia)⟩;refine d4.ext (m:=lo+n) o (by lia) e5 (q:=p1) ?_ ?_
      ·show(mirror (arrOf aS) (lo+n-(q+1)) (lo+n) ((lo+n-(lo+n-(q+1))) / 2))[lo+n]?= some p1;rw[lh (by lia),af (by lia)];exact e1
      ·have e6:(mirror (arrOf aS) (lo+n-(q+1)) (lo+n) ((lo+n-(lo+n-(q+1))) / 2))[lo+n-1]?= some p5:=e5;rw[lh (by lia),ah (by lia)] at e6;exact o.le_trans (o.gF hb) (q3 _ _ p0 p5 (show lo+n-(q+1)<=lo+n-1 by lia) (by lia) (by lia) (by lia) e0 e6)
     ·rw[af q0];exact ar ⟨p3,n+1,0,rfl,rfl,by lia,by lia,d3.ext (m:=lo+n) o (by lia) e0 e1 (o.gF hb),fun x y u v a1 a2 a3 a4 eu ev=>by obtain rfl:x=y:=(by lia);rw[eu] at ev;cases ev;exact o.le_refl _⟩
    | false =>
     try dsimp only
     rw[af bb];refine ap (ju hc (p3.pm.kind.trans hk) (p3.pm.ok ho) (by lia) (by lia) fun P9 P' mK mL=>?_);rw[e0] at mK;rw[e1] at mL;cases mK;cases mL;cases dw:lt p0 p1 with
     | true=>exact ar ⟨p3,n,q,rfl,m1,by lia,m2,d3,q3⟩
     | false =>
      refine ar ⟨p3,n+1,q+1,rfl,rfl,by lia,by lia,d3.ext (m:=lo+n) o (by lia) e0 e1 dw,fun x y u v a1 a2 a3 a4 eu ev=>?_⟩;have one:∀x u,lo+(n+1)-(q+1+1)<=x->x<lo+(n+1)->(arrOf aS)[x]?= some u->Le lt u p0/\Le lt p0 u:=fun x u a1 a2 eu=>by
       by_cases hx:x=lo+n
       ·rw[hx,e1] at eu;cases eu;exact⟨dw,hb⟩
       ·exact⟨q3 x (lo+n-1) u p0 (by lia) (by lia) (by lia) (by lia) eu e0,q3 (lo+n-1) x p0 u (by lia) (by lia) (by lia) (by lia) e0 eu⟩
      exact o.le_trans (one x u a1 a2 eu).1 (one y v a3 a4 ev).2
   ·rintro c aS ⟨p3,n',q,rfl,rfl,m1,m2,d3,q3⟩;exact⟨p3,_,q,rfl,m1,by lia,m2,d3,q3⟩
   ·rintro c aS ⟨p3,n,q,rfl,m1,mn,m2,d3,q3⟩;have z3:=p3.pm.size
    try dsimp only
    by_cases q0:q > 0
    ·rw[ah q0];refine ap (lM ?_);have p4:=Pl.mirror (lo:=lo) (hi:=lo+bQ) (i:=lo+n-(q+1)) (j:=lo+n) aS (by lia) (by lia) (by lia);have d4:=d3.turn q3 (by lia) (by lia);have z4:=p4.pm.size;generalize F':setArr aS (mirror (arrOf aS) (lo+n-(q+1)) (lo+n) ((lo+n-(lo+n-(q+1))) / 2))=aU at p4 z4;have d5:Dn lt (arrOf aU) lo (lo+n):=by rw[<- F'];exact d4
     refine ap (lM ?_);have p6:=(p3.trans p4).trans (Pl.mirror (lo:=lo) (hi:=lo+bQ) (i:=lo) (j:=lo+n) aU (by lia) (by lia) (by lia));have u6:Up lt (arrOf (setArr aU (mirror (arrOf aU) lo (lo+n) ((lo+n-lo) / 2)))) lo (lo+n):=d5.mirror (by lia);have z6:=p6.pm.size;generalize setArr aU (mirror (arrOf aU) lo (lo+n) ((lo+n-lo) / 2))=cN at p6 u6 z6;refine ap (dF (dZ (I:=fun x c ag=>ag=cN/\∃k,c=(none,k)/\k=x/\Up lt (arrOf cN) lo (lo+k)) (Q:=fun c ag=>ag=cN/\∃k,c=(none,k)/\n<=k/\k<=bQ/\Up lt (arrOf cN) lo (lo+k)) ?_ ?_ ⟨rfl,n,rfl,rfl,u6⟩) ?_)
     ·rintro x c gJ kM fB ⟨rfl,k,rfl,rfl,u7⟩
      try dsimp only
      refine ap (ju hc (p6.pm.kind.trans hk) (p6.pm.ok ho) (by lia) (by lia) fun p q e1 e2=>?_);cases hb:lt p q with
      | true=>exact ar ⟨rfl,k,rfl,by lia,by lia,u7⟩
      | false=>exact ar ⟨rfl,k+1,rfl,rfl,u7.ext (m:=lo+k) o (by lia) e2 e1 hb⟩
     ·rintro c gJ ⟨rfl,k,rfl,rfl,u7⟩;exact⟨rfl,max n bQ,rfl,by lia,by lia,u7⟩
     ·rintro c gJ ⟨rfl,k,rfl,k1,k2,u7⟩;exact ar (h k _ (by lia) k2 p6 u7)
    ·rw[af q0];refine ap (lM ?_);have p6:=p3.trans (Pl.mirror (lo:=lo) (hi:=lo+bQ) (i:=lo) (j:=lo+n) aS (by lia) (by lia) (by lia));have u6:Up lt (arrOf (setArr aS (mirror (arrOf aS) lo (lo+n) ((lo+n-lo) / 2)))) lo (lo+n):=d3.mirror (by lia);have z6:=p6.pm.size;generalize setArr aS (mirror (arrOf aS) lo (lo+n) ((lo+n-lo) / 2))=cN at p6 u6 z6;refine ap (dF (dZ (I:=fun x c ag=>ag=cN/\∃k,c=(none,k)/\k=x/\Up lt (arrOf cN) lo (lo+k)) (Q:=fun c ag=>ag=cN/\∃k,c=(none,k)/\n<=k/\k<=bQ/\Up lt (arrOf cN) lo (lo+k)) ?_ ?_ ⟨rfl,n,rfl,rfl,u6⟩) ?_)
     ·rintro x c gJ kM fB ⟨rfl,k,rfl,rfl,u7⟩
      try dsimp only
      refine ap (ju hc (p6.pm.kind.trans hk) (p6.pm.ok ho) (by lia) (by lia) fun p q e1 e2=>?_);cases hb:lt p q with
      | true=>exact ar ⟨rfl,k,rfl,by lia,by lia,u7⟩
      | false=>exact ar ⟨rfl,k+1,rfl,rfl,u7.ext (m:=lo+k) o (by lia) e2 e1 hb⟩
     ·rintro c gJ ⟨rfl,k,rfl,rfl,u7⟩;exact⟨rfl,max n bQ,rfl,by lia,by lia,u7⟩
     ·rintro c gJ ⟨rfl,k,rfl,k1,k2,u7⟩;exact ar (h k _ (by lia) k2 p6 u7)
end
theorem Cj:∀{l:List (Nat×Nat×Nat)}{lo hi:Nat},ci l lo hi->∀z∈l,lo<=z.1
 | [],_,_,_,z,hz=>(nomatch hz)
 | x::r,lo,hi,⟨a,b,c⟩,z,hz=>by
  rcases aG.mp hz with rfl|hz
  ·lia
  ·have:=Cj c z hz;lia
theorem LZ:∀{l:List (Nat×Nat×Nat)}{lo hi:Nat},ci l lo hi->∀z∈l,z.1+z.2.1<=hi
 | [],_,_,_,z,hz=>(nomatch hz)
 | x::r,lo,hi,⟨a,b,c⟩,z,hz=>by
  rcases aG.mp hz with rfl|hz
  ·have:=c.le;lia
  ·exact LZ c z hz
theorem JL:∀{l:List (Nat×Nat×Nat)}{i lo hi sa na p sb nb q:Nat},ci l lo hi->l[i]?= some (sa,na,p)->l[i+1]?= some (sb,nb,q) ->
  ∀z∈(l.set i (sa,na+nb,p)).eraseIdx (i+1),z=(sa,na+nb,p)\/z∈l/\(z.1+z.2.1<=sa\/sb+nb<=z.1)
 | x::y::r,0,lo,hi,sa,na,p,sb,nb,q,⟨a,b,c1,c2,c3⟩,h1,h2,z,hz=>by
  have e1:x=(sa,na,p):=by simpa using h1
  have e2:y=(sb,nb,q):=by simpa using h2
  subst e1;subst e2;have d0:z∈(sa,na+nb,p)::r:=hz;rcases aG.mp d0 with hz|hz
  ·exact .inl hz
  ·refine .inr ⟨aW _ (aW _ hz),.inr ?_⟩;have:=Cj c3 z hz;have oR:sb=lo+na:=c1;have P_:lo+na+nb<=z.1:=this;lia
 | x::r,i+1,lo,hi,sa,na,p,sb,nb,q,⟨a,b,c⟩,h1,h2,z,hz=>by
  have ud:r[i]?= some (sa,na,p):=by simpa using h1
  have d0:z∈x::((r.set i (sa,na+nb,p)).eraseIdx (i+1)):=hz;rcases aG.mp d0 with rfl|hz
  ·refine .inr ⟨ba ..,.inl ?_⟩;have:=Cj c _ (cP ud);have P_:lo+z.2.1<=sa:=this;lia
  ·rcases JL (l:=r) (i:=i) c ud (by simpa using h2) z hz with h|⟨h,h'⟩
   ·exact .inl h
   ·exact .inr ⟨aW _ h,h'⟩
 | [x],0,_,_,_,_,_,_,_,_,_,_,h2,_,_=>by simp at h2
 | [],_,_,_,_,_,_,_,_,_,_,h1,_,_,_=>by simp at h1
theorem Rk{L r:List Keyed}{m:Nat}(h:m+r.length<=L.length)(x:Nat):(L.take m++r++L.drop (m+r.length))[x]?= if x<m then L[x]? else if x<m+r.length then r[x-m]? else L[x]? := by
 have hm:(L.take m).length=m:=by rw[dM];lia
 by_cases h1:x<m
 ·rw[ah h1,bS,oC (by lia),qM h1]
 rw[af h1];by_cases h2:x<m+r.length
 ·rw[ah h2,oC (by rw[bu];lia),mE (by lia),hm]
 ·rw[af h2,mE (by rw[bu];lia),jZ,bu,hm]
  congr 1
  lia
section
variable{lt:Keyed->Keyed->Bool}{κ : SortKind}
structure SBL(lt:Keyed->Keyed->Bool)(a₀ : Array Keyed)(κ : SortKind)(hi:Nat)(st:SortSt):Prop where
 sb:SB a₀ κ hi st
 ups:∀z∈(pendingOf st).toList,Up lt (arrOf st) z.1 (z.1+z.2.1)
theorem Up.same{arr mJ:Array Keyed}{i j:Nat}(h:Up lt arr i j)(e:∀x,i<=x->x<j->mJ[x]?= arr[x]?):Up lt mJ i j:=fun x y p q h1 h2 h3 ep eq=>by
 rw[e x (by lia) (by lia)] at ep;rw[e y (by lia) (by lia)] at eq;exact h x y p q h1 h2 h3 ep eq
theorem SBL.pl{a₀ : Array Keyed}{hi cm:Nat}{st ag:SortSt}(x:SBL lt a₀ κ hi st)(p:Pl hi cm st ag):SBL lt a₀ κ hi ag:=⟨x.sb.pm p.pm,fun z hz=>by
 rw[p.pm.pend] at hz;have h1:=LZ x.sb.ja z hz;exact(x.ups z hz).same fun i _ h=>p.out i (.inl (by lia))⟩
end
section
variable{prog:Program}{w:World}{A:Around}{E:Value->Shared->Prop}{s:Shared}{κ : SortKind}{Ok:Keyed->Prop}{st:SortSt}{lt:Keyed->Keyed->Bool}
set_option maxHeartbeats 4000000 in
theorem Bs{a₀ : Array Keyed}{hi i:Nat}{Q:Bool->SortSt->Prop}(o:cK lt)(hc:iz prog w A s κ Ok lt)(h0:∀p∈a₀.toList,Ok p)(hL:SBL lt a₀ κ hi st)(hh:hi<=a₀.size)(kH:i+1<(pendingOf st).size)
  (h:∀ag,SBL lt a₀ κ hi ag->(∀x,hi<=x->(arrOf ag)[x]?= (arrOf st)[x]?)->(pendingOf ag).size+1=(pendingOf st).size->Q true ag):wpS (model prog w) A E s (mergeAt' i) Q st:=by
 have hB:=hL.sb;refine ap (iT ?_);obtain⟨⟨sa,na,p⟩,e1⟩:∃x,(pendingOf st)[i]?= some x:=⟨_,jo _ i (by lia)⟩;obtain⟨⟨sb,nb,q⟩,e2⟩:∃x,(pendingOf st)[i+1]?= some x:=⟨_,jo _ (i+1) kH⟩;obtain⟨k1,k2,k3,k4,k5⟩:=hB.ja.at (i:=i) (by rw[<- e1];simp) (by rw[<- e2];simp);have e3:((pendingOf st)[i]?,(pendingOf st)[i+1]?)=(some (sa,na,p),some (sb,nb,q)):=by rw[e1,e2]
 have hsz:=hB.size;have l1:(pendingOf st).toList[i]?= some (sa,na,p):=by rw[<- e1];simp
 have l2:(pendingOf st).toList[i+1]?= some (sb,nb,q):=by rw[<- e2];simp
 have ua:Up lt (arrOf st) sa (sa+na):=hL.ups _ (cP l1);have ub:Up lt (arrOf st) sb (sb+nb):=hL.ups _ (cP l2);have Ay:=JL hB.ja l1 l2;show wpS _ _ _ _ (match ((pendingOf st)[i]?,(pendingOf st)[i+1]?) with|(some (sa,na,power),some (sb,nb,_))=>_|_=>_) Q st
 rw[e1,e2];dsimp only;have aR:(((pendingOf st).setIfInBounds i (sa,na+nb,p)).eraseIdxIfInBounds (i+1)).toList=((pendingOf st).toList.set i (sa,na+nb,p)).eraseIdx (i+1):=by
  simp
 have gE:((((pendingOf st).setIfInBounds i (sa,na+nb,p)).eraseIdxIfInBounds (i+1)).size+1=(pendingOf st).size):=by
  have:=congrArg List.length aR;rw[aA,List.length_eraseIdx,List.length_set,aA,ah kH] at this;lia
 have fA:SB a₀ κ hi (SortSt.mk' (kindOf st) (arrOf st) (((pendingOf st).setIfInBounds i (sa,na+nb,p)).eraseIdxIfInBounds (i+1)) (gallopOf st) (failedOf st)):=⟨hB.arr,hB.kind,hB.fail,by
  show ci (((pendingOf st).setIfInBounds i (sa,na+nb,p)).eraseIdxIfInBounds (i+1)).toList 0 hi;rw[aR];exact k5⟩
 have aq:=hB.ok h0;have fin:∀ag:SortSt,SB a₀ κ hi ag->(pendingOf ag).toList=((pendingOf st).toList.set i (sa,na+nb,p)).eraseIdx (i+1)->(∀x,x<sa\/sb+nb<=x->(arrOf ag)[x]?= (arrOf st)[x]?)->Up lt (arrOf ag) sa (sa+(na+nb))->SBL lt a₀ κ hi ag:=fun ag P2 hp he hu=>⟨P2,fun z hz=>by
  rw[hp] at hz;rcases Ay z hz with rfl|⟨hz,hd⟩
  ·exact hu
  ·exact(hL.ups z hz).same fun x h1 h2=>he x (by lia)⟩
 have yS:∀(arr:Array Keyed)(x y:Nat){p:Keyed},p∈(arr.extract x y).toList->p∈arr.toList:=fun arr x y p hp=>by
  rw[fE,List.extract_eq_drop_take] at hp;exact tW (oF hp)
 refine ap (Uo ?_);refine ap (ZP (arr:=arrOf st) (by lia) fun p1 m1 EU=>?_);refine ap (mT (a:=arrOf st) o hc fA.kind (aq p1 m1) aq (by lia) (by lia) ua fun k hk F1 F2=>?_);dsimp only;have O4:∀i u,i<k->(arrOf st)[sa+i]?= some u->Le lt u p1:=fun i u hi eu=>by
  have h3:=F1 i hi;unfold BV at h3;rw[eu] at h3;have h4:(!lt p1 u)=true:=h3;show lt p1 u=false
  simpa using h4
 have Zri:∀i u,k<=i->i<na->(arrOf st)[sa+i]?= some u->Le lt p1 u:=fun i u h1 h2 eu=>by
  have h3:=F2 i h1 h2;unfold BV at h3;rw[eu] at h3;have h4:(!lt p1 u)=false:=h3;exact o.gF (by simpa using h4)
 have G7:∀y v,sb<=y->y<sb+nb->(arrOf st)[y]?= some v->Le lt p1 v:=fun y v h1 h2 ev=>by
  by_cases e:y=sb
  ·rw[e,EU] at ev;cases ev;exact o.le_refl _
  ·exact ub sb y p1 v (by lia) (by lia) h2 EU ev
 by_cases c1:(na-k == 0)=true
 ·rw[ah c1];have ek:k=na:=by
   have:=eq_of_beq c1;lia
  refine ar (h _ (fin _ fA aR (fun _ _=>rfl) ?_) (fun _ _=>rfl) gE);intro x y u v a1 a2 a3 eu ev;have oU:(arrOf st)[x]?= some u:=eu;have oV:(arrOf st)[y]?= some v:=ev;by_cases hy:y<sb
  ·exact ua x y u v a1 a2 (by lia) oU oV
  by_cases hx:sb<=x
  ·exact ub x y u v hx a2 (by lia) oU oV
  exact o.le_trans (O4 (x-sa) u (by lia) (by rw[show sa+(x-sa)=x by lia];exact oU)) (G7 y v (by lia) (by lia) oV)
 rw[af c1];have n1 : ¬ na-k=0:=fun e=>c1 (by simp[e]);refine ap (ZP (arr:=arrOf st) (by lia) fun p2 m2 iB=>?_);refine ap (mT (a:=arrOf st) o hc fA.kind (aq p2 m2) aq (by lia) (by lia) ub fun dG Ou G1 G2=>?_);dsimp only;have A7:(arrOf st)[sb-1]?= some p2:=by
  rw[<- iB]
  congr 1
  lia
 have OZ:∀x u,sa<=x->x<sb->(arrOf st)[x]?= some u->Le lt u p2:=fun x u h1 h2 eu=>by
  by_cases e:x=sb-1
  ·rw[e,A7] at eu;cases eu;exact o.le_refl _
  ·exact ua x (sb-1) u p2 h1 (by lia) (by lia) eu A7
 have Ztm:∀i u,i<dG->(arrOf st)[sb+i]?= some u->Le lt u p2:=fun i u hi eu=>by
  have h3:=G1 i hi;unfold BV at h3;rw[eu] at h3;exact o.gF h3
 have N_:∀i u,dG<=i->i<nb->(arrOf st)[sb+i]?= some u->Le lt p2 u:=fun i u h1 h2 eu=>by
  have h3:=G2 i h1 h2;unfold BV at h3;rw[eu] at h3;exact h3
 by_cases c2:(dG == 0)=true
 ·rw[ah c2];have ek:dG=0:=eq_of_beq c2;refine ar (h _ (fin _ fA aR (fun _ _=>rfl) ?_) (fun _ _=>rfl) gE);intro x y u v a1 a2 a3 eu ev;have oU:(arrOf st)[x]?= some u:=eu;have oV:(arrOf st)[y]?= some v:=ev;by_cases hy:y<sb
  ·exact ua x y u v a1 a2 (by lia) oU oV
  by_cases hx:sb<=x
  ·exact ub x y u v hx a2 (by lia) oU oV
  exact o.le_trans (OZ x u a1 (by lia) oU) (N_ (y-sb) v (by lia) (by lia) (by rw[show sb+(y-sb)=y by lia];exact oV))
 rw[af c2];have n2 : ¬ dG=0:=fun e=>c2 (by simp[e]);have xs:((arrOf st).extract (sa+k) sb).size=na-k:=by
  rw[Array.size_extract];lia
 have ys:((arrOf st).extract sb (sb+dG)).size=dG:=by
  rw[Array.size_extract];lia
 have SX:So lt ((arrOf st).extract (sa+k) sb).toList:=lc.mpr fun x y hx hy kN=>by
  rw[aA] at hx hy;have ex:((arrOf st).extract (sa+k) sb)[x]?= (arrOf st)[sa+k+x]? := by rw[tL,ah (by lia)]
  have ey:((arrOf st).extract (sa+k) sb)[y]?= (arrOf st)[sa+k+y]? := by rw[tL,ah (by lia)]
  rw[<- bD,cH (by rw[aA];exact hx)] at ex;rw[<- bD,cH (by rw[aA];exact hy)] at ey;exact ua _ _ _ _ (by lia) (show sa+k+x<sa+k+y by lia) (by lia) ex.symm ey.symm
 have SY:So lt ((arrOf st).extract sb (sb+dG)).toList:=lc.mpr fun x y hx hy kN=>by
  rw[aA] at hx hy;have ex:((arrOf st).extract sb (sb+dG))[x]?= (arrOf st)[sb+x]? := by rw[tL,ah (by lia)]
  have ey:((arrOf st).extract sb (sb+dG))[y]?= (arrOf st)[sb+y]? := by rw[tL,ah (by lia)]
  rw[<- bD,cH (by rw[aA];exact hx)] at ex;rw[<- bD,cH (by rw[aA];exact hy)] at ey;exact ub _ _ _ _ (by lia) (show sb+x<sb+y by lia) (by lia) ex.symm ey.symm
 have IK:∀p,((arrOf st).extract sb (sb+dG))[0]?= some p->∀y∈((arrOf st).extract (sa+k) sb).toList,Le lt p y:=fun p ep y hy=>by
  rw[tL,ah (by lia),Nat.add_zero,EU] at ep;cases ep;obtain⟨m,h1,h2,e⟩:=mV hy;exact Zri (m-sa) y (by lia) (by lia) (by rw[show sa+(m-sa)=m by lia];exact e)
 have IL:∀x∈((arrOf st).extract sb (sb+dG)).toList,∀q,((arrOf st).extract (sa+k) sb)[((arrOf st).extract (sa+k) sb).size-1]?= some q->Le lt x q:=fun x hx q eq=>by
  rw[xs,tL,ah (by lia),show sa+k+(na-k-1)=sb-1 by lia,A7] at eq;cases eq;obtain⟨m,h1,h2,e⟩:=mV hx;exact Ztm (m-sb) x (by lia) (by rw[show sb+(m-sb)=m by lia];exact e)
 have whole:∀(r:Array Keyed)(mJ:Array Keyed),Rs lt ((arrOf st).extract (sa+k) sb) ((arrOf st).extract sb (sb+dG)) r->r.toList.length=(na-k)+dG->mJ.toList=(arrOf st).toList.take (sa+k)++r.toList++(arrOf st).toList.drop (sa+k+r.toList.length) ->
   (∀x,x<sa\/sb+nb<=x->mJ[x]?= (arrOf st)[x]?)/\Up lt mJ sa (sa+(na+nb)):=fun r mJ hr iJ ha=>by
  have get:∀x,mJ[x]?= if x<sa+k then(arrOf st)[x]? else if x<sa+k+r.toList.length then r.toList[x-(sa+k)]? else(arrOf st)[x]? := fun x=>by
   rw[<- bD,ha,Rk (by have zH:(arrOf st).toList.length=(arrOf st).size:=aA;lia),bD]
  have inr:∀u,u∈r.toList->(∃m,sa+k<=m/\m<sb/\(arrOf st)[m]?= some u)\/∃m,sb<=m/\m<sb+dG/\(arrOf st)[m]?= some u:=fun u hu=>by
   rcases bK.mp (hr.perm.mem_iff.mp hu) with hu|hu
   ·exact .inl (mV hu)
   ·exact .inr (mV hu)
  refine⟨fun x hx=>?_,fun x y u v a1 a2 a3 eu ev=>?_⟩
  ·rw[get];by_cases h1:x<sa+k
   ·rw[ah h1]
   ·rw[af h1,af (by lia)]
  rw[get] at eu ev;by_cases kM:x<sa+k
  ·rw[ah kM] at eu;have s_:=O4 (x-sa) u (by lia) (by rw[show sa+(x-sa)=x by lia];exact eu);by_cases Gg:y<sa+k
   ·rw[ah Gg] at ev;exact ua x y u v a1 a2 (by lia) eu ev
   rw[af Gg] at ev;by_cases hG:y<sa+k+r.toList.length
   ·rw[ah hG] at ev;rcases inr v (cP ev) with⟨m,b1,b2,e⟩|⟨m,b1,b2,e⟩
    ·exact ua x m u v a1 (by lia) (by lia) eu e
    ·exact o.le_trans s_ (G7 m v b1 (by lia) e)
   ·rw[af hG] at ev;exact o.le_trans s_ (G7 y v (by lia) (by lia) ev)
  rw[af kM] at eu;rw[af (by lia)] at ev;by_cases fB:x<sa+k+r.toList.length
  ·rw[ah fB] at eu;by_cases hG:y<sa+k+r.toList.length
   ·rw[ah hG] at ev;obtain⟨hx3,rfl⟩:=cA.mp eu;obtain⟨hy3,rfl⟩:=cA.mp ev;exact(lc.mp hr.sort) _ _ hx3 hy3 (by lia)
   ·rw[af hG] at ev;rcases inr u (cP eu) with⟨m,b1,b2,e⟩|⟨m,b1,b2,e⟩
    ·exact o.le_trans (OZ m u (by lia) b2 e) (N_ (y-sb) v (by lia) (by lia) (by rw[show sb+(y-sb)=y by lia];exact ev))
    ·exact ub m y u v b1 (by lia) (by lia) e ev
  ·rw[af fB] at eu;rw[af (by lia)] at ev;exact ub x y u v (by lia) a2 (by lia) eu ev
 by_cases c3:na-k<=dG
 ·rw[ah c3];refine ap (QS (a:=(arrOf st).extract (sa+k) sb) (b:=(arrOf st).extract sb (sb+dG)) o hc fA.kind (fun p hp=>aq p (yS _ _ _ hp)) (fun p hp=>aq p (yS _ _ _ hp)) (by rw[xs];lia) (by rw[ys];lia) SX SY IK IL fun r aF lk hr=>?_);refine ap (gc ?_);refine ap (iT ?_);have hf:failedOf aF=none:=lk.fail.trans hB.fail;have mj:r.toList.Perm (((arrOf st).toList.drop (sa+k)).take ((na-k)+dG)):=by
   refine hr.perm.trans (tN ?_);rw[fE,fE,LW _ (by lia) (by lia)]
   congr 1
   lia
  have iJ:r.toList.length=(na-k)+dG:=by
   rw[mj.length_eq,dM,dE,aA];lia
  show wpS _ _ _ _ (pure (failedOf aF).isNone) Q _;rw[hf];have nU:(List.foldl (fun(a:Array Keyed)(x:Keyed×Nat)=>a.setIfInBounds (sa+k+x.2) x.1) (arrOf aF) r.toList.zipIdx).toList=(arrOf st).toList.take (sa+k)++r.toList++(arrOf st).toList.drop (sa+k+r.toList.length):=by
   rw[lk.arr,K3 _ _ _ (by show sa+k+r.toList.length<=(arrOf st).size;lia)]
  obtain⟨w1,w2⟩:=whole r _ hr iJ nU;refine ar (h _ (fin _ ⟨?_,lk.kind.trans hB.kind,hf,?_⟩ (by show(pendingOf aF).toList=_;rw[lk.pend];exact aR) w1 w2) (fun x hx=>w1 x (.inr (by lia))) ?_)
  ·show(List.foldl (fun(a:Array Keyed)(x:Keyed×Nat)=>a.setIfInBounds (sa+k+x.2) x.1) (arrOf aF) r.toList.zipIdx).toList.Perm a₀.toList;rw[nU];exact(Kg mj iJ).trans hB.arr
  ·show ci (pendingOf aF).toList 0 hi;rw[lk.pend];exact fA.ja
  ·show(pendingOf aF).size+1=_;rw[lk.pend];exact gE
 ·rw[af c3];refine ap (QL (a:=(arrOf st).extract (sa+k) sb) (b:=(arrOf st).extract sb (sb+dG)) o hc fA.kind (fun p hp=>aq p (yS _ _ _ hp)) (fun p hp=>aq p (yS _ _ _ hp)) (by rw[xs];lia) (by rw[ys];lia) SX SY IK IL fun r aF lk hr=>?_);refine ap (gc ?_);refine ap (iT ?_);have hf:failedOf aF=none:=lk.fail.trans hB.fail;have mj:r.toList.Perm (((arrOf st).toList.drop (sa+k)).take ((na-k)+dG)):=by
   refine hr.perm.trans (tN ?_);rw[fE,fE,LW _ (by lia) (by lia)]
   congr 1
   lia
  have iJ:r.toList.length=(na-k)+dG:=by
   rw[mj.length_eq,dM,dE,aA];lia
  show wpS _ _ _ _ (pure (failedOf aF).isNone) Q _;rw[hf];have nU:(List.foldl (fun(a:Array Keyed)(x:Keyed×Nat)=>a.setIfInBounds (sa+k+x.2) x.1) (arrOf aF) r.toList.zipIdx).toList=(arrOf st).toList.take (sa+k)++r.toList++(arrOf st).toList.drop (sa+k+r.toList.length):=by
   rw[lk.arr,K3 _ _ _ (by show sa+k+r.toList.length<=(arrOf st).size;lia)]
  obtain⟨w1,w2⟩:=whole r _ hr iJ nU;refine ar (h _ (fin _ ⟨?_,lk.kind.trans hB.kind,hf,?_⟩ (by show(pendingOf aF).toList=_;rw[lk.pend];exact aR) w1 w2) (fun x hx=>w1 x (.inr (by lia))) ?_)
  ·show(List.foldl (fun(a:Array Keyed)(x:Keyed×Nat)=>a.setIfInBounds (sa+k+x.2) x.1) (arrOf aF) r.toList.zipIdx).toList.Perm a₀.toList;rw[nU];exact(Kg mj iJ).trans hB.arr
  ·show ci (pendingOf aF).toList 0 hi;rw[lk.pend];exact fA.ja
  ·show(pendingOf aF).size+1=_;rw[lk.pend];exact gE
end
section
variable{prog:Program}{w:World}{A:Around}{E:Value->Shared->Prop}{s:Shared}{κ : SortKind}{Ok:Keyed->Prop}{st:SortSt}{lt:Keyed->Keyed->Bool}
set_option maxHeartbeats 4000000 in
theorem RO{a₀ : Array Keyed}{Q:Unit->SortSt->Prop}(o:cK lt)(hc:iz prog w A s κ Ok lt)(h0:∀p∈a₀.toList,Ok p)(hB:SBL lt a₀ κ 0 st)(h:∀ag,(arrOf ag).toList.Perm a₀.toList->So lt (arrOf ag).toList->failedOf ag=none->Q () ag):wpS (model prog w) A E s sortRuns' Q st:=by
 refine ap (iT ?_);have hsz:=hB.sb.size;show wpS _ _ _ _ (forIn [:(arrOf st).size] _ _ >>= _) Q st;rw[hsz];refine ap (dF (dZ (I:=fun x c ag=>∃lo,c=(none,lo)/\lo<=a₀.size/\SBL lt a₀ κ lo ag/\x<=lo) (Q:=fun c ag=>∃lo,c=(none,lo)/\lo=a₀.size/\SBL lt a₀ κ lo ag) ?_ (fun c ag ⟨lo,z1,z2,z3,z4⟩=>⟨lo,z1,by lia,z3⟩) ⟨0,rfl,bi _,hB,az _⟩) ?_)
 ·rintro x c bx _ hx ⟨lo,rfl,kI,fA,tf⟩
  try dsimp only
  by_cases c1:lo>=a₀.size
  ·rw[ah c1];exact ar ⟨lo,rfl,by lia,fA⟩
  rw[af c1];have nZ:=fA.sb.size;refine ap (R7 o hc fA.sb.kind (fA.sb.ok h0) (by lia) (by lia) fun n aF n1 n2 p2 u2=>?_);have gY:=fA.pl p2;have sW:=gY.sb.size
  try dsimp only
  show wpS _ _ _ _ (if n<minRun' a₀.size a₀.size 0 then _ else _) _ aF
  by_cases c2:n<minRun' a₀.size a₀.size 0
  ·rw[ah c2];refine ap (wpS_lift (mH ⟨rfl,?_⟩));refine ap (Q0 o hc gY.sb.kind (gY.sb.ok h0) (by show lo+min (a₀.size-lo) (minRun' a₀.size a₀.size 0)<=_;lia) (by show n<=min (a₀.size-lo) (minRun' a₀.size a₀.size 0);lia) (by show 1<=min (a₀.size-lo) (minRun' a₀.size a₀.size 0);lia) u2 fun aS p3 u3=>?_);rw[af (by decide)];have gy:=gY.pl p3;have ui:Up lt (arrOf aS) lo (lo+min (a₀.size-lo) (minRun' a₀.size a₀.size 0)):=u3;have hN:1<=min (a₀.size-lo) (minRun' a₀.size a₀.size 0):=by lia
   refine ap (iT ?_);cases hb:(pendingOf aS).back? with
   | none =>
    dsimp only;refine ap (gc ?_);refine ar ⟨lo+min (a₀.size-lo) (minRun' a₀.size a₀.size 0),rfl,by lia,⟨⟨gy.sb.arr,gy.sb.kind,gy.sb.fail,?_⟩,fun z hz=>?_⟩,by lia⟩
    ·show ci ((pendingOf aS).push (lo,min (a₀.size-lo) (minRun' a₀.size a₀.size 0),0)).toList 0 (lo+min (a₀.size-lo) (minRun' a₀.size a₀.size 0));rw[fk];exact gy.sb.ja.push hN
    ·have d0:z∈((pendingOf aS).push (lo,min (a₀.size-lo) (minRun' a₀.size a₀.size 0),0)).toList:=hz;rw[fk] at d0;rcases bK.mp d0 with d0|d0
     ·exact gy.ups z d0
     ·rw[bh.mp d0];exact ui
   | some t =>
    obtain⟨s1,n1,q⟩:=t;dsimp only;refine wpS_bind (wpS_mono (wpS_forRange (I:=fun _ c ag=>c=(none,())/\SBL lt a₀ κ lo ag/\∀x,lo<=x->(arrOf ag)[x]?= (arrOf aS)[x]?) (Q:=fun c ag=>c=(none,())/\SBL lt a₀ κ lo ag/\∀x,lo<=x->(arrOf ag)[x]?= (arrOf aS)[x]?) ?_ (fun _ _ z=>z) ⟨rfl,gy,fun _ _=>rfl⟩) ?_)
    ·rintro y c aU _ _ ⟨rfl,eR,jP⟩;refine ap (iT ?_);by_cases g1:(pendingOf aU).size > 1
     ·rw[ah g1];obtain⟨⟨a1,a2,ZuW⟩,e⟩:∃x,(pendingOf aU)[(pendingOf aU).size-2]?= some x:=⟨_,jo _ _ (by lia)⟩;rw[e];dsimp only
      split
      ·exact ar ⟨rfl,eR,jP⟩
      ·refine ap (Bs o hc h0 eR kI (by show(pendingOf aU).size-2+1<(pendingOf aU).size;lia) fun cN Fl Fn _=>?_);rw[af (by decide)];exact ar ⟨rfl,Fl,fun x hx=>(Fn x hx).trans (jP x hx)⟩
     ·rw[af g1];exact ar ⟨rfl,eR,jP⟩
    ·rintro c aU ⟨rfl,eR,jP⟩;dsimp only;refine ap (gc ?_);refine ap (gc ?_);refine ar ⟨lo+min (a₀.size-lo) (minRun' a₀.size a₀.size 0),rfl,by lia,⟨⟨eR.sb.arr,eR.sb.kind,eR.sb.fail,?_⟩,fun z hz=>?_⟩,by lia⟩
     ·show ci (Array.push ((pendingOf aU).modify _ _) (lo,min (a₀.size-lo) (minRun' a₀.size a₀.size 0),0)).toList 0 (lo+min (a₀.size-lo) (minRun' a₀.size a₀.size 0));rw[fk,AO];refine ci.push ?_ hN;refine ci.last _ (fun x=>?_) _ eR.sb.ja;exact⟨rfl,rfl⟩
     ·change z∈(Array.push ((pendingOf aU).modify _ _) (lo,min (a₀.size-lo) (minRun' a₀.size a₀.size 0),0)).toList at hz;rw[fk,AO] at hz;rcases bK.mp hz with hz|hz
      ·obtain⟨i,hi⟩:=j3.mp hz;rw[List.getElem?_modify] at hi;obtain⟨z0,kP,rfl⟩:=oI.mp hi;have h1:=eR.ups z0 (cP kP)
       split
       ·exact h1
       ·exact h1
      ·rw[bh.mp hz];exact ui.same fun x h1 _=>jP x h1
  ·rw[af c2];have gy:=gY;have hN:=n1;have ui:=u2;refine ap (iT ?_);cases hb:(pendingOf aF).back? with
   | none =>
    dsimp only;refine ap (gc ?_);refine ar ⟨lo+n,rfl,by lia,⟨⟨gy.sb.arr,gy.sb.kind,gy.sb.fail,?_⟩,fun z hz=>?_⟩,by lia⟩
    ·show ci ((pendingOf aF).push (lo,n,0)).toList 0 (lo+n);rw[fk];exact gy.sb.ja.push hN
    ·have d0:z∈((pendingOf aF).push (lo,n,0)).toList:=hz;rw[fk] at d0;rcases bK.mp d0 with d0|d0
     ·exact gy.ups z d0
     ·rw[bh.mp d0];exact ui
   | some t =>
    obtain⟨s1,n1,q⟩:=t;dsimp only;refine wpS_bind (wpS_mono (wpS_forRange (I:=fun _ c ag=>c=(none,())/\SBL lt a₀ κ lo ag/\∀x,lo<=x->(arrOf ag)[x]?= (arrOf aF)[x]?) (Q:=fun c ag=>c=(none,())/\SBL lt a₀ κ lo ag/\∀x,lo<=x->(arrOf ag)[x]?= (arrOf aF)[x]?) ?_ (fun _ _ z=>z) ⟨rfl,gy,fun _ _=>rfl⟩) ?_)
    ·rintro y c aU _ _ ⟨rfl,eR,jP⟩;refine ap (iT ?_);by_cases g1:(pendingOf aU).size > 1
     ·rw[ah g1];obtain⟨⟨a1,a2,ZuW⟩,e⟩:∃x,(pendingOf aU)[(pendingOf aU).size-2]?= some x:=⟨_,jo _ _ (by lia)⟩;rw[e];dsimp only
      split
      ·exact ar ⟨rfl,eR,jP⟩
      ·refine ap (Bs o hc h0 eR kI (by show(pendingOf aU).size-2+1<(pendingOf aU).size;lia) fun cN Fl Fn _=>?_);rw[af (by decide)];exact ar ⟨rfl,Fl,fun x hx=>(Fn x hx).trans (jP x hx)⟩
     ·rw[af g1];exact ar ⟨rfl,eR,jP⟩
    ·rintro c aU ⟨rfl,eR,jP⟩;dsimp only;refine ap (gc ?_);refine ap (gc ?_);refine ar ⟨lo+n,rfl,by lia,⟨⟨eR.sb.arr,eR.sb.kind,eR.sb.fail,?_⟩,fun z hz=>?_⟩,by lia⟩
     ·show ci (Array.push ((pendingOf aU).modify _ _) (lo,n,0)).toList 0 (lo+n);rw[fk,AO];refine ci.push ?_ hN;refine ci.last _ (fun x=>?_) _ eR.sb.ja;exact⟨rfl,rfl⟩
     ·change z∈(Array.push ((pendingOf aU).modify _ _) (lo,n,0)).toList at hz;rw[fk,AO] at hz;rcases bK.mp hz with hz|hz
      ·obtain⟨i,hi⟩:=j3.mp hz;rw[List.getElem?_modify] at hi;obtain⟨z0,kP,rfl⟩:=oI.mp hi;have h1:=eR.ups z0 (cP kP)
       split
       ·exact h1
       ·exact h1
      ·rw[bh.mp hz];exact ui.same fun x h1 _=>jP x h1
 ·rintro c bx ⟨lo,rfl,rfl,fA⟩
  try dsimp only
  refine ap (dF (dZ (I:=fun x c ag=>c=(none,())/\SBL lt a₀ κ a₀.size ag/\(pendingOf ag).size+x<=a₀.size+1) (Q:=fun c ag=>c=(none,())/\SBL lt a₀ κ a₀.size ag/\(pendingOf ag).size<=1) ?_ (fun c ag ⟨z1,z2,z3⟩=>⟨z1,z2,by lia⟩) ⟨rfl,fA,by have:=fA.sb.ja.le;rw[aA] at this;lia⟩) ?_)
  ·rintro x c aF _ _ ⟨rfl,gY,bG⟩
   try dsimp only
   refine ap (iT ?_)
   try dsimp only
   by_cases c2:(pendingOf aF).size<=1
   ·rw[ah c2];exact ar ⟨rfl,gY,c2⟩
   ·rw[af c2];have hx:∀b:Bool,(if b=true then(pendingOf aF).size-2-1 else(pendingOf aF).size-2)+1<(pendingOf aF).size:=fun b=>by
     cases b
     ·rw[af bb];lia
     ·rw[ah rfl];lia
    refine ap (Bs o hc h0 gY (az _) (hx _) fun aS gy _ zT=>?_);rw[af (by decide)];exact ar ⟨rfl,gy,by lia⟩
  ·rintro c aF ⟨rfl,gY,bG⟩;refine ar (h aF gY.sb.arr ?_ gY.sb.fail);have jg:=gY.sb.size;have zq:=gY.sb.ja;have OQ:=gY.ups;have aR:(pendingOf aF).toList.length<=1:=by rw[aA];exact bG
   match hl:(pendingOf aF).toList,aR with
   | [],_ =>
    rw[hl] at zq;have h0:0=a₀.size:=zq;refine Mp (n:=0) (fun x y _ _ _ _ h3=>by lia) (by lia)
   | [z],_ =>
    rw[hl] at zq OQ;obtain⟨z1,z2,z3⟩:=zq;have Qc:0+z.2.1=a₀.size:=z3;have hu:=OQ z (bh.mpr rfl);rw[z1,Qc] at hu;exact Mp hu (by lia)
end
end bj
namespace bj
open PySem PyProof.Rows uu PySem.W
section
variable{prog:Program}{w:World}{A:Around}{E:Value->Shared->Prop}{s:Shared}
def BJ(prog:Program)(w:World)(A:Around)(lv:Value->Value->Bool)(vs:List Value)(s:Shared):Prop :=
 ∃ κ,(∀(Q:SortKind->Shared->Prop)(E:Value->Shared->Prop),Q κ s->wpAny (model prog w) A (keyKind' vs.toArray) Q E s)/\iz prog w A s κ (fun p=>p∈(pairsOf vs).toList) fun x y=>lv x.1 y.1
theorem Jj{vs:List Value}{p:Keyed}(h:p∈(pairsOf vs).toList):p.1=p.2:=by
 rw[pairsOf_toList] at h;obtain⟨i,hi⟩:=j3.mp h;rw[List.getElem?_zip_eq_some] at hi;have:=hi.1.symm.trans hi.2;exact dk this
theorem T3{lt:Keyed->Keyed->Bool}{vs:List Value}(h:vs.length<2):So lt (pairsOf vs).toList:=lc.mpr fun i j hi hj eS=>by
 rw[aA,pairsOf_size] at hi hj;lia
theorem K8{lv:Value->Value->Bool}{vs:List Value}{xs:Array Keyed}(hp:xs.toList.Perm (pairsOf vs).toList)(h:So (fun x y=>lv x.1 y.1) xs.toList):(xs.map (·.2)).toList.Pairwise (fun u v=>lv v u=false):=by
 rw[Array.toList_map,AX];refine List.Pairwise.imp_of_mem (fun{x y} hx hy kN=>?_) h;have Ie:lv y.1 x.1=false:=kN;rw[Jj (hp.mem_iff.mp hx),Jj (hp.mem_iff.mp hy)] at Ie;exact Ie
theorem Q_{lv:Value->Value->Bool}(o:cK fun x y=>lv x.1 y.1){a:Addr}{vs:List Value}{n:Nat}{P:Fin->Shared->Prop}(ho:s.heap.get? a=some (seqObj "list" vs.toArray n)) (hlen:vs.length<=90000)
  (hc:∀h6:Heap,(∀b o,b≠a->s.heap.get? b=some o->h6.get? b=some o)->2<=vs.length->BJ prog w A lv vs { s with heap:=h6 })
  (h:∀out:Array Value,out.toList.Perm vs->out.toList.Pairwise (fun u v=>lv v u=false)->P (.done (.ret .none)) { s with heap:=sortedHeap s.heap a vs out }):wpAny (model prog w) A (Builtin.«list.sort» ⟨[.ref a],[]⟩) P E s:=by
 have hv:vs.toArray.size<=sizeLine:=by rw[bW,fH];lia
 have ha:a<s.heap.objs.size:=aT ho;obtain⟨e1,gD⟩:∃e1,(s.heap.update a (Obj.mapSeq fun _=>#[])).get? a=some (seqObj "list" #[] e1):=⟨_,get?_update_seq ho (fun _=>#[])⟩;rw[list_sort_plain];refine ae (listItems_at ho rfl (ae (listUpdate_at ho rfl (ae (seqEpoch_at gD rfl (ae (wpAny_newTuple (ae (wpAny_newList (iR ?_)))))))  hv (bi _))));have nT:a≠(s.heap.update a (Obj.mapSeq fun _=>#[])).objs.size:=by rw[Heap.size_update];exact bX ha
 have nL:a≠((s.heap.update a (Obj.mapSeq fun _=>#[])).push (seqObj "tuple" vs.toArray 0)).objs.size:=by rw[size_push',Heap.size_update];exact bX (Nat.lt_succ_of_lt ha)
 have sU:(((s.heap.update a (Obj.mapSeq fun _=>#[])).push (seqObj "tuple" vs.toArray 0)).push (seqObj "list" #[] 0)).get? a=some (seqObj "list" #[] e1):=by
  rw[Heap.get?_push_ne _ _ _ nL,Heap.get?_push_ne _ _ _ nT];exact gD
 have Zrs:∀b o,b≠a->s.heap.get? b=some o->(((s.heap.update a (Obj.mapSeq fun _=>#[])).push (seqObj "tuple" vs.toArray 0)).push (seqObj "list" #[] 0)).get? b=some o:=fun b o hb e=>by
  refine aJ _ (aJ _ ?_);rw[hW _ _ hb.symm];exact e
 show wpAny (model prog w) A _ P E { s with heap:=((s.heap.update a (Obj.mapSeq fun _=>#[])).push (seqObj "tuple" vs.toArray 0)).push (seqObj "list" #[] 0) };dsimp only;by_cases h2:vs.toArray.size<2
 ·rw[ah h2,ah h2];refine ae (ai ?_);rw[StateT.run_pure];refine ae (ai (ae (seqEpoch_at sU rfl (ae (listUpdate_at sU rfl ?_ (bi _) ?_)))))
  ·simp only[bne_self_eq_false,qH,ie];exact ai (h _ (J1 (xs:=pairsOf vs) (jm _)) (K8 (xs:=pairsOf vs) (jm _) (T3 (by rw[bW] at h2;exact h2))))
  ·show((pairsOf vs).map (·.2)).size<=_;rw[wV,pairsOf_size,fH];lia
 ·rw[af h2,af h2];rw[bW] at h2;obtain⟨κ,qf,hcm⟩:=hc _ Zrs (by lia);refine ae (qf _ _ ?_);refine ae (eI (RO (a₀ := pairsOf vs) (Q:=fun _ ag=>(arrOf ag).toList.Perm (pairsOf vs).toList/\So (fun x y=>lv x.1 y.1) (arrOf ag).toList/\failedOf ag=none) o hcm (fun p hp=>hp) ⟨⟨jm _,rfl,rfl,rfl⟩,fun z hz=>(nomatch hz)⟩ fun ag a1 a3 a2=>⟨a1,a3,a2⟩) ?_ fun _ _ e=>e)
  rintro⟨⟨⟩,ag⟩ s' ⟨rfl,hp,qr,hf⟩;dsimp only;refine ae (seqEpoch_at sU rfl (ae (listUpdate_at sU rfl ?_ (bi _) ?_)))
  ·rw[hf];simp only[bne_self_eq_false,qH,ie];exact ai (h _ (J1 hp) (K8 hp qr))
  ·have lB:(arrOf ag).toList.Perm (pairsOf vs).toList:=hp;have:=lB.length_eq;rw[aA,aA,pairsOf_size] at this;show((arrOf ag).map (·.2)).size<=_;rw[wV,fH];lia
theorem Jp{lv:Value->Value->Bool}(o:cK fun x y=>lv x.1 y.1){v:Value}{C:List Value->Prop}{Q:Value->Shared->Prop}
  (Zq1:∀(Q':List Value->Shared->Prop)(E':Value->Shared->Prop),(∀(ys:List Value)(h':Heap)(tk:Nat)(d:Drawn),(∀b o,s.heap.get? b=some o->h'.get? b=some o)->C ys->ys.length<=90000->s.heap.objs.size<=h'.objs.size->Q' ys { s with heap:=h',toks:=tk,drawn:=d })->wpAny (model prog w) A.in1 (collect v) Q' E' s)
  (hc:∀(ys:List Value)(h6:Heap)(tk:Nat)(d:Drawn),C ys->(∀b o,s.heap.get? b=some o->h6.get? b=some o)->2<=ys.length->BJ prog w A.in1.in1 lv ys { s with heap:=h6,toks:=tk,drawn:=d })
  (q:∀(p:Addr)(ys:List Value)(out:Array Value)(h':Heap)(tk:Nat)(d:Drawn)(c:Nat),C ys->out.toList.Perm ys->out.toList.Pairwise (fun u v=>lv v u=false)->(∀b o,s.heap.get? b=some o->h'.get? b=some o)->h'.get? p=some (seqObj "list" out c)->s.heap.objs.size<=p->out.size<=90000->Q (.ref p) { s with heap:=h',toks:=tk,drawn:=d }) :
  wpAny (model prog w) A (call (.builtin "sorted") [v]) Q E s:=by
 refine Calls.call_function_entry kind_sorted plain_sorted entry_sorted (args_sorted1 _) ?_;unfold Builtin.«sorted»;refine ae (m:=checkCount "sorted" 1 1 _) (ai (ae (Zq1 _ _ fun ys h1 tk d k1 hC kO hle=>ae (wpAny_newList ?_ (by rw[fH];lia)))));have qh:(h1.push (seqObj "list" ys.toArray 0)).get? h1.objs.size=some (seqObj "list" ys.toArray 0):=cb _ rfl;have keep:∀b o,s.heap.get? b=some o->(h1.push (seqObj "list" ys.toArray 0)).get? b=some o:=fun b o e=>aJ _ (k1 b o e);have Fx:∀b o,s.heap.get? b=some o->h1.objs.size≠b:=fun b o e=>qO (cQ (aT e) hle);change wpAny _ _ _ _ _ { s with heap:=h1.push (seqObj "list" ys.toArray 0),toks:=tk,drawn:=d };refine ae (iR (ll slot_list_sort ⟨_,qh,rfl⟩ entry_list_sort (Q_ (s:={ s with heap:=h1.push (seqObj "list" ys.toArray 0),toks:=tk,drawn:=d }) o qh (by lia) (fun h6 k6 h2=>hc ys h6 tk d hC (fun b o e=>k6 b o (Fx b o e).symm (keep b o e)) h2) fun out hp qr=>⟨_,rfl,?_⟩) (args_list_sort _)));generalize h1.push (seqObj "list" ys.toArray 0)=h5 at qh keep;obtain⟨e1,gD⟩:∃e1,(h5.update h1.objs.size (Obj.mapSeq fun _=>#[])).get? h1.objs.size=some (seqObj "list" #[] e1):=⟨_,get?_update_seq qh (fun _=>#[])⟩;have sU:=aJ (seqObj "list" #[] 0) (aJ (seqObj "tuple" ys.toArray 0) gD);have qi:out.size<=90000:=by rw[<- aA,hp.length_eq];exact kO
 refine ai ⟨_,rfl,q h1.objs.size ys out (sortedHeap h5 h1.objs.size ys out) tk d _ hC hp qr (fun b o e=>?_) (get?_update_seq sU (fun _=>out)) hle qi⟩;unfold sortedHeap;rw[hW _ _ (Fx b o e)];refine aJ _ (aJ _ ?_);rw[hW _ _ (Fx b o e)];exact keep b o e
end
end bj
namespace L2
open PySem PySem.Spec PyProof.Rows
def notStar:Expr->Bool
 | .Starred ..=>false
 | _=>true
theorem SJ{e:Expr}(es:List Expr)(env:Env)(h:notStar e=true):starEach (e::es) env=(false,eval e env)::starEach es env:=by
 cases e <;> first|rfl|(exact absurd h bb)
section
variable{X:Cx}{x:Str}{ps:List Str}{j k:Nat}{sp:Sp}{e:Expr}{es:List Expr}{t:TA}{te:TE}{p pos:Pos}
theorem S1(ha:PE X e te)(hr:PA X es t)(hn:notStar e=true:=by rfl):PA X (e::es) (uY te t):=Za ha hr (SJ es X.env hn)
end
@[irreducible] def fI(X:Cx)(e:Expr)(t:TE):Prop:=PE X e t
@[irreducible] def iV(X:Cx)(es:List Expr)(t:TA):Prop:=PA X es t
section
variable{X:Cx}{x:Str}{ps:List Str}{j k:Nat}{sp:Sp}{e:Expr}{es:List Expr}{t:TA}{te:TE}{p pos:Pos}
theorem fI.to(h:fI X e te):PE X e te:=by unfold fI at h;exact h
theorem fI.of(h:PE X e te):fI X e te:=by unfold fI;exact h
theorem iV.to(h:iV X es t):PA X es t:=by unfold iV at h;exact h
theorem iV.of(h:PA X es t):iV X es t:=by unfold iV;exact h
theorem pF{x:Str}{j:Nat}:fI X (.Constant (.str x) j pos) (tC (.str x)):=.of Zm
theorem LF:iV X [] so:=.of Zb
theorem mX(ha:fI X e te)(hr:iV X es t)(hn:notStar e=true:=by rfl):iV X (e::es) (uY te t):=.of (S1 ha.to hr.to hn)
theorem yh(h:iV X es t):fI X (.List es pos) (MC t):=.of (dz h.to)
end
end L2
namespace pb
open PySem iX
def tm(m:Nat):SetTable:={ mask:=m,place :=#[],dummies :=#[],finger:=0,led:=true,moves:=0,plain:=true }
theorem SW{t t':SetTable}(e:t.mask=t'.mask)(p:SetTable.Probe):t.advance p=t'.advance p:=by
 unfold SetTable.advance;rw[e]
theorem J7{t t':SetTable}(e:t.mask=t'.mask):∀(n:Nat)(p:SetTable.Probe),bz t n p=bz t' n p
 | 0,_=>rfl
 | n+1,p=>by
  show bz t n (t.advance p)=bz t' n (t'.advance p);rw[SW e,J7 e n]
theorem Zip{t t':SetTable}(e:t.mask=t'.mask)(h:Int):t.probeStart h=t'.probeStart h:=by
 unfold SetTable.probeStart;rw[e]
def jn(m:Nat)(h:Int)(n:Nat):Nat:=(bz (tm m) n ((tm m).probeStart h)).j
theorem VV(t:SetTable)(h:Int)(n:Nat):(bz t n (t.probeStart h)).j=jn t.mask h n:=by
 unfold jn;rw[Zip (t:=t) (t':=tm t.mask) rfl,J7 (t:=t) (t':=tm t.mask) rfl]
theorem J5{m i:Nat}(h:i<=m):SetTable.runEnd m i<=m:=by
 unfold SetTable.runEnd
 split <;> lia
theorem Ck(m i:Nat):i<=SetTable.runEnd m i:=by
 unfold SetTable.runEnd
 split <;> lia
theorem U9{m:Nat}{p:SetTable.Probe}(h:p.j+p.more<=m):((tm m).advance p).j+((tm m).advance p).more<=m:=by
 unfold SetTable.advance
 split
 ·show p.j+1+(p.more-1)<=m;lia
 ·have h1:(p.i*5+1+p.perturb / 32) % (m+1)<=m:=xh (tX _ (tY m));have h2:=J5 h1;have h3:=Ck m ((p.i*5+1+p.perturb / 32) % (m+1));show(p.i*5+1+p.perturb / 32) % (m+1)+(SetTable.runEnd m ((p.i*5+1+p.perturb / 32) % (m+1))-(p.i*5+1+p.perturb / 32) % (m+1))<=m;lia
theorem Lj{m:Nat}:∀(n:Nat){p:SetTable.Probe},p.j+p.more<=m->(bz (tm m) n p).j+(bz (tm m) n p).more<=m
 | 0,_,h=>h
 | n+1,p,h=>Lj n (U9 h)
theorem SS(m:Nat)(h:Int):((tm m).probeStart h).j+((tm m).probeStart h).more<=m:=by
 have h1:SetTable.bits h % (m+1)<=m:=xh (tX _ (tY m));have h2:=J5 h1;have h3:=Ck m (SetTable.bits h % (m+1));show SetTable.bits h % (m+1)+(SetTable.runEnd m (SetTable.bits h % (m+1))-SetTable.bits h % (m+1))<=m;lia
theorem VH(m:Nat)(h:Int)(n:Nat):jn m h n<=m:=by
 have:=Lj n (SS m h);unfold jn;lia
def Way(m:Nat)(U:Nat->Prop)(h:Int)(j:Nat):Prop := ∃n,jn m h n=j/\∀k,k<n->U (jn m h k)
theorem Way.mono{m:Nat}{U U':Nat->Prop}{h:Int}{j:Nat}(w:Way m U h j)(hu:∀y,y<=m->U y->U' y):Way m U' h j:=by
 obtain⟨n,e,hk⟩:=w;exact⟨n,e,fun k me=>hu _ (VH _ _ _) (hk k me)⟩
theorem yE(t:SetTable):∀(k:Nat)(p:SetTable.Probe),k<=p.more->(bz t k p).j=p.j+k
 | 0,_,_=>rfl
 | k+1,p,h=>by
  show(bz t k (t.advance p)).j=p.j+(k+1);have e:t.advance p= { p with j:=p.j+1,more:=p.more-1 }:=by
   unfold SetTable.advance;rw[ah (by lia)]
  rw[e,yE t k _ (show k<=p.more-1 by lia)];show p.j+1+k=_;lia
theorem Kb{m:Nat}{owner:Array (Option Nat)}:∀(cV:Nat)(p:SetTable.Probe)(j:Nat),SetTable.layClean.free m owner cV p.i p.perturb=some j->p.j=p.i->p.more=SetTable.runEnd m p.i-p.i ->
  ∃n,(bz (tm m) n p).j=j/\∀k,k<n->owner.getD (bz (tm m) k p).j (some 0)≠none
 | 0,p,j,h,_,_=>by
  unfold SetTable.layClean.free at h;cases h
 | cV+1,p,j,h,hj,hm=>by
  unfold SetTable.layClean.free at h;have hge:=Ck m p.i;cases hf:(List.range (SetTable.runEnd m p.i+1-p.i)).find? fun k=>(owner.getD (p.i+k) (some 0)).isNone with
  | some k' =>
   rw[hf] at h;have e:p.i+k'=j:=dk h;obtain⟨h1,h2,h3⟩:=List.find?_range_eq_some.mp hf;have iU:k'<=p.more:=by
    have:=hX.mp h2;lia
   refine⟨k',by rw[yE _ _ _ iU,hj];exact e,fun k hk hn=>?_⟩;rw[yE _ _ _ (by lia),hj] at hn;have h4:=h3 k hk;rw[hn] at h4;cases h4
  | none =>
   rw[hf] at h;have h':SetTable.layClean.free m owner cV (lp (tm m) p).i (lp (tm m) p).perturb=some j:=h;obtain⟨n',e,hk⟩:=Kb cV (lp (tm m) p) j h' rfl rfl;have NY:=Cw (tm m) p.more p rfl;refine⟨p.more+1+n',by rw[pA,NY];exact e,fun k me=>?_⟩;by_cases aC:k<=p.more
   ·rw[yE _ _ _ aC,hj];have:=List.find?_eq_none.mp hf k (hX.mpr (by lia));intro hn;rw[hn] at this;exact this rfl
   ·have e2:k=p.more+1+(k-(p.more+1)):=by lia
    rw[e2,pA,NY];exact hk _ (by lia)
def WO(m:Nat)(all:List Int)(owner:Array (Option Nat)):Prop := ∀j k,owner.getD j none=some k->∃x,all[k]?= some x/\Way m (fun y=>owner.getD y (some 0)≠none) x j
theorem KA{owner:Array (Option Nat)}{j y:Nat}{v d:Option Nat}(hy:y≠j):(owner.setIfInBounds j v).getD y d=owner.getD y d:=by
 simp only[Array.getD,AN]
 split
 ·rename_i hG
  exact Array.getElem_setIfInBounds_ne (by simpa using hG) (fG hy)
 ·rfl
theorem JQ{m:Nat}(hg:Good m)(all:List Int):∀(hs pre:List Int)(owner:Array (Option Nat)),all=pre++hs->Own m owner pre.length->WO m all owner->pre.length+hs.length<=m ->
  ∃kc,hs.foldl (fun(acc:Option (Array (Option Nat)×Nat)) h=>do
   let (owner,k) <- acc
   let j <- SetTable.layClean.free m owner (SetTable.turns m) (SetTable.bits h % (m+1)) (SetTable.bits h)
   pure (owner.setIfInBounds j (some k),k+1)) (some (owner,pre.length))=some (kc,pre.length+hs.length)/\Own m kc (pre.length+hs.length)/\WO m all kc
 | [],pre,owner,_,h,hw,_=>⟨owner,rfl,h,hw⟩
 | x::hs,pre,owner,ha,h,hw,hl=>by
  rw[aN] at hl;obtain⟨j,hj,ho⟩:=KP h (by lia);have hb:SetTable.bits x<2 ^ 64:=(xV (SetTable.fresh 0 0 true) x).2.1;obtain⟨n,hn,e⟩:=JU (t:=tm m) (p:={ j:=0,more:=0,i:=SetTable.bits x % (m+1),perturb:=SetTable.bits x,dummy:=none }) hg hb hj;obtain⟨j',hf,cn⟩:=BH ho n (SetTable.turns m) _ (by unfold SetTable.turns;have:n<=13+m:=hn;lia) e;have xu:SetTable.layClean.free m owner (SetTable.turns m) (SetTable.bits x % (m+1)) (SetTable.bits x)=some j':=hf;obtain⟨nw,ew,hkw⟩:=Kb (m:=m) (owner:=owner) (SetTable.turns m) ((tm m).probeStart x) j' xu rfl rfl;have oZ:j'<owner.size:=by
   apply AQ;intro hn;rw[Array.getD,dif_neg hn] at cn;cases cn
  have grow:∀y,owner.getD y (some 0)≠none->(owner.setIfInBounds j' (some pre.length)).getD y (some 0)≠none:=fun y hy=>by
   by_cases ey:y=j'
   ·rw[ey] at hy;exact absurd cn hy
   ·rw[KA ey];exact hy
  have j_:WO m all (owner.setIfInBounds j' (some pre.length)):=fun y k Aa=>by
   by_cases ey:y=j'
   ·subst ey;have hk:k=pre.length:=by
     have:(owner.setIfInBounds y (some pre.length)).getD y none=some pre.length:=by simp[Array.getD,oZ]
     rw[this] at Aa;exact(dk Aa).symm
    subst hk;refine⟨x,by rw[ha];simp,nw,ew,fun k hk=>grow _ (hkw k hk)⟩
   ·rw[KA ey] at Aa;obtain⟨z,e1,e2⟩:=hw y k Aa;exact⟨z,e1,e2.mono fun y _ hy=>grow y hy⟩
  have hlen:(pre ++ [x]).length=pre.length+1:=by rw[bu,List.length_singleton]
  obtain⟨kc,h1,h2,h3⟩:=JQ hg all hs (pre ++ [x]) _ (by rw[ha];simp) (by rw[hlen];exact Lu h cn) j_ (by rw[hlen];lia);rw[hlen] at h1 h2;refine⟨kc,?_,by rw[aN,show pre.length+(hs.length+1)=pre.length+1+hs.length by lia];exact h2,h3⟩;rw[List.foldl_cons];simp only[Option.bind_eq_bind,Option.bind_some,xu,Option.pure_def];rw[aN,show pre.length+(hs.length+1)=pre.length+1+hs.length by lia];exact h1
theorem Kr{m:Nat}{owner:Array (Option Nat)}{j k:Nat}:(j,k)∈de m owner↔j<=m/\owner.getD j none=some k:=by
 unfold de;rw[List.mem_filterMap];constructor
 ·rintro⟨y,hy,e⟩;cases ho:owner.getD y none with
  | none=>rw[ho] at e;cases e
  | some v =>
   rw[ho] at e;have e':(y,v)=(j,k):=dk e;cases e';exact⟨xh (hX.mp hy),ho⟩
 ·rintro⟨hj,ho⟩;exact⟨j,hX.mpr (Nat.lt_succ_of_le hj),by rw[ho];rfl⟩
theorem S7{m:Nat}(hg:Good m)(fi mo:Nat)(led plain:Bool)(hs:Array Int)(hl:hs.size<=m){t:SetTable}{order:Array Nat}(e:SetTable.laid m fi mo led plain hs=some (t,order)) :
  ∀(i j k:Nat),t.place[i]?= some j->order[i]?= some k->∃x,hs[k]?= some x/\Way m (· ∈ t.place.toList) x j:=by
 have h0:Own m (Array.replicate (m+1) none) 0:=by
  refine⟨Array.size_replicate,?_⟩;have:de m (Array.replicate (m+1) none)=[]:=by
   unfold de;rw[List.filterMap_eq_nil_iff];intro j hj;have:(Array.replicate (m+1) (none:Option Nat)).getD j none=none:=by
    simp[Array.getD]
   rw[this];rfl
  rw[this];exact jm _
 have hw0:WO m hs.toList (Array.replicate (m+1) none):=fun j k Oc=>by
  have:(Array.replicate (m+1) (none:Option Nat)).getD j none=none:=by simp[Array.getD]
  rw[this] at Oc;cases Oc
 obtain⟨owner,h1,h2,h3⟩:=JQ hg hs.toList hs.toList [] _ rfl h0 hw0 (by show 0+hs.toList.length<=m;rw[aA];lia);have hc:SetTable.layClean m hs=some owner:=by
  unfold SetTable.layClean;rw[<- Array.foldl_toList];have:=congrArg (Option.map (·.1)) h1;exact this
 have e2:t= { mask:=m,place:=((de m owner).map (·.1)).toArray,dummies :=#[],finger:=fi,led:=led,moves:=mo,plain:=plain }/\order=((de m owner).map (·.2)).toArray:=by
  unfold SetTable.laid at e;rw[hc] at e;have e':=dk e;exact⟨(congrArg Prod.fst e').symm,(congrArg Prod.snd e').symm⟩
 obtain⟨rfl,rfl⟩:=e2;intro i j k hj hk;have lA:(de m owner)[i]?.map (·.1)=some j:=by
  rw[<- f',<- hj];simp
 have iU:(de m owner)[i]?.map (·.2)=some k:=by
  rw[<- f',<- hk];simp
 cases hp:(de m owner)[i]? with
 | none=>rw[hp] at lA;cases lA
 | some pr =>
  rw[hp] at lA iU;have ej:pr.1=j:=dk lA;have ek:pr.2=k:=dk iU;have hm:(j,k)∈de m owner:=by
   rw[<- ej,<- ek];exact cP hp
  obtain⟨x,e1,w⟩:=h3 j k (Kr.mp hm).2;refine⟨x,by rw[<- bD];exact e1,w.mono fun y hy hu=>?_⟩;show y∈((de m owner).map (·.1)).toArray.toList;have hsz:=h2.size;have aC:y<owner.size:=by lia
  cases ho:owner.getD y none with
  | none =>
   exfalso;apply hu;simp only[Array.getD,aC,dif_pos] at ho ⊢;exact ho
  | some v=>exact gL.mpr ⟨(y,v),Kr.mpr ⟨hy,ho⟩,rfl⟩
theorem Fd{t:SetTable}(hd:t.dummies=#[])(ha:Nat->Int)(h:Int):∀(n cV:Nat)(p:SetTable.Probe),p.dummy=none->n<cV->t.slot (bz t n p).j=.empty ->
  (∃k,k<=n/\SetTable.probe.go t ha h cV p=some (.empty (bz t k p).j none)/\t.slot (bz t k p).j=.empty/\∀m,m<k->∃i,t.slot (bz t m p).j=.live i/\(ha i == h)=false) \/
  ∃k i,k<n/\SetTable.probe.go t ha h cV p=some (.candidate (bz t k p).j i (bz t (k+1) p))/\t.slot (bz t k p).j=.live i/\∀m,m<k->∃i,t.slot (bz t m p).j=.live i/\(ha i == h)=false
 | n,0,_,_,hn,_=>absurd hn (ic _)
 | n,cV+1,p,hp,hn,he=>by
  unfold SetTable.probe.go;cases hs:t.slot p.j with
  | empty=>exact .inl ⟨0,bi _,by rw[hp];rfl,hs,fun m hm=>absurd hm (ic _)⟩
  | dummy =>
   exfalso;unfold SetTable.slot at hs;dsimp only at hs
   split at hs
   ·cases hs
   ·rw[hd] at hs;exact SetTable.Slot.noConfusion hs
  | live i =>
   dsimp only;cases n with
   | zero =>
    rw[show(bz t 0 p).j=p.j from rfl,hs] at he;cases he
   | succ n =>
    by_cases hh:(ha i == h)=true
    ·rw[ah hh];exact .inr ⟨0,i,tY _,rfl,hs,fun m hm=>absurd hm (ic _)⟩
    ·rw[af hh];have xw:(ha i == h)=false:=by
      cases e:(ha i == h) with
      | true=>exact absurd e hh
      | false=>rfl
     have vN:(t.advance p).dummy=none:=by
      unfold SetTable.advance
      split
      ·exact hp
      ·exact hp
     have ext:∀k,(∀m,m<k->∃i,t.slot (bz t m (t.advance p)).j=.live i/\(ha i == h)=false)->∀m,m<k+1->∃i,t.slot (bz t m p).j=.live i/\(ha i == h)=false:=fun k hk m hm=>by
      cases m with
      | zero=>exact⟨i,hs,xw⟩
      | succ m=>exact hk m (by lia)
     rcases Fd hd ha h n cV (t.advance p) vN (by lia) he with⟨k,hk,e,h1,h2⟩|⟨k,i',hk,e,h1,h2⟩
     ·exact .inl ⟨k+1,by lia,e,h1,ext k h2⟩
     ·exact .inr ⟨k+1,i',by lia,e,h1,ext k h2⟩
theorem LH{t:SetTable}{j i:Nat}(h:t.slot j=.live i):t.place[i]?= some j:=by
 unfold SetTable.slot at h;dsimp only at h
 split at h
 ·rename_i h2
  cases h;exact eq_of_beq h2
 ·split at h <;> cases h
section
variable{prog:Program}{w:World}{K:Type}[DecidableEq K]{knd:KeyKind prog w K}{A:Around}{E:Value->Shared->Prop}{s:Shared}
theorem rP{h:Heap}{x y:List K}{b:Addr}(h1:IsTupleKey knd h x b)(h2:IsTupleKey knd h y b):x=y:=by
 obtain⟨o,its,n,e1,_,e3,e4⟩:=h1;obtain⟨o',its',n',f1,_,f3,f4⟩:=h2;rw[e1] at f1;cases f1;rw[e3] at f3;cases f3;exact e4.inj f4
def dq(knd:KeyKind prog w K)(h:Heap)(ks:List K)(e:Int×Value):Prop := ∃b,e.2=.ref b/\IsTupleKey knd h ks b
structure pd(knd:KeyKind prog w K)(h:Heap)(es:Array (Int×Value))(t:SetTable):Prop where
 tab:Tab es t
 ent:∀e∈es.toList,∃ks,dq knd h ks e/\e.1=tupleKeyHash knd ks
 way:∀(i:Nat) e j,es[i]?= some e->t.place[i]?= some j->Way t.mask (· ∈ t.place.toList) e.1 j
 one:es.toList.Pairwise fun e e'=>∀ks,dq knd h ks e -> ¬ dq knd h ks e'
theorem pd.ents{h:Heap}{es:Array (Int×Value)}{t:SetTable}(x:pd knd h es t):Wg knd false h es:=fun e he=>by
 obtain⟨ks,⟨b,e1,e2⟩,_⟩:=x.ent e he;exact⟨ks,b,e1,e2⟩
theorem pd.none{h:Heap}{es:Array (Int×Value)}{t:SetTable}(x:pd knd h es t){ks:List K}{N:Nat}(he:t.slot (jn t.mask (tupleKeyHash knd ks) N)=.empty)
  (hp:∀m,m<N->∃i e,t.slot (jn t.mask (tupleKeyHash knd ks) m)=.live i/\es[i]?= some e /\ ¬ dq knd h ks e):∀e∈es.toList,¬ dq knd h ks e:=fun e N6 hb=>by
 obtain⟨i0,sO⟩:=j3.mp N6;rw[bD] at sO;have aC:=(mC.mp sO).1;obtain⟨ka,gf,hh⟩:=x.ent e N6;have ek:ka=ks:=by
  obtain⟨b,e1,e2⟩:=hb;obtain⟨b',f1,f2⟩:=gf;rw[e1] at f1;cases f1;exact rP f2 e2
 subst ek;have hsz:=x.tab.size;have hj:t.place[i0]?= some t.place[i0]:=eX (by lia);obtain⟨n,en,hn⟩:=x.way i0 e _ sO hj;rw[hh] at en hn;have fY:t.place[i0]∈t.place.toList:=Array.getElem_mem_toList (by lia);rcases xj n N with Zrz|jS|nK
 ·obtain⟨i,e',h1,h2,h3⟩:=hp n Zrz;have h4:=LH h1;rw[en] at h4;have hi:i=i0:=by
   have l1:=(mC.mp h4).1;have e5:t.place[i]=t.place[i0]:=(mC.mp h4).2;rcases xj i i0 with z|z|z
   ·have:=rN x.tab.mx z (by lia);lia
   ·exact z
   ·have:=rN x.tab.mx z l1;lia
  rw[hi,sO] at h2;cases h2;exact h3 hb
 ·rw[<- jS,en] at he;exact BI x.tab.mx he fY
 ·exact BI x.tab.mx he (hn N nK)
set_option maxHeartbeats 1000000 in
theorem Ly{S a:Addr}{o:Obj}{es:Array (Int×Value)}{ep:Nat}{t:SetTable}{ks:List K}(hu:A.units<cLine)(ho:s.heap.get? S=some o)(hd:o.data=.set es ep t)(vG:pd knd s.heap es t)(hk:IsTupleKey knd s.heap ks a){Q:SetFound->Shared->Prop}
  (q0:(∃e∈es.toList,dq knd s.heap ks e)->Q (.there none) s) (q1:∀j,t.slot j=.empty->(∀e∈es.toList,¬ dq knd s.heap ks e)->Way t.mask (· ∈ t.place.toList) (tupleKeyHash knd ks) j->Q (.free j false) s) :
  ∀(cV n c:Nat)(oo:Option SetTable.Probe),oo.getD (t.probeStart (tupleKeyHash knd ks))=bz t c (t.probeStart (tupleKeyHash knd ks))->(∀m,m<c->∃i e,t.slot (jn t.mask (tupleKeyHash knd ks) m)=.live i/\es[i]?= some e /\ ¬ dq knd s.heap ks e) ->
   t.slot (bz t n (oo.getD (t.probeStart (tupleKeyHash knd ks)))).j=.empty->n<10*SetTable.turns t.mask->n<cV ->
  wpAny (model prog w) A (setSearchFrom S (.ref a) (tupleKeyHash knd ks) true cV oo) Q E s
 | 0,n,_,_,_,_,_,_,hn=>absurd hn (ic _)
 | cV+1,n,c,oo,zU,OA,he,FO,hn=>by
  have hT:=vG.tab;have hE:=vG.ents;have vN:(oo.getD (t.probeStart (tupleKeyHash knd ks))).dummy=none:=by rw[zU];exact Ju t c _ (xV t _).2.2
  unfold setSearchFrom;refine ae (jq ho hd hT.fits ?_);dsimp only;have hgw:t.gaveWay=false:=by
   unfold SetTable.gaveWay;rw[Tt hT.good];rfl
  rw[hgw,af (by decide)];have kB:∀m,(bz t m (oo.getD (t.probeStart (tupleKeyHash knd ks)))).j=jn t.mask (tupleKeyHash knd ks) (c+m):=fun m=>by rw[zU,<- pA,VV]
  have O0:∀{j i},t.slot j=.live i->∃e,es[i]?= some e:=fun{j i} hl=>⟨_,eX (by have:=Lx hl;rw[hT.size] at this;exact this)⟩;have bP:∀{i:Nat}{e:Int×Value},es[i]?= some e->(((es[i]?.map (·.1)).getD 0 == tupleKeyHash knd ks)=false) -> ¬ dq knd s.heap ks e:=fun{i e} qe hh hb=>by
   rw[qe] at hh;obtain⟨ka,gf,e2⟩:=vG.ent e (by rw[<- bD] at qe;exact cP qe);have ek:ka=ks:=by
    obtain⟨b,f1,f2⟩:=hb;obtain⟨b',g1,g2⟩:=gf;rw[f1] at g1;cases g1;exact rP g2 f2
   rw[ek] at e2;have xw:(e.1 == tupleKeyHash knd ks)=false:=hh;rw[e2] at xw;simp at xw
  generalize dh:oo.getD (t.probeStart (tupleKeyHash knd ks))=p at vN he kB zU
  split
  ·rename_i met hm
   unfold SetTable.probe at hm;rcases Fd hT.none _ (tupleKeyHash knd ks) n _ p vN FO he with⟨k,me,e,hj,nX⟩|⟨k,i,me,e,hl,nX⟩
   ·rw[e] at hm;cases hm;rw[kB k] at hj;have cx:∀m,m<c+k->∃i e,t.slot (jn t.mask (tupleKeyHash knd ks) m)=.live i/\es[i]?= some e /\ ¬ dq knd s.heap ks e:=fun m hm=>by
     by_cases FN:m<c
     ·exact OA m FN
     ·obtain⟨i,h1,h2⟩:=nX (m-c) (by lia);rw[kB,show c+(m-c)=m by lia] at h1;obtain⟨e,ma⟩:=O0 h1;exact⟨i,e,h1,ma,bP ma h2⟩
    refine ai ?_;rw[kB k];refine q1 _ hj (vG.none hj cx) ⟨c+k,rfl,fun m hm=>?_⟩;obtain⟨i,_,h1,_⟩:=cx m hm;have:=LH h1;rw[<- bD] at this;exact cP this
   ·rw[e] at hm;cases hm;have hi:=Lx hl;rw[hT.size] at hi;obtain⟨ka,b,dw,hb⟩:=hE es[i] (Array.getElem_mem_toList hi);have Ol:es[i]∈es.toList:=Array.getElem_mem_toList hi;have nJ:es[i]?= some (es[i].1,Value.ref b):=by rw[eX hi,<- dw]
    have qq:t.sameMemory t.moves t.mask=some true:=by
     unfold SetTable.sameMemory;rw[ah (beq_self_eq_true _)]
    have again:ka≠ks->wpAny (model prog w) A (setSearchFrom S (.ref a) (tupleKeyHash knd ks) true cV (some (bz t (k+1) p))) Q E s:=fun ZrC=>by
     refine Ly hu ho hd vG hk q0 q1 cV (n-(k+1)) (c+(k+1)) (some (bz t (k+1) p)) (by show bz t (k+1) p=_;rw[zU,<- pA]) (fun m hm=>?_) (by
      show t.slot (bz t (n-(k+1)) (bz t (k+1) p)).j=.empty;rw[<- pA,show k+1+(n-(k+1))=n by lia];exact he) (by lia) (by lia)
     by_cases FN:m<c
     ·exact OA m FN
     by_cases hmk:m<c+k
     ·obtain⟨i',h1,h2⟩:=nX (m-c) (by lia);rw[kB,show c+(m-c)=m by lia] at h1;obtain⟨e,ma⟩:=O0 h1;exact⟨i',e,h1,ma,bP ma h2⟩
     ·have em:m=c+k:=by lia
      rw[kB k,<- em] at hl;refine⟨i,es[i],hl,eX hi,fun⟨b',f1,f2⟩=>?_⟩;rw[dw] at f1;cases f1;exact ZrC (rP hb f2)
    dsimp only;rw[nJ];dsimp only;have FZ:∀v∈(Array.filter (fun x=>x.fst == tupleKeyHash knd ks) es).toList.map (fun x=>x.snd),∃ks b,v=Value.ref b/\IsTupleKey knd s.heap ks b:=fun v hv=>by
     obtain⟨x,hx,rfl⟩:=gL.mp hv;rw[Array.toList_filter] at hx;exact hE x (List.mem_filter.mp hx).1
    cases gZ:t.led with
    | false =>
     rw[ah (by decide)];refine ae (Vr hk _ FZ ?_);rw[af (by decide)];refine ae (iR (wpAny_eqBool_tuple hu hb hk (ae (jq ho hd hT.fits ?_))));by_cases jS:ka=ks
     ·rw[aQ jS,ah (by decide)];exact ai (q0 ⟨es[i],Ol,b,dw,jS ▸ hb⟩)
     ·rw[aZ jS,af (by decide)];dsimp only;rw[qq];dsimp only;rw[if_pos rfl,hl];dsimp only;rw[nJ];dsimp only;refine wpAny_bind (wpAny_isSame_ref_self (wpAny_bind (wpAny_pure ?_)));rw[if_pos rfl];dsimp only;rw[if_neg (by decide)];exact again jS
    | true =>
     rw[af (by decide)];refine ae (iR (wpAny_eqBool_tuple hu hb hk (ae (jq ho hd hT.fits ?_))));by_cases jS:ka=ks
     ·rw[aQ jS,ah (by decide)];exact ai (q0 ⟨es[i],Ol,b,dw,jS ▸ hb⟩)
     ·rw[aZ jS,af (by decide)];dsimp only;rw[qq];dsimp only;rw[if_pos rfl,hl];dsimp only;rw[nJ];dsimp only;refine wpAny_bind (wpAny_isSame_ref_self (wpAny_bind (wpAny_pure ?_)));rw[if_pos rfl];dsimp only;rw[if_neg (by decide)];exact again jS
  ·rename_i hm
   exfalso;unfold SetTable.probe at hm;rcases Fd hT.none _ (tupleKeyHash knd ks) n _ p vN FO he with⟨k,me,e,hj,nX⟩|⟨k,i,me,e,hl,nX⟩
   ·exact hm _ e
   ·exact hm _ e
end
theorem pD{α : Type}(xs:Array α){p:Nat}(hp:p<=xs.size)(x : α)(i:Nat):(SetTable.insertAt xs p x)[i]?= if i<p then xs[i]? else if i=p then some x else xs[i-1]? := by
 have hl:(xs.toList.take p).length=p:=by rw[dM,aA];lia
 rw[<- bD,Jd];by_cases h1:i<p
 ·rw[ah h1,oC (by lia),qM h1,bD]
 rw[af h1,mE (by lia),hl];by_cases h2:i=p
 ·rw[ah h2,h2,Nat.sub_self];rfl
 ·rw[af h2,show i-p=(i-1-p)+1 by lia,List.getElem?_cons_succ,jZ,show p+(i-1-p)=i-1 by lia,bD]
section
variable{prog:Program}{w:World}{K:Type}[DecidableEq K]{knd:KeyKind prog w K}{A:Around}{E:Value->Shared->Prop}{s:Shared}
abbrev One(knd:KeyKind prog w K)(h:Heap)(l:List (Int×Value)):Prop:=l.Pairwise fun e e'=>∀ks,dq knd h ks e -> ¬ dq knd h ks e'
theorem One.perm{h:Heap}{l l':List (Int×Value)}(x:One knd h l)(p:l'.Perm l):One knd h l':=(p.pairwise_iff fun{a b} jR ks hb ha=>jR ks ha hb).mpr x
theorem RY{h h':Heap}{S:Addr}{o o':Obj}{es cZ:Array (Int×Value)}{ep lx:Nat}{t t':SetTable}(ho:h.get? S=some o)(hd:o.data=.set es ep t)(cn:h'.get? S=some o')(gg:o'.data=.set cZ lx t')(sb:Heap.SameBut S h h')(ks:List K)(e:Int×Value):dq knd h ks e↔dq knd h' ks e:=by
 constructor
 ·rintro⟨b,e1,e2⟩;exact⟨b,e1,UY ho hd sb e2⟩
 ·rintro⟨b,e1,o2,items,n,h1,h2,h3,h4⟩;have bP:b≠S:=fun z=>by
   rw[z,cn] at h1;cases h1;rw[gg] at h3;cases h3
  exact⟨b,e1,o2,items,n,(sb.2 b bP).symm.trans h1,h2,h3,h4⟩
def pL(knd:KeyKind prog w K)(h:Heap)(S:Addr)(vs:Value->Prop)(P:List K->Prop)(n:Nat)(led:Bool):Prop :=
 ∃o es ep t,h.get? S=some o/\o.ExactSet/\o.data=.set es ep t/\pd knd h es t/\es.size<=n/\t.led=led/\(∀e∈es.toList,vs e.2)/\∀ks,(∃e∈es.toList,dq knd h ks e)↔P ks
theorem U_{order:Array Nat}{es:Array (Int×Value)}(cx:∀k∈order.toList,k<es.size)(i:Nat):(order.filterMap (es[·]?))[i]?= order[i]?.bind (es[·]?):=by
 rw[<- bD,Array.toList_filterMap,<- bD];generalize order.toList=l at cx
 induction l generalizing i with
 | nil=>simp
 | cons k l ih =>
  have hk:=cx k (ba ..);rw[oB (b:=es[k]) (eX hk)];cases i with
  | zero =>
   rw[List.getElem?_cons_zero,List.getElem?_cons_zero];exact(eX hk).symm
  | succ i =>
   rw[List.getElem?_cons_succ,List.getElem?_cons_succ];exact ih i fun z hz=>cx z (aW _ hz)
set_option maxHeartbeats 1000000 in
theorem Vm{S:Addr}{o:Obj}{es:Array (Int×Value)}{ep:Nat}{t:SetTable}{Q:Unit->Shared->Prop}(ho:s.heap.get? S=some o)(hd:o.data=.set es ep t)(hf:t.fits es.size=true)(h1:1<=es.size)(hn:es.size<=1000)
  (h:∀(cZ:Array (Int×Value))(t':SetTable)(h':Heap),cZ.toList.Perm es.toList->Tab cZ t'->(∀(i:Nat) e j,cZ[i]?= some e->t'.place[i]?= some j->Way t'.mask (· ∈ t'.place.toList) e.1 j)->t'.led=t.led->h'.get? S=some { o with data:=.set cZ (ep+1) t' }->Heap.SameBut S s.heap h'->Q () { s with heap:=h' }) :
  wpAny (model prog w) A (setRelay S (SetTable.grown es.size)) Q E s:=by
 have qd:SetTable.grown es.size=es.size*4:=by unfold SetTable.grown;rw[af (by lia)]
 rw[qd];obtain⟨g1,g2,g3⟩:=above (n:=es.size*4) (by lia);unfold setRelay;refine ae (jq ho hd hf ?_);dsimp only;rw[if_neg (by rw[sizeLine_eq];lia)];obtain⟨t',order,e,m1,m2,m3,m4,m5,m6,m7,m8⟩:=UW g1 t.finger (t.movedTo (SetTable.sizeAbove (es.size*4)-1)) t.led t.plain (es.map (·.1)) (by rw[wV];lia);have qt:=S7 g1 t.finger (t.movedTo (SetTable.sizeAbove (es.size*4)-1)) t.led t.plain (es.map (·.1)) (by rw[wV];lia) e;rw[wV] at m3 m4;have e2:t.relaid (es.map (·.1)) (es.size*4)=some (t',order):=e;rw[e2];have jU:(order.filterMap (es[·]?)).toList.Perm es.toList:=by
  rw[Array.toList_filterMap];exact(m4.filterMap _).trans (tN (filterMap_getElem?_range es))
 have hsz:(order.filterMap (es[·]?)).size=es.size:=by
  rw[<- aA,jU.length_eq,aA]
 have Ge:∀(i:Nat) e j,(order.filterMap (es[·]?))[i]?= some e->t'.place[i]?= some j->Way t'.mask (· ∈ t'.place.toList) e.1 j:=fun i e j hi hj=>by
  rw[U_ (fun k hk=>hX.mp (m4.mem_iff.mp hk))] at hi;cases kJ:order[i]? with
  | none=>rw[kJ] at hi;cases hi
  | some k =>
   rw[kJ] at hi;have cm:es[k]?= some e:=hi;obtain⟨x,hx,hwx⟩:=qt i j k hj kJ;rw[Array.getElem?_map,cm] at hx;have ex:e.1=x:=dk hx;rw[m1,ex];exact hwx
 refine ae (wpAny_of_eq (a:=(order.filterMap (es[·]?),t')) ?_ ?_)
 ·change (ite (((order.filterMap (es[·]?)).size != es.size)=true) _ _:Sem (Array (Int×Value)×SetTable))=_;rw[af (by rw[hsz];simp)]
 dsimp only;refine wpAny_storeSet_of ho hd (h _ t' _ jU ⟨by rw[m3,hsz],m2,by rw[m1];exact g1,?_,m8⟩ Ge m5 (iX.stored ho hd _ _) (wX ..)) (by rw[hsz,fH];lia);unfold SetTable.fill;rw[m1,m2,m3];show(es.size+0)*5<_;lia
set_option maxHeartbeats 2000000 in
theorem BW{S a:Addr}{o:Obj}{es:Array (Int×Value)}{ep:Nat}{t t2:SetTable}{vs:Value->Prop}{P:List K->Prop}{n j:Nat}{led:Bool}{ks:List K}{Q:Bool->Shared->Prop}(ho:s.heap.get? S=some o)(hx:o.ExactSet)(hd:o.data=.set es ep t)(jb:pd knd s.heap es t)(hsz:es.size<=n)(gZ:t.led=led)(n_:∀e∈es.toList,vs e.2)
  (hP:∀ks,(∃e∈es.toList,dq knd s.heap ks e)↔P ks) (hn:n<=900) (hk:IsTupleKey knd s.heap ks a) (hv:vs (.ref a)) (hj:t.slot j=.empty) (g9:∀e∈es.toList,¬ dq knd s.heap ks e) (qt:Way t.mask (· ∈ t.place.toList) (tupleKeyHash knd ks) j) (e1:t2.mask=t.mask) (e2:t2.place=SetTable.insertAt t.place (SetTable.below t.place j) j) (e3:t2.dummies=#[]) (e4:t2.led=t.led)
  (q:∀b h',Heap.SameBut S s.heap h'->pL knd h' S vs (fun k=>P k\/k=ks) (n+1) led->Q b { s with heap:=h' }) :
  wpAny (model prog w) A (do
   storeSet S (SetTable.insertAt es (SetTable.below t.place j) (tupleKeyHash knd ks,Value.ref a)) t2
   if(!false&&t2.tooFull)=true then do
     setRelay S (SetTable.grown (es.size+1))
     pure true
    else pure true) Q E s:=by
 have hT:=jb.tab;have hr:=hT.room;have hfe:=hT.fill_eq;have sG:=(uA hT.mx j).1;have Oa:=SetTable.insertAt_perm es (SetTable.below t.place j) (tupleKeyHash knd ks,Value.ref a);have aR:(SetTable.insertAt es (SetTable.below t.place j) (tupleKeyHash knd ks,Value.ref a)).toList.Perm ((tupleKeyHash knd ks,Value.ref a)::es.toList):=by
  refine Oa.trans ?_;rw[fk];exact j4 (l₁ := es.toList) (l₂ :=[_])
 have nZ:(SetTable.insertAt es (SetTable.below t.place j) (tupleKeyHash knd ks,Value.ref a)).size=es.size+1:=by
  rw[<- aA,Oa.length_eq,aA,Array.size_push]
 have jd:t2.place.size=es.size+1:=by
  have:=(SetTable.insertAt_perm t.place (SetTable.below t.place j) j).length_eq;rw[aA,aA,Array.size_push,hT.size] at this;rw[e2];exact this
 have Zrc:t2.fill=es.size+1:=by
  unfold SetTable.fill;rw[jd,e3];rfl
 have ZrY:iW t2.place:=by
  rw[e2];exact R4 hT.mx (BI hT.mx hj)
 have FG:∀y,y∈t.place.toList->y∈t2.place.toList:=fun y hy=>by
  rw[e2];refine(SetTable.insertAt_perm t.place (SetTable.below t.place j) j).mem_iff.mpr ?_;rw[fk];exact oE _ hy
 have OT:∀(i:Nat) e y,(SetTable.insertAt es (SetTable.below t.place j) (tupleKeyHash knd ks,Value.ref a))[i]?= some e->t2.place[i]?= some y->Way t2.mask (· ∈ t2.place.toList) e.1 y:=fun i e y hi hy=>by
  rw[pD es (by rw[<- hT.size];exact sG)] at hi;rw[e2,pD t.place sG] at hy;rw[e1];by_cases c1:i<SetTable.below t.place j
  ·rw[ah c1] at hi hy;exact(jb.way i e y hi hy).mono fun z _ hz=>FG z hz
  rw[af c1] at hi hy;by_cases c2:i=SetTable.below t.place j
  ·rw[ah c2] at hi hy;cases hi;cases hy;exact qt.mono fun z _ hz=>FG z hz
  ·rw[af c2] at hi hy;exact(jb.way (i-1) e y hi hy).mono fun z _ hz=>FG z hz
 generalize SetTable.insertAt es (SetTable.below t.place j) (tupleKeyHash knd ks,Value.ref a)=jM at aR nZ OT;have OF:dq knd s.heap ks (tupleKeyHash knd ks,Value.ref a):=⟨a,rfl,hk⟩;have ZrI:One knd s.heap jM.toList:=by
  refine One.perm (AW.mpr ⟨fun e he ka kC dw=>?_,jb.one⟩) aR;obtain⟨b,f1,f2⟩:=kC;cases f1;have:ka=ks:=rP f2 hk;subst this;exact g9 e he dw
 have Zq8:∀e∈jM.toList,∃ks,dq knd s.heap ks e/\e.1=tupleKeyHash knd ks:=fun e he=>by
  rcases aG.mp (aR.mem_iff.mp he) with rfl|he
  ·exact⟨ks,OF,rfl⟩
  ·exact jb.ent e he
 have Zsk:∀e∈jM.toList,vs e.2:=fun e he=>by
  rcases aG.mp (aR.mem_iff.mp he) with rfl|he
  ·exact hv
  ·exact n_ e he
 have hP1:∀k,(∃e∈jM.toList,dq knd s.heap k e)↔(P k\/k=ks):=fun k=>by
  constructor
  ·rintro⟨e,he,hb⟩;rcases aG.mp (aR.mem_iff.mp he) with rfl|he
   ·obtain⟨b,f1,f2⟩:=hb;cases f1;exact .inr (rP f2 hk)
   ·exact .inl ((hP k).mp ⟨e,he,hb⟩)
  ·rintro(iU|rfl)
   ·obtain⟨e,he,hb⟩:=(hP k).mpr iU;exact⟨e,aR.mem_iff.mpr (aW _ he),hb⟩
   ·exact⟨_,aR.mem_iff.mpr (ba ..),OF⟩
 have fin:∀(h':Heap)(o':Obj)(cZ:Array (Int×Value))(lx:Nat)(t':SetTable),Heap.SameBut S s.heap h'->h'.get? S=some o'->o'.ExactSet->o'.data=.set cZ lx t'->cZ.toList.Perm jM.toList->Tab cZ t'->(∀(i:Nat) e j,cZ[i]?= some e->t'.place[i]?= some j->Way t'.mask (· ∈ t'.place.toList) e.1 j)->t'.led=led->pL knd h' S vs (fun k=>P k\/k=ks) (n+1) led:=fun h' o' cZ lx t' sb cn o5 gg hp ue j_ A_=>by
  have vh:=fun k e=>RY (knd:=knd) ho hd cn gg sb k e;have hl:cZ.size=jM.size:=by rw[<- aA,hp.length_eq,aA]
  refine⟨o',cZ,lx,t',cn,o5,gg,⟨ue,fun e he=>?_,j_,?_⟩,by lia,A_,fun e he=>Zsk e (hp.mem_iff.mp he),fun k=>?_⟩
  ·obtain⟨k,hb,e5⟩:=Zq8 e (hp.mem_iff.mp he);exact⟨k,(vh k e).mp hb,e5⟩
  ·refine(ZrI.perm hp).imp fun{x y} kN k h1 h2=>kN k ((vh k x).mpr h1) ((vh k y).mpr h2)
  ·refine Iff.trans ?_ (hP1 k);constructor
   ·rintro⟨e,he,hb⟩;exact⟨e,hp.mem_iff.mp he,(vh k e).mpr hb⟩
   ·rintro⟨e,he,hb⟩;exact⟨e,hp.mem_iff.mpr he,(vh k e).mp hb⟩
 refine ae (wpAny_storeSet_of ho hd ?_ (by rw[nZ,fH];lia));have gD:=iX.stored ho hd jM t2;have jh:Heap.SameBut S s.heap (s.heap.update S (Obj.putSet jM t2)):=wX ..;generalize s.heap.update S (Obj.putSet jM t2)=h1 at gD jh;have Zrd:t2.fits jM.size=true:=by
  unfold SetTable.fits;rw[jd,nZ,Zrc,e1];simp;lia
 by_cases N9:t2.tooFull=true
 ·rw[N9,ah (by decide),<- nZ];refine ae (Vm (s:={ s with heap:=h1 }) gD rfl Zrd (by lia) (by lia) fun cZ t' h' hp ue j_ A_ cn xx=>ai ?_);exact q true h' (jh.trans xx) (fin h' _ cZ _ t' (jh.trans xx) cn hx rfl hp ue j_ (by rw[A_,e4,gZ]))
 ·have FR:t2.tooFull=false:=by
   cases hc:t2.tooFull with
   | true=>exact absurd hc N9
   | false=>rfl
  rw[FR,af (by decide)];refine ai (q true h1 jh (fin h1 _ jM _ t2 jh gD hx rfl (jm _) ⟨by rw[jd,nZ],e3,by rw[e1];exact hT.good,?_,ZrY⟩ OT (by rw[e4,gZ])));unfold SetTable.tooFull at FR;have:=of_decide_eq_false FR;lia
set_option maxHeartbeats 2000000 in
theorem RH{S a:Addr}{vs:Value->Prop}{P:List K->Prop}{n:Nat}{led:Bool}{ks:List K}{Q:Bool->Shared->Prop}(hu:A.units<cLine)(hS:pL knd s.heap S vs P n led)(hn:n<=900)(hk:IsTupleKey knd s.heap ks a)(hv:vs (.ref a))
  (q:∀b h',Heap.SameBut S s.heap h'->pL knd h' S vs (fun k=>P k\/k=ks) (n+1) led->Q b { s with heap:=h' }):wpAny (model prog w) A (setAddHashed S (.ref a) (tupleKeyHash knd ks)) Q E s:=by
 obtain⟨o,es,ep,t,ho,hx,hd,jb,hsz,gZ,n_,hP⟩:=hS;have hT:=jb.tab;have hr:=hT.room;have hfe:=hT.fill_eq;unfold setAddHashed;refine iR ?_;unfold setAddHashedIn;refine ae (jq ho hd hT.fits ?_);have hbs:byScan (.ref a) es=false:=rfl;dsimp only;rw[hbs,if_neg (by decide)];obtain⟨m,hm1,zI⟩:=Q5 hT (tupleKeyHash knd ks);have qq:=Q2 hT.good;unfold setSearch;refine ae (Ly (knd:=knd) hu ho hd jb hk (fun hex=>?_) (fun j hj g9 qt=>?_) 100000 m 0 none rfl (fun m hm=>absurd hm (ic _)) zI hm1 (by lia))
 ·refine ai (q false s.heap (Heap.SameBut.refl ..) ⟨o,es,ep,t,ho,hx,hd,jb,by lia,gZ,n_,fun k=>(hP k).trans ⟨.inl,fun z=>?_⟩⟩);rcases z with z|rfl
  ·exact z
  ·exact(hP k).mp hex
 dsimp only;refine wpAny_bind (wpAny_setState_of ho hd hT.fits ?_);dsimp only;have kG:SetTable.has t.dummies j=false:=by rw[hT.none];rfl
 have ZrO:t.put j=({ t with place:=SetTable.insertAt t.place (SetTable.below t.place j) j },SetTable.below t.place j):=by
  unfold SetTable.put;rw[kG];rfl
 rw[ZrO];dsimp only;cases aR:t.plain with
 | true =>
  rw[ah rfl];refine ae (Se hk fun b=>?_);cases b with
  | true =>
   rw[ah rfl];exact BW ho hx hd jb hsz gZ n_ hP hn hk hv hj g9 qt rfl rfl hT.none rfl q
  | false =>
   rw[af (by decide)];exact BW ho hx hd jb hsz gZ n_ hP hn hk hv hj g9 qt rfl rfl hT.none rfl q
 | false =>
  rw[af (by decide)];refine ae (ai ?_);rw[ah rfl];exact BW ho hx hd jb hsz gZ n_ hP hn hk hv hj g9 qt rfl rfl hT.none rfl q
theorem WI{S a:Addr}{vs:Value->Prop}{P:List K->Prop}{n:Nat}{led:Bool}{ks:List K}{Q:Bool->Shared->Prop}(hu:A.units<cLine)(hS:pL knd s.heap S vs P n led)(hn:n<=900)(hk:IsTupleKey knd s.heap ks a)(hv:vs (.ref a))
  (q:∀b h' tk,s.toks<=tk->Heap.SameBut S s.heap h'->pL knd h' S vs (fun k=>P k\/k=ks) (n+1) led->Q b { s with heap:=h',toks:=tk }):wpAny (model prog w) A (setAdd S (.ref a)) Q E s:=by
 unfold setAdd;refine iR (ae (wpAny_pyHash_tuple hu hk ?_));exact RH (s:={ s with toks:=_ }) hu hS hn hk hv fun b h' sb xt=>q b h' _ (Nat.le_add_right _ _) sb xt
end
end pb
namespace bj
open PySem PyProof.Rows uu PySem.W
structure gk{α : Type}(lt : α -> α -> Bool):Prop where
 tw:∀a,lt a a=false
 trans:∀a b c,lt a b=true->lt b c=true->lt a c=true
 wQ:∀a b,lt a b=false->lt b a=false->a=b
section
variable{α β : Type}{lt : α -> α -> Bool}{qx : β -> β -> Bool}
theorem gk.yO(o:gk lt){a b : α}(h:lt a b=true):lt b a=false:=by
 cases e:lt b a with
 | false=>rfl
 | true =>
  have:=o.trans a b a h e;rw[o.tw] at this;cases this
theorem gk.neg(o:gk lt){x y z : α}(h1:lt x y=false)(h2:lt y z=false):lt x z=false:=by
 cases e:lt x z with
 | false=>rfl
 | true =>
  cases e2:lt y x with
  | true=>rw[o.trans y x z e2 e] at h2;cases h2
  | false =>
   have:=o.wQ x y h1 e2;subst this;rw[e] at h2;cases h2
theorem gk.Py(o:gk lt)(f:Value -> α):cK fun x y=>lt (f x.1) (f y.1):=⟨fun _ _ h=>o.yO h,fun _ _ _ h1 h2=>o.neg h1 h2⟩
def vc[DecidableEq α](lt : α -> α -> Bool)(qx : β -> β -> Bool)(x y : α × β):Bool:=lt x.1 y.1 || (decide (x.1=y.1)&&qx x.2 y.2)
theorem gk.lex[DecidableEq α](o:gk lt)(o2:gk qx):gk (vc lt qx) where
 tw:=fun a=>by unfold vc;rw[o.tw,o2.tw];simp
 trans:=fun a b c h1 h2=>by
  unfold vc at *;simp only[qI,cO,cB] at *;rcases h1 with h1|⟨e1,h1⟩
  ·rcases h2 with h2|⟨e2,h2⟩
   ·exact .inl (o.trans _ _ _ h1 h2)
   ·exact .inl (e2 ▸ h1)
  ·rcases h2 with h2|⟨e2,h2⟩
   ·exact .inl (e1.symm ▸ h2)
   ·exact .inr ⟨e1.trans e2,o2.trans _ _ _ h1 h2⟩
 wQ:=fun a b h1 h2=>by
  unfold vc at *;simp only[Bool.or_eq_false_iff,Bool.and_eq_false_imp,cB] at *;have e1:=o.wQ _ _ h1.1 h2.1;have e2:=o2.wQ _ _ (h1.2 e1) (h2.2 e1.symm);exact Prod.ext e1 e2
theorem Ub:gk fun a b:Int=>decide (a<b):=⟨fun a=>by simp,fun a b c h1 h2=>by simp only[cB] at *;lia,fun a b h1 h2=>by simp only[decide_eq_false_iff_not] at *;lia⟩
theorem Jq:∀a b:List Nat,¬ a<b -> ¬ b<a->a=b
 | [],[],_,_=>rfl
 | [],b::bs,h,_=>absurd (List.nil_lt_cons b bs) h
 | a::as,[],_,h=>absurd (List.nil_lt_cons a as) h
 | a::as,b::bs,h1,h2=>by
  rw[wY] at h1 h2;have e:a=b:=by
   rcases xj a b with z|z|z
   ·exact absurd (.inl z) h1
   ·exact z
   ·exact absurd (.inl z) h2
  subst e;rw[Jq as bs (fun z=>h1 (.inr ⟨rfl,z⟩)) (fun z=>h2 (.inr ⟨rfl,z⟩))]
theorem xG:∀a:List Nat,¬ a<a
 | [],h=>by cases h
 | a::as,h=>by
  rw[wY] at h;rcases h with h|⟨_,h⟩
  ·lia
  ·exact xG as h
theorem Jf:∀a b c:List Nat,a<b->b<c->a<c
 | [],_,[],_,h2=>by cases h2
 | [],_,c::cs,_,_=>List.nil_lt_cons c cs
 | a::as,[],_,h1,_=>by cases h1
 | a::as,b::bs,[],_,h2=>by cases h2
 | a::as,b::bs,c::cs,h1,h2=>by
  rw[wY] at *;rcases h1 with h1|⟨e1,h1⟩
  ·rcases h2 with h2|⟨e2,h2⟩
   ·exact .inl (by lia)
   ·exact .inl (by lia)
  ·rcases h2 with h2|⟨e2,h2⟩
   ·exact .inl (by lia)
   ·exact .inr ⟨by lia,Jf as bs cs h1 h2⟩
theorem Uh{x y:Str}(h:x.cps.toList=y.cps.toList):x=y:=by
 cases x;cases y
 congr 1
 exact Array.toList_inj.mp h
theorem UP:gk fun a b:Str=>decide (a.cps.toList<b.cps.toList):=⟨fun a=>aZ (xG _),fun a b c h1 h2=>aQ (Jf _ _ _ (ig h1) (ig h2)),fun a b h1 h2=>Uh (Jq _ _ (of_decide_eq_false h1) (of_decide_eq_false h2))⟩
end
end bj
namespace pb
open PySem PyProof.Rows PySem.W iX
section
variable{prog:Program}{w:World}{A:Around}{E:Value->Shared->Prop}{s:Shared}
theorem RW(es:Array (Int×Value)):(List.range es.size).map (fun j=>(es.getD j (0,.none)).2)=es.toList.map (·.2):=by
 refine List.ext_getElem? fun i=>?_;rw[f',f'];by_cases hi:i<es.size
 ·rw[List.getElem?_range hi,bD,eX hi];simp[Array.getD,hi]
 ·rw[AS (by rw[tU];lia),AS (by rw[aA];lia)];rfl
set_option maxHeartbeats 1000000 in
theorem Uk{S:Addr}{o:Obj}{es:Array (Int×Value)}{ep:Nat}{t:SetTable}{Q:Value->Shared->Prop}(ho:s.heap.get? S=some o)(hx:o.ExactSet)(hd:o.data=.set es ep t)(hT:Tab es t)(gZ:t.led=uZ w)(hn:es.size<=900)
  (q:∀(I T:Addr)(ys:List Value)(h':Heap)(d:Drawn),(∀b o,s.heap.get? b=some o->h'.get? b=some o)->lG w h' I S T es ep t ys 0->ys.length=es.size->S≠I->T≠I->ys.Perm (es.toList.map (·.2))->s.heap.objs.size<=I->(T=S\/s.heap.objs.size<=T)->Q (.ref I) { s with heap:=h',drawn:=d }) :
  wpAny (model prog w) A (pyIter (.ref S)) Q E s:=by
 have kL:s.TypeIs (.ref S) "set" := ⟨o,ho,hx.1⟩;have hf:=hT.fits;refine wpAny_pyIter_slot kL PySem.F.slot_set_iter (ll PySem.F.slot_set_iter kL QW ?_ (PySem.F.args_set_iter_1 _));unfold Builtin.«frozenset.__iter__»;refine ae ?_;unfold Builtin.Frozenset.slot0;refine ae (ai ?_);change wpAny _ A.in1 (pure S) _ _ s;refine ai (ae ?_);unfold Builtin.Frozenset.sizeOf;refine ae (B8 ho hd hf (ai (ae (TR ho hd hf ?_))));have NB:∀{s1:Shared}{Q1:Nat->Shared->Prop}{E1:Value->Shared->Prop},s1.heap.get? S=some o->Q1 ep s1->wpAny (model prog w) A.in1 (setEpoch S) Q1 E1 s1:=fun gD h=>by
  unfold setEpoch;exact ae (jq gD hd hf (ai h))
 cases zt:(!w.params.followText "set-order" && (!t.plain&&decide (es.size > 1))) with
 | true =>
  rw[ah rfl];have hf0:w.params.followText "set-order" = false:=by
   cases hc:w.params.followText "set-order" with
   | false=>rfl
   | true=>rw[hc] at zt;cases zt
  refine ae (Lr es.size (List.range es.size) s tU fun perm d hp=>?_);have aR:perm.length=es.size:=by rw[hp.length_eq,tU]
  refine ae (wpAny_newTuple ?_ (by rw[aV,aR,fH];lia));dsimp only;refine ae (NB (aJ _ ho) ?_);unfold newFields;refine ae (iS (ai ⟨_,rfl,"set_iterator",_,⟨_,cb _ rfl,rfl⟩,pj.lookup,?_⟩));have sY:(s.heap.push { cls:=.type "tuple",data:=.seq (perm.map fun(i:Nat)=>rawInt (i:Int)).toArray }).objs.size=s.heap.objs.size+1:=iN ..;refine q _ s.heap.objs.size (perm.map fun j=>(es.getD j (0,.none)).2) _ d (fun b o e=>aJ _ (aJ _ e)) ⟨⟨o,aJ _ (aJ _ ho),hd⟩,hf,_,_,cb _ rfl,rfl,rfl,.inr (.inr ⟨_,_,_,rfl,aJ _ (cb _ rfl),rfl,?_,fun k v hk=>?_⟩)⟩ (by rw[aV,aR]) ?_ ?_ ?_ ?_ (.inr (az _))
  ·rw[aV,aR]
  ·have iU:(perm.map fun(i:Nat)=>rawInt (i:Int))[k]?= some v:=by rw[<- hk];simp
   rw[f'] at iU;obtain⟨j,hj,rfl⟩:=oI.mp iU;have nS:j<es.size:=hX.mp (hp.mem_iff.mp (cP hj));refine⟨j,0,rfl,?_,nS⟩;rw[f',hj,eX nS];simp[Array.getD,nS]
  ·rw[sY];exact bX (Nat.lt_succ_of_lt (aT ho))
  ·rw[sY];exact bX (gO _)
  ·exact(hp.map _).trans (tN (RW es))
  ·rw[sY];exact h_ _
 | false =>
  rw[af (by decide)];refine ae (ai ?_);dsimp only;refine ae (NB ho ?_);unfold newFields;refine ae (iS (ai ⟨_,rfl,"set_iterator",_,⟨_,cb _ rfl,rfl⟩,pj.lookup,?_⟩));have nI:S≠s.heap.objs.size:=bX (aT ho);cases zw:w.params.followText "set-order" with
  | true =>
   have nX:(pickOrder (w.params.setOrder S ep) es).toList.Perm es.toList:=by
    have:=J2 (w.params.setOrder S ep) es.size 0 es.toList #[] (aA)
    simpa[pickOrder] using this
   refine q _ S ((pickOrder (w.params.setOrder S ep) es).toList.map (·.2)) _ s.drawn (fun b o e=>aJ _ e) ⟨⟨o,aJ _ ho,hd⟩,hf,_,_,cb _ rfl,rfl,rfl,.inl ⟨0,rfl,zw,rfl⟩⟩ (by rw[aV,nX.length_eq,aA]) nI nI (nX.map _) (az _) (.inl rfl)
  | false =>
   rw[zw] at zt;have dg:t.led=true:=by rw[gZ];show(!w.params.followText "set-order")=true;rw[zw];rfl
   refine q _ S (es.toList.map (·.2)) _ s.drawn (fun b o e=>aJ _ e) ⟨⟨o,aJ _ ho,hd⟩,hf,_,_,cb _ rfl,rfl,rfl,.inr (.inl ⟨0,rfl,zw,zt,dg,RG hT.mx,hT.mx,rfl⟩)⟩ (by rw[aV,aA]) nI nI (jm _) (az _) (.inl rfl)
set_option maxHeartbeats 1000000 in
theorem QQ{S:Addr}{oS:Obj}{es:Array (Int×Value)}{ep:Nat}{t:SetTable}{Q:List Value->Shared->Prop}(hh:A.handled=none)(fj:s.heap.get? S=some oS)(Gf:oS.ExactSet)(hd:oS.data=.set es ep t)(hT:Tab es t)(gZ:t.led=uZ w)(hn:es.size<=900)
  (q:∀(ys:List Value)(h':Heap)(tk:Nat)(d:Drawn),(∀b o,s.heap.get? b=some o->h'.get? b=some o)->ys.Perm (es.toList.map (·.2))->s.heap.objs.size<=h'.objs.size->Q ys { s with heap:=h',toks:=tk,drawn:=d }):wpAny (model prog w) A (collect (.ref S)) Q E s:=by
 unfold collect;refine ae (wpAny_runValue (t7 entry_proto_collect' ?_));change wpAny _ _ (do again (.builtin "list.__iadd__" ⟨[<- newList [],.ref S],[]⟩)) _ _ s;refine ae (wpAny_newList (ai ⟨Code.quiet_builtin _ (by decide +kernel),t7 entry_list_iadd' ?_⟩));change wpAny _ _ (Builtin.List.listExtendWith (.ref s.heap.objs.size) (.ref S) (.ref s.heap.objs.size)) _ _ { s with heap:=s.heap.push (seqObj "list" #[] 0) };have ZqK:=aT fj;have hL:(s.heap.push (seqObj "list" #[] 0)).get? s.heap.objs.size=some (seqObj "list" #[] 0):=cb _ rfl;have kL:Shared.TypeIs { s with heap:=s.heap.push (seqObj "list" #[] 0) } (.ref S) "set" := ⟨oS,aJ _ fj,Gf.1⟩;unfold Builtin.List.listExtendWith;refine ae (qQ (T := "set") kL ?_);have GW:s.heap.objs.size≠S:=qO ZqK;have h1:Builtin.List.listSameRef (.ref s.heap.objs.size) (.ref S)=false:=by simp[Builtin.List.listSameRef,GW]
 rw[h1,af (by decide)];refine ae (Uk (s:={ s with heap:=s.heap.push (seqObj "list" #[] 0) }) (aJ _ fj) Gf hd hT gZ hn fun I T ys h2 d k2 x hy As nTI n_ hI sF=>?_);have NR:s.heap.objs.size<I:=by
  refine cQ ?_ hI;show s.heap.objs.size<(s.heap.push (seqObj "list" #[] 0)).objs.size;rw[iN];exact gO _
 have pZ:=k2 _ _ hL;have nTL:s.heap.objs.size≠T:=by
  rcases sF with rfl|sF
  ·exact GW
  ·refine bX (cQ ?_ sF);show s.heap.objs.size<(s.heap.push (seqObj "list" #[] 0)).objs.size;rw[iN];exact gO _
 have NT:s.heap.objs.size ∉ [I,S,T]:=by
  simp only[aG,xa,or_false,not_or];exact⟨bX NR,GW,nTL⟩
 have W:=TC (prog:=prog) (w:=w) (A:=A.in1) (t:=t) (ep:=ep) hh As nTI hy;have Ztc:∀b o,s.heap.get? b=some o->h2.get? b=some o:=fun b o e=>k2 b o (aJ _ e);have kC:∀b o,s.heap.get? b=some o->b≠s.heap.objs.size:=fun b o e=>bX (aT e);have hbI:∀b o,s.heap.get? b=some o->b≠I:=fun b o e=>bX (Nat.lt_trans (aT e) NR);have key:∀(h:Heap)(D0 tk:Nat),lG w h I S T es ep t ys 0->(∀b o,b≠s.heap.objs.size->h2.get? b=some o->h.get? b=some o)->h.get? s.heap.objs.size=some { cls:=.type "list",data:=.seq #[] D0 } ->
   codeAny (model prog w) A (.builtin "list.extend.loop" ⟨[.ref s.heap.objs.size,.ref I,.ref s.heap.objs.size],[]⟩) (wants (fun v s'=>wpAny (model prog w) A (match v with
     | Value.ref a=>do
      let o <- load a
      match o.data with
      | .seq xs _=>pure xs.toList
      | _=>unsupported "internal:collect"
     | _=>unsupported "internal:collect") Q E s') E) { s with heap:=h,drawn:=d,toks:=tk }:=by
  intro h D0 tk dh hk p8;refine codeAny_extend_loopS W.toS (by rw[fH];lia) s.heap.objs.size NT _ ys.length 0 _ #[] D0 rfl (bi _) dh p8 (ItemsOf.nil _) fun s' oQ c' hm jO nF=>?_;rw[Moved.eq_with hm];refine ae (wpAny_load jO ?_);refine ai ?_;have ZqN:oQ.toList=ys:=by
   refine List.ext_getElem? fun j=>?_;rw[bD];cases hj:oQ[j]? with
   | none =>
    have h3:oQ.size<=j:=Array.getElem?_eq_none_iff.mp hj;rw[nF.1] at h3;rw[AS h3]
   | some v=>rw[nF.2 j v hj]
  rw[ZqN];refine q ys s'.heap s'.toks d (fun b o e=>hm.heap b o (fun fY=>?_) (hk b o (kC b o e) (Ztc b o e))) n_ (lg (aT jO));rcases aG.mp fY with z|z
  ·exact kC b o e z
  ·exact hbI b o e (bh.mp z)
 refine ae (iR (Ta ⟨oS,k2 S oS (aJ _ fj),Gf.1⟩ ?_));refine wpAny_ite_split (fun _=>?_) (fun _=>ai ⟨plainId_quiet PySem.F.plain_extend_loop _,key h2 0 _ x (fun b o _ e=>e) pZ⟩);refine ae (mH (ae ?_));change wpAny _ _ (updateSeq s.heap.objs.size (·.push .none) >>= fun _=>updateSeq s.heap.objs.size (·.pop)) _ _ _;refine ae (wpAny_updateSeq pZ rfl ?_);have p8:=qJ (Obj.mapSeq (·.push Value.none)) pZ rfl;refine wpAny_updateSeq (hz:=by seq_fits) p8 rfl ?_;have jO:=qJ (Obj.mapSeq (·.pop)) p8 rfl;have Ay:∀b o,b≠s.heap.objs.size->h2.get? b=some o->((h2.update s.heap.objs.size (Obj.mapSeq (·.push Value.none))).update s.heap.objs.size (Obj.mapSeq (·.pop))).get? b=some o:=fun b o hb e=>(hW _ _ (fG hb)).trans ((hW _ _ (fG hb)).trans e);exact ai ⟨plainId_quiet PySem.F.plain_extend_loop _,key _ _ _ (W.frame 0 _ _ x fun b hb o e=>Ay b o (fun z=>NT (z ▸ hb)) e) Ay jO⟩
end
end pb
namespace pb
open PySem PyProof.Rows iX
section
variable{prog:Program}{w:World}{A:Around}{R:Result->Shared->Prop}
structure Goes(prog:Program)(w:World)(A:Around)(S:Addr)(items:Array Value)(J:Nat->Heap->Prop):Prop where
 keep:∀i h h',J i h->(∀b o,b<=S->h.get? b=some o->h'.get? b=some o)->J i h'
 add:∀(i:Nat) v (s:Shared) (Q:Bool->Shared->Prop) (E:Value->Shared->Prop),items[i]?= some v->J i s.heap->(∀b h' tk,Heap.SameBut S s.heap h'->J (i+1) h'->Q b { s with heap:=h',toks:=tk })->wpAny (model prog w) A (setAdd S v) Q E s
theorem To{S I l:Addr}{items:Array Value}{J:Nat->Heap->Prop}(hh:A.in1.handled=none)(g:Goes prog w A.in1 S items J)(Fp:S<I)(hlI:l≠I):∀(k i:Nat)(s:Shared),items.size-i=k->i<=items.size->(s.heap.IsListIter I l i/\s.heap.IsList l items)->l<S->J i s.heap ->
   (∀h' tk,J items.size h'->(∀b o,b<S->s.heap.get? b=some o->h'.get? b=some o)->R (.ok (.ret .none)) { s with heap:=h',toks:=tk })->codeAny (model prog w) A (.builtin "set.update.loop" ⟨[.ref S,.ref I],[]⟩) R s:=by
 have W:=Walks.list (prog:=prog) (w:=w) (A:=A.in1) hh I l hlI items;intro k
 induction k with
 | zero =>
  intro i s hk hi dh sR hw hR;obtain rfl:i=items.size:=by lia
  refine t7 F.entry_set_update_loop ?_;rw[Around.under_plainId F.plain_set_update_loop _];change wpAny _ A.in1 (pyNext (.ref I) >>= _) _ _ s;refine ae (W.done s _ _ dh fun h' tk hm=>?_);change wpAny _ A.in1 (ret Value.none) _ _ _;have qf:∀b o,b<=S->s.heap.get? b=some o->h'.get? b=some o:=fun b o hb e=>hm b o (fun z=>gN _ (xi (bh.mp z ▸ hb) Fp)) e;exact ai (hR h' tk (g.keep _ _ _ hw qf) fun b o hb e=>qf b o (lg hb) e)
 | succ k ih =>
  intro i s hk hi dh sR hw hR;have aC:i<items.size:=by lia
  refine t7 F.entry_set_update_loop ?_;rw[Around.under_plainId F.plain_set_update_loop _];change wpAny _ A.in1 (pyNext (.ref I) >>= _) _ _ s;refine ae (W.item i s _ _ aC dh fun v h' tk hP P7 hm=>?_);have qf:∀b o,b<=S->s.heap.get? b=some o->h'.get? b=some o:=fun b o hb e=>hm b o (fun z=>gN _ (xi (bh.mp z ▸ hb) Fp)) e;have j_:=g.keep _ _ _ hw qf;change wpAny _ A.in1 (holding [v] (setAdd S v) >>= _) _ _ _;refine ae (iR (g.add i v { s with heap:=h',toks:=tk } _ _ hP j_ fun b1 h2 tk2 sb Fo=>?_));have iH:∀b o,b≠S->h'.get? b=some o->h2.get? b=some o:=fun b o hb e=>(sb.2 b hb).trans e;refine ai ⟨plainId_quiet F.plain_set_update_loop _,ih (i+1) _ (by lia) aC ?_ sR Fo fun h3 wL hw3 hb3=>hR h3 wL hw3 fun b o hb e=>hb3 b o hb (iH b o (bX hb) (qf b o (lg hb) e))⟩;refine W.frame _ h' h2 P7 fun b hb o e=>iH b o (fun z=>?_) e;simp only[aG,xa,or_false] at hb;rcases hb with rfl|rfl
  ·exact gN _ (z ▸ Fp)
  ·exact gN _ (z ▸ sR)
end
section
variable{prog:Program}{w:World}{A:Around}{E:Value->Shared->Prop}{s:Shared}
set_option maxRecDepth 100000 in
set_option maxHeartbeats 3200000 in
theorem Sk{l:Addr}{items:Array Value}{J:Nat->Heap->Prop}{Q:Value->Shared->Prop}(hh:A.handled=none)(hu:A.units+100<cLine)(hl:s.heap.IsList l items)(g:∀B:Around,B.units<cLine->Goes prog w B s.heap.objs.size items J)(j0:∀h:Heap,h.get? s.heap.objs.size=some (ip w)->(∀b o,b<s.heap.objs.size->s.heap.get? b=some o->h.get? b=some o)->J 0 h)
  (q:∀(h':Heap)(tk:Nat),J items.size h'->(∀b o,b<s.heap.objs.size->s.heap.get? b=some o->h'.get? b=some o)->Q (.ref s.heap.objs.size) { s with heap:=h',toks:=tk }) :
  wpAny (model prog w) A (call (.type "set") [.ref l]) Q E s:=by
 obtain⟨c,tl,Oo⟩:=oJ.mro;have Zxz:=oJ.made;have sX:=oJ.sub;refine wpAny_call (codeAny_of_tree ?_);change wpAny _ _ (callAny (.type "set") _) _ _ _;refine ai ⟨Code.quiet_builtin _ (by decide +kernel),t7 PySem.F.entry_type_call ?_⟩;rw[Around.under_plain (weight_type_call_type "set" [.ref l] []) rfl];have Zx0:=oJ.notType;have canMake:=oJ.canCreate;have Zxd:=PySem.F.typeCall_set_1 (.ref l)
 repeat (any_goals (first|assumption|wp_step))
 refine oN (TY (.ref l) (E:=E) (Q₁ := fun obj a_=>obj=.ref s.heap.objs.size/\a_ = { s with heap:=s.heap.push (ip w) }) ⟨rfl,rfl⟩) fun r a_ hr=>?_;cases r with
 | error e=>exact hr
 | ok fl =>
  cases fl with
  | ret obj =>
   obtain⟨rfl,rfl⟩:=hr;have hS:(s.heap.push (ip w)).get? s.heap.objs.size=some (ip w):=cb _ rfl;have hT:Shared.TypeIs { s with heap:=s.heap.push (ip w) } (.ref s.heap.objs.size) "set" := ⟨_,hS,rfl⟩;have hli:=oJ.init.lookup;have hbi:=oJ.init.bind (.ref s.heap.objs.size)
   repeat (any_goals (first|assumption|wp_step))
   refine oN (codeAny_call_builtin (R:=wants (fun r jX=>r=.none/\∃h' tk,jX = { s with heap:=h',toks:=tk }/\J items.size h'/\∀b o,b<s.heap.objs.size->s.heap.get? b=some o->h'.get? b=some o) E) oJ.init.plain PySem.F.entry_set_init (check_set_init_1 hT ?_)) fun Zvw jX FW=>?_
   ·obtain⟨ol,qi,bM,nl,N4⟩:=hl;obtain⟨Zx1,ZuU,Zx2,ZuX⟩:=ol;simp only at bM N4;subst bM;subst N4;have ZrH:(s.heap.push (ip w)).get? l=some { cls:=.type "list",dict:=ZuU,data:=.seq items nl,slots:=ZuX }:=aJ _ qi;have ZxJ:=PySem.F.sub_list_set;have ZxI:=PySem.F.sub_list_frozenset;have bP:(Value.type "list" == Value.type "dict")=false:=by decide
    have dg:(s.heap.push (ip w)).IsList l items:=⟨_,ZrH,rfl,nl,rfl⟩;unfold Builtin.«set.__init__» noKeywords Builtin.Frozenset.updateFrom;generalize hPI:pyIter=PI
    wp_walk
    subst hPI;refine wpAny_pyIter_list dg (ae (wpAny_runValue ?_));have sR:l<s.heap.objs.size:=aT qi;have hsz:(s.heap.push (ip w)).objs.size=s.heap.objs.size+1:=iN ..;have zh:((s.heap.push (ip w)).push { cls:=.type "list_iterator",data:=.fields #[.ref l,.int 0 0] }).get? s.heap.objs.size=some (ip w):=aJ _ hS;have kk:∀b o,b<s.heap.objs.size->s.heap.get? b=some o->((s.heap.push (ip w)).push { cls:=.type "list_iterator",data:=.fields #[.ref l,.int 0 0] }).get? b=some o:=fun b o hb e=>aJ _ (aJ _ e);refine To (J:=J) (by simp[hh]) (g _ (by simp only[Around.in1_units];lia)) (by rw[hsz];exact gO _) (by rw[hsz];exact bX (Nat.lt_succ_of_lt sR)) (items.size-0) 0 _ rfl (bi _)
     ⟨⟨_,cb _ rfl,rfl,rfl⟩,dg.push _⟩ sR (j0 _ zh kk) fun h' tk hw hb=>?_
    change wpAny _ _ _ _ _ _;refine ai ?_;change wpAny _ _ (ret Value.none) _ _ _;exact ai ⟨rfl,h',tk,rfl,hw,fun b o aC e=>hb b o aC (kk b o aC e)⟩
   ·cases Zvw with
    | error e=>exact FW
    | ok ZpN =>
     cases ZpN with
     | ret r =>
      obtain⟨rfl,h',tk,rfl,hw⟩:=FW
      repeat (any_goals (first|assumption|wp_step))
      exact q _ _ hw.1 hw.2
     | _=>exact FW.elim
  | _=>exact hr.elim
end
end pb
namespace bj
theorem gk.strict{α : Type}{lt : α -> α -> Bool}(o:gk lt){l:List α}(h:l.Pairwise (fun a b=>lt b a=false))(hn:l.Nodup):l.Pairwise (fun a b=>lt a b=true):=by
 refine lc.mpr fun i j hi hj eS=>?_;have h1:=(lc.mp h) i j hi hj eS;have h2:=(lc.mp hn) i j hi hj eS;cases e:lt l[i] l[j] with
 | true=>rfl
 | false=>exact absurd (o.wQ _ _ e h1) h2
end bj
namespace L2
open PySem PySem.Spec PyProof.Rows PySem.W bj iX pb
theorem KJ:∀{vs:List V}{us:List Value},Vals vs us->∀(i:Nat) u,us[i]?= some u->∃v,vs[i]?= some v/\RelV v u
 | _,_,.cons r t,i,u,h=>by
  cases i with
  | zero =>
   injection h with h;subst h;exact⟨_,rfl,r⟩
  | succ i=>exact KJ t i u h
end L2
namespace L2
open PySem PySem.Spec PyProof.Rows PySem.W bj
section
variable{X:Cx}
theorem Tc{prog:Program}{w:World}{A:Around}{s:Shared}{l:Addr}{vs:List Value}(hl:s.heap.IsList l vs.toArray)(hn:vs.length<=90000){Q':List Value->Shared->Prop}{E':Value->Shared->Prop}
  (hq:∀(ys:List Value)(h':Heap)(tk:Nat)(d:Drawn),(∀b o,s.heap.get? b=some o->h'.get? b=some o)->ys=vs->ys.length<=90000->s.heap.objs.size<=h'.objs.size->Q' ys { s with heap:=h',toks:=tk,drawn:=d }):wpAny (model prog w) A (collect (.ref l)) Q' E' s:=by
 refine collect_list hl ?_ (by rw[fH];lia);refine hq _ _ s.toks s.drawn (fun b o e=>?_) rfl hn ?_
 ·rw[hW _ _ (qO (aT e))];exact aJ _ e
 ·rw[Heap.size_update,iN];exact h_ _
end
end L2
namespace Fg
open PySem L2 js
theorem Ur{X:Cx}{K:PySem.W.Frag}{es:List Expr}{k:Nat}{t:mQ}{n:Nat}{pos:Pos}(hK:X.K=K)(hc:X.calm=true)(h:ur X es t)(hn:(assignEach es X.env).length=n:=by rfl)(dh:(assignEach es X.env).findIdx? (·.1)=none:=by rfl):PG X (.Tuple es k pos) (MM K n t):=by
 subst hK;exact uV hc h hn dh
theorem Sx:bootBuiltins "sorted" = some (.builtin "sorted"):=by decide +kernel
theorem uB{α : Type}{l:List α}{i:Nat}{x : α}(h:l[i]?= some x):l.take (i+1)=l.take i ++ [x]:=by
 rw[List.take_add_one,h];rfl
end Fg
namespace L2
open PySem PySem.Spec PyProof.Rows PySem.W bj
def KL(H:Hp)(ys:List V)(ks:List (List Key)):Prop:=Paired (fun z k=>∃b,z=V.ref b/\H b=some (.tup (k.map kV))) ys ks
theorem Ug{H:Hp}{aj:List (List Key×V)}{xs:List (List Key×Addr×Value)}(h:Paired (fun(p:List Key×V)(q:List Key×Addr×Value)=>p.1=q.1/\H q.2.1=some (.tup (p.1.map kV))/\RelV p.2 q.2.2) aj xs):∃ys,Vals ys (xs.map fun x=>Value.ref x.2.1)/\KL H ys (aj.map (·.1)):=by
 induction h with
 | nil=>exact⟨[],.nil,.nil⟩
 | @cons p q l m r t ih =>
  obtain⟨ys,h1,h2⟩:=ih;exact⟨.ref q.2.1::ys,.cons rfl h1,.cons ⟨q.2.1,rfl,r.2.1⟩ h2⟩
section
variable{X:Cx}
theorem Ro{es:Array DictEntry}{acc:Array Value}(hit:ItemsOf (fun i v=>∃e,es[i]?= some e/\v=e.key) acc es.size):acc.toList=es.toList.map (·.key):=by
 refine List.ext_getElem? fun j=>?_;rw[bD,f',bD];cases hj:acc[j]? with
 | none =>
  have h3:acc.size<=j:=Array.getElem?_eq_none_iff.mp hj;rw[hit.1] at h3;rw[tK h3];rfl
 | some v =>
  obtain⟨e,h1,rfl⟩:=hit.2 j v hj;rw[h1];rfl
theorem QF(hc:X.calm=true):fO X (.type "list") (fun xs H Q=>∃(d:Addr)(aj:List (List Key×V)),xs=[.ref d]/\H d=some (.dT aj)/\∀l ys,H l=none->KL H ys (aj.map (·.1))->Q (.ref l) (upd H l (.lst ys))):=by
 intro pins s σ H xs us Q I r h;obtain⟨d,aj,rfl,hd,q⟩:=h;obtain⟨u,rfl,rx⟩:=vals1 r;obtain rfl:u=.ref d:=rx;obtain⟨hl,lo,xs,rel,o,es,ep,ho,hx,zr,nJ,zK⟩:=(show bL X.prog X.w H s.heap d (.dT aj) from I.aq d _ hd);obtain⟨ys,rv,kl⟩:=Ug rel;have hek:es.toList.map (·.key)=xs.map fun x=>Value.ref x.2.1:=by
  rw[nJ,w_];rfl
 have tf:aj.length=xs.length:=rel.length;have hel:es.size=xs.length:=by rw[<- aA,nJ,aV]
 have kO:=rv.length;rw[aV] at kO;refine kdl_call (UK lo) (I.ok.hd hc) (⟨o,ho,hx,zr⟩:jG s.heap d es ep) (by rw[hel,<- tf];exact hl) fun h' tk acc c k e hit=>?_;have nF:=Ro hit;have I2:=I.laid (h':=h') (t':=tk) (a:=s.heap.objs.size) (o:=.lst ys) k (az _) (show bL X.prog X.w _ h' _ (.lst ys) from⟨by rw[kO,<- tf];exact hl,acc.toList,c,by rw[nF,hek];exact rv,e⟩);exact⟨.ref s.heap.objs.size,_,I2,rfl,q _ _ (I.aq.fresh (az _)) kl⟩
end
end L2
namespace L2
open PySem PySem.Spec PyProof.Rows
section
variable{X:Cx}{C:Addr}{m x:Str}{ps:List Str}{j k:Nat}{sp:Sp}{o e:Expr}{es:List Expr}{ta:TE}{t:TA}{p pos apos:Pos}
theorem UU(G:Bf X.prog X.w X.K X.mg X.base C x ps j sp)(hr:cj k X.A)(hg:Gl X x)(ha:PA X (e::es) t)(hk:j+1<=k:=by decide)(gB:(x == ("__debug__" : Str))=false:=by decide)
  (he:starEach (e::es) X.env=(false,eval e X.env)::starEach es X.env:=by rfl) (aR:(backTo pos (starEach es X.env)).any (·.1)=false:=by rfl):PE X (.Call (.Name x p) (e::es) [] pos) (Mg C sp [] E0 t):=by
 obtain⟨f,fd,F,b,M,hm⟩:=G.ex;exact UQ M F (hr.mono hk) hg hm b .nil yI ha gB he aR
end
theorem TQ{X:Cx}:bB X (compareOp .IsNot) (fun x y H Q=>∃a b,x=.bl a/\y=.bl b/\Q (.bl (!decide (a=b))) H):=by
 intro pins s σ H x y v u Q I rx ry h;obtain⟨a,b,rfl,rfl,q⟩:=h;cases rx;cases ry;cases a <;> cases b <;> exact ai (Z5 I q rfl)
end L2
namespace Fg
open PySem L2 js
theorem via{u t:TS}{D:Ends}{σ : St}{H:Hp}(R:St->Hp->Prop)(h2:∀ ao H',R ao H'->t D ao H')(h1:(∀ ao H',R ao H'->t D ao H')->u D σ H):u D σ H:=h1 h2
theorem making{H:Hp}{x dx C:Addr}(hx:H x=none)(Fz:H dx=none)(bP:dx≠x):ZD H (upd (upd H dx (.own x)) x (.ins C dx [])):=(ZD.new Fz).trans (ZD.new (by
 rw[Zi bP.symm];exact hx))
theorem Ri{t:Str}(h:jH t):PyData.strOk t=true:=by
 unfold PyData.strOk;rw[Array.all_eq_true'];intro c hc;have:=h c (Array.mem_toList_iff.mpr hc);exact aQ (by lia)
end Fg
namespace bj
open PySem PyProof.Rows uu PySem.W
abbrev Ps:=Int×Str
def cT:Ps->Ps->Bool:=vc (fun a b:Int=>decide (a<b)) fun a b:Str=>decide (a.cps.toList<b.cps.toList)
theorem mY:gk cT:=Ub.lex UP
def gq(h:Heap)(v:Value)(q:Ps):Prop := ∃a o t u n,v=.ref a/\h.get? a=some o/\o.cls=.type "tuple" /\ o.data=.seq #[.int q.1 t,.str q.2 u] n
theorem gq.inj{h:Heap}{v:Value}{q q':Ps}(x:gq h v q)(y:gq h v q'):q=q':=by
 obtain⟨a,o,t,u,n,rfl,h1,_,h3⟩:=x;obtain⟨a',o',t',u',n',e,ud,_,oX⟩:=y;cases e;rw[h1] at ud;cases ud;rw[h3] at oX;obtain⟨q1,q2⟩:=q;obtain⟨r1,r2⟩:=q';simp only[Data.seq.injEq,Array.mk.injEq,List.cons.injEq,Value.int.injEq,Value.str.injEq,and_true] at oX;obtain⟨⟨⟨e1,_⟩,⟨e2,_⟩⟩,_⟩:=oX;rw[e1,e2]
theorem gq.keep{h h':Heap}{v:Value}{q:Ps}(x:gq h v q)(k:∀b o,h.get? b=some o->h'.get? b=some o):gq h' v q:=by
 obtain⟨a,o,t,u,n,rfl,h1,r⟩:=x;exact⟨a,o,t,u,n,rfl,k _ _ h1,r⟩
open Classical in
noncomputable def dJ(h:Heap)(v:Value):Ps:=if x:∃q,gq h v q then x.choose else(0,Str.empty)
theorem uU{h:Heap}{v:Value}{q:Ps}(x:gq h v q):dJ h v=q:=by
 unfold dJ;rw[dif_pos ⟨q,x⟩];exact(Exists.choose_spec (⟨q,x⟩:∃q,gq h v q)).inj x
section
variable{prog:Program}{w:World}{A:Around}{s:Shared}
theorem KH{h:Heap}:∀{vs:List Value},(∀v∈vs,∃q,gq h v q)->∃fs,KatTups h vs fs/\fs.length=vs.length/\∀f∈fs,∃i t,f=.int i t
 | [],_=>⟨[],trivial,rfl,fun _ h=>nomatch h⟩
 | v::vs,hv=>by
  obtain⟨q,a,o,t,u,n,rfl,ho,hc,hd⟩:=hv v (ba ..);obtain⟨fs,kt,hl,hf⟩:=KH (vs:=vs) fun x hx=>hv x (aW _ hx);refine⟨.int q.1 t::fs,KatTups.cons ho hc hd rfl kt,by simp[hl],fun f hm=>?_⟩;rcases aG.mp hm with rfl|hm
  ·exact⟨_,t,rfl⟩
  ·exact hf f hm
theorem IY{h0:Heap}{vs:List Value}(hv:∀v∈vs,∃q,gq h0 v q)(k0:∀b o,h0.get? b=some o->s.heap.get? b=some o)(h2:2<=vs.length):BJ prog w A (fun u v=>cT (dJ h0 u) (dJ h0 v)) vs s:=by
 have ug:∀v∈vs,∃q,gq s.heap v q:=fun v hm=>let ⟨q,x⟩:=hv v hm;⟨q,x.keep k0⟩;obtain⟨fs,k,hl,hf⟩:=KH ug;refine⟨tuples' true,fun Q E hq=>?_,?_⟩
 ·refine kat_kind (T:=.type "int") k (by lia) (fun v hm=>?_) rfl hq;obtain⟨i,t,rfl⟩:=hf v hm;exact Looks.of_pure rfl
 ·intro x y hx hy E;rw[pairsOf_toList] at hx hy;obtain⟨q,xq⟩:=hv _ (mem_zip_self hx).2;obtain⟨q',yq⟩:=hv _ (mem_zip_self hy).2;have e1:(fun x y:Keyed=>cT (dJ h0 x.1) (dJ h0 y.1)) x y=cT q q':=by
   show cT (dJ h0 x.1) (dJ h0 y.1)=_;have kM:=(mem_zip_self hx);have Gg:=(mem_zip_self hy);rw[uU xq,uU yq]
  rw[e1];obtain⟨a,o,t,u,n,e,ho,hc,hd⟩:=xq.keep k0;obtain⟨a',o',t',u',n',e',cn,qR,gg⟩:=yq.keep k0;rw[e,e'];obtain⟨q1,q2⟩:=q;obtain⟨r1,r2⟩:=q';refine kat_lt ho hd cn gg ?_;have Hm:cT (q1,q2) (r1,r2)=(decide (q1<r1) || (decide (q1=r1)&&decide (q2.cps.toList<r2.cps.toList))):=rfl;rw[Hm];refine kat_cons (wpAny_eqBool_int (kat_go (fun c1=>kat_yes ?_) (fun c1=>kat_no ?_)))
  ·have oR:q1=r1:=eq_of_beq c1;refine kat_cons (wpAny_eqBool_str (kat_go (fun c4=>kat_yes (kat_nil ⟨rfl,?_⟩)) (fun c4=>kat_no ?_)))
   ·have PY:q2=r2:=eq_of_beq c4;subst oR PY;simp[xG]
   ·refine kat_one _ _ (PyProof.Rows.lt_str ⟨rfl,?_⟩);subst oR;simp
  ·refine oneLt_int ⟨rfl,?_⟩;have oR : ¬ q1=r1:=fun z=>by rw[z] at c1;simp at c1
   simp[oR]
end
end bj
namespace L2
open PySem PySem.Spec PyProof.Rows PySem.W bj
def wO(q:Ps):HO:=.tup [.int q.1,.str q.2]
def bR(q:Ps):List Key:=[Sum.inl q.1,Sum.inr q.2]
def cD(H:Hp)(zs:List V)(qs:List Ps):Prop:=Paired (fun z q=>∃p,z=V.ref p/\H p=some (wO q)) zs qs
theorem cD.mem{H:Hp}:∀{zs:List V}{qs:List Ps},cD H zs qs->∀z∈zs,∃p,∃q∈qs,z=V.ref p/\H p=some (wO q)
 | _,_,.cons ⟨p,e1,e2⟩ t,z,hz=>by
  rcases aG.mp hz with rfl|hz
  ·exact⟨p,_,ba ..,e1,e2⟩
  ·obtain⟨p,q,hq,r⟩:=cD.mem t z hz;exact⟨p,q,aW _ hq,r⟩
theorem cD.length{H:Hp}:∀{zs:List V}{qs:List Ps},cD H zs qs->zs.length=qs.length
 | _,_,.nil=>rfl
 | _,_,.cons _ t=>by rw[aN,aN,cD.length t]
theorem cD.get{H:Hp}:∀{zs:List V}{qs:List Ps},cD H zs qs->∀(i:Nat) z,zs[i]?= some z->∃p q,qs[i]?= some q/\z=V.ref p/\H p=some (wO q)
 | _,_,.cons ⟨p,e1,e2⟩ t,i,z,hz=>by
  cases i with
  | zero =>
   injection hz with hz;subst hz;exact⟨p,_,rfl,e1,e2⟩
  | succ i=>exact cD.get t i z hz
theorem cD.keep{H H':Hp}:∀{zs:List V}{qs:List Ps},cD H zs qs->(∀b xs,H b=some (.tup xs)->H' b=some (.tup xs))->cD H' zs qs
 | _,_,.nil,_=>.nil
 | _,_,.cons ⟨p,e1,e2⟩ t,k=>.cons ⟨p,e1,k _ _ e2⟩ (cD.keep t k)
theorem cD.snoc{H:Hp}{q:Ps}{p:Addr}(e:H p=some (wO q)):∀{zs:List V}{qs:List Ps},cD H zs qs->cD H (zs ++ [.ref p]) (qs ++ [q])
 | _,_,.nil=>.cons ⟨p,rfl,e⟩ .nil
 | _,_,.cons r t=>.cons r (cD.snoc e t)
theorem x_{P:Program}{w:World}{H:Hp}{h:Heap}{t:Addr}{q:Ps}(ok:bE P w H h)(e:H t=some (wO q)):gq h (.ref t) q:=by
 obtain⟨_,us,wH,o,ho,qR,n,hd⟩:=ok t _ e;obtain⟨u1,us,rfl,r1,wH⟩:=Vals.inv wH;obtain⟨u2,us,rfl,r2,wH⟩:=Vals.inv wH;obtain rfl:=Vals.end_ wH;obtain⟨t1,rfl⟩:=r1;obtain⟨t2,rfl⟩:=r2;exact⟨t,o,t1,t2,n,rfl,ho,qR,hd⟩
theorem BX{P:Program}{w:World}{H:Hp}{h0:Heap}(ok:bE P w H h0){ys:List V}{its:List Value}{qs:List Ps}(rv:Vals ys its)(ql:cD H ys qs):∀us:List Value,(∀u∈us,u∈its)->∃zs,Vals zs us/\cD H zs (us.map (dJ h0))
 | [],_=>⟨[],.nil,.nil⟩
 | u::us,h=>by
  obtain⟨y,hy,ry⟩:=BR rv u (h u (ba ..));obtain⟨zs,rz,hz⟩:=BX ok rv ql us fun x hx=>h x (aW _ hx);obtain⟨t,q,_,rfl,e2⟩:=ql.mem y hy;have hu:u=Value.ref t:=ry;subst hu;exact⟨_,.cons ry rz,.cons ⟨t,rfl,by rw[uU (x_ ok e2)];exact e2⟩ hz⟩
theorem Lq{P:Program}{w:World}{H:Hp}{h0:Heap}(ok:bE P w H h0):∀{ys:List V}{its:List Value}{qs:List Ps},Vals ys its->cD H ys qs->its.map (dJ h0)=qs
 | _,_,_,.nil,.nil=>rfl
 | _,_,_,.cons (b:=u) r rr,.cons ⟨p,e1,e2⟩ t=>by
  subst e1;have hu:u=Value.ref p:=r;subst hu;rw[br,Lq ok rr t,uU (x_ ok e2)]
end L2
namespace Fg
open PySem L2 js
inductive Pa where
 | nil
 | kids (m:Int) (o:Pa)
 | tag (t:Str) (w o:Pa)
inductive bq(H:Hp):List V->Pa->Prop
 | nil:bq H [] .nil
 | kids {a:Addr} {m:Int} {vs:List V} {o:Pa}:H a=some (.tup [.str "kids",.int m])->bq H vs o->bq H (.ref a::vs) (.kids m o)
 | tag {a q:Addr} {t:Str} {ys vs:List V} {w o:Pa}:H a=some (.tup [.str "tag",.str t,.ref q])->H q=some (.tup ys)->bq H ys w->bq H vs o->bq H (.ref a::vs) (.tag t w o)
theorem bq.mono{H H':Hp}(k:TK H H'):∀{vs:List V}{g:Pa},bq H vs g->bq H' vs g
 | _,_,.nil=>.nil
 | _,_,.kids h1 h2=>.kids (k _ _ h1) (h2.mono k)
 | _,_,.tag h1 h2 h3 h4=>.tag (k _ _ h1) (k _ _ h2) (h3.mono k) (h4.mono k)
namespace Pa
def app:Pa->Pa->Pa
 | .nil,q=>q
 | .kids m o,q=>.kids m (app o q)
 | .tag t w o,q=>.tag t w (app o q)
def sz:Pa->Nat
 | .nil=>0
 | .kids _ o=>1+sz o
 | .tag _ w o=>1+sz w+sz o
def dep:Pa->Nat
 | .nil=>0
 | .kids _ o=>dep o
 | .tag _ w o=>max (dep w+1) (dep o)
theorem uR:∀p:Pa,dep p<=sz p
 | .nil=>az _
 | .kids m o=>by have:=uR o;simp only[dep,sz];lia
 | .tag t w o=>by have:=uR w;have:=uR o;simp only[dep,sz];lia
theorem yc:∀p:Pa,app p .nil=p
 | .nil=>rfl
 | .kids m o=>by simp[app,yc o]
 | .tag t w o=>by simp[app,yc o]
theorem iu:∀p q:Pa,sz (app p q)=sz p+sz q
 | .nil,q=>by simp[app,sz]
 | .kids m o,q=>by simp only[app,sz,iu o q];lia
 | .tag t w o,q=>by simp only[app,sz,iu o q];lia
def take:Nat->Pa->Pa
 | 0,_=>.nil
 | _+1,.nil=>.nil
 | i+1,.kids m o=>.kids m (take i o)
 | i+1,.tag t w o=>.tag t w (take i o)
end Pa
theorem bq.app{H:Hp}:∀{xs ys:List V}{p q:Pa},bq H xs p->bq H ys q->bq H (xs++ys) (p.app q)
 | _,_,_,_,.nil,h=>h
 | _,_,_,_,.kids h1 h2,h=>.kids h1 (h2.app h)
 | _,_,_,_,.tag h1 h2 h3 h4,h=>.tag h1 h2 h3 (h4.app h)
theorem bq.length{H:Hp}:∀{xs:List V}{p:Pa},bq H xs p->xs.length<=p.sz
 | _,_,.nil=>az _
 | _,_,.kids _ h=>by have:=h.length;simp only[Pa.sz,aN];lia
 | _,_,.tag _ _ _ h=>by have:=h.length;simp only[Pa.sz,aN];lia
theorem bq.at{H:Hp}:∀{xs:List V}{p:Pa},bq H xs p->∀(i:Nat) z,xs[i]?= some z->∃a,z=V.ref a/\((∃m,H a=some (.tup [.str "kids",.int m])/\p.take (i+1)=(p.take i).app (Pa.kids m Pa.nil))\/∃t q ys w,H a=some (.tup [.str "tag",.str t,.ref q])/\H q=some (.tup ys)/\bq H ys w/\p.take (i+1)=(p.take i).app (Pa.tag t w Pa.nil)/\w.dep<p.dep/\w.sz<p.sz)
 | _,_,.kids h1 h2,i,z,hz=>by
  cases i with
  | zero =>
   injection hz with hz;subst hz;exact⟨_,rfl,.inl ⟨_,h1,rfl⟩⟩
  | succ i =>
   obtain⟨a,e,h⟩:=h2.at i z hz;refine⟨a,e,?_⟩;rcases h with⟨m,g1,g2⟩|⟨t,q,ys,w,g1,g2,g3,g4,g5,g6⟩
   ·exact .inl ⟨m,g1,by show Pa.kids _ (Pa.take (i+1) _)=Pa.kids _ ((Pa.take i _).app _);rw[g2]⟩
   ·exact .inr ⟨t,q,ys,w,g1,g2,g3,by show Pa.kids _ (Pa.take (i+1) _)=Pa.kids _ ((Pa.take i _).app _);rw[g4],g5,by simp only[Pa.sz];lia⟩
 | _,_,.tag h1 h2 h3 h4,i,z,hz=>by
  cases i with
  | zero =>
   injection hz with hz;subst hz;exact⟨_,rfl,.inr ⟨_,_,_,_,h1,h2,h3,rfl,by simp only[Pa.dep];lia,by simp only[Pa.sz];lia⟩⟩
  | succ i =>
   obtain⟨a,e,h⟩:=h4.at i z hz;refine⟨a,e,?_⟩;rcases h with⟨m,g1,g2⟩|⟨t,q,ys,w,g1,g2,g3,g4,g5,g6⟩
   ·exact .inl ⟨m,g1,by show Pa.tag _ _ (Pa.take (i+1) _)=Pa.tag _ _ ((Pa.take i _).app _);rw[g2]⟩
   ·exact .inr ⟨t,q,ys,w,g1,g2,g3,by show Pa.tag _ _ (Pa.take (i+1) _)=Pa.tag _ _ ((Pa.take i _).app _);rw[g4],by simp only[Pa.dep];lia,by simp only[Pa.sz];lia⟩
theorem bq.take_all{H:Hp}:∀{xs:List V}{p:Pa},bq H xs p->p.take xs.length=p
 | _,_,.nil=>rfl
 | _,_,.kids _ h=>by show Pa.kids _ (Pa.take _ _)=_;rw[h.take_all]
 | _,_,.tag _ _ _ h=>by show Pa.tag _ _ (Pa.take _ _)=_;rw[h.take_all]
theorem JI{z:Str}(h:pP z)(h8:z.length<=8):gu z=true:=by
 have h1:1<=z.length:=by
  have:0<z.cps.toList.length:=List.length_pos_iff.mpr h.1;rw[aA] at this;exact this
 unfold gu;rw[aQ h1,aQ h8,wW,wW,eZ];intro c hc;have:=h.2 c hc;unfold du;simp;lia
end Fg
namespace L2
open PySem PySem.Spec PyProof.Rows
def WD(tv:TE):TE:=fun σ H Q=>tv σ H fun v H1=>∃z,v=.str z/\(reprText z).length<=sizeLine/\Q (.str (reprText z)) H1
section
variable{X:Cx}{e:Expr}{te:TE}{pos:Pos}
theorem Cq(he:PE X e te):PE X (.FormattedValue e 114 none pos) (WD te):=by
 intro pins s σ H Q I h;refine wpAny_FormattedValue_repr (aw (he pins s σ H _ I h) fun u s1 ⟨v,H1,I1,r,z,ev,hz,q⟩=>?_);subst ev;obtain⟨tk,rfl⟩:=r;refine pyReprObj_str ?_ hz;exact formatField_str (fun t' tk=>⟨.str (reprText z),H1,(I1.tok _).tok _,⟨_,rfl⟩,q⟩) hz
end
end L2
namespace L2
open PySem PySem.Spec PyProof.Rows PySem.W
section
open bj
variable{X:Cx}
theorem QB(hc:X.calm=true):fO X (.builtin "sorted") (fun xs H Q=>∃(l:Addr)(ys:List V)(ps:List Ps),xs=[.ref l]/\ak X.K H l ys/\ys.length<=90000/\cD H ys ps/\∀(r:Addr)(zs:List V)(ms:List Ps),H r=none->ms.Perm ps->ms.Pairwise (fun a b=>cT b a=false)->cD H zs ms->Q (.ref r) (upd H r (.lst zs))):=by
 intro pins s σ H xs us Q I r h;obtain⟨l,ys,ps,rfl,hq,hlen,aR,q⟩:=h;obtain⟨u,rfl,ru⟩:=vals1 r;obtain rfl:u=.ref l:=ru;obtain⟨its,rv,pl,hz⟩:=I.list hq;have hl:=rv.length;refine Jp (lv:=fun u v=>cT (dJ s.heap u) (dJ s.heap v)) (C:=fun ys=>ys=its) (mY.Py (dJ s.heap)) (fun Q' E' lC=>?_) (fun lE h6 tk6 d6 hC k6 Fi=>?_) fun pa lE out h3 wL d3 c hC jU qr k3 e3 hle mi=>?_
 ·exact Tc pl.isList (by lia) lC
 ·subst hC;refine IY (h0:=s.heap) (fun v hv=>?_) k6 Fi;obtain⟨y,hy,ry⟩:=BR rv v hv;obtain⟨t,q1,_,rfl,e2⟩:=aR.mem y hy;obtain rfl:v=Value.ref t:=ry;exact⟨q1,x_ I.aq e2⟩
 ·subst hC;obtain⟨zs,rz,Gm⟩:=BX I.aq rv aR out.toList fun u hu=>jU.mem_iff.mp hu;have iK:zs.length=out.size:=rz.length.trans (aA ..);have I2:=I.laid (h':=h3) (t':=wL) (a:=pa) (o:=.lst zs) (fun b o e=>k3 b o e) hle (show bL X.prog X.w _ h3 _ (.lst zs) from⟨by rw[fH];lia,out.toList,c,rz,e3⟩);refine⟨.ref pa,_,I2.draws (d:=d3),rfl,q pa zs _ (I.aq.fresh hle) ?_ (AX.mpr qr) Gm⟩;rw[<- Lq I.aq rv aR];exact jU.map _
end
theorem QN{a b c:Int}(ha : -1000000<=a)(ha':a<=1000000)(hb : -1000000<=b)(gf:b<=1000000)(hc:0<c)(qR:c<=1000):Builtin.Range.small a b c=true:=by
 unfold Builtin.Range.small Builtin.Range.rangeSize;simp only[Builtin.Range.rangeFitsLong,cO,qI,cB,j8];simp only[show c > 0 from hc,gQ];have h1:a<b->0<=(b-a-1) / c:=fun z=>Int.ediv_nonneg (by lia) (by lia);have h2:a<b->(b-a-1) / c<=b-a-1:=fun z=>Int.ediv_le_self _ (by lia)
 split <;> refine⟨⟨⟨⟨⟨?_,?_⟩,?_,?_⟩,by lia,by lia⟩,?_,?_⟩,?_⟩ <;> first|lia|(right;simp;lia)|(left;rfl)
def Wd(ta:TA):TI:=fun σ H R=>ta σ H fun vs H1=>∃a b c:Int,vs=[.int a,.int b,.int c]/\(-1000000<=a/\a<=1000000 /\ -1000000<=b/\b<=1000000)/\(0<c/\c<=1000)/\R (vb a c (Builtin.Range.rangeSize a b c).toNat) H1
section
variable{X:Cx}{tg:Expr}
theorem Sh{a b c:Expr}{ta:TA}{p pos:Pos}(hg:Gl X "range") (hm:X.mg "range" = none) (ha:PA X [a,b,c] ta) (hs:starEach [a,b,c] X.env=[(false,eval a X.env),(false,eval b X.env),(false,eval c X.env)]:=by rfl)
  (sW:starEach [b,c] X.env=[(false,eval b X.env),(false,eval c X.env)]:=by rfl) (zT:starEach [c] X.env=[(false,eval c X.env)]:=by rfl):PI X tg (.Call (.Name "range" p) [a,b,c] [] pos) (Wd ta):=by
 intro pins s σ H R I h;refine Call_ (lQ I hg hm boot_range (tZ (aw (ha pos pins s σ H _ I h) fun us s1 ⟨vs,H1,I1,r1,q1⟩=>?_) (by rw[hs,sW]) (by rw[sW];rfl)));obtain⟨x,y,z,e,⟨q1,q2,q3,q4⟩,⟨hz,d0⟩,q⟩:=q1;subst e;have kP:z≠0:=by lia
 have fZ:z.natAbs<1073741824:=by lia
 cases r1 with
 | cons r rr =>
  cases rr with
  | cons r2 rr =>
   cases rr with
   | cons r3 rr =>
    cases rr;obtain⟨t,rfl⟩:=r;obtain⟨t2,rfl⟩:=r2;obtain⟨t3,rfl⟩:=r3;refine call_range_3 kP ?_ (.inl (PyProof.noPylong_small fZ));refine wpAny_pyIter_range (IsRange.new ..) (QN q1 q2 q3 q4 hz d0) ?_;have I2:Inv X pins σ H1 { s1 with heap:=s1.heap.push { cls:=.type "range",data:=.fields #[.int x t,.int y t2,.int z t3] } }:=I1.kept (t':=s1.toks) fun b o e=>aJ _ e;refine⟨_,[_],_,_,H1,rfl,I2.kept (t':=s1.toks) fun b o e=>aJ _ e,RD _ x z (Builtin.Range.rangeSize x y z).toNat,?_,fun b hb=>?_,q⟩
    ·have hn:0<=Builtin.Range.rangeSize x y z:=by
      unfold Builtin.Range.rangeSize;rw[ah hz]
      split
      ·have:=Int.ediv_nonneg (a:=y-x-1) (b:=z) (by lia) (by lia);lia
      ·lia
     show IsRangeIter _ _ (x+((0:Nat):Int)*z) (((Builtin.Range.rangeSize x y z).toNat:Int)-((0:Nat):Int)) z;rw[Int.toNat_of_nonneg hn,show x+((0:Nat):Int)*z=x by simp,show Builtin.Range.rangeSize x y z-((0:Nat):Int)=Builtin.Range.rangeSize x y z by simp];exact cb _ rfl
    ·obtain rfl:=bh.mp hb;exact I2.nv (az _) (I2.aq.fresh (az _))
end
end L2
namespace L2
open PySem PySem.Spec PyProof.Rows
@[irreducible] def xC(X:Cx)(st:Stmt)(t:TS):Prop:=PS X st t
@[irreducible] def kx(X:Cx)(ss:List Stmt)(t:TS):Prop:=cJ X ss t
section
variable{X:Cx}
theorem Tf{st:Stmt}{t:TS}(h:xC X st t):kx X [st] t:=by
 unfold xC at h;unfold kx;exact Zf h
theorem VM{b:List Stmt}{D:Ends}{σ : St}{H:Hp}(s:List Stmt){t:TS}(h:kx X s t)(k:∀u,kx X s u->u=t->∃t,cJ X b t/\t D σ H):∃t,cJ X b t/\t D σ H:=k t h rfl
theorem Wz{b:List Stmt}{D:Ends}{σ : St}{H:Hp}{u:TS}(h:kx X b u)(q:u D σ H):∃t,cJ X b t/\t D σ H:=⟨u,by unfold kx at h;exact h,q⟩
theorem Vg{r:R2}{a b:Expr}{ta tb:TE}{pos:Pos}(hr:qU X r)(ha:fI X a ta)(hb:PE X b tb)(hs:K0 b):fI X (.Subscript a b pos) (wK r ta tb):=.of (bo hr ha.to hb hs)
theorem iq{st:Stmt}{ss:List Stmt}{t u:TS}(h:PS X st t)(k:kx X ss u):cJ X (st::ss) (Mx t u):=by
 unfold kx at k;exact Ze h k
end
theorem RL(T p:Str)(n:Nat)(hn:n<=T.length):(decide (fromIndex T.length (n:Int)+p.length<=T.length)&&Builtin.Str.subAt T p (fromIndex T.length (n:Int)))=decide (p.cps.toList <+: T.cps.toList.drop n):=by
 have e:fromIndex T.length (n:Int)=n:=by
  unfold fromIndex;rw[af (by lia)];lia
 rw[e,StrLaws.subAt_eq,jl,cO,cB,cB,j8,List.prefix_iff_eq_take];have hp:p.cps.toList.length=p.length:=aA ..;have hT:T.cps.toList.length=T.length:=aA ..;rw[hp];constructor
 ·rintro⟨_,h⟩;exact h.symm
 ·intro h;refine⟨?_,h.symm⟩;have:=congrArg List.length h;rw[hp,dM,dE,hT] at this;lia
section
variable{X:Cx}
theorem Si:qV X "str.startswith" (fun x vs H Q=>∃(T p:Str)(n:Nat),x=.str T/\vs=[.str p,.int (n:Int)]/\n<=T.length/\Q (.bl (decide (p.cps.toList <+: T.cps.toList.drop n))) H):=by
 intro pins s σ H x vs v us Q I rx rv h;obtain⟨T,p,n,rfl,rfl,hn,q⟩:=h;obtain⟨t,rfl⟩:=rx;obtain⟨u1,u2,rfl,⟨t1,rfl⟩,⟨t2,rfl⟩⟩:=vals2 rv;have g:=gives_str_startswith_from T p (n:Int) t t1 t2;have e:=RL T p n hn;have e':((fromIndex T.length (n:Int)+p.length<=T.length:Bool)&&Builtin.Str.subAt T p (fromIndex T.length (n:Int)))=decide (p.cps.toList <+: T.cps.toList.drop n):=e;rw[e'] at g;exact call_gives PySem.F.slot_str_startswith (oO _ _ _) PySem.F.entry_str_startswith (PySem.F.args_str_startswith_3 _ _ _) g ⟨.bl _,H,I,rfl,q⟩
theorem xN:bB X (compareOp .LtE) (fun x y H Q=>∃i j:Str,x=.str i/\y=.str j/\Q (.bl (!decide (j.cps.toList<i.cps.toList))) H):=by
 intro pins s σ H x y v u Q I rx ry h;obtain⟨i,j,rfl,rfl,q⟩:=h;obtain⟨t,rfl⟩:=rx;obtain⟨t',rfl⟩:=ry;exact CP ⟨.bl _,H,I,rfl,q⟩
theorem sd(a b:Nat):(!decide (([b]:List Nat) < [a]))=decide (a<=b):=by
 by_cases h:a<=b
 ·rw[aQ h,aZ (by simp[wY];lia)];rfl
 ·rw[aZ h,aQ (by simp[wY];lia)];rfl
end
section
variable{X:Cx}{e:Expr}{es:List Expr}{te:TE}{ta:TA}{pos:Pos}
theorem Ud(he:fI X e te):xC X (.Return (some e) pos) (CY te):=by
 unfold xC;exact Zz he.to
end
section
variable{X:Cx}
theorem iw{b:List Stmt}{D:Ends}{σ : St}{H:Hp}(s:List Stmt){t:TS}(h:cJ X s t)(k:∀u,kx X s u->u=t->∃t,cJ X b t/\t D σ H):∃t,cJ X b t/\t D σ H:=k t (by unfold kx;exact h) rfl
end
end L2
namespace PySem.SeqAt
open AutoSeq1 (wpAny_loadPart')
open MeetsSeq MeetsSeq2 MeetsSeq3 SeqRoads2
def yM(A:Around)(s:Shared)(y x:Value)(b:Bool):Prop :=
 ∀(prog:Program)(w:World)(E:Value->Shared->Prop)(Q:Value->Shared->Prop),Q (.bool b) s->wpAny (model prog w) A (richCompare .GtE y x) Q E s
inductive o9(A:Around)(s:Shared):List Value->List Value->Bool->Prop
 | nn:o9 A s [] [] true
 | eq {x y:Value} {xs ys:List Value} {b:Bool}:EqAt A s x y true->o9 A s xs ys b->o9 A s (x::xs) (y::ys) b
 | ge {x y:Value} {xs ys:List Value} {b:Bool}:EqAt A s x y false->yM A s x y b->o9 A s (x::xs) (y::ys) b
theorem Rq(l b:Addr)(items mq:Array Value)(n n2:Nat)(dd EM:Option Addr)(sl wJ:Array (Option Value))(v:Bool) :
  Meets (Builtin.«tuple.__ge__» ⟨[.ref l,.ref b],[]⟩)
   (fun A R s=>s.heap.get? l=some { cls:=.type "tuple",dict:=dd,data:=.seq items n,slots:=sl }/\s.heap.get? b=some { cls:=.type "tuple",dict:=EM,data:=.seq mq n2,slots:=wJ } /\
    items.size=mq.size/\o9 A.in1 s items.toList mq.toList v/\R (.ok (.ret (.bool v))) s) :=
 .of_wp fun prog w A R s h=>by
  obtain⟨hp,g,d,tk,os⟩:=s;obtain⟨hl,hb,kP,he,h⟩:=h;have f2:=AutoSeq1.sub_tuple_tuple
  wp_walk using wpAny_loadPart' hl,wpAny_loadPart' hb,wpAny_forIn_list _ (fun rest b s'=>b.1=none/\s'=⟨hp,g,d,tk,os⟩/\∃(vs ws:List Value),rest=vs.zip ws /\
   o9 A.in1 ⟨hp,g,d,tk,os⟩ vs ws v) _
  case turn =>
   rintro⟨y,x⟩ rest b s' ⟨gf,rfl,vs,ws,hz,hL⟩;cases hL with
   | nn=>rw[List.zip_nil_left] at hz;cases hz
   | eq h1 h2 =>
    rw[AZ] at hz;injection hz with Gi vW;injection Gi with hy hx;subst hy hx;refine ae (h1 prog w _ _ ?_)
    wp_walk
    exact⟨rfl,rfl,_,_,vW,h2⟩
   | ge h1 h2 =>
    rw[AZ] at hz;injection hz with Gi vW;injection Gi with hy hx;subst hy hx;refine ae (h1 prog w _ _ ?_);have hri:=h2 prog w
    wp_walk using hri
    exact⟨_,rfl,h⟩
  case fin =>
   rintro⟨b1,b2⟩ s' ⟨gf,rfl,vs,ws,hz,hL⟩;simp only at gf;subst gf;have hv:v=true:=by
    cases hL with
    | nn=>rfl
    | eq _ _=>rw[AZ] at hz;cases hz
    | ge _ _=>rw[AZ] at hz;cases hz
   subst hv
   wp_walk
   exact⟨_,rfl,by simpa[Builtin.Tuple.tupleCompareSizes,kP] using h⟩
  case h =>
   exact⟨rfl,rfl,items.toList,mq.toList,rfl,he⟩
theorem yM.tuples{A:Around}{s:Shared}{l b:Addr}{items mq:Array Value}{v:Bool}(hl:s.heap.IsTuple l items)(hb:s.heap.IsTuple b mq)(hu:A.units<cLine)(hz:items.size=mq.size)(he:o9 A.in1 s items.toList mq.toList v) :
  yM A s (.ref l) (.ref b) v:=fun prog w E Q h=>by
 obtain⟨⟨cls,dd,data,sl⟩,ho,hc,n,hd⟩:=id hl;obtain⟨⟨Zxc,EM,data2,wJ⟩,kJ,fW,n2,hd2⟩:=id hb;simp only at hc hd fW hd2;subst hc hd fW hd2;exact richCompare_meets_room (op:=.GtE) ⟨_,ho,rfl⟩ ⟨_,kJ,rfl⟩ F.slot_tuple_ge F.entry_tuple_ge (F.args_tuple_ge_2 _ _) (Rq l b items mq n n2 dd EM sl wJ v)
  ⟨ho,kJ,hz,he,show Value.bool v≠Value.notImplemented/\Q (.bool v) s from⟨(fun x=>nomatch x),h⟩⟩ hu
end PySem.SeqAt
namespace L2
open PySem PySem.Spec PyProof.Rows PySem.SeqAt bj
section
variable{X:Cx}
theorem T_(hu:X.A.units+200<cLine){K:PySem.W.Frag}(hK:X.K=K):bB X (compareOp .GtE) (fun x y H Q=>∃(a b:Addr)(p q:Ps),x=.ref a/\y=.ref b/\aL K H a [.int p.1,.str p.2]/\aL K H b [.int q.1,.str q.2]/\Q (.bl (!cT p q)) H):=by
 subst hK;intro pins s σ H x y v u Q I rx ry h;obtain⟨a,b,⟨p1,p2⟩,⟨q1,q2⟩,rfl,rfl,ha,hb,q⟩:=h;cases rx;cases ry;obtain⟨its,r1,t1,z1⟩:=I.tuple ha;obtain⟨mr,r2,t2,z2⟩:=I.tuple hb;obtain⟨u1,us,rfl,e1,r1⟩:=Vals.inv r1;obtain⟨u2,us,rfl,e2,r1⟩:=Vals.inv r1;obtain rfl:=Vals.end_ r1;obtain⟨w1,us,rfl,f1,r2⟩:=Vals.inv r2;obtain⟨w2,us,rfl,f2,r2⟩:=Vals.inv r2;obtain rfl:=Vals.end_ r2;obtain⟨Ii,rfl⟩:=e1;obtain⟨Ij,rfl⟩:=e2;obtain⟨Ik,rfl⟩:=f1;obtain⟨Il,rfl⟩:=f2;have Hm:cT (p1,p2) (q1,q2)=(decide (p1<q1) || (decide (p1=q1)&&decide (p2.cps.toList<q2.cps.toList))):=rfl;refine yM.tuples t1 t2 (by lia) rfl (v := !cT (p1,p2) (q1,q2)) ?_ X.prog X.w _ _ ⟨.bl _,H,I,rfl,q⟩;have ND:∀(i j:Int)(t t':Tok)(A:Around),EqAt A s (.int i t) (.int j t') (decide (i=j)):=fun i j t t' A=>by
  intro prog w E Q h;refine wpAny_eqBool_int ?_;have:(i == j)=decide (i=j):=by by_cases z:i=j <;> simp[z]
  rw[this];exact h
 have eqs:∀(i j:Str)(t t':Tok)(A:Around),EqAt A s (.str i t) (.str j t') (decide (i=j)):=fun i j t t' A=>by
  intro prog w E Q h;exact wpAny_eqBool_str h
 rw[Hm];by_cases c1:p1=q1
 ·subst c1;refine .eq (by have:=ND p1 p1 Ii Ik X.A.in1;rw[aQ rfl] at this;exact this) ?_;by_cases c2:p2=q2
  ·subst c2;refine .eq (by have:=eqs p2 p2 Ij Il X.A.in1;rw[aQ rfl] at this;exact this) ?_;have:(!(decide (p1<p1) || (decide (p1=p1)&&decide (p2.cps.toList<p2.cps.toList))))=true:=by
    simp[xG]
   rw[this];exact .nn
  ·refine .ge (by have:=eqs p2 q2 Ij Il X.A.in1;rw[aZ c2] at this;exact this) (fun prog w E Q h=>?_);refine(PySem.P.ge_str ?_:wpAny (model prog w) X.A.in1 (compareOp .GtE (.str _ _) (.str _ _)) Q E s);have:(!(decide (p1<p1) || (decide (p1=p1)&&decide (p2.cps.toList<q2.cps.toList))))=(!(decide (p2.cps.toList<q2.cps.toList))):=by simp
   rw[this] at h
   simpa using h
 ·refine .ge (by have:=ND p1 q1 Ii Ik X.A.in1;rw[aZ c1] at this;exact this) (fun prog w E Q h=>?_);refine(ge_int ?_:wpAny (model prog w) X.A.in1 (compareOp .GtE (.int _ _) (.int _ _)) Q E s);have:(!(decide (p1<q1) || (decide (p1=q1)&&decide (p2.cps.toList<q2.cps.toList))))=decide (p1>=q1):=by
   rw[aZ c1,qG,Bool.or_false,jl];simp
  rw[this] at h;exact h
theorem KW:∀l:List (Str×Tok),Vals ((l.map (·.1)).map V.str) (strValues l)
 | []=>.nil
 | p::r=>.cons ⟨p.2,rfl⟩ (KW r)
open Builtin Builtin.Str in
theorem S_:qV X "str.split" (fun x vs H Q=>∃z y:Str,x=.str z/\vs=[.str y]/\(y.length == 0)=false/\z.length<=90000/\∀r,H r=none->Q (.ref r) (upd H r (.lst ((Txt.split z y).map V.str)))):=by
 intro pins s σ H x vs v us Q I rx rv h;obtain⟨z,y,rfl,rfl,hy,hz,q⟩:=h;obtain⟨t,rfl⟩:=rx;obtain⟨u,rfl,ru⟩:=rv.one;obtain⟨u,rfl⟩:=ru;have d0:z.length+2<=sizeLine:=by rw[fH];lia
 have hn:(partsBetween z (occurrences z y 0 z.length (z.length+1)) y.length).length<=sizeLine:=by
  have e1:=StrLaws.occ_length_le z y 0 z.length (z.length+1);rw[length_partsBetween];lia
 have qc:∀(l:List (Str×Tok))(k:Nat),l.map (·.1)=Txt.split z y->l.length<=sizeLine->EP X pins σ Q (.ref s.heap.objs.size) { s with toks:=k,heap:=s.heap.push { cls:=.type "list",data:=.seq (strValues l).toArray } }:=fun l k e hl=>by
  refine⟨.ref s.heap.objs.size,_,I.laid (t':=k) (o:=.lst ((Txt.split z y).map V.str)) (fun b ob q=>aJ _ q) (az _) ?_,rfl,q _ (I.aq.fresh (az _))⟩;refine⟨by rw[<- e,aV,aV];exact hl,_,0,by rw[<- e];exact KW l,cb _ rfl⟩
 cases h1:(decide (z.length<y.length) || decide (strKind z<strKind y))
 ·cases hf:(occurrences z y 0 z.length (z.length+1)).isEmpty
  ·refine call_meets F.slot_str_split (oO _ _ _) F.entry_str_split (F.args_str_split_2 _ _) (meets_str_split_sep z y t u h1 hy hf (by lia) hn) ?_;show wants _ _ _ { s with toks:=_,heap:=s.heap.push { cls:=.type "list",data:=.seq (strsFrom s.toks (partsBetween z (occurrences z y 0 z.length (z.length+1)) y.length)).toArray } };rw[strsFrom_eq];exact qc (numbered s.toks _) _ ((numbered_texts _ _).trans ((af (ne_true_of_eq_false h1)).trans (af (ne_true_of_eq_false hf))).symm) (by
    have:=congrArg List.length (numbered_texts s.toks (partsBetween z (occurrences z y 0 z.length (z.length+1)) y.length));rw[aV] at this;lia)
  ·exact call_meets F.slot_str_split (oO _ _ _) F.entry_str_split (F.args_str_split_2 _ _) (meets_str_split_not_found z y t u h1 hy hf)
    (qc [(z,t)] s.toks ((af (ne_true_of_eq_false h1)).trans (ah hf)).symm (by show 1<=sizeLine;decide))
 ·exact call_meets F.slot_str_split (oO _ _ _) F.entry_str_split (F.args_str_split_2 _ _) (meets_str_split_cannot_occur z y t u h1)
   (qc [(z,t)] s.toks (ah h1).symm (by show 1<=sizeLine;decide))
open Builtin Builtin.Str in
theorem UJ:qV X "str.partition" (fun x vs H Q=>∃z y:Str,x=.str z/\vs=[.str y]/\(y.length == 0)=false/\z.length<=90000/\∀r,H r=none->Q (.ref r) (upd H r (.tup [.str (Txt.partition z y).1,.str (Txt.partition z y).2.1,.str (Txt.partition z y).2.2]))):=by
 intro pins s σ H x vs v us Q I rx rv h;obtain⟨z,y,rfl,rfl,hy,hz,q⟩:=h;obtain⟨t,rfl⟩:=rx;obtain⟨u,rfl,ru⟩:=rv.one;obtain⟨u,rfl⟩:=ru;have qc:∀(k ta tb tc:Nat),EP X pins σ Q (.ref s.heap.objs.size) { s with toks:=k,heap:=s.heap.push { cls:=.type "tuple",data:=.seq [.str (Txt.partition z y).1 ta,.str (Txt.partition z y).2.1 tb,.str (Txt.partition z y).2.2 tc].toArray } }:=fun k ta tb tc=>by
  refine⟨.ref s.heap.objs.size,_,I.laid (t':=k) (o:=.tup [.str (Txt.partition z y).1,.str (Txt.partition z y).2.1,.str (Txt.partition z y).2.2]) (fun b ob q=>aJ _ q) (az _) ?_,rfl,q _ (I.aq.fresh (az _))⟩;exact⟨by show 3<=sizeLine;decide,[.str (Txt.partition z y).1 ta,.str (Txt.partition z y).2.1 tb,.str (Txt.partition z y).2.2 tc],.cons ⟨_,rfl⟩ (.cons ⟨_,rfl⟩ (.cons ⟨_,rfl⟩ .nil)),⟨_,cb _ rfl,rfl,_,rfl⟩⟩
 refine call_meets F.slot_str_partition (oO _ _ _) F.entry_str_partition (F.args_str_partition_2 _ _) (meets_str_partition z y t u hy (by rw[fH];lia)) ?_;have h':=qc;unfold Txt.partition at h'
 revert h'
 cases occurrences z y 0 z.length 1 with
 | nil=>intro h';exact h' _ _ _ _
 | cons i r=>intro h';exact h' _ _ _ _
theorem pC:fO X (.type "int") (fun xs H Q=>∃(x:Str)(n:Int),xs=[.str x]/\PySem.intText? x=some n/\x.length<=640/\Q (.int n) H):=by
 intro pins s σ H xs us Q I r h;obtain⟨x,n,rfl,hn,hl,q⟩:=h;obtain⟨u,rfl,ru⟩:=vals1 r;obtain⟨t,rfl⟩:=ru;exact PySem.W.KIN.call_text hn hl ⟨.int n,H,I.tok _,⟨_,rfl⟩,q⟩
end
end L2
namespace Fg
open PySem L2 js PySem.StrLaws
theorem yr(x:Str)(i j:Nat):cs (Builtin.Str.strSub x i j)=((cs x).drop i).take (j-i):=by
 unfold cs Builtin.Str.strSub;simp[List.extract_eq_take_drop]
theorem cM(s:Str):(cs s).length=s.length:=aA
theorem ye{x y:Str}{k q c:Nat}(h:At x y x.length k)(hq:(cs y)[q]?= some c):(cs x)[k+q]?= some c:=by
 have h2:=h.2;rw[subAt_eq,j8] at h2;have h2:((cs x).drop k).take y.length=cs y:=h2;rw[<- h2,List.getElem?_take] at hq
 split at hq
 ·rw[jZ] at hq;exact hq
 ·cases hq
theorem at_of{x y:Str}{k:Nat}{r:List Nat}(hk:k<=x.length)(h:(cs x).drop k=cs y++r):At x y x.length k:=by
 have e:((cs x).drop k).take y.length=cs y:=by
  rw[h,<- cM y,List.take_left]
 have:=congrArg List.length h;rw[dE,bu,cM,cM] at this;exact⟨by lia,by rw[subAt_eq,j8];exact e⟩
theorem JB{l r y t:List Nat}{a j q c:Nat}(e:l.drop a=r++(y++t))(h1:c∉r)(h2:c∉y.take q)(hq:q<=y.length)(ha:a<=j)(hj:l[j]?= some c):a+r.length+q<=j:=by
 have e1:(l.drop a)[j-a]?= some c:=by
  rw[jZ,show a+(j-a)=j by lia];exact hj
 rw[e] at e1;refine Nat.le_of_not_lt fun aC=>?_;by_cases z:j-a<r.length
 ·rw[oC z] at e1;exact h1 (cP e1)
 ·rw[mE (by lia),oC (by lia)] at e1;refine h2 (cP (i:=j-a-r.length) ?_);rw[List.getElem?_take,ah (by lia)];exact e1
theorem Ky{x y:Str}{c q:Nat}(hq:(cs y)[q]?= some c)(hy:c∉(cs y).take q):∀(rs:List Str)(r:Str)(a:Nat)(kz:List Nat)(f:Nat),(∀z∈r::rs,c∉cs z)->(cs x).drop a=jn y (r::rs)->a<=x.length ->
  ChainG x y x.length a kz f->(∀k,f<=k -> ¬ At x y x.length k)->partsFrom x y.length a kz=r::rs
 | [],r,a,kz,f,hz,e,ha,hC,hf=>by
  have e:(cs x).drop a=cs r:=e;have fh:∀k,a<=k -> ¬ At x y x.length k:=fun k hk hA=>by
   have h1:=ye hA hq;have h2:((cs x).drop a)[k+q-a]?= some c:=by
    rw[jZ,show a+(k+q-a)=k+q by lia];exact h1
   rw[e] at h2;exact hz r (ba ..) (cP h2)
  cases kz with
  | nil =>
   show [Builtin.Str.strSub x a x.length] =[r];refine congrArg (fun z=>[z]) (jB ?_);rw[yr,e];refine j6 ?_;have:=congrArg List.length e;rw[dE,cM] at this;lia
  | cons d kz=>exact absurd hC.2.1 (fh d hC.1)
 | r2::rs,r,a,kz,f,hz,e,ha,hC,hf=>by
  have e:(cs x).drop a=cs r++(cs y++jn y (r2::rs)):=e;have kK:q<(cs y).length:=(cA.mp hq).1;have hlen:=congrArg List.length e;rw[dE,bu,bu,cM,cM,cM] at hlen;have ed:(cs x).drop (a+r.length)=cs y++jn y (r2::rs):=by
   rw[<- k_,e,<- cM r,tO]
  have hA:At x y x.length (a+r.length):=at_of (by lia) ed;have hle:∀k,a<=k->At x y x.length k->a+r.length<=k:=fun k hk iH=>by
   have h1:=ye iH hq;have:=JB e (hz r (ba ..)) hy (lg kK) (show a<=k+q by lia) h1;rw[cM] at this;lia
  cases kz with
  | nil =>
   have hC:f=a:=hC;exact absurd hA (hf _ (by lia))
  | cons d kz =>
   obtain⟨h1,h2,h3,h4⟩:=hC;have iE:=hle d h1 h2;have hd2:d=a+r.length:=by
    refine Nat.le_antisymm (Nat.le_of_not_lt fun aC=>h3 _ (by lia) aC hA) iE
   subst hd2;show Builtin.Str.strSub x a (a+r.length)::partsFrom x y.length (a+r.length+y.length) kz=r::r2::rs;have e1:Builtin.Str.strSub x a (a+r.length)=r:=by
    apply jB;rw[yr,e,Nat.add_sub_cancel_left,<- cM r,List.take_left]
   rw[e1,Ky hq hy rs r2 _ kz f (fun z h=>hz z (aW _ h)) (by
    rw[<- k_,ed,<- cM y,tO]) (by rw[cM] at kK;lia) h4 hf]
theorem Rt{y:Str}{c q:Nat}(hq:(cs y)[q]?= some c)(hy:c∉(cs y).take q)(hk:Builtin.Str.strKind y=1)(r:Str)(rs:List Str)(hz:∀z∈r::rs,c∉cs z):Txt.split (Txt.join y (r::rs)) y=r::rs:=by
 obtain⟨x,hx⟩:∃x,Txt.join y (r::rs)=x:=⟨_,rfl⟩;have e:cs x=jn y (r::rs):=by rw[<- hx,rR]
 rw[hx];have kK:q<(cs y).length:=(cA.mp hq).1;rw[cM] at kK;obtain⟨f,hC,hf⟩:=occ_tight x y (by lia);have key:=Ky hq hy rs r 0 _ f hz (by rw[qL];exact e) (bi _) hC hf;unfold Txt.split
 split
 ·rename_i h
  cases rs with
  | nil=>exact congrArg (fun z=>[z]) (jB e)
  | cons r2 rs =>
   exfalso;have e:cs x=cs r++(cs y++jn y (r2::rs)):=e;have:=congrArg List.length e;rw[bu,bu,cM,cM,cM] at this;rw[qI,cB,cB,hk] at h;rcases h with h|h
   ·lia
   ·unfold Builtin.Str.strKind at h
    split at h
    ·lia
    ·split at h <;> lia
 ·split
  ·rename_i h
   rw[List.isEmpty_iff] at h;rw[h] at key;rw[<- key];show [x] =[Builtin.Str.strSub x 0 x.length];rw[sub_whole]
  ·rw[partsBetween_eq];exact key
theorem Uy{y:Str}{c q:Nat}(hq:(cs y)[q]?= some c)(hy:c∉(cs y).take q)(h t:Str)(hh:c∉cs h)(ht:∀k,At (h++y++t) y (h++y++t).length k->k<=h.length):Txt.partition (h++y++t) y=(h,y,t):=by
 obtain⟨x,hx⟩:∃x,h++y++t=x:=⟨_,rfl⟩;have e:cs x=cs h++(cs y++cs t):=by rw[<- hx,Z2,Z2,bS]
 rw[hx] at ht ⊢;have kK:q<(cs y).length:=(cA.mp hq).1;have hlen:=congrArg List.length e;rw[bu,bu,cM,cM,cM,cM] at hlen;have ed:(cs x).drop h.length=cs y++cs t:=by rw[e,<- cM h,tO]
 have hA:At x y x.length h.length:=at_of (by lia) ed;have iG:∀i∈Builtin.Str.occurrences x y 0 x.length 1,i=h.length:=fun i hi=>by
  have NO:=PySem.StrLaws.occ_spec x y 0 x.length 1 i hi;have h1:=ye NO hq;have:=JB (a:=0) (j:=i+q) (by rw[qL];exact e) hh hy (lg kK) (bi _) h1;rw[cM] at this;have:=ht i NO;lia
 have bP:(!(Builtin.Str.occurrences x y 0 x.length 1).isEmpty)=true:=(found_iff x y).mpr ⟨_,hA⟩;unfold Txt.partition;cases ho:Builtin.Str.occurrences x y 0 x.length 1 with
 | nil=>rw[ho] at bP;cases bP
 | cons i r =>
  rw[ho] at iG;obtain rfl:=iG i (ba ..);show(Builtin.Str.strSub x 0 h.length,y,Builtin.Str.strSub x (h.length+y.length) x.length)=(h,y,t);have e1:Builtin.Str.strSub x 0 h.length=h:=by
   apply jB;rw[yr,e,qL,Nat.sub_zero,<- cM h,List.take_left]
  have e2:Builtin.Str.strSub x (h.length+y.length) x.length=t:=by
   apply jB;rw[yr,<- k_,ed,<- cM y,tO];exact j6 (by rw[cM,cM];lia)
  rw[e1,e2]
theorem T4{y:Str}{c q:Nat}(hq:(cs y)[q]?= some c)(hy:c∉(cs y).take q)(hG:c∉(cs y).drop (q+1))(h t:Str)(hh:c∉cs h)(ht:c∉cs t):Txt.partition (h++y++t) y=(h,y,t):=by
 refine Uy hq hy h t hh fun k hA=>Nat.le_of_not_lt fun aC=>?_;have kK:q<(cs y).length:=(cA.mp hq).1;have h1:=ye hA hq;rw[Z2,Z2,bS,mE (by rw[cM];lia),cM] at h1;by_cases z:k+q-h.length<(cs y).length
 ·rw[oC z] at h1;refine hG (cP (i:=k+q-h.length-(q+1)) ?_);rw[jZ,show q+1+(k+q-h.length-(q+1))=k+q-h.length by lia];exact h1
 ·rw[mE (by lia)] at h1;exact ht (cP h1)
theorem KU(x y:Str):(Txt.partition x y).1.length<=x.length/\(Txt.partition x y).2.2.length<=x.length:=by
 unfold Txt.partition
 split
 ·exact⟨strSub_length_le ..,strSub_length_le ..⟩
 ·exact⟨az _,bi _⟩
end Fg
namespace L2
open PySem PySem.Spec PyProof.Rows PySem.W bj iX pb
section
variable{X:Cx}{e:Expr}{te:TE}{p p' pos pos':Pos}
theorem uJ{q q':Ps}(h:bR q=bR q'):q=q':=by
 obtain⟨a,b⟩:=q;obtain⟨a',b'⟩:=q';simp only[bR,List.cons.injEq,Sum.inl.injEq,Sum.inr.injEq,and_true] at h;obtain⟨rfl,rfl⟩:=h;rfl
theorem Bu{P:Program}{w:World}{h0 h:Heap}{S t:Addr}{q:Ps}{x:Int}(hk:IsTupleKey (Z9 P w) h0 (bR q) t)(aC:t<S)(k:∀b o,b<S->h0.get? b=some o->h.get? b=some o)(ks:List Key):dq (Z9 P w) h ks (x,.ref t)↔ks=bR q:=by
 obtain⟨o,its,n,h1,h2⟩:=hk;have iU:IsTupleKey (Z9 P w) h (bR q) t:=⟨o,its,n,k t o aC h1,h2⟩;constructor
 ·rintro⟨b,e,hb⟩;cases e;exact rP hb iU
 ·rintro rfl;exact⟨t,rfl,iU⟩
def ni(P:Program)(w:World)(h0:Heap)(items:List Value)(qs:List Ps):Prop:=items.length=qs.length/\∀(i:Nat) v q,items[i]?= some v->qs[i]?= some q->∃t,v=.ref t/\IsTupleKey (Z9 P w) h0 (bR q) t/\gq h0 v q
theorem ni.of{P:Program}{w:World}{H:Hp}{h:Heap}{zs:List V}{qs:List Ps}{us:List Value}(ok:bE P w H h)(r:Vals zs us)(ql:cD H zs qs):ni P w h us qs:=by
 refine⟨by rw[<- r.length,ql.length],fun i v q hv hq=>?_⟩;obtain⟨z,hz,rz⟩:=KJ r i v hv;obtain⟨t,q',h1,rfl,h3⟩:=ql.get i z hz;rw[hq] at h1;cases h1;obtain rfl:v=Value.ref t:=rz;exact⟨t,rfl,yx ok (ks:=bR q) h3,x_ ok h3⟩
theorem ni.mem{P:Program}{w:World}{h0:Heap}{items:List Value}{qs:List Ps}(x:ni P w h0 items qs){v:Value}(hv:v∈items):∃t,∃q∈qs,v=.ref t/\IsTupleKey (Z9 P w) h0 (bR q) t/\gq h0 v q:=by
 obtain⟨i,hi⟩:=j3.mp hv;have aC:=(cA.mp hi).1;rw[x.1] at aC;obtain⟨t,h1,h2,h3⟩:=x.2 i v qs[i] hi (cH aC);exact⟨t,qs[i],w6 aC,h1,h2,h3⟩
def lF(P:Program)(w:World)(h0:Heap)(S:Addr)(items:Array Value)(qs:List Ps)(i:Nat)(h:Heap):Prop :=
 pL (Z9 P w) h S (· ∈ items.toList) (fun ks=>∃(j:Nat)(q:Ps),j<i/\qs[j]?= some q/\ks=bR q) i (uZ w)/\∀b o,b<S->h0.get? b=some o->h.get? b=some o
theorem lF.ZpT{P:Program}{w:World}{A:Around}{h0:Heap}{S:Addr}{items:Array Value}{qs:List Ps}(hu:A.units<cLine)(x:ni P w h0 items.toList qs)(hS:h0.objs.size<=S)(hn:items.size<=900):Goes P w A S items (lF P w h0 S items qs) where
 keep:=fun i h h' ⟨⟨o,es,ep,t,ho,hx,hd,hT,hsz,hl,hv,hP⟩,hb⟩ k=>by
  have gf:∀b o,b<S->h0.get? b=some o->h'.get? b=some o:=fun b o aC e=>k b o (lg aC) (hb b o aC e);have key:∀e∈es.toList,∀ks,dq (Z9 P w) h ks e↔dq (Z9 P w) h' ks e:=fun e he ks=>by
   obtain⟨tt,q,_,h1,h2,_⟩:=x.mem (hv e he);obtain⟨e1,e2⟩:=e;dsimp only at h1;subst h1;have aC:tt<S:=by
    obtain⟨o2,_,_,g1,_⟩:=h2;exact cQ (aT g1) hS
   rw[Bu h2 aC hb,Bu h2 aC gf]
  refine⟨⟨o,es,ep,t,k S o (az _) ho,hx,hd,⟨hT.tab,fun e he=>?_,hT.way,?_⟩,hsz,hl,hv,fun ks=>?_⟩,gf⟩
  ·obtain⟨ks,h1,h2⟩:=hT.ent e he;exact⟨ks,(key e he ks).mp h1,h2⟩
  ·exact List.Pairwise.imp_of_mem (fun{a b} ha gf jR ks h1 h2=>jR ks ((key a ha ks).mpr h1) ((key b gf ks).mpr h2)) hT.one
  ·rw[<- hP ks];constructor
   ·rintro⟨e,he,h1⟩;exact⟨e,he,(key e he ks).mpr h1⟩
   ·rintro⟨e,he,h1⟩;exact⟨e,he,(key e he ks).mp h1⟩
 add:=fun i v s Q E hi ⟨zi,hb⟩ q=>by
  have nP:i<items.size:=(mC.mp hi).1;have nQ:i<qs.length:=by rw[<- x.1,aA];exact nP
  have cm:items.toList[i]?= some v:=by rw[bD];exact hi
  obtain⟨t,rfl,h2,_⟩:=x.2 i v qs[i] cm (cH nQ);obtain⟨o2,mr,n2,g1,g2⟩:=h2;have aC:t<S:=cQ (aT g1) hS;have hk:IsTupleKey (Z9 P w) s.heap (bR qs[i]) t:=⟨o2,mr,n2,hb t o2 aC g1,g2⟩;refine WI hu zi (by lia) hk (cP cm) fun b h' tk _ sb Fo=>q b h' tk sb ⟨?_,fun b o aC e=>(sb.2 b (bX aC)).trans (hb b o aC e)⟩;have e:(fun ks=>(∃(j:Nat)(q:Ps),j<i/\qs[j]?= some q/\ks=bR q)\/ks=bR qs[i])=fun ks=>∃(j:Nat)(q:Ps),j<i+1/\qs[j]?= some q/\ks=bR q:=funext fun ks=>propext (by
   constructor
   ·rintro(⟨j,q,h1,h2,h3⟩|h)
    ·exact⟨j,q,by lia,h2,h3⟩
    ·exact⟨i,qs[i],by lia,cH nQ,h⟩
   ·rintro⟨j,q,h1,h2,h3⟩;by_cases c:j<i
    ·exact .inl ⟨j,q,c,h2,h3⟩
    ·have:j=i:=by lia
     subst this;rw[cH nQ] at h2;cases h2;exact .inr h3)
  rw[<- e];exact Fo
theorem lF.zero{P:Program}{w:World}{h0 h:Heap}{S:Addr}{items:Array Value}{qs:List Ps}(hS:h.get? S=some (ip w))(k:∀b o,b<S->h0.get? b=some o->h.get? b=some o):lF P w h0 S items qs 0 h :=
 ⟨⟨_,#[],0,_,hS,⟨rfl,rfl,rfl⟩,rfl,⟨⟨rfl,rfl,.inl rfl,(by show(0:Nat)*5<7*3;decide),List.Pairwise.nil⟩,(fun _ h=>(nomatch h)),(fun i e j h=>(nomatch h)),List.Pairwise.nil⟩,az _,rfl,(fun _ h=>(nomatch h)),fun ks=>⟨fun⟨_,h,_⟩=>(nomatch h),fun⟨_,_,h,_⟩=>absurd h (ic _)⟩⟩,k⟩
theorem lF.out{P:Program}{w:World}{h0 h:Heap}{S:Addr}{items:Array Value}{qs:List Ps}(x:ni P w h0 items.toList qs)(hS:h0.objs.size<=S)(j:lF P w h0 S items qs items.size h) :
  ∃o es ep t,h.get? S=some o/\o.ExactSet/\o.data=.set es ep t/\Tab es t/\es.size<=items.size/\t.led=uZ w/\(∀e∈es.toList,e.2∈items.toList)/\(es.toList.map fun e=>dJ h0 e.2).Nodup/\∀q,q∈(es.toList.map fun e=>dJ h0 e.2)↔q∈qs:=by
 obtain⟨⟨o,es,ep,t,ho,hx,hd,hT,hsz,hl,hv,hP⟩,hb⟩:=j;have key:∀e∈es.toList,∀ks,dq (Z9 P w) h ks e↔ks=bR (dJ h0 e.2):=fun e he ks=>by
  obtain⟨tt,q,_,h1,h2,h3⟩:=x.mem (hv e he);have hq:=uU h3;obtain⟨e1,e2⟩:=e;dsimp only at h1 hq ⊢;subst h1;have aC:tt<S:=by
   obtain⟨o2,_,_,g1,_⟩:=h2;exact cQ (aT g1) hS
  rw[Bu h2 aC hb,hq]
 refine⟨o,es,ep,t,ho,hx,hd,hT.tab,hsz,hl,hv,?_,fun q=>?_⟩
 ·refine AX.mpr (List.Pairwise.imp_of_mem (fun{a b} ha gf jR z=>?_) hT.one);exact jR _ ((key a ha _).mpr rfl) ((key b gf _).mpr (by rw[z]))
 ·have h1:=hP (bR q);constructor
  ·intro hq;obtain⟨e,he,rfl⟩:=gL.mp hq;obtain⟨j,q',_,h2,h3⟩:=h1.mp ⟨e,he,(key e he _).mpr rfl⟩;rw[uJ h3];exact cP h2
  ·intro hq;obtain⟨j,hj⟩:=j3.mp hq;have zB:=(cA.mp hj).1;obtain⟨e,he,hbr⟩:=h1.mpr ⟨j,q,by rw[<- aA,x.1];exact zB,hj,rfl⟩;exact gL.mpr ⟨e,he,(uJ ((key e he _).mp hbr)).symm⟩
def JF(K:PySem.W.Frag)(v:V)(H:Hp)(Q:VK):Prop :=
 ∃l ys qs,v=.ref l/\ak K H l ys/\ys.length<=900/\cD H ys qs/\∀r zs ms,H r=none->ms.Pairwise (fun a b=>cT a b=true)->(∀q,q∈ms↔q∈qs)->cD H zs ms->Q (.ref r) (upd H r (.lst zs))
set_option maxHeartbeats 1000000 in
theorem QD(hc:X.calm=true)(hu:X.A.units+200<cLine)(hg:Gl X "sorted") (hm:X.mg "sorted" = none) (gh:Gl X "set") (uf:X.mg "set" = none) (pa:PA X [e] (uY te so))
  (hs:starEach [e] X.env=[(false,eval e X.env)]:=by rfl) (oZ:starEach [.Call (.Name "set" p') [e] [] pos'] X.env=[(false,eval (.Call (.Name "set" p') [e] [] pos') X.env)]:=by rfl) :
  PE X (.Call (.Name "sorted" p) [.Call (.Name "set" p') [e] [] pos'] [] pos) (fun σ H Q=>te σ H fun v H1=>JF X.K v H1 Q):=by
 intro pins s σ H Q I h;refine lj (lQ I hg hm Ry ?_);refine PyProof.Rows.callWith_builtin1 ?_ oZ rfl;rw[oZ];refine Calls.spliced_cons ?_;refine lj (lQ I gh uf U3 ?_);refine tZ (aw (pa pos' pins s σ H (fun vs H1=>match vs with | [v]=>JF X.K v H1 Q|_=>False) I h) fun us s1 ⟨vs,H1,I1,r,q⟩=>?_) hs rfl
 match vs,r,q with
 | [v],r,q =>
  obtain⟨u,rfl,ru⟩:=r.one;obtain⟨l,ys,qs,rfl,hq,Og,kK,q⟩:=q;cases ru;obtain⟨its,rv,pl,hz⟩:=I1.list hq;have hlen:=rv.length;have x:ni X.prog X.w s1.heap its.toArray.toList qs:=ni.of I1.aq rv kK;refine Sk (J:=lF X.prog X.w s1.heap s1.heap.objs.size its.toArray qs) (I1.ok.hd hc) (by lia) pl.isList (fun B hB=>lF.ZpT hB x (az _) (by rw[bW];lia)) (fun h h1 h2=>lF.zero h1 h2) fun h2 tk hJ k2=>?_;refine Calls.spliced_nil ?_;have Ig:∀b o,s1.heap.get? b=some o->h2.get? b=some o:=fun b o e=>k2 b o (aT e) e;obtain⟨o,es,ep,t,ho,hx,hd,hT,hsz,gZ,hv,zK,fY⟩:=hJ.out x (az _);have ZwX:es.size<=its.length:=by simpa using hsz
  refine Jp (lv:=fun u v=>cT (dJ s1.heap u) (dJ s1.heap v)) (s:={ s1 with heap:=h2,toks:=tk }) (C:=fun ys=>ys.Perm (es.toList.map (·.2))) (mY.Py (dJ s1.heap)) (fun Q' E' lC=>?_) (fun lE h6 tk6 d6 hC k6 Fi=>?_) fun pa lE out h3 wL d3 c hC jU qr k3 e3 hle mi=>?_
  ·refine QQ (I1.ok.hd hc) ho hx hd hT gZ (by lia) fun lE h' Qa d' k' hp hle=>lC lE h' Qa d' k' hp ?_ hle;rw[hp.length_eq,aV,aA];lia
  ·refine IY (h0:=s1.heap) (fun v ug=>?_) (fun b o e=>k6 b o (Ig b o e)) Fi;obtain⟨e,he,rfl⟩:=gL.mp (hC.mem_iff.mp ug);obtain⟨tt,q,_,h1,_,h3⟩:=x.mem (hv e he);exact⟨q,h3⟩
  ·have qo:out.toList.Perm (es.toList.map (·.2)):=jU.trans hC;obtain⟨zs,rz,Gm⟩:=BX I1.aq rv kK out.toList fun u hu=>by
    obtain⟨e,he,rfl⟩:=gL.mp (qo.mem_iff.mp hu);exact hv e he
   have iK:zs.length=out.size:=rz.length.trans (aA ..);have zh:s1.heap.objs.size<=pa:=cY (lg (aT ho)) hle;have I2:=I1.laid (h':=h3) (t':=wL) (a:=pa) (o:=.lst zs) (fun b o e=>k3 b o (Ig b o e)) zh (show bL X.prog X.w _ h3 _ (.lst zs) from⟨by rw[fH];lia,out.toList,c,rz,e3⟩);have Om:(out.toList.map (dJ s1.heap)).Perm (es.toList.map fun e=>dJ s1.heap e.2):=by
    have:=qo.map (dJ s1.heap);rw[w_] at this;exact this
   refine⟨.ref pa,_,I2.draws (d:=d3),rfl,q pa zs _ (I1.aq.fresh zh) (mY.strict ?_ (Om.nodup_iff.mpr zK)) (fun q=>Om.mem_iff.trans (fY q)) Gm⟩;exact AX.mpr qr
end
end L2
namespace cC
open PySem L2 js Fg
def top(i:Nat):Stmt:=PySem.Challenge.pw_formgrove_k80_changers_read.main.body.getD i (.Pass ⟨0,0,0,0⟩)
abbrev rA:Stmt:=top 19
abbrev rl:Stmt:=inClass (top 22) 0
abbrev rh:Stmt:=inClass (top 22) 1
abbrev rn:Stmt:=inClass (top 22) 2
abbrev rm:Stmt:=inClass (top 22) 4
abbrev ZQ:Stmt:=inClass (top 22) 5
abbrev rY:Stmt:=top 24
abbrev pz:Stmt:=top 25
abbrev ri:Stmt:=top 26
abbrev rF:Stmt:=top 27
abbrev rZ:Stmt:=top 28
abbrev rc:Stmt:=top 29
abbrev Zu:Stmt:=top 30
abbrev rK:Stmt:=top 31
abbrev rf:Stmt:=top 33
abbrev q_:Stmt:=top 34
abbrev rQ:Stmt:=top 35
abbrev ZS:Stmt:=top 36
abbrev i4:Stmt:=top 37
abbrev rq:Stmt:=top 38
abbrev i3:Stmt:=top 39
abbrev rG:Stmt:=top 40
abbrev Zj:Stmt:=top 41
abbrev Zn:Stmt:=top 42
abbrev Zt:Stmt:=top 43
abbrev ro:Stmt:=top 44
abbrev rC:Stmt:=top 45
abbrev dB:Stmt:=top 46
theorem Sf:bY ["text"] ["text"] (Zh rA):=⟨rfl,rfl,rfl,by decide +kernel,rfl,by decide +kernel,by decide +kernel⟩
theorem Qo:bY ["self","text"] ["self","text"] (Zh rl):=⟨rfl,rfl,rfl,by decide +kernel,rfl,by decide +kernel,by decide +kernel⟩
theorem QJ:bY ["self","piece"] ["self","piece"] (Zh rh):=⟨rfl,rfl,rfl,by decide +kernel,rfl,by decide +kernel,by decide +kernel⟩
theorem Qu:bY ["self","piece"] ["self","piece"] (Zh rn):=⟨rfl,rfl,rfl,by decide +kernel,rfl,by decide +kernel,by decide +kernel⟩
theorem Qn:bY ["self"] ["self"] (Zh rm):=⟨rfl,rfl,rfl,by decide +kernel,rfl,by decide +kernel,by decide +kernel⟩
theorem IU:bY ["self","first","last","begin"] ["self","first","last"] (Zh ZQ):=⟨rfl,rfl,rfl,by decide +kernel,rfl,by decide +kernel,by decide +kernel⟩
theorem UD:bY ["text"] ["text"] (Zh rY):=⟨rfl,rfl,rfl,by decide +kernel,rfl,by decide +kernel,by decide +kernel⟩
theorem xD:bY ["source","modes","rules","rule"] ["source"] (Zh pz):=⟨rfl,rfl,rfl,by decide +kernel,rfl,by decide +kernel,by decide +kernel⟩
theorem Jb:bY ["source","least","greatest","figures"] ["source","least","greatest"] (Zh ri):=⟨rfl,rfl,rfl,by decide +kernel,rfl,by decide +kernel,by decide +kernel⟩
theorem Ji:bY ["source","tag"] ["source"] (Zh rF):=⟨rfl,rfl,rfl,by decide +kernel,rfl,by decide +kernel,by decide +kernel⟩
theorem Uu:bY ["source","piece"] ["source","piece"] (Zh rZ):=⟨rfl,rfl,rfl,by decide +kernel,rfl,by decide +kernel,by decide +kernel⟩
theorem Br:bY ["source","modes","mode","tag"] ["source","modes"] (Zh rc):=⟨rfl,rfl,rfl,by decide +kernel,rfl,by decide +kernel,by decide +kernel⟩
theorem ux:bY ["source","modes","tags","rows","going"] ["source","modes"] (Zh Zu):=⟨rfl,rfl,rfl,by decide +kernel,rfl,by decide +kernel,by decide +kernel⟩
theorem Jy:bY ["tags","rows","parts"] ["tags","rows"] (Zh rK):=⟨rfl,rfl,rfl,by decide +kernel,rfl,by decide +kernel,by decide +kernel⟩
theorem QU:bY ["_law_script","_law_k"] ["_law_script","_law_k"] (Zh rf):=⟨rfl,rfl,rfl,by decide +kernel,rfl,by decide +kernel,by decide +kernel⟩
theorem rj:bY ["_law_script","_law_first","_law_many","_law_found","_law_number","_law_k","_law_cell"] ["_law_script","_law_first","_law_many"] (Zh q_):=⟨rfl,rfl,rfl,by decide +kernel,rfl,by decide +kernel,by decide +kernel⟩
theorem rB:bY ["_law_number","_law_some","_law_tag_here","_law_k"] ["_law_number"] (Zh rQ):=⟨rfl,rfl,rfl,by decide +kernel,rfl,by decide +kernel,by decide +kernel⟩
theorem pf:bY ["_law_numbers_here","_law_modes","_law_names","_law_rows_here","_law_number","_law_turn","_law_inner"] ["_law_numbers_here","_law_modes"] (Zh ZS):=⟨rfl,rfl,rfl,by decide +kernel,rfl,by decide +kernel,by decide +kernel⟩
theorem xE:bY ["_law_modes","_law_numbers_here","_law_known_here","_law_k","_law_parts_here"] ["_law_modes","_law_numbers_here"] (Zh i4):=⟨rfl,rfl,rfl,by decide +kernel,rfl,by decide +kernel,by decide +kernel⟩
theorem By:bY ["_law_parts_here","_law_found","_law_part"] ["_law_parts_here"] (Zh rq):=⟨rfl,rfl,rfl,by decide +kernel,rfl,by decide +kernel,by decide +kernel⟩
theorem pB:bY ["_law_modes","_law_rules","_law_rows_here","_law_mode","_law_tag_here","_law_parts_here","_law_text_here"] ["_law_modes","_law_rules"] (Zh i3):=⟨rfl,rfl,rfl,by decide +kernel,rfl,by decide +kernel,by decide +kernel⟩
theorem Jo:bY ["_law_word","_law_sign"] ["_law_word"] (Zh rG):=⟨rfl,rfl,rfl,by decide +kernel,rfl,by decide +kernel,by decide +kernel⟩
theorem Z4:bY ["_law_text_here","_law_modes","_law_names","_law_rows_here","_law_word","_law_sign","_law_inner"] ["_law_text_here","_law_modes"] (Zh Zj):=⟨rfl,rfl,rfl,by decide +kernel,rfl,by decide +kernel,by decide +kernel⟩
theorem ZJ:bY ["_law_text_here","_law_rows_here","_law_modes","_law_rules","_law_row","_law_head","_law_middle","_law_tail","_law_parts_here","_law_pairs"] ["_law_text_here"] (Zh Zn):=⟨rfl,rfl,rfl,by decide +kernel,rfl,by decide +kernel,by decide +kernel⟩
theorem ph:bY ["_law_rows_here","_law_modes","_law_cell","_law_some","_law_text_here","_law_way","_law_sign","_law_at","_law_row"] ["_law_rows_here","_law_modes","_law_cell"] (Zh Zt):=⟨rfl,rfl,rfl,by decide +kernel,rfl,by decide +kernel,by decide +kernel⟩
theorem IW:bY ["_law_found","_law_due","_law_k"] ["_law_found","_law_due"] (Zh ro):=⟨rfl,rfl,rfl,by decide +kernel,rfl,by decide +kernel,by decide +kernel⟩
theorem rD:bY ["_law_text_here","_law_found","_law_refused","e"] ["_law_text_here"] (Zh rC):=⟨rfl,rfl,rfl,by decide +kernel,rfl,by decide +kernel,by decide +kernel⟩
theorem i6:bY ["_law_script","_law_first","_law_modes","_law_known_here","_law_rules","_law_rows_here","_law_text_here","_law_due","_law_found","_law_refused"] ["_law_script"] (Zh dB):=⟨rfl,rfl,rfl,by decide +kernel,rfl,by decide +kernel,by decide +kernel⟩
structure XC(K:PySem.W.Frag)(mg:Str->Option Value)(bZ ef d8 eE eC et d_ eF eh eB d7 au eA ee eo:Addr):Prop where
 ZtE:mg "GroveError" = some (.ref bZ)
 ZtH:mg "NoGrove" = some (.ref ef)
 ZtD:mg "BadForm" = some (.ref d8)
 ZtO:mg "TooMany" = some (.ref eE)
 ZtN:mg "TooBig" = some (.ref eC)
 ZtK:mg "NoneFits" = some (.ref et)
 ZtF:mg "NoBook" = some (.ref d_)
 ZtP:mg "TwiceNamed" = some (.ref eF)
 ZtI:mg "NoName" = some (.ref eh)
 ZtM:mg "Ring" = some (.ref eB)
 ZtC:mg "BadChanger" = some (.ref d7)
 qy:mg "NoRecipe" = some (.ref au)
 ZtL:mg "NotStraight" = some (.ref eA)
 ZtG:mg "NoChange" = some (.ref ee)
 ZtJ:mg "NoRow" = some (.ref eo)
 bas:Qk K bZ
 isG:PySem.W.isClsIn K bZ=true
 tyG:PySem.W.typeIn K (.ref bZ)=some (.type "type")
 Zw9:eJ K bZ
 XF:eJ K ef
 Xy:eJ K d8
 XR:eJ K eE
 XQ:eJ K eC
 XJ:eJ K et
 XD:eJ K d_
 XS:eJ K eF
 XG:eJ K eh
 XN:eJ K eB
 Xx:eJ K d7
 XH:eJ K au
 XM:eJ K eA
 XE:eJ K ee
 XI:eJ K eo
 tF:pe K au bZ
 tq:PySem.W.findIn K (.ref au) "__init__" = some (some (.builtin "ValueError.__init__"))
 Ztp:PySem.W.mroIn K au (.type "ValueError")=some true
 ZtS:au≠bZ
 wj:PySem.W.mroIn K au (.ref bZ)=some true
 wo:PySem.W.mroIn K au (.ref ef)=some false
 wg:PySem.W.mroIn K au (.ref d8)=some false
 wA:PySem.W.mroIn K au (.ref eE)=some false
 wz:PySem.W.mroIn K au (.ref eC)=some false
 ww:PySem.W.mroIn K au (.ref et)=some false
 wk:PySem.W.mroIn K au (.ref d_)=some false
 wB:PySem.W.mroIn K au (.ref eF)=some false
 wq:PySem.W.mroIn K au (.ref eh)=some false
 wy:PySem.W.mroIn K au (.ref eB)=some false
 we:PySem.W.mroIn K au (.ref d7)=some false
 wt:PySem.W.mroIn K au (.ref au)=some true
 wx:PySem.W.mroIn K au (.ref eA)=some false
 wm:PySem.W.mroIn K au (.ref ee)=some false
 wu:PySem.W.mroIn K au (.ref eo)=some false
abbrev cF:List Str:=["ValueError","all","bool","int","isinstance","len","list","max","min","range","reversed","set","sorted","str","tuple"]
section
variable{P:Program}{w:World}{K:PySem.W.Frag}{mg:Str->Option Value}{base:Heap}{f:Addr}{fd:FuncData}{bZ ef d8 eE eC et d_ eF eh eB d7 au eA ee eo:Addr}
theorem Su(B:∀x∈cF,mg x=none)(Cc:∃t:Tok,mg "LONGEST_TAG" = some (.int 8 t)) (F:bO K "is_tag" "is_tag" rA f fd):aX P w K mg base cp 1 f fd ["text"] Ci:=by
 refine F.ok Sf (fun vs H Q E h=>?_) (fun aK A outer s H vs Q E hr h=>?_)
 ·obtain⟨z,rfl,_⟩:=h;rfl
 obtain⟨z,rfl,hz,q⟩:=h;obtain⟨t8,Xz⟩:=Cc;unfold gu at q;refine⟨_,(Zf (Zz (rX (Kl sh sh Zg (ZF pq rfl (B "len" (by decide)) gb (Za (pv 0) Zb)) (fu (v:=.int 8) rfl Xz ⟨_,rfl⟩)) (uO (ZF (TB rfl) rfl (B "all" (by decide)) Vt (Za (R9 (pv 0) rfl (by decide) (by decide) rfl (by decide) rfl (by decide) (fun _=>rfl)) Zb)))))),?_⟩;refine⟨_,rfl,z,rfl,Zk (by lia),_,_,rfl,rfl,_,rfl,?_⟩;refine dC (fun c=>?_) (fun c=>?_)
 ·have c1:1<=z.length:=by
   have:=ig c;lia
  rw[aQ c1,wW] at q;refine⟨_,_,rfl,rfl,_,rfl,?_⟩;refine dC (fun c=>?_) (fun c=>?_)
  ·have c2:z.length<=8:=by
    have:=ig c;lia
   rw[aQ c2,wW] at q;refine⟨_,rfl,z,rfl,Zk (by lia),fun p hp=>⟨p,z.cps.toList.map du,rfl,ak.of ?_,?_⟩⟩
   ·rw[Zc,w_];rfl
   ·have e:(z.cps.toList.map du).all id=z.cps.toList.all du:=by
     rw[List.all_map];rfl
    rw[e];exact q _ (ZD.new hp)
  ·have c2 : ¬ z.length<=8:=fun h=>c (aQ (by show((z.length:Nat):Int)<=8;lia));rw[aZ c2,qG] at q;exact q H (ZD.refl H)
 ·have c1 : ¬ 1<=z.length:=fun h=>c (aQ (by show(1:Int)<=((z.length:Nat):Int);lia));rw[aZ c1,qG,qG] at q;exact⟨_,rfl,aE (q H (ZD.refl H))⟩
def bU(c:Nat):Bool:=decide (97<=c)&&decide (c<=122)
def bA(c:Nat):Bool:=decide (48<=c)&&decide (c<=57)
def aM(z:List Nat):Str:=⟨z.toArray⟩
theorem df(z:List Nat):cs (aM z)=z:=by unfold cs aM;exact xg
theorem r8(s:Str):aM (cs s)=s:=jB (df _)
theorem ZR(s:Str):(cs s).length=s.length:=aA
theorem B9(z:List Nat):(aM z).length=z.length:=by rw[<- ZR,df]
def fQ(t:Str):Prop:=(cs t).all bU=true/\1<=(cs t).length/\(cs t).length<=8
def aB:Pa->Bool
 | .nil=>true
 | _=>false
theorem kj{p:Pa}:aB p=true↔p=.nil:=by cases p <;> simp[aB]
def bg(m:Nat):Pa->Prop
 | .nil=>True
 | .kids n o=>(0<=n/\n<(m:Int))/\bg m o
 | .tag t w o=>fQ t/\bg m w/\bg m o
theorem km{m:Nat}:∀{p q:Pa},bg m p->bg m q->bg m (p.app q)
 | .nil,_,_,h=>h
 | .kids _ _,_,h,k=>⟨h.1,km h.2 k⟩
 | .tag _ _ _,_,h,k=>⟨h.1,h.2.1,km h.2.2 k⟩
theorem pJ{p q:Pa}(h:aB q=false):aB (p.app q)=false:=by cases p <;> first|exact h|rfl
theorem mS:∀p q r:Pa,(p.app q).app r=p.app (q.app r)
 | .nil,_,_=>rfl
 | .kids _ o,q,r=>congrArg _ (mS o q r)
 | .tag _ _ o,q,r=>congrArg _ (mS o q r)
def tP:Pa->List Nat
 | .nil=>[]
 | .kids n o=>(48+n.toNat)::(if aB o=true then [] else 32::tP o)
 | .tag t w o=>cs t++((if aB w=true then [] else 40::(tP w ++ [41]))++(if aB o=true then [] else 32::tP o))
def spT(p:Pa):List Nat:=tP p++(if aB p=true then [] else [32])
theorem uW:∀p q:Pa,aB q=false->tP (p.app q)=spT p++tP q
 | .nil,q,_=>rfl
 | .kids n o,q,h=>by
  have e:=pJ (p:=o) h;show(48+n.toNat)::(if aB (o.app q)=true then [] else 32::tP (o.app q))=((48+n.toNat)::(if aB o=true then [] else 32::tP o) ++ [32])++tP q
  rw[e,af (by decide),uW o q h];unfold spT;cases ho:aB o with
  | true =>
   obtain rfl:=kj.mp ho;simp[tP]
  | false=>simp
 | .tag t w o,q,h=>by
  have e:=pJ (p:=o) h;show cs t++((if aB w=true then [] else 40::(tP w ++ [41]))++(if aB (o.app q)=true then [] else 32::tP (o.app q)))=(cs t++((if aB w=true then [] else 40::(tP w ++ [41]))++(if aB o=true then [] else 32::tP o)) ++ [32])++tP q
  rw[e,af (show ¬ (false=true) from bb),uW o q h];unfold spT;cases ho:aB o with
  | true =>
   obtain rfl:=kj.mp ho;simp[tP]
  | false=>simp
abbrev aY:=List (Str×Pa)
def iy:aY->Pa->List Nat
 | [],cur=>tP cur
 | (w,o)::st,cur=>iy st o++(if aB o=true then [] else [32])++cs w++40::tP cur
def spS(st:aY)(cur:Pa):List Nat:=iy st cur++(if aB cur=true then [] else [32])
theorem BS(st:aY)(cur q:Pa)(h:aB q=false):iy st (cur.app q)=spS st cur++tP q:=by
 cases st with
 | nil=>exact uW cur q h
 | cons x st =>
  obtain⟨w,o⟩:=x;unfold spS;show iy st o++(if aB o=true then [] else [32])++cs w++40::tP (cur.app q)=iy st o++(if aB o=true then [] else [32])++cs w++40::tP cur++(if aB cur=true then [] else [32])++tP q
  rw[uW cur q h];unfold spT;simp[bS]
theorem RM(st:aY)(w:Str)(o cur:Pa)(h:aB cur=false):iy st (o.app (.tag w cur .nil))=iy ((w,o)::st) cur ++ [41]:=by
 rw[BS st o _ rfl];show spS st o++(cs w++((if aB cur=true then [] else 40::(tP cur ++ [41])) ++ []))=iy st o++(if aB o=true then [] else [32])++cs w++40::tP cur ++ [41]
 rw[h,af bb];unfold spS;simp[bS]
def pNum(lo hi:Nat)(t:List Nat):Option (Nat×List Nat) :=
 if(t.takeWhile bA).length=1/\lo<=(t.takeWhile bA).headD 0-48/\(t.takeWhile bA).headD 0-48<=hi then some ((t.takeWhile bA).headD 0-48,t.drop 1) else none
def ky(t:List Nat):Option (Str×List Nat):=if 1<=(t.takeWhile bU).length/\(t.takeWhile bU).length<=8 then some (aM (t.takeWhile bU),t.drop (t.takeWhile bU).length) else none
def i_(p t:List Nat):Option (List Nat):=if p <+: t then some (t.drop p.length) else none
def cE:List Nat->Pa->aY->List Nat×Pa×aY
 | 41::t,cur,(w,o)::st=>cE t (o.app (.tag w cur .nil)) st
 | t,cur,st=>(t,cur,st)
def cz(next:List Nat->Pa->aY->Option (Pa×List Nat))(t:List Nat)(cur:Pa)(st:aY):Option (Pa×List Nat) :=
 if [32] <+: (cE t cur st).1 then next ((cE t cur st).1.drop 1) (cE t cur st).2.1 (cE t cur st).2.2
 else if(cE t cur st).2.2=[] then some ((cE t cur st).2.1,(cE t cur st).1) else none
def CV:List Nat->Bool
 | c::_=>bA c
 | []=>false
def bV(m:Nat):Nat->List Nat->Pa->aY->Option (Pa×List Nat)
 | 0,_,_,_=>none
 | k+1,t,cur,st =>
  if CV t=true then
   match pNum 0 (m-1) t with
   | none=>none
   | some x=>cz (bV m k) x.2 (cur.app (.kids (x.1:Int) .nil)) st
  else
   match ky t with
   | none=>none
   | some x=>if [40] <+: x.2 then bV m k (x.2.drop 1) .nil ((x.1,cur)::st) else cz (bV m k) x.2 (cur.app (.tag x.1 .nil .nil)) st
abbrev Rl:=Int×Str×Pa
def ku(m:Nat)(t:List Nat):Option (Rl×List Nat) :=
 match pNum 0 (m-1) t with
 | none=>none
 | some n =>
  match i_ [32] n.2 with
  | none=>none
  | some t1 =>
   match ky t1 with
   | none=>none
   | some g =>
    match i_ [32,61,32] g.2 with
    | none=>none
    | some t2=>if [123,125] <+: t2 then some (((n.1:Int),g.1,.nil),t2.drop 2) else(bV m (t2.length+1) t2 .nil []).map fun x=>(((n.1:Int),g.1,x.1),x.2)
def aI(r:Rl):bj.Ps:=(r.1,r.2.1)
def ir(acc:List Rl)(r:Rl):Bool:=match acc.getLast? with
 | none=>true
 | some l=>bj.cT (aI l) (aI r)
def i5(m:Nat):Nat->List Rl->List Nat->Option (List Rl)
 | 0,_,_=>none
 | k+1,acc,t =>
  if [59,32] <+: t then
   match ku m (t.drop 2) with
   | none=>none
   | some x=>if ir acc x.1=true then i5 m k (acc ++ [x.1]) x.2 else none
  else if t=[] then some acc else none
def gH(t:List Nat):Option (Nat×List Rl) :=
 match pNum 1 4 t with
 | none=>none
 | some x=>(i5 x.1 (x.2.length+1) [] x.2).map fun y=>(x.1,y)
def tR(r:Rl):List Nat:=(48+r.1.toNat)::32::(cs r.2.1++(32::61::32::(if aB r.2.2=true then [123,125] else tP r.2.2)))
def ck:List Rl->List Nat
 | []=>[]
 | r::rs=>59::32::(tR r++ck rs)
def tC(m:Nat)(rs:List Rl):List Nat:=(48+m)::ck rs
def gK(m:Nat)(r:Rl):Prop:=(0<=r.1/\r.1<(m:Int))/\fQ r.2.1/\bg m r.2.2
def oy(m:Nat)(rs:List Rl):Prop:=(1<=m/\m<=4)/\(∀r∈rs,gK m r)/\(rs.map aI).Pairwise (fun a b=>bj.cT a b=true)
theorem KI(P:Nat->Bool)(t:List Nat):t=t.takeWhile P++t.drop (t.takeWhile P).length:=by
 have h:=List.takeWhile_append_dropWhile (p:=P) (l:=t);have:t.drop (t.takeWhile P).length=t.dropWhile P:=by
  conv=>lhs;rw[<- h]
  rw[List.drop_append_of_le_length (by simp)];simp[h]
 rw[this,h]
theorem x5{P:Nat->Bool}{t:List Nat}{c:Nat}(h:c∈t.takeWhile P):P c=true:=by
 induction t with
 | nil=>cases h
 | cons a t ih =>
  rw[xb] at h
  split at h
  ·rcases aG.mp h with rfl|h
   ·assumption
   ·exact ih h
  ·cases h
theorem uz{lo hi:Nat}{t:List Nat}{x}(h:pNum lo hi t=some x):t=(48+x.1)::x.2/\lo<=x.1/\x.1<=hi/\x.1<=9:=by
 unfold pNum at h
 split at h
 ·rename_i hc
  cases h;obtain⟨h1,h2,h3⟩:=hc;have e:=KI bA t;rw[h1] at e;cases hz:t.takeWhile bA with
  | nil=>rw[hz] at h1;cases h1
  | cons c z =>
   rw[hz] at h1 h2 h3 e;obtain rfl:z=[]:=la (by simpa using h1);have hd:bA c=true:=x5 (P:=bA) (t:=t) (by rw[hz];exact ba ..);unfold bA at hd;rw[cO,cB,cB] at hd;refine⟨?_,h2,h3,?_⟩
   ·show t=(48+(c-48))::t.drop 1;rw[show 48+(c-48)=c by lia];exact e
   ·show c-48<=9;lia
 ·cases h
theorem BK{t:List Nat}{x}(h:ky t=some x):t=cs x.1++x.2/\fQ x.1:=by
 unfold ky at h
 split at h
 ·rename_i hc
  cases h;refine⟨?_,?_⟩
  ·show t=cs (aM _)++_;rw[df];exact KI bU t
  ·unfold fQ;dsimp only;rw[df];exact⟨eZ.mpr fun c hc=>x5 hc,hc.1,hc.2⟩
 ·cases h
theorem uQ{p t:List Nat}(h:p <+: t):t=p++t.drop p.length:=by
 obtain⟨r,rfl⟩:=h;rw[tO]
theorem Jz{p t r:List Nat}(h:i_ p t=some r):t=p++r:=by
 unfold i_ at h
 split at h
 ·cases h;exact uQ (by assumption)
 ·cases h
theorem Bt(t:List Nat)(cur:Pa)(w:Str)(o:Pa)(st:aY):cE (41::t) cur ((w,o)::st)=cE t (o.app (.tag w cur .nil)) st:=by
 rw[cE]
def mB(m:Nat)(st:aY):Prop := ∀x∈st,fQ x.1/\bg m x.2
theorem JJ{m:Nat}:∀(t:List Nat)(cur:Pa)(st:aY),aB cur=false->bg m cur->mB m st ->
  iy st cur++t=iy (cE t cur st).2.2 (cE t cur st).2.1++(cE t cur st).1/\aB (cE t cur st).2.1=false/\bg m (cE t cur st).2.1/\mB m (cE t cur st).2.2
 | [],cur,st,h,hw,hs=>by rw[cE];exact⟨rfl,h,hw,hs⟩;simp
 | c::t,cur,[],h,hw,hs=>by rw[cE];exact⟨rfl,h,hw,hs⟩;simp
 | c::t,cur,(w,o)::st,h,hw,hs=>by
  by_cases hc:c=41
  ·subst hc;rw[Bt];have hx:=hs (w,o) (ba ..);obtain⟨e,r⟩:=JJ (m:=m) t (o.app (.tag w cur .nil)) st (pJ rfl) (km hx.2 ⟨hx.1,hw,trivial⟩) fun x hx=>hs x (aW _ hx);refine⟨?_,r⟩;rw[<- e,RM st w o cur h];simp
  ·rw[cE]
   ·exact⟨rfl,h,hw,hs⟩
   ·intro t' w' o' ag e;injection e with e;exact absurd e hc
theorem KR{m:Nat}{next}(ih:∀t cur st x,next t cur st=some x->bg m cur->mB m st->spS st cur++t=tP x.1++x.2/\aB x.1=false/\bg m x.1)
  (t:List Nat) (cur:Pa) (st:aY) (x) (h:cz next t cur st=some x) (hn:aB cur=false) (hw:bg m cur) (hs:mB m st):iy st cur++t=tP x.1++x.2/\aB x.1=false/\bg m x.1:=by
 obtain⟨e,n2,w2,s2⟩:=JJ (m:=m) t cur st hn hw hs;unfold cz at h
 split at h
 ·rename_i hp
  obtain⟨e3,r⟩:=ih _ _ _ _ h w2 s2;refine⟨?_,r⟩;rw[<- e3,e];unfold spS;rw[n2,af (by decide),bS];exact congrArg _ (uQ hp)
 ·split at h
  ·rename_i _ h0
   cases h;rw[h0] at e;exact⟨e,n2,w2⟩
  ·cases h
theorem xH{m:Nat}(hm:1<=m):∀(k:Nat)(t:List Nat)(cur:Pa)(st:aY)(x),bV m k t cur st=some x->bg m cur->mB m st->spS st cur++t=tP x.1++x.2/\aB x.1=false/\bg m x.1
 | 0,t,cur,st,x,h,_,_=>by cases h
 | k+1,t,cur,st,x,h,hw,hs=>by
  unfold bV at h
  split at h
  ·split at h
   ·cases h
   ·rename_i y hy
    obtain⟨e,l1,l2,l3⟩:=uz hy;obtain⟨e2,r⟩:=KR (xH hm k) _ _ _ _ h (pJ rfl) (km hw ⟨⟨by lia,by lia⟩,trivial⟩) hs;refine⟨?_,r⟩;rw[<- e2,BS _ _ _ rfl,e,bS];rfl
  ·split at h
   ·cases h
   ·rename_i y hy
    obtain⟨e,hT⟩:=BK hy
    split at h
    ·rename_i hp
     obtain⟨e2,r⟩:=xH hm k _ _ _ _ h (show bg m .nil from trivial) (fun z hz=>by
      rcases aG.mp hz with rfl|hz
      ·exact⟨hT,hw⟩
      ·exact hs z hz)
     refine⟨?_,r⟩;rw[<- e2,e];have:=uQ hp;unfold spS;show iy st cur++(if aB cur=true then [] else [32])++(cs y.1++y.2)=iy st cur++(if aB cur=true then [] else [32])++cs y.1++40 :: [] ++ []++y.2.drop 1
     conv=>lhs;rw[this]
     simp[bS]
    ·obtain⟨e2,r⟩:=KR (xH hm k) _ _ _ _ h (pJ rfl) (km hw ⟨hT,trivial,trivial⟩) hs;refine⟨?_,r⟩;rw[<- e2,BS _ _ _ rfl,e,bS];show spS st cur++(cs y.1++y.2)=spS st cur++((cs y.1++([] ++ []))++y.2);simp
theorem JM{m:Nat}(hm:1<=m){t:List Nat}{x}(h:ku m t=some x):t=tR x.1++x.2/\gK m x.1:=by
 unfold ku at h
 split at h
 ·cases h
 ·rename_i n hn
  obtain⟨e1,_,l2,_⟩:=uz hn
  split at h
  ·cases h
  ·rename_i t1 OJ
   have e2:=Jz OJ
   split at h
   ·cases h
   ·rename_i g hg
    obtain⟨e3,hT⟩:=BK hg
    split at h
    ·cases h
    ·rename_i t2 ht2
     have e4:=Jz ht2;have hk:(0:Int)<=(n.1:Int)/\((n.1:Nat):Int)<(m:Int):=⟨by lia,by lia⟩
     split at h
     ·rename_i hp
      cases h;refine⟨?_,hk,hT,trivial⟩;have e5:=uQ hp;show t=(48+n.1)::32::(cs g.1++(32::61::32 :: [123,125]))++t2.drop 2;rw[e1,e2,e3,e4]
      conv=>lhs;rw[e5]
      simp
     ·obtain⟨y,hy,rfl⟩:=oI.mp h;obtain⟨e5,n5,w5⟩:=xH hm _ _ _ _ _ hy (show bg m .nil from trivial) (fun _ h=>nomatch h)
      refine⟨?_,hk,hT,w5⟩;have e5:t2=tP y.1++y.2:=e5;show t=(48+n.1)::32::(cs g.1++(32::61::32::(if aB y.1=true then [123,125] else tP y.1)))++y.2
      rw[n5,af (by decide),e1,e2,e3,e4,e5];simp
theorem Ko:∀(a:List Rl)(r:Rl)(t:List Nat),ck (a ++ [r])++t=ck a++59::32::(tR r++t)
 | [],r,t=>by simp[ck]
 | x::a,r,t=>by
  show 59::32::(tR x++ck (a ++ [r]))++t=59::32::(tR x++ck a)++59::32::(tR r++t);rw[kZ,kZ,bS,Ko a r t];simp
theorem Ua{l:List Rl}{r:Rl}(h:(l.map aI).Pairwise (fun a b=>bj.cT a b=true))(hl:ir l r=true):((l ++ [r]).map aI).Pairwise (fun a b=>bj.cT a b=true):=by
 rw[fF,e_];refine⟨h,by simp,fun a ha b hb=>?_⟩;obtain rfl:b=aI r:=by simpa using hb
 unfold ir at hl;cases hg:l.getLast? with
 | none =>
  rw[List.getLast?_eq_none_iff] at hg;subst hg;cases ha
 | some z =>
  rw[hg] at hl;have hl:bj.cT (aI z) (aI r)=true:=hl;obtain⟨ys,rfl⟩:=List.getLast?_eq_some_iff.mp hg;rw[fF,e_] at h;rw[fF] at ha;rcases bK.mp ha with ha|ha
  ·exact bj.mY.trans _ _ _ (h.2.2 a ha (aI z) (by simp)) hl
  ·obtain rfl:a=aI z:=by simpa using ha
   exact hl
theorem Js{m:Nat}(hm:1<=m):∀(k:Nat)(acc:List Rl)(t:List Nat)(x),i5 m k acc t=some x->(∀r∈acc,gK m r)->(acc.map aI).Pairwise (fun a b=>bj.cT a b=true) ->
  ck acc++t=ck x/\(∀r∈x,gK m r)/\(x.map aI).Pairwise (fun a b=>bj.cT a b=true)
 | 0,_,_,_,h,_,_=>by cases h
 | k+1,acc,t,x,h,ha,hp=>by
  unfold i5 at h
  split at h
  ·rename_i sV
   split at h
   ·cases h
   ·rename_i y hy
    obtain⟨e1,hw⟩:=JM hm hy
    split at h
    ·rename_i hl
     obtain⟨e2,r⟩:=Js hm k _ _ _ h (fun z hz=>by
      rcases bK.mp hz with hz|hz
      ·exact ha z hz
      ·rw[bh.mp hz];exact hw) (Ua hp hl)
     refine⟨?_,r⟩;rw[<- e2,Ko,<- e1];exact congrArg _ (uQ sV)
    ·cases h
  ·split at h
   ·rename_i h0
    cases h;subst h0;exact⟨iO _,ha,hp⟩
   ·cases h
theorem SM{t:List Nat}{x}(h:gH t=some x):t=tC x.1 x.2/\oy x.1 x.2:=by
 unfold gH at h
 split at h
 ·cases h
 ·rename_i y hy
  obtain⟨e1,l1,l2,_⟩:=uz hy;obtain⟨z,hz,rfl⟩:=oI.mp h;obtain⟨e2,r⟩:=Js l1 _ _ _ _ hz (fun _ h=>nomatch h) (by simp)
  refine⟨?_,⟨l1,l2⟩,r⟩;rw[e1];exact congrArg _ e2
theorem L_{P:Nat->Bool}{l r:List Nat}(h1:∀c∈l,P c=true)(h2:∀c r',r=c::r'->P c=false):(l++r).takeWhile P=l:=by
 induction l with
 | nil =>
  cases r with
  | nil=>rfl
  | cons c r =>
   rw[qN,xb,h2 c r rfl];rfl
 | cons a l ih =>
  rw[kZ,xb,h1 a (ba ..),ah rfl,ih fun c hc=>h1 c (aW _ hc)]
def sj(r:List Nat):Prop := ∀c r',r=c::r'->bU c=false/\bA c=false/\c≠40
theorem Bx{c:Nat}{r:List Nat}(h:bU c=false/\bA c=false/\c≠40:=by decide):sj (c::r):=fun c' r' e=>by cases e;exact h
theorem CA{lo hi n:Nat}{r:List Nat}(h1:lo<=n)(h2:n<=hi)(h9:n<=9)(hr:∀c r',r=c::r'->bA c=false):pNum lo hi ((48+n)::r)=some (n,r):=by
 have e:((48+n)::r).takeWhile bA=[48+n]:=L_ (l:=[48+n]) (fun c hc=>by
  rw[bh.mp hc];unfold bA;simp;lia) hr
 unfold pNum;rw[e];have e2:List.headD [48+n] 0-48=n:=by show 48+n-48=n;lia
 rw[e2,ah ⟨rfl,h1,h2⟩];rfl
theorem Cp{g:Str}{r:List Nat}(h:fQ g)(hr:∀c r',r=c::r'->bU c=false):ky (cs g++r)=some (g,r):=by
 have e:(cs g++r).takeWhile bU=cs g:=L_ (eZ.mp h.1) hr;unfold ky;rw[e,ah ⟨h.2.1,h.2.2⟩,tO,r8]
theorem LP{g:Str}(h:fQ g):∃c z,cs g=c::z/\bU c=true:=by
 cases hg:cs g with
 | nil =>
  have:=h.2.1;rw[hg] at this;cases this
 | cons c z=>exact⟨c,z,rfl,eZ.mp h.1 c (by rw[hg];exact ba ..)⟩
theorem Mr{c:Nat}(h:bU c=true):bA c=false:=by
 unfold bU at h;unfold bA;simp at h ⊢;lia
theorem VU{next}{c:Nat}{t:List Nat}{cur:Pa}{st:aY}(h:c=32):cz next (c::t) cur st=next t cur st:=by
 subst h;have e:cE (32::t) cur st=(32::t,cur,st):=by
  rw[cE];intro t' w' o' ag e;cases e
 unfold cz;rw[e];rw[ah ⟨t,rfl⟩];rfl
def XT(o:Pa):List Nat:=if aB o=true then [] else 32::tP o
def MJ(m:Nat)(p:Pa):Prop := ∀(k:Nat)(r:List Nat)(cur:Pa)(st:aY),sj r->(tP p++r).length<k->∃k',r.length<k'/\bV m k (tP p++r) cur st=cz (bV m k') r (cur.app p) st
theorem Cb{m:Nat}{o:Pa}(ih:aB o=false->MJ m o)(k:Nat)(r:List Nat)(cur:Pa)(st:aY)(hr:sj r)(hk:(XT o++r).length<k):∃k',r.length<k'/\cz (bV m k) (XT o++r) cur st=cz (bV m k') r (cur.app o) st:=by
 unfold XT at hk ⊢;cases ho:aB o with
 | true =>
  obtain rfl:=kj.mp ho;rw[ho,ah rfl] at hk;exact⟨k,hk,by rw[ah rfl,Pa.yc];rfl⟩
 | false =>
  rw[ho,af (by decide)] at hk;rw[af (by decide)];obtain⟨k',h1,h2⟩:=ih ho k r cur st hr (by simp only[kZ,aN] at hk;lia);refine⟨k',h1,?_⟩;rw[kZ,VU rfl,h2]
theorem K1{o:Pa}{r:List Nat}(hr:sj r):sj (XT o++r):=by
 unfold XT
 split
 ·exact hr
 ·exact Bx
theorem yz{n:Nat}(h:n<=9):bA (48+n)=true:=by
 unfold bA;simp;lia
theorem u_{m:Nat}(hm:m<=9):∀(p:Pa),aB p=false->bg m p->MJ m p
 | .nil,h,_=>by cases h
 | .kids n o,_,hw=>by
  intro k r cur st hr hk;cases k with
  | zero=>exact absurd hk (ic _)
  | succ k =>
   have n0:=hw.1.1;have n1:=hw.1.2;have e:tP (.kids n o)++r=(48+n.toNat)::(XT o++r):=rfl;rw[e] at hk ⊢;have hx:=K1 (o:=o) hr;obtain⟨k',h1,h2⟩:=Cb (fun h=>u_ hm o h hw.2) k r (cur.app (.kids n .nil)) st hr (by simp only[aN] at hk;lia);refine⟨k',h1,?_⟩;unfold bV;rw[ah (show CV ((48+n.toNat)::(XT o++r))=true from yz (by lia)),CA (bi _) (by lia) (by lia) (fun c r' e=>(hx c r' e).2.1)];show cz (bV m k) (XT o++r) (cur.app (.kids ((n.toNat:Nat):Int) .nil)) st=_;rw[show((n.toNat:Nat):Int)=n by lia,h2,mS];rfl
 | .tag g w o,_,hw=>by
  intro k r cur st hr hk;cases k with
  | zero=>exact absurd hk (ic _)
  | succ k =>
   have hx:=K1 (o:=o) hr;obtain⟨c0,z0,hg,nG⟩:=LP hw.1;have jT:=hw.1.2.1;cases qu:aB w with
   | true =>
    obtain rfl:=kj.mp qu;have e:tP (.tag g .nil o)++r=cs g++(XT o++r):=by
     show cs g++([]++XT o)++r=_;simp
    rw[e] at hk ⊢;obtain⟨k',h1,h2⟩:=Cb (fun h=>u_ hm o h hw.2.2) k r (cur.app (.tag g .nil .nil)) st hr (by rw[bu] at hk;lia);refine⟨k',h1,?_⟩;unfold bV;rw[af (by rw[hg];show ¬ bA c0=true;rw[Mr nG];decide),Cp hw.1 (fun c r' e=>(hx c r' e).1)];show(if [40] <+: XT o++r then _ else cz (bV m k) (XT o++r) (cur.app (.tag g .nil .nil)) st)=_
    rw[af (fun⟨t',e⟩=>(hx 40 t' e.symm).2.2 rfl),h2,mS];rfl
   | false =>
    have e:tP (.tag g w o)++r=cs g++(40::(tP w++(41::(XT o++r)))):=by
     show cs g++((if aB w=true then [] else 40::(tP w ++ [41]))++XT o)++r=_
     rw[qu,af (by decide)];simp
    rw[e] at hk ⊢;obtain⟨k1,h1,h2⟩:=u_ hm w qu hw.2.1 k (41::(XT o++r)) .nil ((g,cur)::st) Bx (by simp only[bu,aN] at hk ⊢;lia);obtain⟨k',h3,h4⟩:=Cb (fun h=>u_ hm o h hw.2.2) k1 r (cur.app (.tag g w .nil)) st hr (by simp only[aN] at h1;lia);refine⟨k',h3,?_⟩;unfold bV;rw[af (by rw[hg];show ¬ bA c0=true;rw[Mr nG];decide),Cp hw.1 (fun c r' e=>by cases e;decide)];show(if [40] <+: 40::(tP w++(41::(XT o++r))) then bV m k (tP w++(41::(XT o++r))) .nil ((g,cur)::st) else _)=_
    rw[ah ⟨_,rfl⟩,h2];have e5:cz (bV m k1) (41::(XT o++r)) (Pa.nil.app w) ((g,cur)::st)=cz (bV m k1) (XT o++r) (cur.app (.tag g w .nil)) st:=by
     unfold cz;rw[Bt];rfl
    rw[e5,h4,mS];rfl
def yD(r:List Nat):Prop:=r=[]\/∃r',r=59::r'
theorem yD.c{r:List Nat}(h:yD r):sj r:=by
 rcases h with rfl|⟨r',rfl⟩
 ·intro c r' e;cases e
 ·exact Bx
theorem Mu{p:Pa}{m:Nat}(hm:m<=9)(h:aB p=false)(hw:bg m p):∃c z,tP p=c::z/\(bU c=true\/bA c=true):=by
 cases p with
 | nil=>cases h
 | kids n o=>exact⟨_,_,rfl,.inr (yz (by have:=hw.1.1;have:=hw.1.2;lia))⟩
 | tag g w o =>
  obtain⟨c0,z0,hg,nG⟩:=LP hw.1;refine⟨c0,z0++((if aB w=true then [] else 40::(tP w ++ [41]))++(if aB o=true then [] else 32::tP o)),?_,.inl nG⟩
  show cs g++_=_;rw[hg];rfl
theorem Um{m:Nat}(hm:m<=9){r:Rl}{t:List Nat}(hw:gK m r)(ht:yD t):ku m (tR r++t)=some (r,t):=by
 obtain⟨n,g,p⟩:=r;obtain⟨⟨n0,n1⟩,hT,hp⟩:=hw;have n0:0<=n:=n0;have n1:n<m:=n1;have hT:fQ g:=hT;have hp:bg m p:=hp;have e:tR (n,g,p)++t=(48+n.toNat)::32::(cs g++(32::61::32::((if aB p=true then [123,125] else tP p)++t))):=by
  unfold tR;simp
 rw[e];have hn:((n.toNat:Nat):Int)=n:=by lia
 unfold ku;rw[CA (bi _) (by lia) (by lia) (fun c r' e=>by cases e;decide)];dsimp only;have s1:i_ [32] (32::(cs g++(32::61::32::((if aB p=true then [123,125] else tP p)++t))))=some (cs g++(32::61::32::((if aB p=true then [123,125] else tP p)++t))):=ah ⟨_,rfl⟩
 rw[s1];dsimp only;rw[Cp hT (fun c r' e=>by cases e;decide)];dsimp only;have s2:i_ [32,61,32] (32::61::32::((if aB p=true then [123,125] else tP p)++t))=some ((if aB p=true then [123,125] else tP p)++t):=ah ⟨_,rfl⟩
 rw[s2];dsimp only;cases iI:aB p with
 | true =>
  obtain rfl:=kj.mp iI;rw[ah rfl,ah ⟨t,rfl⟩,hn];rfl
 | false =>
  rw[af (show ¬ (false=true) from bb)];obtain⟨c,z,hc,kI⟩:=Mu hm iI hp;rw[af (show ¬ [123,125] <+: tP p++t from fun⟨t',e'⟩=>by
   rw[hc] at e';injection e' with e' _;subst e';exact absurd kI (by decide))]
  obtain⟨k',h1,h2⟩:=u_ hm p iI hp ((tP p++t).length+1) t .nil [] ht.c (gO _);have e6:cE t p []=(t,p,[]):=by
   cases t with
   | nil=>rw[cE];simp
   | cons c t=>rw[cE];simp
  have e7:cz (bV m k') t (Pa.nil.app p) []=some (p,t):=by
   show cz (bV m k') t p []=some (p,t);unfold cz;rw[e6,af,ah rfl];rintro⟨t',e'⟩;rcases ht with rfl|⟨r',rfl⟩
   ·cases e'
   ·injection e' with e' _;cases e'
  rw[h2,e7,hn];rfl
theorem Ka(rs:List Rl):yD (ck rs):=by
 cases rs with
 | nil=>exact .inl rfl
 | cons r rs=>exact .inr ⟨_,rfl⟩
theorem Kq{m:Nat}(hm:m<=9):∀(rs acc:List Rl)(k:Nat),(ck rs).length<k->(∀r∈rs,gK m r)->((acc++rs).map aI).Pairwise (fun a b=>bj.cT a b=true)->i5 m k acc (ck rs)=some (acc++rs)
 | [],acc,0,h,_,_=>absurd h (ic _)
 | [],acc,k+1,_,_,_=>by
  unfold i5;rw[af (fun⟨t',e⟩=>by cases e),ah (show ck [] =[] from rfl),iO]
 | r::rs,acc,0,h,_,_=>absurd h (ic _)
 | r::rs,acc,k+1,h,hw,hp=>by
  have e:ck (r::rs)=59::32::(tR r++ck rs):=rfl;rw[e] at h ⊢;unfold i5;rw[ah ⟨_,rfl⟩];show(match ku m (tR r++ck rs) with|none=>none|some x=>if ir acc x.1=true then i5 m k (acc ++ [x.1]) x.2 else none)=_
  rw[Um hm (hw r (ba ..)) (Ka rs)];dsimp only;have hl:ir acc r=true:=by
   unfold ir;cases hg:acc.getLast? with
   | none=>rfl
   | some z =>
    obtain⟨ys,rfl⟩:=List.getLast?_eq_some_iff.mp hg;rw[fF,e_] at hp;exact hp.2.2 (aI z) (by simp) (aI r) (by simp)
  rw[ah hl,Kq hm rs (acc ++ [r]) k (by simp only[aN,bu] at h;lia) (fun x hx=>hw x (aW _ hx)) (by rw[bS];exact hp),bS];rfl
theorem ME{m:Nat}{rs:List Rl}(h:oy m rs):gH (tC m rs)=some (m,rs):=by
 obtain⟨⟨h1,h4⟩,hw,hp⟩:=h;have hs:=Ka rs;unfold gH tC;rw[CA h1 h4 (by lia) (fun c r' e=>(hs.c c r' e).2.1)];dsimp only;rw[Kq (by lia) rs [] _ (gO _) hw (by rw[qN];exact hp)];rfl
def eG(wd:List Nat):Bool:=wd.all bU&&decide (1<=wd.length)&&decide (wd.length<=8)
def gp(m:Nat)(wd:List Nat):Bool:=decide (wd.length=1)&&decide (48<=wd.headD 0)&&decide (wd.headD 0<=51)&&decide (wd.headD 0-48<m)
def eM(m:Nat)(wd:List Nat)(cur:Pa):Option Pa :=
 if gp m wd=true then some (cur.app (.kids ((wd.headD 0-48:Nat):Int) .nil)) else if eG wd=true then some (cur.app (.tag (aM wd) .nil .nil)) else if wd=[] then some cur else none
abbrev Qs:=List Nat×Pa×aY
def CT(cur:Pa):aY->Option Qs
 | []=>none
 | (w,o)::st=>some ([],o.app (.tag w cur .nil),st)
def c_(m c:Nat)(wd:List Nat)(cur:Pa)(st:aY):Option Qs :=
 if(bU c || bA c)=true then some (wd ++ [c],cur,st)
 else if ¬ (c=32\/c=40\/c=41)\/(c≠41/\wd=[]/\aB cur=true) then none
 else if(c=40/\eG wd=false)\/(c=41/\(st=[]\/(wd=[]/\aB cur=true))) then none
 else if c=40 then some ([],.nil,(aM wd,cur)::st)
 else match eM m wd cur with
  | none=>none
  | some bf=>if c=41 then CT bf st else some ([],bf,st)
def bJ(m:Nat):List Nat->List Nat->Pa->aY->Option Qs
 | [],wd,cur,st=>some (wd,cur,st)
 | c::t,wd,cur,st=>match c_ m c wd cur st with
  | none=>none
  | some x=>bJ m t x.1 x.2.1 x.2.2
def fD(m:Nat)(t:List Nat):Option Pa:=match bJ m (t ++ [32]) [] .nil [] with
 | some (_,cur,[])=>some cur
 | _=>none
theorem uF{g:Str}:eG (cs g)=true↔fQ g:=by
 unfold eG fQ;rw[cO,cO,cB,cB,and_assoc]
theorem Ce{wd:List Nat}(h:eG wd=true):fQ (aM wd):=uF.mp (by rw[df];exact h)
theorem VX{m:Nat}{wd:List Nat}(h:eG wd=true):gp m wd=false:=by
 cases hn:gp m wd with
 | false=>rfl
 | true =>
  unfold gp at hn;unfold eG at h;simp only[cO,cB] at hn h;cases wd with
  | nil=>simp at hn
  | cons c z =>
   have:=eZ.mp h.1.1 c (ba ..);unfold bU at this;simp only[cO,cB] at this;have h2:c<=51:=hn.1.2;lia
def ng(c:Nat)(cur:Pa)(st:aY):Qs:=if c=41 then(match st with | []=>([],cur,[])|(w,o)::st=>([],o.app (.tag w cur .nil),st)) else([],cur,st)
def ES(c:Nat)(st:aY):Prop:=c=32\/(c=41/\st ≠ [])
theorem Kn{m c:Nat}{wd:List Nat}{cur bf:Pa}{st:aY}(hc:ES c st)(hn : ¬ (wd=[]/\aB cur=true))(hw:eM m wd cur=some bf):c_ m c wd cur st=some (ng c bf st):=by
 unfold c_ ng;rcases hc with rfl|⟨rfl,dh⟩
 ·rw[af (by decide),af (by rintro(h|h);exact h (.inl rfl);exact hn h.2),af (by rintro(⟨h,_⟩|⟨h,_⟩) <;> cases h),af (by decide),hw]
  rfl
 ·rw[af (by decide),af (by rintro(h|h);exact h (.inr (.inr rfl));exact h.1 rfl),af (by rintro(⟨h,_⟩|⟨_,h⟩);cases h;rcases h with h|h;exact dh h;exact hn h),af (by decide),hw];cases st with
  | nil=>exact absurd rfl dh
  | cons x st=>rfl
theorem BF{m:Nat}:∀(l r wd:List Nat)(cur:Pa)(st:aY),(∀c∈l,bU c=true)->bJ m (l++r) wd cur st=bJ m r (wd++l) cur st
 | [],r,wd,cur,st,_=>by rw[qN,iO]
 | c::l,r,wd,cur,st,h=>by
  have e:c_ m c wd cur st=some (wd ++ [c],cur,st):=by
   unfold c_;rw[ah (by rw[h c (ba ..)];rfl)]
  rw[kZ,bJ,e];show bJ m (l++r) (wd ++ [c]) cur st=_;rw[BF l r (wd ++ [c]) cur st fun x hx=>h x (aW _ hx),bS];rfl
def MB(m:Nat)(p:Pa):Prop := ∀(c:Nat)(r:List Nat)(cur:Pa)(st:aY),ES c st->bJ m (tP p++c::r) [] cur st=bJ m r (ng c (cur.app p) st).1 (ng c (cur.app p) st).2.1 (ng c (cur.app p) st).2.2
theorem Cv{m:Nat}{o:Pa}(ih:aB o=false->MB m o)(c:Nat)(r wd:List Nat)(cur bf:Pa)(st:aY)(hc:ES c st)(hn : ¬ (wd=[]/\aB cur=true))(hw:eM m wd cur=some bf) :
  bJ m (XT o++c::r) wd cur st=bJ m r (ng c (bf.app o) st).1 (ng c (bf.app o) st).2.1 (ng c (bf.app o) st).2.2:=by
 unfold XT;cases ho:aB o with
 | true =>
  obtain rfl:=kj.mp ho;rw[ah rfl,qN,bJ,Kn hc hn hw,Pa.yc]
 | false =>
  rw[af (by decide),kZ,bJ,Kn (.inl rfl) hn hw];exact ih ho c r bf st hc
theorem ve{m:Nat}(hm:m<=4):∀(p:Pa),aB p=false->bg m p->MB m p
 | .nil,h,_=>by cases h
 | .kids n o,_,hw=>by
  intro c r cur st hc;have n0:=hw.1.1;have n1:=hw.1.2;have e:tP (.kids n o)++c::r=(48+n.toNat)::(XT o++c::r):=rfl;have e1:c_ m (48+n.toNat) [] cur st=some ([48+n.toNat],cur,st):=by
   unfold c_;rw[ah (by rw[yz (show n.toNat<=9 by lia),Bool.or_true])];rfl
  have e2:eM m [48+n.toNat] cur=some (cur.app (.kids n .nil)):=by
   unfold eM;have:gp m [48+n.toNat]=true:=by
    unfold gp;simp;lia
   rw[ah this];show some (cur.app (.kids ((48+n.toNat-48:Nat):Int) .nil))=_;rw[show((48+n.toNat-48:Nat):Int)=n by lia]
  rw[e,bJ,e1];show bJ m (XT o++c::r) [48+n.toNat] cur st=_;rw[Cv (fun h=>ve hm o h hw.2) c r _ cur _ st hc (fun h=>by cases h.1) e2,mS];rfl
 | .tag g w o,_,hw=>by
  intro c r cur st hc;have hg:=uF.mpr hw.1;have bP:cs g ≠ []:=fun z=>by
   have:=hw.1.2.1;rw[z] at this;cases this
  cases qu:aB w with
  | true =>
   obtain rfl:=kj.mp qu;have e:tP (.tag g .nil o)++c::r=cs g++(XT o++c::r):=by
    show cs g++([]++XT o)++c::r=_;simp
   have e2:eM m (cs g) cur=some (cur.app (.tag g .nil .nil)):=by
    unfold eM;rw[VX hg,af (by decide),ah hg,r8]
   rw[e,BF _ _ _ _ _ (eZ.mp hw.1.1),qN,Cv (fun h=>ve hm o h hw.2.2) c r _ cur _ st hc (fun h=>bP h.1) e2,mS];rfl
  | false =>
   have e:tP (.tag g w o)++c::r=cs g++(40::(tP w++(41::(XT o++c::r)))):=by
    show cs g++((if aB w=true then [] else 40::(tP w ++ [41]))++XT o)++c::r=_
    rw[qu,af (by decide)];simp
   have e1:c_ m 40 (cs g) cur st=some ([],.nil,(g,cur)::st):=by
    unfold c_;rw[af (by decide),af (by rintro(h|h);exact h (.inr (.inl rfl));exact bP h.2.1),af (by rintro(⟨_,h⟩|⟨h,_⟩);rw[hg] at h;cases h;cases h),ah rfl,r8]
   have e3:eM m [] (cur.app (.tag g w .nil))=some (cur.app (.tag g w .nil)):=by
    unfold eM;rw[af (show ¬ gp m []=true from bb),af (show ¬ eG []=true from bb),ah rfl]
   rw[e,BF _ _ _ _ _ (eZ.mp hw.1.1),qN,bJ,e1];show bJ m (tP w++(41::(XT o++c::r))) [] .nil ((g,cur)::st)=_;rw[ve hm w qu hw.2.1 41 _ .nil ((g,cur)::st) (.inr ⟨rfl,List.cons_ne_nil _ _⟩)];show bJ m (XT o++c::r) [] (cur.app (.tag g w .nil)) st=_;rw[Cv (fun h=>ve hm o h hw.2.2) c r [] _ _ st hc (fun h=>by rw[pJ rfl] at h;cases h.2) e3,mS];rfl
theorem LY{m:Nat}(hm:m<=4){p:Pa}(h:aB p=false)(hw:bg m p):fD m (tP p)=some p:=by
 unfold fD;rw[ve hm p h hw 32 [] .nil [] (.inl rfl)];rfl
theorem SN{m:Nat}{wd:List Nat}{cur bf:Pa}(h:eM m wd cur=some bf)(hw:bg m cur):bg m bf:=by
 unfold eM at h
 split at h
 ·rename_i hn
  cases h;unfold gp at hn;simp only[cO,cB] at hn;exact km hw ⟨⟨by lia,by lia⟩,trivial⟩
 ·split at h
  ·rename_i hg
   cases h;exact km hw ⟨Ce hg,trivial,trivial⟩
  ·split at h
   ·cases h;exact hw
   ·cases h
theorem Tr{m c:Nat}{wd:List Nat}{cur:Pa}{st:aY}{x:Qs}(h:c_ m c wd cur st=some x)(hw:bg m cur)(hs:mB m st):bg m x.2.1/\mB m x.2.2:=by
 unfold c_ at h
 split at h
 ·cases h;exact⟨hw,hs⟩
 ·split at h
  ·cases h
  ·split at h
   ·cases h
   ·rename_i fh
    split at h
    ·rename_i fz
     cases h;refine⟨trivial,fun z hz=>?_⟩;rcases aG.mp hz with rfl|hz
     ·refine⟨Ce ?_,hw⟩;cases ht:eG wd with
      | true=>rfl
      | false=>exact absurd (.inl ⟨fz,ht⟩) fh
     ·exact hs z hz
    ·split at h
     ·cases h
     ·rename_i bf hq
      have j_:=SN hq hw
      split at h
      ·cases st with
       | nil=>cases h
       | cons y st =>
        cases h;have hy:=hs y (ba ..);exact⟨km hy.2 ⟨hy.1,j_,trivial⟩,fun z hz=>hs z (aW _ hz)⟩
      ·cases h;exact⟨j_,hs⟩
theorem JV{m:Nat}:∀(t wd:List Nat)(cur:Pa)(st:aY)(x:Qs),bJ m t wd cur st=some x->bg m cur->mB m st->bg m x.2.1/\mB m x.2.2
 | [],wd,cur,st,x,h,hw,hs=>by
  cases h;exact⟨hw,hs⟩
 | c::t,wd,cur,st,x,h,hw,hs=>by
  rw[bJ] at h
  split at h
  ·cases h
  ·rename_i y hy
   obtain⟨h1,h2⟩:=Tr hy hw hs;exact JV t _ _ _ _ h h1 h2
theorem SG{m:Nat}{t:List Nat}{p:Pa}(h:fD m t=some p):bg m p:=by
 unfold fD at h
 split at h
 ·rename_i wd cur hq
  cases h;exact(JV _ _ _ _ _ hq trivial (fun _ h=>nomatch h)).1
 ·cases h
structure bp(H H1:Hp)(R T:Addr)(as:List Addr)(gs:List Pa)(ts:List Str):Prop where
 sm:ZD H H1
 hT:H1 T=some (.lst ((ts.map V.str).reverse))
 hR:H1 R=some (.lst ((as.map V.ref).reverse))
 rows:Paired (fun a g=>∃xs,H1 a=some (.lst xs)/\bq H1 xs g) as gs
 nd:(R::T::as).Nodup
 fr:∀b∈R::T::as,H b=none
 gl:gs.length=ts.length+1
section
variable{H H1:Hp}{R T:Addr}{as:List Addr}{gs:List Pa}{ts:List Str}
theorem Jm{H1:Hp}:∀{as:List Addr}{gs:List Pa},Paired (fun a g=>∃xs,H1 a=some (.lst xs)/\bq H1 xs g) as gs->∀b∈as,∃o,H1 b=some o
 | _,_,.cons ⟨xs,h,_⟩ t,b,hb=>by
  rcases aG.mp hb with rfl|hb
  ·exact⟨_,h⟩
  ·exact Jm t b hb
theorem pw{H1 H2:Hp}(k:TK H1 H2):∀{as:List Addr}{gs:List Pa},Paired (fun a g=>∃xs,H1 a=some (.lst xs)/\bq H1 xs g) as gs->(∀b∈as,∀o,H1 b=some o->H2 b=some o)->Paired (fun a g=>∃xs,H2 a=some (.lst xs)/\bq H2 xs g) as gs
 | _,_,.nil,_=>.nil
 | _,_,.cons ⟨xs,h,r⟩ t,kb=>.cons ⟨xs,kb _ (ba ..) _ h,r.mono k⟩ (pw k t fun b hb=>kb b (aW _ hb))
theorem bp.nR(h:bp H H1 R T as gs ts):∀b∈as,b≠R:=fun b hb e=>(dN.mp h.nd).1 (by rw[<- e];exact aW _ hb)
theorem bp.nT(h:bp H H1 R T as gs ts):∀b∈as,b≠T:=fun b hb e=>(dN.mp (dN.mp h.nd).2).1 (by rw[<- e];exact hb)
theorem bp.RT(h:bp H H1 R T as gs ts):R≠T:=fun e=>(dN.mp h.nd).1 (by rw[e];exact ba ..)
theorem bp.opened{wd:Str}{l:Addr}(h:bp H H1 R T as gs ts)(hl:(upd H1 T (.lst ((ts.map V.str).reverse ++ [.str wd]))) l=none):bp H (upd (upd (upd H1 T (.lst ((ts.map V.str).reverse ++ [.str wd]))) l (.lst [])) R (.lst ((as.map V.ref).reverse ++ [.ref l]))) R T (l::as) (.nil::gs) (wd::ts):=by
 obtain⟨Av,dg⟩:=Z1 hl;have qz:R≠l:=Zo h.hR dg;have p_:=h.RT;have gz:(upd (upd H1 T (.lst ((ts.map V.str).reverse ++ [.str wd]))) l (.lst [])) R=some (.lst (as.map V.ref).reverse):=by
  rw[Zi qz,Zi p_];exact h.hR
 have tk:TK H1 (upd (upd (upd H1 T (.lst ((ts.map V.str).reverse ++ [.str wd]))) l (.lst [])) R (.lst ((as.map V.ref).reverse ++ [.ref l]))):=((TK.lst h.hT).trans (TK.new hl)).trans (TK.lst gz);have nla:l∉as:=fun hb=>by
  obtain⟨o,ho⟩:=Jm h.rows l hb;rw[dg] at ho;cases ho
 obtain⟨GZ,G0⟩:=dN.mp h.nd;obtain⟨Bc,GY⟩:=dN.mp G0;refine⟨((h.sm.eV (h.fr T (by simp))).eV (h.sm.free dg)).eV (h.fr R (by simp)),?_,?_,.cons ⟨[],?_,.nil⟩ (pw tk h.rows fun b hb o ho=>?_),?_,?_,by rw[aN,aN,h.gl]⟩
 ·rw[Zi p_.symm,Zi Av.symm,Zc,br,gM]
 ·rw[Zc,br,gM]
 ·rw[Zi qz.symm];exact Zc
 ·rw[Zi (h.nR b hb),Zi (Zo ho dg),Zi (h.nT b hb)];exact ho
 ·refine dN.mpr ⟨fun h=>?_,dN.mpr ⟨fun h=>?_,dN.mpr ⟨nla,GY⟩⟩⟩
  ·rcases aG.mp h with h|h
   ·exact p_ h
   ·rcases aG.mp h with h|h
    ·exact qz h
    ·exact GZ (aW _ h)
  ·rcases aG.mp h with h|h
   ·exact Av h.symm
   ·exact Bc h
 ·intro b hb;simp only[aG] at hb;rcases hb with rfl|rfl|rfl|hb
  ·exact h.fr _ (by simp)
  ·exact h.fr _ (by simp)
  ·exact h.sm.free dg
  ·exact h.fr b (by simp[hb])
theorem bp.put{b0 pt:Addr}{g0 q:Pa}{vs:List V}{a1:List Addr}{g1:List Pa}(h:bp H H1 R T (b0::a1) (g0::g1) ts)(h0:H1 b0=some (.lst vs))(r0:bq H1 vs g0)(s:ZD H1 H2)(hq:bq (upd H2 b0 (.lst (vs ++ [.ref pt]))) [.ref pt] q):bp H (upd H2 b0 (.lst (vs ++ [.ref pt]))) R T (b0::a1) (g0.app q::g1) ts:=by
 have tk:TK H1 (upd H2 b0 (.lst (vs ++ [.ref pt]))):=s.tk.trans (TK.lst (s _ _ h0));have nb:∀b∈a1,b≠b0:=fun b hb e=>(dN.mp (dN.mp (dN.mp h.nd).2).2).1 (by rw[<- e];exact hb);have cG:=h.rows;cases cG with
 | cons r t =>
  refine⟨(h.sm.trans s).eV (h.fr b0 (by simp)),?_,?_,.cons ⟨_,Zc,(r0.mono tk).app hq⟩ (pw tk t fun b hb o ho=>?_),h.nd,h.fr,h.gl⟩
  ·rw[Zi (h.nT b0 (ba ..)).symm];exact s _ _ h.hT
  ·rw[Zi (h.nR b0 (ba ..)).symm];exact s _ _ h.hR
  ·rw[Zi (nb b hb)];exact s _ _ ho
theorem bp.two(h:bp H H1 R T as gs (t::ts)):∃b0 b1 a2 g0 g1 g2 vs0 eW,as=b0::b1::a2/\gs=g0::g1::g2/\H1 b0=some (.lst vs0)/\bq H1 vs0 g0/\H1 b1=some (.lst eW)/\bq H1 eW g1/\H1 R=some (.lst (((b1::a2).map V.ref).reverse ++ [.ref b0]))/\H1 T=some (.lst ((ts.map V.str).reverse ++ [.str t])):=by
 have jT:=h.gl;have hR:=h.hR;have hT:=h.hT;have cG:=h.rows;cases gs with
 | nil=>simp at jT
 | cons g0 gs =>
  cases gs with
  | nil=>simp at jT
  | cons g1 gs =>
   cases cG with
   | @cons b0 _ as _ r0 cG =>
    cases cG with
    | @cons b1 _ as _ r1 cG =>
     obtain⟨vs0,cw,dS⟩:=r0;obtain⟨eW,eQ,iM⟩:=r1;refine⟨b0,b1,as,g0,g1,gs,vs0,eW,rfl,rfl,cw,dS,eQ,iM,?_,?_⟩
     ·rw[hR,br,gM]
     ·rw[hT,br,gM]
theorem bp.popped{b0:Addr}{g0:Pa}{a1:List Addr}{g1:List Pa}{t:Str}{l:Addr}{vs0:List V}(h:bp H H1 R T (b0::a1) (g0::g1) (t::ts))(hl:(upd H1 R (.lst ((a1.map V.ref).reverse))) l=none):bp H (upd (upd (upd H1 R (.lst ((a1.map V.ref).reverse))) l (.tup vs0)) T (.lst ((ts.map V.str).reverse))) R T a1 g1 ts:=by
 obtain⟨qz,dg⟩:=Z1 hl;have p_:=h.RT;have Av:T≠l:=Zo h.hT dg;have iC:(upd (upd H1 R (.lst ((a1.map V.ref).reverse))) l (.tup vs0)) T=some (.lst (((t::ts).map V.str).reverse)):=by
  rw[Zi Av,Zi p_.symm];exact h.hT
 have tk:TK H1 (upd (upd (upd H1 R (.lst ((a1.map V.ref).reverse))) l (.tup vs0)) T (.lst ((ts.map V.str).reverse))):=((TK.lst h.hR).trans (TK.new hl)).trans (TK.lst iC);have jT:=h.gl;have cG:=h.rows;have nRs:=h.nR;have nTs:=h.nT;cases cG with
 | cons r rt =>
  obtain⟨GZ,G0⟩:=dN.mp h.nd;obtain⟨Bc,GY⟩:=dN.mp G0;refine⟨((h.sm.eV (h.fr R (by simp))).eV (h.sm.free dg)).eV (h.fr T (by simp)),Zc,?_,pw tk rt fun b hb o ho=>?_,?_,fun b hb=>h.fr b ?_,by simp at jT ⊢;lia⟩
  ·rw[Zi p_,Zi qz.symm];exact Zc
  ·rw[Zi (nTs b (aW _ hb)),Zi (Zo ho dg),Zi (nRs b (aW _ hb))];exact ho
  ·refine dN.mpr ⟨fun z=>GZ ?_,dN.mpr ⟨fun z=>Bc (aW _ z),(dN.mp GY).2⟩⟩;rcases aG.mp z with z|z
   ·exact absurd z p_
   ·exact aW _ (aW _ z)
  ·simp only[aG] at hb ⊢;rcases hb with h|h|h
   ·exact .inl h
   ·exact .inr (.inl h)
   ·exact .inr (.inr (.inr h))
end
theorem bp.AG{H H1:Hp}{R T b0 b1 l l2:Addr}{a2:List Addr}{g0 g1:Pa}{g2:List Pa}{t:Str}{ts:List Str}{vs0 eW:List V}(h:bp H H1 R T (b0::b1::a2) (g0::g1::g2) (t::ts))(h0:H1 b0=some (.lst vs0))(r0:bq H1 vs0 g0)(h1:H1 b1=some (.lst eW))(r1:bq H1 eW g1)
  (hl:(upd H1 R (.lst ((b1::a2).map V.ref).reverse)) l=none) (gC:(upd (upd (upd H1 R (.lst ((b1::a2).map V.ref).reverse)) l (.tup vs0)) T (.lst (ts.map V.str).reverse)) l2=none) :
  (upd H1 R (.lst ((b1::a2).map V.ref).reverse)) b0=some (.lst vs0)/\(upd (upd H1 R (.lst ((b1::a2).map V.ref).reverse)) l (.tup vs0)) R=some (.lst ((a2.map V.ref).reverse ++ [.ref b1]))/\(upd (upd H1 R (.lst ((b1::a2).map V.ref).reverse)) l (.tup vs0)) b1=some (.lst eW)/\(upd (upd H1 R (.lst ((b1::a2).map V.ref).reverse)) l (.tup vs0)) T=some (.lst ((ts.map V.str).reverse ++ [.str t])) /\
  (upd (upd (upd (upd H1 R (.lst ((b1::a2).map V.ref).reverse)) l (.tup vs0)) T (.lst (ts.map V.str).reverse)) l2 (.tup [.str "tag",.str t,.ref l])) b1=some (.lst eW) /\
  bp H (upd (upd (upd (upd (upd H1 R (.lst ((b1::a2).map V.ref).reverse)) l (.tup vs0)) T (.lst (ts.map V.str).reverse)) l2 (.tup [.str "tag",.str t,.ref l])) b1 (.lst (eW ++ [.ref l2]))) R T (b1::a2) (g1.app (.tag t g0 .nil)::g2) ts:=by
 have hp:=h.popped (vs0:=vs0) hl;obtain⟨qz,dg⟩:=Z1 hl;have n0R:=h.nR b0 (by simp);have n1R:=h.nR b1 (by simp);have n1T:=h.nT b1 (by simp);have n1l:b1≠l:=Zo h1 dg;have O9:T≠l:=Zo h.hT dg;have NK:(upd (upd H1 R (.lst ((b1::a2).map V.ref).reverse)) l (.tup vs0)) b1=some (.lst eW):=by
  rw[Zi n1l,Zi n1R];exact h1
 have sF:(upd (upd H1 R (.lst ((b1::a2).map V.ref).reverse)) l (.tup vs0)) T=some (.lst ((ts.map V.str).reverse ++ [.str t])):=by
  rw[Zi O9,Zi h.RT.symm,h.hT,br,gM]
 have zf:(upd (upd (upd H1 R (.lst ((b1::a2).map V.ref).reverse)) l (.tup vs0)) T (.lst (ts.map V.str).reverse)) b1=some (.lst eW):=by
  rw[Zi n1T];exact NK
 have PD:TK H1 (upd (upd (upd H1 R (.lst ((b1::a2).map V.ref).reverse)) l (.tup vs0)) T (.lst (ts.map V.str).reverse)):=((TK.lst h.hR).trans (TK.new hl)).trans (TK.lst sF);have s2:ZD (upd (upd (upd H1 R (.lst ((b1::a2).map V.ref).reverse)) l (.tup vs0)) T (.lst (ts.map V.str).reverse)) (upd (upd (upd (upd H1 R (.lst ((b1::a2).map V.ref).reverse)) l (.tup vs0)) T (.lst (ts.map V.str).reverse)) l2 (.tup [.str "tag",.str t,.ref l])):=ZD.new gC;have n2b:l2≠b1:=fun z=>by rw[z,zf] at gC;cases gC
 have PC:=s2.tk.trans (TK.lst (o:=.lst (eW ++ [.ref l2])) (s2 _ _ zf));refine⟨by rw[Zi n0R];exact h0,?_,NK,sF,s2 _ _ zf,hp.put (pt:=l2) (q:=.tag t g0 .nil) zf (r1.mono PD) s2 (.tag (q:=l) ?_ ?_ ((r0.mono PD).mono PC) .nil)⟩
 ·rw[Zi qz.symm,Zc,br,gM]
 ·rw[Zi n2b];exact Zc
 ·refine PC _ _ ?_;rw[Zi O9.symm];exact Zc
theorem bp.Hc{H:Hp}{a0 R T:Addr}(hT:H T=none)(h0:(upd H T (.lst [])) a0=none)(hR:(upd (upd H T (.lst [])) a0 (.lst [])) R=none):bp H (upd (upd (upd H T (.lst [])) a0 (.lst [])) R (.lst [.ref a0])) R T [a0] [.nil] []:=by
 obtain⟨O6,oW⟩:=Z1 h0;obtain⟨O7,hR1⟩:=Z1 hR;obtain⟨O8,Ic⟩:=Z1 hR1;refine⟨((ZD.new hT).eV oW).eV Ic,?_,Zc,.cons ⟨[],?_,.nil⟩ .nil,?_,?_,rfl⟩
 ·rw[Zi O8.symm,Zi O6.symm];exact Zc
 ·rw[Zi O7.symm];exact Zc
 ·simp[O8,O7,O6.symm]
 ·intro b hb;simp only[aG,xa,or_false] at hb;rcases hb with rfl|rfl|rfl
  ·exact Ic
  ·exact hT
  ·exact oW
theorem bp.more{H H1 H2:Hp}{R T:Addr}{as:List Addr}{gs:List Pa}{ts:List Str}(h:bp H H1 R T as gs ts)(s:ZD H1 H2):bp H H2 R T as gs ts :=
 ⟨h.sm.trans s,s _ _ h.hT,s _ _ h.hR,pw s.tk h.rows fun b _ o e=>s b o e,h.nd,h.fr,h.gl⟩
structure ik(K:PySem.W.Frag)(C:Addr):Prop where
 cls:gS K C
 nt:lP K C "text"
 na:lP K C "at"
def srF(T:Str)(n:Nat):List (Str×V):=[("text",.str T),("at",.int (n:Int))]
def b_(C:Addr)(H:Hp)(a dx:Addr)(T:Str)(n:Nat):Prop:=H a=some (.ins C dx (srF T n))
def av(T:Str)(n:Nat):List Nat:=(cs T).drop n
def aO(a:Addr)(H H':Hp):Prop := ∀b o,b≠a->H b=some o->H' b=some o
theorem aO.refl{a:Addr}{H:Hp}:aO a H H:=fun _ _ _ h=>h
theorem aO.trans{a:Addr}{H H1 H2:Hp}(x:aO a H H1)(y:aO a H1 H2):aO a H H2:=fun b o h1 h=>y b o h1 (x b o h1 h)
theorem aO.same{a:Addr}{H H1:Hp}(x:ZD H H1):aO a H H1:=fun b o _ h=>x b o h
theorem aO.up{a:Addr}{H:Hp}{o:HO}:aO a H (upd H a o):=fun b o' h1 h=>by rw[Zi h1];exact h
def Cg(C:Addr):Sp:=fun vs H Q _=>∃(a dx:Addr)(T:Str),vs=[.ref a,.str T]/\H a=some (.ins C dx [])/\∀H',aO a H H'->b_ C H' a dx T 0->Q .aD H'
def Cy(C:Addr):Sp:=fun vs H Q _=>∃(a dx:Addr)(T:Str)(n:Nat)(p:Str),vs=[.ref a,.str p]/\b_ C H a dx T n/\n<=T.length/\Q (.bl (decide (cs p <+: av T n))) H
def rT(C:Addr):Sp:=fun vs H Q _=>∃(a dx:Addr)(T:Str)(n:Nat)(p:Str),vs=[.ref a,.str p]/\b_ C H a dx T n/\n<=T.length/\p.length<=1000/\(¬ cs p <+: av T n->Q (.bl false) H)/\(cs p <+: av T n->∀H',aO a H H'->b_ C H' a dx T (n+p.length)->Q (.bl true) H')
def yk(C:Addr):Sp:=fun vs H Q _=>∃(a dx:Addr)(T:Str)(n:Nat),vs=[.ref a]/\b_ C H a dx T n/\T.length<=90000/\Q (.bl (decide (n=T.length))) H
variable{C:Addr}
theorem Qt(B:∀x∈cF,mg x=none)(c:ik K C)(F:bO K "__init__" "Source.__init__" rl f fd):aX P w K mg base cp 1 f fd ["self","text"] (Cg C):=by
 refine F.ok Qo (fun vs H Q E h=>?_) (fun aK A outer s H vs Q E hr h=>?_)
 ·obtain⟨a,dx,T,rfl,_⟩:=h;rfl
 obtain⟨a,dx,T,rfl,ha,q⟩:=h;refine⟨_,(Ze (LU (pv 0) (pv 1) rfl)
  (Zf (LU (pv 0) Zg rfl))),?_⟩
 refine⟨_,rfl,_,rfl,a,C,dx,[],rfl,ha,c.cls,c.nt,by decide,?_⟩;refine⟨_,rfl,a,C,dx,_,rfl,Zc,c.cls,c.na,(show 1<1000 by decide),?_⟩;exact q _ (aO.up.trans aO.up) Zc
theorem QK(B:∀x∈cF,mg x=none)(c:ik K C)(F:bO K "sees" "Source.sees" rh f fd):aX P w K mg base cp 1 f fd ["self","piece"] (Cy C):=by
 refine F.ok QJ (fun vs H Q E h=>?_) (fun aK A outer s H vs Q E hr h=>?_)
 ·obtain⟨a,dx,T,n,p,rfl,_⟩:=h;rfl
 obtain⟨a,dx,T,n,p,rfl,ha,hn,q⟩:=h;refine⟨_,(Zf (Zz (cv mG PySem.F.slot_str_startswith PySem.F.type_str_startswith Si (i7 (pv 0) rfl) (Za (pv 1) (Za (i7 (pv 0) rfl) Zb))))),?_⟩;refine⟨_,rfl,a,C,dx,_,_,rfl,ha,c.cls,c.nt,rfl,rfl,_,rfl,_,rfl,a,C,dx,_,_,rfl,ha,c.cls,c.na,rfl,T,p,n,rfl,rfl,hn,q⟩
theorem Qx(B:∀x∈cF,mg x=none)(bC:ik K C)(EZ:gj P w K mg base C "sees" ["self","piece"] 1 (Cy C)) (F:bO K "skips" "Source.skips" rn f fd):aX P w K mg base cp 2 f fd ["self","piece"] (rT C):=by
 refine F.ok Qu (fun vs H Q E h=>?_) (fun aK A outer s H vs Q E hr h=>?_)
 ·obtain⟨a,dx,T,n,p,rfl,_⟩:=h;rfl
 obtain⟨a,dx,T,n,p,rfl,ha,hn,hp,q1,q2⟩:=h;have c:=bC;refine⟨_,(Ze (bt (jA (ZZ (lL EZ hr (pv 0) bC.cls (Za (pv 1) Zb)) (fun _=>rfl)))
   (Zf (Zz kr))
   ZC)
  (Ze (JW (pv 0) (ZF pq rfl (B "len" (by decide)) gb (Za (pv 1) Zb)) L')
  (Zf (Zz kr)))),?_⟩
 refine⟨_,rfl,a,dx,_,rfl,ha,rfl,_,rfl,a,dx,T,n,p,rfl,ha,hn,_,rfl,?_⟩;by_cases e:cs p <+: av T n
 ·rw[aQ e];refine aE ?_;refine⟨_,rfl,a,C,dx,_,_,rfl,ha,c.cls,c.na,rfl,_,rfl,p,rfl,Zk (by lia),_,_,rfl,rfl,dx,_,ha,(show 2<1000 by decide),?_⟩;exact q2 e _ aO.up Zc
 ·rw[aZ e];exact aH (q1 e)
theorem rJ{a y:Addr}{H H1:Hp}{o:HO}(b:aO a H H1)(hy:H1 y=none):aO a H (upd H1 y o):=fun b' o' hb h=>by
 have:=b b' o' hb h;rw[Zi fun z=>by rw[z,hy] at this;cases this];exact this
theorem Qm(B:∀x∈cF,mg x=none)(c:ik K C)(F:bO K "at_end" "Source.at_end" rm f fd):aX P w K mg base cp 1 f fd ["self"] (yk C):=by
 refine F.ok Qn (fun vs H Q E h=>?_) (fun aK A outer s H vs Q E hr h=>?_)
 ·obtain⟨a,dx,T,n,rfl,_⟩:=h;rfl
 obtain⟨a,dx,T,n,rfl,ha,hT,q⟩:=h;refine⟨_,(Zf (Zz (ya fv (i7 (pv 0) rfl) (ZF pq rfl (B "len" (by decide)) gb (Za (i7 (pv 0) rfl) Zb)) (ZK _)))),?_⟩;refine⟨_,rfl,a,C,dx,_,_,rfl,ha,c.cls,c.na,rfl,_,rfl,a,C,dx,_,_,rfl,ha,c.cls,c.nt,rfl,T,rfl,Zk (by lia),rfl,?_⟩;have e:decide (V.int (n:Int)=V.int ((T.length:Nat):Int))=decide (n=T.length):=by
  by_cases h:n=T.length
  ·rw[h,aQ rfl,aQ rfl]
  ·rw[aZ h];exact aZ fun z=>h (by injection z with z;lia)
 show Q (.bl (decide (V.int (n:Int)=V.int ((T.length:Nat):Int)))) H;rw[e];exact q
theorem Ms{P:Nat->Bool}:∀{l:List Nat}{i:Nat},(∀c∈l.take i,P c=true)->(∀c,l[i]?= some c->P c=false)->l.takeWhile P=l.take i
 | [],i,_,_=>by simp
 | x::l,0,_,h=>by
  rw[xb,h x rfl];rfl
 | x::l,i+1,h1,h2=>by
  have hx:P x=true:=h1 x (ba ..);rw[xb,ah hx,Ms (i:=i) (fun c hc=>h1 c (aW _ hc)) (fun c hc=>h2 c hc)];rfl
def xO(C:Addr):Sp:=fun vs H Q _=>∃(a dx:Addr)(T:Str)(n:Nat)(lo hi:Nat),vs=[.ref a,.str ⟨#[lo]⟩,.str ⟨#[hi]⟩]/\b_ C H a dx T n/\n<=T.length/\T.length<=90000 /\
 ∀(z:Str)(H':Hp),cs z=(av T n).takeWhile (fun c=>decide (lo<=c)&&decide (c<=hi))->aO a H H'->b_ C H' a dx T (n+z.length)->Q (.str z) H'
set_option maxHeartbeats 1000000 in
theorem Ql(B:∀x∈cF,mg x=none)(bC:ik K C)(sv:gj P w K mg base C "at_end" ["self"] 1 (yk C)) (F:bO K "take_letters" "Source.take_letters" ZQ f fd):aX P w K mg base cp 2 f fd ["self","first","last"] (xO C):=by
 refine F.ok IU (fun vs H Q E h=>?_) (fun aK A outer s H vs Q E hr h=>?_)
 ·obtain⟨a,dx,T,n,lo,hi,rfl,_⟩:=h;rfl
 obtain⟨a,dx,T,n,lo,hi,rfl,ha,hn,hT,q⟩:=h;have c:=bC;have hl:(cs T).length=T.length:=aA;refine⟨_,(Ze (Zx (i:=3) IU.nd rfl (Or.inl rfl) (i7 (pv 0) rfl))
  (Ze (uD iQ (PW.pt (jw (jA (ZZ (KG sv hr (pv 0) bC.cls) (fun _=>rfl))) (ko (BQ xN xN (pv 1) (bo jy (i7 (pv 0) rfl) (i7 (pv 0) rfl) (fun _ _=>rfl)) (pv 2)))))
   (Zf (JW (pv 0) Zg L')))
  (Zf (Zz (fK kq (i7 (pv 0) rfl) (eL (pv 3)) (eL (i7 (pv 0) rfl))))))),?_⟩
 refine⟨_,rfl,a,C,dx,_,_,rfl,ha,c.cls,c.na,rfl,?_⟩;have done:∀(i:Nat)(H1:Hp),aO a H H1->b_ C H1 a dx T (n+i)->n+i<=T.length->(∀d∈(av T n).take i,(decide (lo<=d)&&decide (d<=hi))=true)->(∀d,(av T n)[i]?= some d->(decide (lo<=d)&&decide (d<=hi))=false) ->
   CY (PB (fun x lo hi H Q=>∃z,x=V.str z/\z.length<=sizeLine/\Q (V.str (StrLaws.sliceText z lo hi)) H) (C7 K (vf 0) "text") (CJ (vf 3)) (CJ (C7 K (vf 0) "at"))) { nx:=fun _ H'=>Q .aD H',rt:=Q } [some (.ref a),some (.str ⟨#[lo]⟩),some (.str ⟨#[hi]⟩),some (.int (n:Int))] H1:=fun i H1 b1 h1 hle hp hq=>by
  refine⟨_,rfl,a,C,dx,_,_,rfl,h1,c.cls,c.nt,rfl,_,rfl,_,rfl,_,rfl,a,C,dx,_,_,rfl,h1,c.cls,c.na,rfl,((n+i:Nat):Int),rfl,T,rfl,Zk (by lia),?_⟩;have e:StrLaws.sliceText T (some (n:Int)) (some ((n+i:Nat):Int))=⟨((av T n).take i).toArray⟩:=by
   rw[StrLaws.sliceText_nat T (by lia) hle,Nat.add_sub_cancel_left];rfl
  rw[e];have ez:cs (⟨((av T n).take i).toArray⟩:Str)=(av T n).take i:=by unfold cs;exact xg
  have lz:(⟨((av T n).take i).toArray⟩:Str).length=i:=by
   have:(cs (⟨((av T n).take i).toArray⟩:Str)).length=(⟨((av T n).take i).toArray⟩:Str).length:=aA;rw[<- this,ez,dM];unfold av;rw[dE,hl];lia
  exact q _ H1 (ez.trans (Ms hp hq).symm) b1 (by rw[lz];exact h1)
 refine⟨fun m σ H1=>∃i:Nat,m=T.length-(n+i) /\ σ =[some (.ref a),some (.str ⟨#[lo]⟩),some (.str ⟨#[hi]⟩),some (.int (n:Int))]/\aO a H H1/\b_ C H1 a dx T (n+i)/\n+i<=T.length/\∀d∈(av T n).take i,(decide (lo<=d)&&decide (d<=hi))=true,⟨_,0,rfl,rfl,aO.refl,ha,hn,fun _ h=>nomatch h⟩,?_⟩
 rintro m σ H1 ⟨i,rfl,rfl,b1,h1,hle,hp⟩;refine⟨_,rfl,a,dx,_,rfl,h1,rfl,a,dx,T,n+i,rfl,h1,hT,_,rfl,?_⟩;by_cases e:n+i=T.length
 ·rw[aQ e];refine aE (aE ?_);refine done i H1 b1 h1 hle hp fun d hd=>?_;have:=(cA.mp hd).1;unfold av at this;rw[dE,hl] at this;lia
 ·rw[aZ e];have aC:n+i<(cs T).length:=by lia
  have nG:(cs T)[n+i]?= some (cs T)[n+i]:=cH aC;obtain⟨d,hd⟩:∃d,(cs T)[n+i]=d:=⟨_,rfl⟩;rw[hd] at nG;have sH:(av T n)[i]?= some d:=by unfold av;rw[jZ];exact nG
  refine aH ?_;refine⟨_,rfl,_,rfl,a,C,dx,_,_,rfl,h1,c.cls,c.nt,rfl,_,rfl,a,C,dx,_,_,rfl,h1,c.cls,c.na,rfl,T,((n+i:Nat):Int),d,rfl,rfl,Zk (by lia),i8 nG,_,_,rfl,rfl,_,rfl,?_⟩;have e1:=sd lo d;have e2:=sd d hi;show if(!decide (([d]:List Nat) < [lo]))=true then _ else _
  rw[e1];by_cases l1:lo<=d
  ·rw[aQ l1];refine aH ⟨_,rfl,_,_,rfl,rfl,_,rfl,?_⟩;show if(!decide (([hi]:List Nat) < [d]))=true then _ else _
   rw[e2];by_cases l2:d<=hi
   ·rw[aQ l2];refine aH ⟨fun ao H'=>∃m',m'<T.length-(n+i)/\∃i:Nat,m'=T.length-(n+i) /\ ao=[some (.ref a),some (.str ⟨#[lo]⟩),some (.str ⟨#[hi]⟩),some (.int (n:Int))]/\aO a H H'/\b_ C H' a dx T (n+i)/\n+i<=T.length/\∀d∈(av T n).take i,(decide (lo<=d)&&decide (d<=hi))=true,fun _ _ h=>h,?_⟩;refine⟨_,rfl,a,C,dx,_,_,rfl,h1,c.cls,c.na,rfl,_,_,rfl,rfl,dx,_,h1,(show 2<1000 by decide),?_⟩;refine⟨_,by show T.length-(n+(i+1))<_;lia,i+1,rfl,rfl,b1.trans aO.up,Zc,by lia,fun x hx=>?_⟩;rw[uB sH] at hx;rcases bK.mp hx with hx|hx
    ·exact hp x hx
    ·rw[bh.mp hx,aQ l1,aQ l2];rfl
   ·rw[aZ l2];refine aE (done i H1 b1 h1 hle hp fun x hx=>?_);rw[sH] at hx;injection hx with hx;rw[<- hx,aZ l2,Bool.and_false]
  ·rw[aZ l1];refine aE ⟨_,rfl,aE (done i H1 b1 h1 hle hp fun x hx=>?_)⟩;rw[sH] at hx;injection hx with hx;rw[<- hx,aZ l1,qG]
theorem lK{T:Str}{n:Nat}(k:Nat):av T (n+k)=(av T n).drop k:=by
 unfold av;rw[k_]
theorem Mf(p:Nat->Bool)(l:List Nat):(l.takeWhile p).length<=l.length:=(List.takeWhile_prefix p).length_le
theorem pG{T p:Str}{n:Nat}(h:cs p <+: av T n)(hn:n<=T.length):n+p.length<=T.length:=by
 obtain⟨r,e⟩:=h;have:=congrArg List.length e;unfold av at this;rw[bu,dE,ZR,ZR] at this;lia
theorem fN{T:Str}{n:Nat}:(av T n).length=T.length-n:=by unfold av;rw[dE,ZR]
theorem Ki{z:Str}(h:z.length<=2000)(hc:∀c∈cs z,c<=122):(reprText z).length<=25000:=by
 have lr:=PySem.StrLaws.reprText_len z (fun c hx=>xi (hc c hx) (by decide));lia
theorem Nu{n:Nat}(h:n<=9):(Str.ofString (toString (n:Int))).length=1:=by
 have:n=0\/n=1\/n=2\/n=3\/n=4\/n=5\/n=6\/n=7\/n=8\/n=9:=by lia
 rcases this with rfl|rfl|rfl|rfl|rfl|rfl|rfl|rfl|rfl|rfl <;> decide
theorem rW{n:Nat}(h:n<=9):(n:Int).natAbs.log2<1920:=by
 have:n=0\/n=1\/n=2\/n=3\/n=4\/n=5\/n=6\/n=7\/n=8\/n=9:=by lia
 rcases this with rfl|rfl|rfl|rfl|rfl|rfl|rfl|rfl|rfl|rfl <;> decide
theorem r_{n:Nat}(h:n<=9):PySem.intText? ⟨#[48+n]⟩=some (n:Int):=by
 have:n=0\/n=1\/n=2\/n=3\/n=4\/n=5\/n=6\/n=7\/n=8\/n=9:=by lia
 rcases this with rfl|rfl|rfl|rfl|rfl|rfl|rfl|rfl|rfl|rfl <;> decide +kernel
theorem Vk{z:Str}(h1:z.length=1)(hc:∀c∈cs z,bA c=true):∃n,n<=9/\z=⟨#[48+n]⟩/\cs z=[48+n]:=by
 have hl:(cs z).length=1:=by rw[ZR,h1]
 cases hz:cs z with
 | nil=>rw[hz] at hl;cases hl
 | cons c r =>
  rw[hz] at hl hc;obtain rfl:r=[]:=la (by simpa using hl);have:=hc c (ba ..);unfold bA at this;rw[cO,cB,cB] at this;have e:48+(c-48)=c:=by lia
  refine⟨c-48,by lia,jB ?_,?_⟩
  ·rw[hz,e];rfl
  ·rw[e]
def uX(K:PySem.W.Frag)(C XB:Addr):Sp:=fun vs H Q E=>∃(a dx:Addr)(T:Str)(n lo hi:Nat),vs=[.ref a,.int (lo:Int),.int (hi:Int)]/\b_ C H a dx T n/\n<=T.length/\T.length<=2000/\lo<=9/\hi<=9 /\
 (∀x,pNum lo hi (av T n)=some x->∀(n':Nat)(H':Hp),aO a H H'->b_ C H' a dx T n'->n'<=T.length->av T n'=x.2->Q (.int (x.1:Int)) H') /\
 (pNum lo hi (av T n)=none->∀H',aO a H H'->E (.ref XB) none H')
set_option maxHeartbeats 1000000 in
theorem QI(B:∀x∈cF,mg x=none)(bC:ik K C)(xc:XC K mg bZ ef d8 eE eC et d_ eF eh eB d7 au eA ee eo)(sx:gj P w K mg base C "take_letters" ["self","first","last"] 2 (xO C)) (F:bO K "take_number" "take_number" ri f fd):aX P w K mg base (gR P w) 3 f fd ["source","least","greatest"] (uX K C au):=by
 refine F.qB Jb (fun vs H Q E h=>?_) (fun aK A outer s H vs Q E hr h=>?_)
 ·obtain⟨a,dx,T,n,lo,hi,rfl,_⟩:=h;rfl
 obtain⟨a,dx,T,n,lo,hi,rfl,ha,hn,hT,l9,h9,q1,q2⟩:=h;refine⟨_,(Ze (Zx (i:=3) Jb.nd rfl (Or.inl rfl) (lL sx hr (pv 0) bC.cls (Za Zm (Za Zm Zb))))
  (Ze (bt (PW.pt (jE (Zr pM (ZF pq rfl (B "len" (by decide)) gb (Za (pv 3) Zb)) Zg (ZK _)) (lN (jA (BQ sh sh (pv 1) (ZX pC rfl (B "int" (by decide)) mZ (Za (pv 3) Zb)) (pv 2))))))
   (Zf (rE xc.tF xc.tq xc.qy Z8 hr rfl (Za (BE (lJ (Cq (pv 3)) (lJ Zm (lJ (Mv (pv 1)) (lJ Zm (lJ (Mv (pv 2)) Co)))))) Zb)))
   ZC)
  (Zf (Zz (ZX pC rfl (B "int" (by decide)) mZ (Za (pv 3) Zb)))))),?_⟩
 refine⟨_,rfl,a,dx,_,rfl,ha,rfl,a,dx,T,n,48,57,rfl,ha,hn,by lia,fun z H' ez b1 h1=>?_⟩;have ez:cs z=(av T n).takeWhile bA:=ez;have iK:(cs z).length=z.length:=aA;have iJ:(av T n).length=T.length-n:=fN;have hle:=Mf bA (av T n);rw[<- ez] at hle;have sM:∀c∈cs z,bA c=true:=fun c hc=>x5 (by rw[<- ez];exact hc);have hN:pNum lo hi (av T n)=if z.length=1/\lo<=(cs z).headD 0-48/\(cs z).headD 0-48<=hi then some ((cs z).headD 0-48,(av T n).drop 1) else none:=by
  unfold pNum;rw[<- ez,iK]
 have hR:=Ki (z:=z) (by lia) fun c hc=>by
  have:=sM c hc;unfold bA at this;rw[cO,cB,cB] at this;lia
 have bad : ¬ (z.length=1/\lo<=(cs z).headD 0-48/\(cs z).headD 0-48<=hi)->∀y,H' y=none->∀o,E (.ref au) none (upd H' y o):=fun fh y hy o=>q2 (by rw[hN,af fh]) _ (rJ b1 hy);have l0:(Str.empty++reprText z).length<=25000:=by rw[ZG];show 0+_<=_;lia
 have l1:(Str.empty++reprText z ++ " is no number from ").length<=25100:=by rw[ZG];show _+19<=_;lia
 have l2:(Str.empty++reprText z ++ " is no number from " ++ Str.ofString (toString (lo:Int))).length<=25200:=by rw[ZG,Nu l9];lia
 have l3:(Str.empty++reprText z ++ " is no number from " ++ Str.ofString (toString (lo:Int)) ++ " to ").length<=25300:=by rw[ZG];show _+4<=_;lia
 have l4:(Str.empty++reprText z ++ " is no number from " ++ Str.ofString (toString (lo:Int)) ++ " to " ++ Str.ofString (toString (hi:Int))).length<=25400:=by rw[ZG,Nu h9];lia
 have raise:∀(fh : ¬ (z.length=1/\lo<=(cs z).headD 0-48/\(cs z).headD 0-48<=hi)),∀y,H' y=none->E (.ref au) none (upd H' y (.ext (XO y (.ref au) none))):=fun fh y hy=>bad fh y hy _;refine⟨_,rfl,z,rfl,Zk (by lia),rfl,_,rfl,dC (fun c1=>?_) (fun c1=>?_)⟩
 ·refine⟨_,rfl,z,rfl,Zk (by lia),_,rfl,Zk (by lia),_,rfl,Zk (by lia),_,rfl,.inr ⟨_,rfl,rW l9,_,rfl,Zk (by lia),_,rfl,Zk (by lia),_,rfl,.inr ⟨_,rfl,rW h9,_,rfl,Zk (by lia),Zk (by lia),by show 1<=1000;decide,fun y hy=>raise (fun c=>?_) y hy⟩⟩⟩;rw[c.1] at c1;exact absurd c1 (by decide)
 ·have z1:z.length=1:=by
   by_cases h:z.length=1
   ·exact h
   ·refine absurd ?_ c1;simp;lia
  obtain⟨d,d9,rfl,ed⟩:=Vk z1 sM;have e0:(cs (⟨#[48+d]⟩:Str)).headD 0-48=d:=by rw[ed];show 48+d-48=d;lia
  simp only[e0] at hN raise;refine⟨_,rfl,_,rfl,_,_,rfl,r_ d9,(by show 1<=640;decide),_,_,rfl,rfl,_,rfl,dC (fun c2=>?_) (fun c2=>?_)⟩
  ·have c2:(lo:Int)<=(d:Int):=ig c2;refine⟨_,rfl,_,_,rfl,rfl,_,rfl,?_⟩;show if(!(decide ((d:Int)<=(hi:Int))))=true then _ else _
   by_cases c3:d<=hi
   ·rw[aQ (by lia)];rw[ah ⟨z1,by lia,c3⟩] at hN;exact aE ⟨_,rfl,_,_,rfl,r_ d9,(by show 1<=640;decide),q1 _ hN (n+1) H' b1 h1 (by lia) (lK 1)⟩
   ·rw[aZ (by lia)];refine aH ⟨_,rfl,_,rfl,Zk (by lia),_,rfl,Zk (by lia),_,rfl,Zk (by lia),_,rfl,.inr ⟨_,rfl,rW l9,_,rfl,Zk (by lia),_,rfl,Zk (by lia),_,rfl,.inr ⟨_,rfl,rW h9,_,rfl,Zk (by lia),Zk (by lia),by show 1<=1000;decide,fun y hy=>raise (fun c=>c3 c.2.2) y hy⟩⟩⟩
  ·have c2 : ¬ (lo:Int)<=(d:Int):=fun c=>c2 (aQ c);refine⟨false,rfl,aH ⟨_,rfl,_,rfl,Zk (by lia),_,rfl,Zk (by lia),_,rfl,Zk (by lia),_,rfl,.inr ⟨_,rfl,rW l9,_,rfl,Zk (by lia),_,rfl,Zk (by lia),_,rfl,.inr ⟨_,rfl,rW h9,_,rfl,Zk (by lia),Zk (by lia),by show 1<=1000;decide,fun y hy=>raise (fun c=>c2 (by lia)) y hy⟩⟩⟩⟩
theorem CQ{c:Nat}(h:bU c=true):97<=c/\c<=122:=by
 unfold bU at h;rw[cO] at h;exact⟨ig h.1,ig h.2⟩
theorem rS{t:Str}:gu t=true↔fQ t:=by
 have e:(cs t).all bU=(cs t).all du:=by
  refine congrArg (fun f=>(cs t).all f) (funext fun c=>?_);unfold bU du;rfl
 unfold gu fQ;rw[e,ZR,cO,cO,cB,cB];exact⟨fun h=>⟨h.2,h.1.1,h.1.2⟩,fun h=>⟨⟨h.2.1,h.2.2⟩,h.1⟩⟩
def yB(K:PySem.W.Frag)(C XB:Addr):Sp:=fun vs H Q E=>∃(a dx:Addr)(T:Str)(n:Nat),vs=[.ref a]/\b_ C H a dx T n/\n<=T.length/\T.length<=2000 /\
 (∀x,ky (av T n)=some x->∀(n':Nat)(H':Hp),aO a H H'->b_ C H' a dx T n'->n'<=T.length->av T n'=x.2->Q (.str x.1) H') /\
 (ky (av T n)=none->∀H',aO a H H'->E (.ref XB) none H')
set_option maxHeartbeats 1000000 in
theorem Q3(B:∀x∈cF,mg x=none)(bC:ik K C)(xc:XC K mg bZ ef d8 eE eC et d_ eF eh eB d7 au eA ee eo)(sx:gj P w K mg base C "take_letters" ["self","first","last"] 2 (xO C)) (E2:bF P w K mg base "is_tag" ["text"] 1 Ci) (F:bO K "take_tag" "take_tag" rF f fd):aX P w K mg base (gR P w) 3 f fd ["source"] (yB K C au):=by
 refine F.qB Ji (fun vs H Q E h=>?_) (fun aK A outer s H vs Q E hr h=>?_)
 ·obtain⟨a,dx,T,n,rfl,_⟩:=h;rfl
 obtain⟨a,dx,T,n,rfl,ha,hn,hT,q1,q2⟩:=h;refine⟨_,(Ze (Zx (i:=1) Ji.nd rfl (Or.inl rfl) (lL sx hr (pv 0) bC.cls (Za Zm (Za Zm Zb))))
  (Ze (bt (jA (ZZ (dc E2 hr rfl (Za (pv 1) Zb)) (fun _=>rfl)))
   (Zf (rE xc.tF xc.tq xc.qy Z8 hr rfl (Za (BE (lJ (Cq (pv 1)) (lJ Zm Co))) Zb)))
   ZC)
  (Zf (Zz (pv 1))))),?_⟩
 refine⟨_,rfl,a,dx,_,rfl,ha,rfl,a,dx,T,n,97,122,rfl,ha,hn,by lia,fun z H' ez b1 h1=>?_⟩;have ez:cs z=(av T n).takeWhile bU:=ez;have iJ:(av T n).length=T.length-n:=fN;have hle:=Mf bU (av T n);rw[<- ez] at hle;have iK:(cs z).length=z.length:=aA;have kI:∀c∈cs z,bU c=true:=fun c hc=>x5 (by rw[<- ez];exact hc);have hN:ky (av T n)=if 1<=z.length/\z.length<=8 then some (z,(av T n).drop z.length) else none:=by
  unfold ky;rw[<- ez,iK,r8]
 have hR:=Ki (z:=z) (by lia) fun c hc=>(CQ (kI c hc)).2;have l0:(Str.empty++reprText z).length<=25000:=by rw[ZG];show 0+_<=_;lia
 have l1:(Str.empty++reprText z ++ " is no tag").length<=25100:=by rw[ZG];show _+10<=_;lia
 refine⟨_,rfl,z,rfl,by lia,fun H2 s2=>⟨_,rfl,?_⟩⟩;have h2:b_ C H2 a dx T (n+z.length):=s2 _ _ h1;have ht:gu z=decide (1<=z.length/\z.length<=8):=by
  by_cases h:1<=z.length/\z.length<=8
  ·rw[aQ h];exact rS.mpr ⟨eZ.mpr kI,by lia,by lia⟩
  ·rw[aZ h];cases hb:gu z with
   | false=>rfl
   | true =>
    have:=rS.mp hb;exact absurd ⟨by have:=this.2.1;lia,by have:=this.2.2;lia⟩ h
 rw[ht];by_cases h8:1<=z.length/\z.length<=8
 ·rw[aQ h8];rw[ah h8] at hN;exact aE ⟨_,rfl,q1 _ hN _ H2 (b1.trans (aO.same s2)) h2 (by lia) (lK _)⟩
 ·rw[aZ h8];rw[af h8] at hN;exact aH ⟨_,rfl,z,rfl,Zk (by lia),_,rfl,Zk (by lia),_,rfl,Zk (by lia),Zk (by lia),by show 1<=1000;decide,fun y hy=>q2 hN _ (rJ (b1.trans (aO.same s2)) hy)⟩
theorem S4{p:Str}(h:p.length<=20)(hc:∀c∈cs p,c<=126):(reprText p).length<=1000:=by
 have lr:=PySem.StrLaws.reprText_len p (fun c hx=>xi (hc c hx) (by decide));lia
def Cm(C XB:Addr):Sp:=fun vs H Q E=>∃(a dx:Addr)(T:Str)(n:Nat)(p:Str),vs=[.ref a,.str p]/\b_ C H a dx T n/\n<=T.length/\p.length<=20/\(∀c∈cs p,c<=126)/\(cs p <+: av T n->∀H',aO a H H'->b_ C H' a dx T (n+p.length)->Q .aD H')/\(¬ cs p <+: av T n->∀H',aO a H H'->E (.ref XB) none H')
theorem Uq(B:∀x∈cF,mg x=none)(bC:ik K C)(xc:XC K mg bZ ef d8 eE eC et d_ eF eh eB d7 au eA ee eo)(gX:gj P w K mg base C "skips" ["self","piece"] 2 (rT C)) (F:bO K "skip" "skip" rZ f fd):aX P w K mg base (gR P w) 3 f fd ["source","piece"] (Cm C au):=by
 refine F.qB Uu (fun vs H Q E h=>?_) (fun aK A outer s H vs Q E hr h=>?_)
 ·obtain⟨a,dx,T,n,p,rfl,_⟩:=h;rfl
 obtain⟨a,dx,T,n,p,rfl,ha,hn,hp,hc,q1,q2⟩:=h;have bG:=S4 hp hc;refine⟨_,(Zf (bt (jA (ZZ (lL gX hr (pv 0) bC.cls (Za (pv 1) Zb)) (fun _=>rfl)))
   (Zf (rE xc.tF xc.tq xc.qy Z8 hr rfl (Za (BE (lJ (Cq (pv 1)) (lJ Zm Co))) Zb)))
   ZC)),?_⟩
 refine⟨_,rfl,a,dx,_,rfl,ha,rfl,_,rfl,a,dx,T,n,p,rfl,ha,hn,by lia,fun z=>⟨_,rfl,aH ?_⟩,fun z H' b h'=>⟨_,rfl,aE ?_⟩⟩
 ·have l0:(Str.empty++reprText p).length<=1000:=by rw[ZG];show 0+_<=_;lia
  have l1:((Str.empty++reprText p) ++ " is missing").length<=2000:=by rw[ZG];show _+11<=_;lia
  refine⟨_,rfl,p,rfl,Zk (by lia),_,rfl,Zk (by lia),_,rfl,Zk (by lia),Zk (by lia),by show 1<=1000;decide,fun y hy=>?_⟩;exact q2 z _ (rJ aO.refl hy)
 ·exact q1 z H' b h'
def CU(K:PySem.W.Frag):Sp:=fun vs H Q _=>∃(H0:Hp)(R T:Addr)(as:List Addr)(gs:List Pa)(t:Str)(ts:List Str),vs=[.ref T,.ref R]/\bp H0 H R T as gs (t::ts)/\(∀g∈gs,g.sz<=5000) /\
 ∀H' b0 b1 a2 g0 g1 g2,as=b0::b1::a2->gs=g0::g1::g2->bp H0 H' R T (b1::a2) (g1.app (.tag t g0 .nil)::g2) ts->Q .aD H'
theorem Rj(B:∀x∈cF,mg x=none)(F:bO K "end_tag" "end_tag" rK f fd):aX P w K mg base cp 1 f fd ["tags","rows"] (CU K):=by
 refine F.ok Jy (fun vs H Q E h=>?_) (fun aK A outer s H vs Q E hr h=>?_)
 ·obtain⟨H0,R,T,as,gs,t,ts,rfl,_⟩:=h;rfl
 obtain⟨H0,R,T,as,gs,t,ts,rfl,hg,hsz,q⟩:=h;refine⟨_,(Ze (Zx (i:=2) Jy.nd rfl (Or.inl rfl) (ZX Z0 rfl (B "tuple" (by decide)) iY (Za (m9 cI oK oM m_ (pv 1)) Zb)))
  (Zf (Z7 (cv cI dX dY ZL (bo Z6 (pv 1) (jF jz Zg) (fun _ _=>rfl)) (Za (cS (Za Zm (Za (m9 cI oK oM m_ (pv 0)) (Za (pv 2) Zb)))) Zb))))),?_⟩
 obtain⟨b0,b1,a2,g0,g1,g2,vs0,eW,rfl,rfl,cw,dS,eQ,iM,jQ,iD⟩:=hg.two;have vY:=iM.length;have sY:=hsz g1 (by simp);refine⟨_,rfl,.inl ⟨rfl,_,ak.of jQ⟩,R,_,_,rfl,rfl,jQ,mR _ _,?_⟩;rw[mW];have pW:(upd H R (.lst ((b1::a2).map V.ref).reverse)) b0=some (.lst vs0):=by
  rw[Zi (hg.nR b0 (by simp))];exact cw
 refine⟨b0,vs0,rfl,.inl ⟨ak.of pW,fun l hl=>?_⟩⟩;have gz:(upd (upd H R (.lst ((b1::a2).map V.ref).reverse)) l (.tup vs0)) R=some (.lst ((a2.map V.ref).reverse ++ [.ref b1])):=by
  rw[Zi (Z1 hl).1.symm,Zc,br,gM]
 have pX:(upd (upd H R (.lst ((b1::a2).map V.ref).reverse)) l (.tup vs0)) b1=some (.lst eW):=by
  rw[Zi (Zo eQ (Z1 hl).2),Zi (hg.nR b1 (by simp))];exact eQ
 have iC:(upd (upd H R (.lst ((b1::a2).map V.ref).reverse)) l (.tup vs0)) T=some (.lst ((ts.map V.str).reverse ++ [.str t])):=by
  rw[Zi (Zo hg.hT (Z1 hl).2),Zi hg.RT.symm];exact iD
 refine⟨_,rfl,1,rfl,R,_,-1,.ref b1,rfl,rfl,ak.of gz,jv _ _,.inl ⟨rfl,_,ak.of pX⟩,_,rfl,.inl ⟨rfl,_,ak.of iC⟩,T,_,_,rfl,rfl,iC,mR _ _,?_⟩;rw[mW];refine⟨_,rfl,(by show 3<=sizeLine;decide),fun l2 gC=>?_⟩;obtain⟨_,_,_,_,z5,z6⟩:=hg.AG cw dS eQ iM hl gC;refine⟨b1,_,_,rfl,rfl,z5,ZW (by lia),?_⟩;exact q _ b0 b1 a2 g0 g1 g2 rfl rfl z6
theorem TK.bar{a C dx:Addr}{fs:List (Str×V)}{H H':Hp}(b:aO a H H')(ha:H a=some (.ins C dx fs)):TK H H':=fun p xs h=>b p _ (fun z=>by rw[z,ha] at h;cases h) h
theorem bp.bar{H H1 H2:Hp}{R T a C dx:Addr}{as:List Addr}{gs:List Pa}{ts:List Str}{fs:List (Str×V)}{o2:HO}(h:bp H H1 R T as gs ts)(ha:H a=some (.ins C dx fs))(b:aO a H1 H2)(h2:H2 a=some o2):bp (upd H a o2) H2 R T as gs ts:=by
 have na:∀x∈R::T::as,x≠a:=fun x hx z=>by
  have:=h.fr x hx;rw[z,ha] at this;cases this
 refine⟨fun x o hx=>?_,b _ _ (na T (by simp)) h.hT,b _ _ (na R (by simp)) h.hR,pw (TK.bar b (h.sm _ _ ha)) h.rows (fun x hx o ho=>b x o (na x (by simp[hx])) ho),h.nd,fun x hx=>?_,h.gl⟩
 ·by_cases e:x=a
  ·subst e;rw[Zc] at hx;rw[h2,<- hx]
  ·rw[Zi e] at hx;exact b x o e (h.sm x o hx)
 ·rw[Zi (na x hx)];exact h.fr x hx
theorem T7{next}{t:List Nat}{cur o:Pa}{w:Str}{st:aY}(h:[41] <+: t):cz next t cur ((w,o)::st)=cz next (t.drop 1) (o.app (.tag w cur .nil)) st:=by
 obtain⟨r,rfl⟩:=h;show cz next (41::r) cur ((w,o)::st)=cz next r (o.app (.tag w cur .nil)) st
 unfold cz;rw[Bt]
theorem TU{next}{t:List Nat}{cur:Pa}{st:aY}(h:st=[] \/ ¬ [41] <+: t):cz next t cur st=if [32] <+: t then next (t.drop 1) cur st else if st=[] then some (cur,t) else none:=by
 have e:cE t cur st=(t,cur,st):=by
  cases t with
  | nil=>rw[cE];simp
  | cons c t =>
   cases st with
   | nil=>rw[cE];simp
   | cons x st =>
    obtain⟨w,o⟩:=x;rcases h with h|h
    ·cases h
    ·rw[cE];intro t' w' o' ag e;injection e with e;subst e;exact absurd ⟨t,rfl⟩ h
 unfold cz;rw[e]
theorem R0{x:Str}{l:Option Int}{j:Int}(h:(x.length:Int)<=j):PySem.StrLaws.sliceText x l (some j)=PySem.StrLaws.sliceText x l (some (x.length:Int)):=by
 have e:Builtin.Str.strSliceIndices l (some j) 1 x.length=Builtin.Str.strSliceIndices l (some (x.length:Int)) 1 x.length:=by
  unfold Builtin.Str.strSliceIndices;have h1 : ¬ j<0:=by lia
  have h2 : ¬ (x.length:Int)<0:=by lia
  simp only[h1,h2,ie,show(1:Int) > 0 from by decide,gQ];rw[show max 0 (min j (x.length:Int))=max 0 (min (x.length:Int) (x.length:Int)) by lia]
 unfold PySem.StrLaws.sliceText;rw[e]
theorem Wb{t:Str}{i j:Nat}(eS:i<=j)(hi:i<=t.length):cs (PySem.StrLaws.sliceText t (some (i:Int)) (some (j:Int)))=((cs t).drop i).take (j-i):=by
 by_cases h:j<=t.length
 ·rw[PySem.StrLaws.sliceText_nat t eS h];exact xg
 ·rw[R0 (by lia),PySem.StrLaws.sliceText_nat t hi (az _)];show(((cs t).drop i).take (t.length-i)).toArray.toList=_;rw[xg,j6 (by rw[dE,ZR];lia),j6 (by rw[dE,ZR];lia)]
structure jt(C a dx:Addr)(T:Str)(H H1:Hp)(R Tg:Addr)(cur:Pa)(st:aY)(n:Nat):Prop where
 src:b_ C H1 a dx T n
 hn:n<=T.length
 pg:∃H0 fs as,aO a H H0/\H0 a=some (.ins C dx fs)/\bp H0 H1 R Tg as (cur::st.map Prod.snd) (st.map Prod.fst)
 sz:cur.sz+(st.map fun x=>x.2.sz).sum+st.length<=n
theorem jt.bar{C a dx:Addr}{T:Str}{H H1 H2:Hp}{R Tg:Addr}{cur:Pa}{st:aY}{n n':Nat}(h:jt C a dx T H H1 R Tg cur st n)(b:aO a H1 H2)(h2:b_ C H2 a dx T n')(hn:n<=n')(Ba:n'<=T.length):jt C a dx T H H2 R Tg cur st n':=by
 obtain⟨H0,fs,as,b0,h0,pg⟩:=h.pg;exact⟨h2,Ba,⟨_,_,as,b0.trans aO.up,Zc,pg.bar h0 b h2⟩,cY h.sz hn⟩
theorem B4:∀{l:List Nat}{x:Nat},x∈l->x<=l.sum
 | y::l,x,h=>by
  rw[iP];rcases aG.mp h with rfl|h
  ·lia
  ·have:=B4 h;lia
theorem jt.small{C a dx:Addr}{T:Str}{H H1:Hp}{R Tg:Addr}{cur:Pa}{st:aY}{n:Nat}(h:jt C a dx T H H1 R Tg cur st n):∀g∈cur::st.map Prod.snd,g.sz<=n:=fun g hg=>by
 have:=h.sz;rcases aG.mp hg with rfl|hg
 ·lia
 ·obtain⟨x,hx,rfl⟩:=gL.mp hg;have:x.2.sz<=(st.map fun x=>x.2.sz).sum:=B4 (gL.mpr ⟨x,hx,rfl⟩);lia
def CM(K:PySem.W.Frag)(C XB:Addr):Sp:=fun vs H Q E=>∃(a dx:Addr)(T:Str)(n m:Nat),vs=[.ref a,.int (m:Int)]/\b_ C H a dx T n/\n<=T.length/\T.length<=2000/\1<=m/\m<=4 /\
 (∀x,bV m ((av T n).length+1) (av T n) .nil []=some x->∀(n':Nat)(H':Hp)(r:Addr)(ys:List V),aO a H H'->b_ C H' a dx T n'->n'<=T.length->av T n'=x.2->H' r=some (.tup ys)->bq H' ys x.1->Q (.ref r) H') /\
 (bV m ((av T n).length+1) (av T n) .nil []=none->∀H',aO a H H'->E (.ref XB) none H')
def uv(C a dx:Addr)(T:Str)(m:Nat)(H:Hp)(R Tg:Addr)(A:Option (Pa×List Nat))(k:Nat)(σ : St)(H2:Hp):Prop := ∃(cur:Pa)(st:aY)(n:Nat)(b:Bool),σ =[some (.ref a),some (.int (m:Int)),some (.ref Tg),some (.ref R),some (.bl b)]/\jt C a dx T H H2 R Tg cur st n /\
 (b=true->bV m k (av T n) cur st=A/\(av T n).length<k)/\(b=false->(if st=[] then some (cur,av T n) else none)=A/\k=0)
set_option maxHeartbeats 4000000 in
theorem QG(B:∀x∈cF,mg x=none)(bC:ik K C)(xc:XC K mg bZ ef d8 eE eC et d_ eF eh eB d7 au eA ee eo)(lX:fb P w K mg base "take_number" ["source","least","greatest"] 3 (uX K C au)) (sD:fb P w K mg base "take_tag" ["source"] 3 (yB K C au)) (gX:gj P w K mg base C "skips" ["self","piece"] 2 (rT C)) (za:bF P w K mg base "end_tag" ["tags","rows"] 1 (CU K)) (F:bO K "take_parts" "take_parts" Zu f fd):aX P w K mg base (gR P w) 4 f fd ["source","modes"] (CM K C au):=by
 refine F.qB ux (fun vs H Q E h=>?_) (fun aK A outer s H vs Q E hr h=>?_)
 ·obtain⟨a,dx,T,n,m,rfl,_⟩:=h;rfl
 obtain⟨a,dx,T,n,m,rfl,ha,hn,hT,m1,m4,q1,q2⟩:=h;refine Zw ((Zd Zu).drop 5) (Zf (Zz (ZX Z0 rfl (B "tuple" (by decide)) iY (Za (bo Z6 (pv 3) Zg (fun _ _=>rfl)) Zb)))) (fun u5 h5 e5=>?_);refine Zw ((Zd Zu).drop 4) (Ze (bt (ZZ (pv 2) (fun _=>rfl))
   (Zf (rE xc.tF xc.tq xc.qy Z8 hr rfl (Za Zm Zb)))
   ZC) h5) (fun u4 h4 e4=>?_)
 refine Zw ((ZV ((Zd Zu).getD 3 (.Pass ⟨0,0,0,0⟩))).drop 2) (Zf (Zx (i:=4) ux.nd rfl (Or.inl rfl) (lL gX hr (pv 0) bC.cls (Za Zm Zb)))) (fun Hl Fj EQ=>?_);refine Zw ((ZV ((ZV ((Zd Zu).getD 3 (.Pass ⟨0,0,0,0⟩))).getD 1 (.Pass ⟨0,0,0,0⟩))).drop 0) (Zf (Z7 (dc za hr rfl (Za (pv 2) (Za (pv 3) Zb))))) (fun Zyc Zqf Y'=>?_);refine Zw ((ZV ((Zd Zu).getD 3 (.Pass ⟨0,0,0,0⟩))).drop 1) (Ze (uD PassesOwn.leaving (PW.pt (jw (ZZ (pv 2) (fun _=>rfl)) (ko (ZZ (lL gX hr (pv 0) bC.cls (Za Zm Zb)) (fun _=>rfl)))))
   Zqf) Fj) (fun AK vC vk=>?_)
 refine Zw ((i9 ((ZV ((Zd Zu).getD 3 (.Pass ⟨0,0,0,0⟩))).getD 0 (.Pass ⟨0,0,0,0⟩))).drop 3) (Zf (Z7 (dc za hr rfl (Za (pv 2) (Za (pv 3) Zb))))) (fun Zwu Zqc Y7=>?_);refine Zw ((i9 ((ZV ((Zd Zu).getD 3 (.Pass ⟨0,0,0,0⟩))).getD 0 (.Pass ⟨0,0,0,0⟩))).drop 2) (Ze (bt (ZZ (lL gX hr (pv 0) bC.cls (Za Zm Zb)) (fun _=>rfl))
   (Zf Jn)
   ZC) Zqc) (fun Zwt Zqb Y6=>?_)
 refine Zw ((i9 ((ZV ((Zd Zu).getD 3 (.Pass ⟨0,0,0,0⟩))).getD 0 (.Pass ⟨0,0,0,0⟩))).drop 1) (Ze (Z7 (cv cI dX dY ZL (pv 3) (Za (dz Zb) Zb))) Zqb) (fun Zws Zqa Y5=>?_);refine Zw ((i9 ((ZV ((Zd Zu).getD 3 (.Pass ⟨0,0,0,0⟩))).getD 0 (.Pass ⟨0,0,0,0⟩))).drop 0) (Ze (Z7 (cv cI dX dY ZL (pv 2) (Za (jD sD Z8 hr rfl (Za (pv 0) Zb)) Zb))) Zqa) (fun Zwr Zp9 Y4=>?_);refine Zw ((ZV ((Zd Zu).getD 3 (.Pass ⟨0,0,0,0⟩))).drop 0) (Ze (bt (BQ xN xN Zm (fK kq (i7 (pv 0) rfl) (eL (i7 (pv 0) rfl)) (eL (Zv gm (i7 (pv 0) rfl) Zg))) Zm)
   (Zf (Z7 (cv cI dX dY ZL (bo Z6 (pv 3) (jF jz Zg) (fun _ _=>rfl)) (Za (cS (Za Zm (Za (jD lX Z8 hr rfl (Za (pv 0) (Za Zg (Za (Zv ym (pv 1) Zg) Zb)))) Zb))) Zb))))
   Zp9) vC) (fun Hk vB vj=>?_)
 refine Zw ((Zd Zu).drop 3) (Ze (uD PassesOwn.leaving (ZZ (pv 4) (fun _=>rfl))
   vB) h4) (fun u3 h3 e3=>?_)
 refine Zw ((Zd Zu).drop 2) (Ze (Zx (i:=4) ux.nd rfl (Or.inl rfl) kr) h3) (fun u2 h2 e2=>?_);refine Zw ((Zd Zu).drop 1) (Ze (Zx (i:=3) ux.nd rfl (Or.inl rfl) (dz (Za (dz Zb) Zb))) h2) (fun u1 h1 e1=>?_);refine Zw ((Zd Zu).drop 0) (Ze (Zx (i:=2) ux.nd rfl (Or.inl rfl) (dz Zb)) h1) (fun u0 h0 e0=>?_);refine⟨u0,h0,?_⟩;refine Zq e0 ?_;refine⟨by decide,fun Tg Fs=>?_⟩;show u1 _ _ _;refine Zq e1 ?_;refine⟨by decide,fun a0 h0=>⟨(by show 1<=sizeLine;decide),fun R hR=>?_⟩⟩;have g0:=bp.Hc Fs h0 hR;show u2 _ _ _;refine Zq e2 ?_;show u3 _ _ _;refine Zq e3 ?_;generalize upd (upd (upd H Tg (.lst [])) a0 (.lst [])) R (.lst [.ref a0])=H1 at g0 ⊢;obtain⟨A,hA⟩:∃A,bV m ((av T n).length+1) (av T n) .nil []=A:=⟨_,rfl⟩;rw[hA] at q1 q2;refine⟨uv C a dx T m H R Tg A,⟨_,.nil,[],n,true,rfl,⟨g0.sm _ _ ha,hn,⟨H,_,_,aO.refl,ha,g0⟩,bi _⟩,fun _=>⟨hA,gO _⟩,fun h=>(by cases h)⟩,?_⟩;rintro k σ H2 ⟨cur,st,n2,b,rfl,hS,FC,FD⟩;have ZxN:=fN (T:=T) (n:=n2);have mf:=hS.hn;cases b with
 | false =>
  refine⟨_,rfl,false,rfl,aE ?_⟩;obtain⟨dv,rfl⟩:=FD rfl;clear FC FD;obtain⟨H0,fs,as,b0,oW,pg⟩:=hS.pg;have b2:aO a H H2:=fun x o hx ho=>by
   have h1:=b0 x o hx ho;exact pg.sm x o h1
  show u4 _ _ _;refine Zq e4 ?_;refine⟨_,rfl,_,.inl ⟨_,ak.of pg.hT,rfl⟩,?_⟩;cases st with
  | cons x st =>
   rw[af (List.cons_ne_nil _ _)] at dv;rw[show(!(((x::st).map Prod.fst).map V.str).reverse.isEmpty)=true by simp];exact aH ⟨by show 1<=1000;decide,fun y hy=>q2 dv.symm _ (rJ b2 hy)⟩
  | nil =>
   rw[ah rfl] at dv;refine aE ?_;show u5 _ _ _;refine Zq e5 ?_;have cG:=pg.rows;cases cG with
   | @cons b1 _ lu _ r cG =>
    cases cG;obtain⟨vs,kD,qd⟩:=r;refine⟨_,rfl,R,_,0,.ref b1,rfl,rfl,ak.of pg.hR,rfl,b1,vs,rfl,.inl ⟨ak.of kD,fun r hr=>?_⟩⟩;exact q1 (cur,av T n2) dv.symm n2 _ r vs (b2.trans (aO.same (ZD.new hr))) ((ZD.new hr) _ _ hS.src) mf rfl Zc (qd.mono (TK.new hr))
 | true =>
  refine⟨_,rfl,true,rfl,aH ?_⟩;obtain⟨dv,hk⟩:=FC rfl;clear FC FD;obtain⟨k,rfl⟩:∃k',k=k'+1:=⟨k-1,by lia⟩;refine⟨fun ao H'=>∃m',m'<k+1/\uv C a dx T m H R Tg A m' ao H',fun _ _ h=>h,?_⟩;have fin:∀(D:Ends),(∀ ao H',(∃m',m'<k+1/\uv C a dx T m H R Tg A m' ao H')->D.nx ao H')->∀(jK:Pa)(aU:aY)(n4:Nat)(H4:Hp),jt C a dx T H H4 R Tg jK aU n4->(aU=[] \/ ¬ [41] <+: av T n4)->cz (bV m k) (av T n4) jK aU=A->(av T n4).length<k->Hl D [some (.ref a),some (.int (m:Int)),some (.ref Tg),some (.ref R),some (.bl true)] H4:=fun D hD jK aU n4 H4 ff dh lY FK=>by
   rw[TU dh] at lY;have Zsd:=fN (T:=T) (n:=n4);refine Zq EQ ?_;refine⟨_,rfl,a,dx,_,rfl,ff.src,rfl,a,dx,T,n4," ",rfl,ff.src,ff.hn,(by decide),fun z=>hD _ _ ?_,fun z H5 b5 h5=>hD _ _ ?_⟩
   ·have z : ¬ [32] <+: av T n4:=z;rw[af z] at lY;exact⟨0,by lia,jK,aU,n4,false,rfl,ff,fun h=>(by cases h),fun _=>⟨lY,rfl⟩⟩
   ·have z':[32] <+: av T n4:=z;rw[ah z'] at lY;have n5:n4+1<=T.length:=pG z ff.hn;have F_:=fN (T:=T) (n:=n4+1);exact⟨k,gO _,jK,aU,n4+1,true,rfl,ff.bar b5 h5 (h_ _) n5,fun _=>⟨by rw[lK];exact lY,by lia⟩,fun h=>(by cases h)⟩
  have rest:∀(D:Ends),(∀ ao H',(∃m',m'<k+1/\uv C a dx T m H R Tg A m' ao H')->D.nx ao H')->∀(bf:Pa)(ag:aY)(n3:Nat)(H3:Hp),jt C a dx T H H3 R Tg bf ag n3->cz (bV m k) (av T n3) bf ag=A->(av T n3).length<k->AK D [some (.ref a),some (.int (m:Int)),some (.ref Tg),some (.ref R),some (.bl true)] H3:=fun D hD bf ag n3 H3 zj fe hk3=>by
   refine Zq vk ?_
   let W:Nat->St->Hp->Prop:=fun j σ H4=>∃(jK:Pa)(aU:aY)(n4:Nat),σ =[some (.ref a),some (.int (m:Int)),some (.ref Tg),some (.ref R),some (.bl true)]/\jt C a dx T H H4 R Tg jK aU n4/\cz (bV m k) (av T n4) jK aU=A/\(av T n4).length<k/\j=aU.length
   refine⟨W,⟨_,bf,ag,n3,rfl,zj,fe,hk3,rfl⟩,?_⟩;rintro j σ H4 ⟨jK,aU,n4,rfl,ff,lY,FK,rfl⟩;obtain⟨H0,fs,as,b0,oW,pg⟩:=ff.pg;refine⟨_,rfl,_,.inl ⟨_,ak.of pg.hT,rfl⟩,?_⟩;cases aU with
   | nil=>exact aE (aE (fin D hD jK [] n4 H4 ff (.inl rfl) lY FK))
   | cons x aU =>
    obtain⟨wd,o⟩:=x;rw[show(!((((wd,o)::aU).map Prod.fst).map V.str).reverse.isEmpty)=true by simp];refine aH ⟨_,rfl,a,dx,_,rfl,ff.src,rfl,a,dx,T,n4,")",rfl,ff.src,ff.hn,(by decide),fun z=>?_,fun z H5 b5 h5=>?_⟩
    ·exact⟨_,rfl,aE (fin D hD jK _ n4 H4 ff (.inr z) lY FK)⟩
    ·have n5:n4+1<=T.length:=pG z ff.hn;have Zsd:=fN (T:=T) (n:=n4);have F_:=fN (T:=T) (n:=n4+1);have h5:b_ C H5 a dx T (n4+1):=h5;have vF:=ff.bar b5 h5 (h_ _) n5;refine⟨_,rfl,aH ⟨fun ao H'=>∃m',m'<((wd,o)::aU).length/\W m' ao H',fun _ _ h=>h,?_⟩⟩;obtain⟨Ia,mM,lu,PX,A9,Ih⟩:=vF.pg;have qq:=vF.small;have hn5:=vF.hn;refine Zq Y' ?_;refine⟨_,rfl,_,rfl,Ia,R,Tg,lu,_,wd,_,rfl,Ih,fun g hg=>cY (qq g hg) (by lia),fun H6 b6 b7 a8 g6 g7 g8 ea eg wG=>?_⟩;injection eg with vn jL;injection jL with jL vo;subst vn jL vo;refine⟨aU.length,by simp,_,aU,n4+1,rfl,⟨?_,n5,⟨Ia,mM,_,PX,A9,wG⟩,?_⟩,?_,by lia,rfl⟩
     ·exact wG.sm _ _ (A9.trans ((Ih.sm _ _ A9).symm.trans vF.src))
     ·have:=vF.sz;simp[Pa.iu,Pa.sz] at this ⊢;lia
     ·rw[lK,<- lY,T7 z]
  refine Zq vj ?_;refine⟨_,rfl,a,C,dx,_,_,rfl,hS.src,bC.cls,bC.nt,rfl,_,rfl,a,C,dx,_,_,rfl,hS.src,bC.cls,bC.na,rfl,(n2:Int),rfl,_,rfl,a,C,dx,_,_,rfl,hS.src,bC.cls,bC.na,rfl,_,_,rfl,rfl,((n2+1:Nat):Int),rfl,T,rfl,Zk (by lia),_,_,rfl,rfl,_,rfl,?_⟩;have lU:(PySem.StrLaws.sliceText T (some (n2:Int)) (some ((n2+1:Nat):Int))).cps.toList=(av T n2).take 1:=by
   have:=Wb (t:=T) (h_ n2) mf;rw[show n2+1-n2=1 by lia] at this;exact this
  rw[lU];obtain⟨H0,fs,as,b0,oW,pg⟩:=hS.pg;have b2:aO a H H2:=fun x o hx ho=>pg.sm x o (b0 x o hx ho);have ZxM:=hS.sz;cases hd:CV (av T n2) with
  | true =>
   unfold bV at dv;rw[ah hd] at dv;cases ht:av T n2 with
   | nil=>rw[ht] at hd;cases hd
   | cons c t' =>
    rw[ht] at hd;have hd:bA c=true:=hd;unfold bA at hd;rw[cO,cB,cB] at hd;show if(!decide (([c]:List Nat) < [48]))=true then _ else _
    rw[sd 48 c,aQ hd.1];refine aH ⟨_,_,rfl,rfl,_,rfl,?_⟩;rw[lU,ht];show if(!decide (([57]:List Nat) < [c]))=true then _ else _
    rw[sd c 57,aQ hd.2];refine aH ?_;have cG:=pg.rows;cases cG with
    | @cons c0 _ a1 _ r0 cG =>
     obtain⟨vs0,cw,dS⟩:=r0;have nE:H2 R=some (.lst ((a1.map V.ref).reverse ++ [.ref c0])):=by rw[pg.hR,br,gM]
     refine⟨_,rfl,1,rfl,R,_,-1,.ref c0,rfl,rfl,ak.of nE,jv _ _,.inl ⟨rfl,_,ak.of cw⟩,_,rfl,_,rfl,_,_,rfl,rfl,a,dx,T,n2,0,m-1,?_,hS.src,mf,hT,by lia,by lia,fun x hx n3 H3 b3 h3 l3 e3=>?_,fun hx H3 b3=>?_⟩
     ·show [V.ref a,V.int 0,V.int ((m:Int)-1)]=_;rw[show((m:Int)-1)=((m-1:Nat):Int) by lia];rfl
     ·rw[hx] at dv;have hlen:=congrArg List.length (uz hx).1;rw[aN,<- e3,fN] at hlen;have Zsc:=fN (T:=T) (n:=n3);have dv:cz (bV m k) x.2 (cur.app (.kids (x.1:Int) .nil)) st=A:=dv;refine⟨(by show 2<=sizeLine;decide),fun pt eU=>?_⟩;have hU:=pg.bar oW b3 h3;have ny:H3 c0=some (.lst vs0):=b3 _ _ (fun z=>by rw[z,hS.src] at cw;cases cw) cw;have r03:=dS.mono (TK.bar b3 hS.src);have s5:ZD H3 (upd H3 pt (.tup [.str "kids",.int (x.1:Int)])):=ZD.new eU;have qA:pt≠c0:=fun z=>by rw[z,ny] at eU;cases eU
      have Gd:=dS.length;refine⟨c0,_,_,rfl,rfl,s5 _ _ ny,ZW (by lia),?_⟩;refine rest _ (fun _ _ h=>h) (cur.app (.kids (x.1:Int) .nil)) st n3 _ ⟨?_,l3,⟨_,_,_,b0.trans aO.up,Zc,hU.put ny r03 s5 (.kids (by rw[Zi qA];exact Zc) .nil)⟩,?_⟩ (by rw[e3];exact dv) (by lia)
      ·have nca:c0≠a:=fun z=>by rw[z,hS.src] at cw;cases cw
       show upd (upd H3 pt _) c0 _ a=_;rw[Zi nca.symm];exact s5 _ _ h3
      ·simp only[Pa.iu,Pa.sz];lia
     ·rw[hx] at dv;exact q2 dv.symm H3 (b2.trans b3)
  | false =>
   unfold bV at dv;rw[af (by rw[hd];decide)] at dv;have other:∀(D:Ends),(∀ ao H',(∃m',m'<k+1/\uv C a dx T m H R Tg A m' ao H')->D.ct ao H')->(∀(bf:Pa)(ag:aY)(n3:Nat)(H3:Hp),jt C a dx T H H3 R Tg bf ag n3->cz (bV m k) (av T n3) bf ag=A->(av T n3).length<k->D.nx [some (.ref a),some (.int (m:Int)),some (.ref Tg),some (.ref R),some (.bl true)] H3) ->
     Zwr D [some (.ref a),some (.int (m:Int)),some (.ref Tg),some (.ref R),some (.bl true)] H2:=fun D hct hnx=>by
    refine Zq Y4 ?_;have pgl:st.length<=2000:=by lia
    have al:as.length<=2001:=by
     have:=f_ pg.rows;simp at this;lia
    refine⟨_,rfl,.inl ⟨rfl,_,ak.of pg.hT⟩,_,rfl,a,dx,T,n2,rfl,hS.src,mf,hT,fun x hx n3 H3 b3 h3 l3 uc=>?_,fun hx H3 b3=>?_⟩;rotate_left
    ·rw[hx] at dv;exact q2 dv.symm H3 (b2.trans b3)
    rw[hx] at dv;have zT:=BK hx;have hlen:=congrArg List.length zT.1;rw[bu,<- uc,fN] at hlen;have Zsc:=fN (T:=T) (n:=n3);have OJ:=zT.2.2.1;have dv:(if [40] <+: x.2 then bV m k (x.2.drop 1) .nil ((x.1,cur)::st) else cz (bV m k) x.2 (cur.app (.tag x.1 .nil .nil)) st)=A:=dv
    have hU:=pg.bar oW b3 h3;refine⟨Tg,_,_,rfl,rfl,hU.hT,ZW (by simp;lia),?_⟩;have nC:(upd H3 Tg (.lst (((st.map Prod.fst).map V.str).reverse ++ [.str x.1]))) R=some (.lst (as.map V.ref).reverse):=by
     rw[Zi hU.RT];exact hU.hR
    show Zws _ _ _;refine Zq Y5 ?_;refine⟨_,rfl,.inl ⟨rfl,_,ak.of nC⟩,by decide,fun l hl=>?_⟩;obtain⟨_,dg⟩:=Z1 hl;have gz:(upd (upd H3 Tg (.lst (((st.map Prod.fst).map V.str).reverse ++ [.str x.1]))) l (.lst [])) R=some (.lst (as.map V.ref).reverse):=by
     rw[Zi (Zo hU.hR dg)];exact nC
    refine⟨R,_,_,rfl,rfl,gz,ZW (by simp;lia),?_⟩;have jW:=hU.opened hl;have h4:b_ C (upd (upd (upd H3 Tg (.lst (((st.map Prod.fst).map V.str).reverse ++ [.str x.1]))) l (.lst [])) R (.lst ((as.map V.ref).reverse ++ [.ref l]))) a dx T n3:=jW.sm _ _ (by first|(rw[Zc];done)|(rw[Zc];exact h3))
    generalize upd (upd (upd H3 Tg (.lst (((st.map Prod.fst).map V.str).reverse ++ [.str x.1]))) l (.lst [])) R (.lst ((as.map V.ref).reverse ++ [.ref l]))=H4 at jW h4 ⊢;have ff:jt C a dx T H H4 R Tg .nil ((x.1,cur)::st) n3:=⟨h4,l3,⟨_,_,_,b0.trans aO.up,Zc,jW⟩,by simp[Pa.sz] <;> lia⟩
    show Zwt _ _ _;refine Zq Y6 ?_;refine⟨_,rfl,a,dx,_,rfl,h4,rfl,a,dx,T,n3,"(",rfl,h4,l3,(by decide),fun z=>?_,fun z H5 b5 h5=>?_⟩
    ·refine⟨_,rfl,aE ?_⟩;have z' : ¬ [40] <+: x.2:=by rw[<- uc];exact z
     rw[af z'] at dv;show Zwu _ _ _;refine Zq Y7 ?_;refine⟨_,rfl,_,rfl,_,R,Tg,_,_,x.1,_,rfl,jW,fun g hg=>cY (ff.small g hg) (by lia),fun H6 b6 b7 a8 g6 g7 g8 ea eg wG=>?_⟩;injection eg with vn jL;injection jL with jL vo;subst vn jL vo;refine hnx _ st n3 H6 ⟨wG.sm _ _ (by first|(rw[Zc];done)|(rw[Zc];exact h3)),l3,⟨_,_,_,b0.trans aO.up,Zc,wG⟩,?_⟩ (by rw[uc];exact dv) (by lia)
     simp[Pa.iu,Pa.sz];lia
    ·have n5:n3+1<=T.length:=pG z l3;have h5:b_ C H5 a dx T (n3+1):=h5;have F_:=fN (T:=T) (n:=n3+1);refine⟨_,rfl,aH (hct _ _ ⟨k,gO _,.nil,(x.1,cur)::st,n3+1,true,rfl,ff.bar b5 h5 (h_ _) n5,fun _=>⟨?_,by lia⟩,fun h=>(by cases h)⟩)⟩;have z':[40] <+: x.2:=by rw[<- uc];exact z
     rw[ah z'] at dv;rw[lK,uc];exact dv
   cases ht:av T n2 with
   | nil =>
    show if(!decide (([]:List Nat) < [48]))=true then _ else _
    rw[show(!decide (([]:List Nat) < [48]))=false from rfl];exact aE ⟨_,rfl,aE (other _ (fun _ _ h=>h) (fun bf ag n3 H3 x y z=>rest _ (fun _ _ h=>h) bf ag n3 H3 x y z))⟩
   | cons c t' =>
    rw[ht] at hd;have hd:bA c=false:=hd;unfold bA at hd;show if(!decide (([c]:List Nat) < [48]))=true then _ else _
    rw[sd 48 c];by_cases MV:48<=c
    ·rw[aQ MV] at hd ⊢;refine aH ⟨_,_,rfl,rfl,_,rfl,?_⟩;rw[lU,ht];show if(!decide (([57]:List Nat) < [c]))=true then _ else _
     rw[sd c 57,show decide (c<=57)=false from hd];exact aE (other _ (fun _ _ h=>h) (fun bf ag n3 H3 x y z=>rest _ (fun _ _ h=>h) bf ag n3 H3 x y z))
    ·rw[aZ MV];exact aE ⟨_,rfl,aE (other _ (fun _ _ h=>h) (fun bf ag n3 H3 x y z=>rest _ (fun _ _ h=>h) bf ag n3 H3 x y z))⟩
theorem LD{p:List Nat}{t:List Nat}(h:p <+: t):i_ p t=some (t.drop p.length):=ah h
theorem LB{p:List Nat}{t:List Nat}(h : ¬ p <+: t):i_ p t=none:=af h
def qY(H:Hp)(v:V)(r:Rl):Prop := ∃(q t:Addr)(ys:List V),v=.ref q/\H q=some (.tup [.int r.1,.str r.2.1,.ref t])/\H t=some (.tup ys)/\bq H ys r.2.2
theorem qY.mono{H H':Hp}(k:TK H H'){v:V}{r:Rl}(h:qY H v r):qY H' v r:=by
 obtain⟨q,t,ys,e,h1,h2,h3⟩:=h;exact⟨q,t,ys,e,k _ _ h1,k _ _ h2,h3.mono k⟩
abbrev eO(H:Hp):List V->List Rl->Prop:=Paired (qY H)
theorem eO.mono{H H':Hp}(k:TK H H'):∀{vs:List V}{rs:List Rl},eO H vs rs->eO H' vs rs
 | _,_,.nil=>.nil
 | _,_,.cons a b=>.cons (a.mono k) (eO.mono k b)
theorem eO.snoc{H:Hp}{v:V}{r:Rl}(h:qY H v r):∀{vs:List V}{rs:List Rl},eO H vs rs->eO H (vs ++ [v]) (rs ++ [r])
 | _,_,.nil=>.cons h .nil
 | _,_,.cons a b=>.cons a (eO.snoc h b)
def CN(K:PySem.W.Frag)(C XB:Addr):Sp:=fun vs H Q E=>∃(a dx:Addr)(T:Str)(n m:Nat),vs=[.ref a,.int (m:Int)]/\b_ C H a dx T n/\n<=T.length/\T.length<=2000/\1<=m/\m<=4 /\
 (∀x,ku m (av T n)=some x->∀(n':Nat)(H':Hp)(q t:Addr)(ys:List V),aO a H H'->b_ C H' a dx T n'->n'<=T.length->av T n'=x.2->H' q=some (.tup [.int x.1.1,.str x.1.2.1,.ref t])->H' t=some (.tup ys)->bq H' ys x.1.2.2->Q (.ref q) H') /\
 (ku m (av T n)=none->∀H',aO a H H'->E (.ref XB) none H')
set_option maxHeartbeats 2000000 in
theorem QO(B:∀x∈cF,mg x=none)(bC:ik K C)(lX:fb P w K mg base "take_number" ["source","least","greatest"] 3 (uX K C au)) (zc:fb P w K mg base "skip" ["source","piece"] 3 (Cm C au)) (sD:fb P w K mg base "take_tag" ["source"] 3 (yB K C au)) (gX:gj P w K mg base C "skips" ["self","piece"] 2 (rT C)) (Fb:fb P w K mg base "take_parts" ["source","modes"] 4 (CM K C au)) (F:bO K "take_rule" "take_rule" rc f fd):aX P w K mg base (gR P w) 5 f fd ["source","modes"] (CN K C au):=by
 refine F.qB Br (fun vs H Q E h=>?_) (fun aK A outer s H vs Q E hr h=>?_)
 ·obtain⟨a,dx,T,n,m,rfl,_⟩:=h;rfl
 obtain⟨a,dx,T,n,m,rfl,ha,hn,hT,m1,m4,q1,q2⟩:=h;obtain⟨A0,hA⟩:∃A0,ku m (av T n)=A0:=⟨_,rfl⟩;rw[hA] at q1 q2;unfold ku at hA;refine⟨_,(Ze (Zx (i:=2) Br.nd rfl (Or.inl rfl) (jD lX Z8 hr rfl (Za (pv 0) (Za Zg (Za (Zv ym (pv 1) Zg) Zb)))))
  (Ze (Z7 (jD zc Z8 hr rfl (Za (pv 0) (Za Zm Zb))))
  (Ze (Zx (i:=3) Br.nd rfl (Or.inl rfl) (jD sD Z8 hr rfl (Za (pv 0) Zb)))
  (Ze (Z7 (jD zc Z8 hr rfl (Za (pv 0) (Za Zm Zb))))
  (Zf (Zz (cS (Za (pv 2) (Za (pv 3) (Za (Tu (ZZ (lL gX hr (pv 0) bC.cls (Za Zm Zb)) (fun _=>rfl)) (cS Zb) (jD Fb Z8 hr rfl (Za (pv 0) (Za (pv 1) Zb)))) Zb)))))))))),?_⟩
 refine⟨_,rfl,_,rfl,_,_,rfl,rfl,a,dx,T,n,0,m-1,?_,ha,hn,hT,by lia,by lia,fun x hx n1 H1 b1 h1 l1 e1=>?_,fun hx H1 b1=>?_⟩
 ·show [V.ref a,V.int 0,V.int ((m:Int)-1)]=_;rw[show((m:Int)-1)=((m-1:Nat):Int) by lia];rfl
 rotate_left
 ·rw[hx] at hA;exact q2 hA.symm H1 b1
 rw[hx] at hA;dsimp only at hA;rw[<- e1] at hA;refine⟨_,rfl,a,dx,T,n1," ",rfl,h1,l1,(by decide),(by decide),fun z H2 b2 h2=>?_,fun z H2 b2=>?_⟩;rotate_left
 ·have hz:i_ [32] (av T n1)=none:=LB z;rw[hz] at hA;exact q2 hA.symm H2 (b1.trans b2)
 have hz:i_ [32] (av T n1)=some (av T (n1+1)):=(LD z).trans (by rw[lK];rfl);rw[hz] at hA;dsimp only at hA;have h2:b_ C H2 a dx T (n1+1):=h2;have l2:n1+1<=T.length:=pG z l1;refine⟨_,rfl,a,dx,T,n1+1,rfl,h2,l2,hT,fun y hy n3 H3 b3 h3 l3 e3=>?_,fun hy H3 b3=>?_⟩;rotate_left
 ·rw[hy] at hA;exact q2 hA.symm H3 ((b1.trans b2).trans b3)
 rw[hy] at hA;dsimp only at hA;rw[<- e3] at hA;refine⟨_,rfl,a,dx,T,n3," = ",rfl,h3,l3,(by decide),(by decide),fun z4 H4 b4 h4=>?_,fun z4 H4 b4=>?_⟩;rotate_left
 ·have hz:i_ [32,61,32] (av T n3)=none:=LB z4;rw[hz] at hA;exact q2 hA.symm H4 (((b1.trans b2).trans b3).trans b4)
 have hz:i_ [32,61,32] (av T n3)=some (av T (n3+3)):=(LD z4).trans (by rw[lK];rfl);rw[hz] at hA;dsimp only at hA;have h4:b_ C H4 a dx T (n3+3):=h4;have l4:n3+3<=T.length:=pG z4 l3;have Dw:=((b1.trans b2).trans b3).trans b4;refine⟨_,rfl,_,rfl,_,rfl,a,dx,_,rfl,h4,rfl,a,dx,T,n3+3,"{}",rfl,h4,l4,(by decide),fun z5=>?_,fun z5 H5 b5 h5=>?_⟩
 ·have z5 : ¬ [123,125] <+: av T (n3+3):=z5;rw[af z5] at hA;refine⟨_,rfl,aE ?_⟩;refine⟨_,rfl,_,rfl,a,dx,T,n3+3,m,rfl,h4,l4,hT,m1,m4,fun p hp n6 H6 r ys b6 h6 l6 e6 hr6 rp6=>?_,fun hp H6 b6=>?_⟩
  ·rw[hp] at hA;refine⟨(by show 3<=sizeLine;decide),fun q hq=>?_⟩;have s7:=ZD.new (o:=.tup [.int (x.1:Int),.str y.1,.ref r]) hq;exact q1 _ hA.symm n6 _ q r ys ((Dw.trans b6).trans (aO.same s7)) (s7 _ _ h6) l6 e6 Zc (s7 _ _ hr6) (rp6.mono s7.tk)
  ·rw[hp] at hA;exact q2 hA.symm H6 (Dw.trans b6)
 ·have Qd:[123,125] <+: av T (n3+3):=z5;rw[ah Qd] at hA;refine⟨_,rfl,aH ⟨by decide,fun e he=>⟨(by show 3<=sizeLine;decide),fun q hq=>?_⟩⟩⟩;have s6:=ZD.new (o:=.tup []) he;have s7:=ZD.new (o:=.tup [.int (x.1:Int),.str y.1,.ref e]) hq;have h5:b_ C H5 a dx T (n3+3+2):=h5;exact q1 _ hA.symm (n3+3+2) _ q e [] (((Dw.trans b5).trans (aO.same s6)).trans (aO.same s7)) (s7 _ _ (s6 _ _ h5)) (pG z5 l4) (lK _) Zc (s7 _ _ Zc) .nil
theorem eO.last{H:Hp}{l:Rl}:∀{tH:List Rl}{ws:List V},eO H ws (tH ++ [l])->∃jk v,ws=jk ++ [v]/\qY H v l
 | [],_,h=>by
  cases h with
  | cons r t =>
   cases t;exact⟨[],_,rfl,r⟩
 | y::tH,_,h=>by
  cases h with
  | cons r t =>
   obtain⟨jk,v,rfl,hr⟩:=eO.last t;exact⟨_::jk,v,rfl,hr⟩
theorem Rg{acc:List Rl}{l r:Rl}(h:acc.getLast?= some l):ir acc r=bj.cT (aI l) (aI r):=by
 unfold ir;rw[h]
def kg(H:Hp)(v:V)(m:Nat)(rs:List Rl):Prop := ∃(q t:Addr)(ws:List V),v=.ref q/\H q=some (.tup [.int (m:Int),.ref t])/\H t=some (.tup ws)/\eO H ws rs
theorem kg.mono{H H':Hp}(k:TK H H'){v:V}{m:Nat}{rs:List Rl}(h:kg H v m rs):kg H' v m rs:=by
 obtain⟨q,t,ws,e,h1,h2,h3⟩:=h;exact⟨q,t,ws,e,k _ _ h1,k _ _ h2,h3.mono k⟩
def CS(K:PySem.W.Frag)(C XB:Addr):Sp:=fun vs H Q E=>∃(a dx:Addr)(T:Str),vs=[.ref a]/\b_ C H a dx T 0/\T.length<=2000 /\
 (∀m rs,gH (cs T)=some (m,rs)->∀(H':Hp)(v:V),aO a H H'->kg H' v m rs->Q v H') /\
 (gH (cs T)=none->∀H',aO a H H'->E (.ref XB) none H')
def Bm(C a dx:Addr)(T:Str)(m:Nat)(H:Hp)(L:Addr)(A:Option (List Rl))(k:Nat)(σ : St)(H2:Hp):Prop := ∃(acc:List Rl)(ws:List V)(n:Nat)(v3:Option V),σ =[some (.ref a),some (.int (m:Int)),some (.ref L),v3]/\aO a H H2/\b_ C H2 a dx T n/\n<=T.length/\H2 L=some (.lst ws)/\eO H2 ws acc/\i5 m k acc (av T n)=A/\(av T n).length<k/\acc.length<=n
set_option maxHeartbeats 4000000 in
theorem Qv(B:∀x∈cF,mg x=none)(Qe:∃t:Tok,mg "MOST_MODES" = some (.int 4 t)) (bC:ik K C) (xc:XC K mg bZ ef d8 eE eC et d_ eF eh eB d7 au eA ee eo) (lX:fb P w K mg base "take_number" ["source","least","greatest"] 3 (uX K C au)) (gX:gj P w K mg base C "skips" ["self","piece"] 2 (rT C)) (Fc:fb P w K mg base "take_rule" ["source","modes"] 5 (CN K C au)) (sv:gj P w K mg base C "at_end" ["self"] 1 (yk C)) (F:bO K "take_changer" "take_changer" pz f fd):aX P w K mg base (gR P w) 6 f fd ["source"] (CS K C au):=by
 refine F.qB xD (fun vs H Q E h=>?_) (fun aK A outer s H vs Q E hr h=>?_)
 ·obtain⟨a,dx,T,rfl,_⟩:=h;rfl
 obtain⟨a,dx,T,rfl,ha,hT,q1,q2⟩:=h;obtain⟨t1,XA⟩:=Qe;obtain⟨A0,hA⟩:∃A0,gH (cs T)=A0:=⟨_,rfl⟩;rw[hA] at q1 q2;unfold gH at hA;have hu:(A.deeper (PyProof.Rows.envOfC (Str.ofString "take_changer") (Zh pz) s.heap.objs.size f aK)).units+200<cLine:=by have:=hr.un;lia
 refine⟨_,(Ze (Zx (i:=1) xD.nd rfl (Or.inl rfl) (jD lX Z8 hr rfl (Za (pv 0) (Za Zg (Za (fu (v:=.int 4) rfl XA ⟨_,rfl⟩) Zb)))))
  (Ze (Zx (i:=2) xD.nd rfl (Or.inl rfl) (dz Zb))
  (Ze (uD PassesOwn.leaving (ZZ (lL gX hr (pv 0) bC.cls (Za Zm Zb)) (fun _=>rfl))
   (Ze (Zx (i:=3) xD.nd rfl (Or.inl rfl) (jD Fc Z8 hr rfl (Za (pv 0) (Za (pv 1) Zb))))
    (Ze (bt (PW.pt (jw (ZZ (pv 2) (fun _=>rfl)) (ko (Zr (T_ hu (K:=K) rfl) (fK Lv (bo Z6 (pv 2) (jF jz Zg) (fun _ _=>rfl)) io (eL Zg)) (fK Lv (pv 3) io (eL Zg)) (ZK _)))))
     (Zf (rE xc.tF xc.tq xc.qy Z8 hr rfl (Za Zm Zb)))
     ZC)
    (Zf (Z7 (cv cI dX dY ZL (pv 2) (Za (pv 3) Zb)))))))
  (Ze (bt (jA (ZZ (KG sv hr (pv 0) bC.cls) (fun _=>rfl)))
   (Zf (rE xc.tF xc.tq xc.qy Z8 hr rfl (Za Zm Zb)))
   ZC)
  (Zf (Zz (cS (Za (pv 1) (Za (ZX Z0 rfl (B "tuple" (by decide)) iY (Za (pv 2) Zb)) Zb))))))))),?_⟩
 refine⟨_,rfl,a,dx,T,0,1,4,rfl,ha,bi _,hT,by decide,by decide,fun x hx n1 H1 b1 h1 l1 e1=>?_,fun hx H1 b1=>?_⟩;rotate_left
 ·rw[show cs T=av T 0 from rfl,hx] at hA;exact q2 hA.symm H1 b1
 rw[show cs T=av T 0 from rfl,hx] at hA;dsimp only at hA;obtain⟨_,O1,lm4,_⟩:=uz hx;refine⟨by decide,fun L hL=>?_⟩;have GX:L≠a:=fun z=>by rw[z,show H1 a=some _ from h1] at hL;cases hL
 have s2:ZD H1 (upd H1 L (.lst [])):=ZD.new hL;obtain⟨A1,NM⟩:∃A1,i5 x.1 (x.2.length+1) [] x.2=A1:=⟨_,rfl⟩;rw[NM] at hA;refine⟨Bm C a dx T x.1 H L A1,⟨_,[],[],n1,none,rfl,b1.trans (aO.same s2),s2 _ _ h1,l1,Zc,.nil,by rw[e1];exact NM,by rw[e1];exact gO _,bi _⟩,?_⟩;rintro k σ H3 ⟨acc,ws,n3,v3,rfl,b3,h3,l3,OU,hR,fe,hk,hac⟩;have OI:=fN (T:=T) (n:=n3);have mm:ws.length=acc.length:=f_ hR;obtain⟨k,rfl⟩:∃k',k=k'+1:=⟨k-1,by lia⟩;unfold i5 at fe;refine⟨_,rfl,a,dx,_,rfl,h3,rfl,a,dx,T,n3,"; ",rfl,h3,l3,(by decide),fun z=>?_,fun z H4 b4 h4=>?_⟩
 ·have z : ¬ [59,32] <+: av T n3:=z;rw[af z] at fe;refine⟨_,rfl,aE ?_⟩;refine⟨_,rfl,a,dx,_,rfl,h3,rfl,a,dx,T,n3,rfl,h3,by lia,_,rfl,?_⟩;by_cases N7:n3=T.length
  ·rw[aQ N7];have er:av T n3=[]:=List.length_eq_zero_iff.mp (by lia);rw[ah er] at fe;refine aE ⟨_,rfl,_,rfl,L,ws,rfl,.inl ⟨ak.of OU,fun r hr=>⟨(by show 2<=sizeLine;decide),fun q hq=>?_⟩⟩⟩;have s5:=ZD.new (o:=.tup ws) hr;have s6:=ZD.new (o:=.tup [.int (x.1:Int),.ref r]) hq;refine q1 x.1 acc ?_ _ _ ((b3.trans (aO.same s5)).trans (aO.same s6)) ⟨q,r,ws,rfl,Zc,s6 _ _ Zc,hR.mono (s5.tk.trans s6.tk)⟩;rw[<- hA,<- fe];rfl
  ·rw[aZ N7];have er:av T n3 ≠ []:=fun e=>by
    rw[e] at OI;have:(0:Nat)=T.length-n3:=OI;lia
   rw[af er] at fe;refine aH ⟨by show 1<=1000;decide,fun y hy=>q2 ?_ _ (rJ b3 hy)⟩;rw[<- hA,<- fe];rfl
 ·have z':[59,32] <+: av T n3:=z;rw[ah z'] at fe;have h4:b_ C H4 a dx T (n3+2):=h4;have l4:n3+2<=T.length:=pG z l3;have e4:(av T n3).drop 2=av T (n3+2):=(lK _).symm;rw[e4] at fe;have Zsp:H4 L=some (.lst ws):=b4 L _ GX OU;have nA:eO H4 ws acc:=hR.mono (TK.bar b4 h3);refine⟨_,rfl,aH ⟨fun ao H'=>∃m',m'<k+1/\Bm C a dx T x.1 H L A1 m' ao H',fun _ _ h=>h,?_⟩⟩;refine⟨_,rfl,_,rfl,a,dx,T,n3+2,x.1,rfl,h4,l4,hT,O1,lm4,fun y hy n5 H5 q t ys b5 h5 l5 e5 hq ht rp=>?_,fun hy H5 b5=>?_⟩;rotate_left
  ·rw[hy] at fe;refine q2 ?_ H5 ((b3.trans b4).trans b5);rw[<- hA,<- fe];rfl
  rw[hy] at fe;dsimp only at fe;have hlen:=congrArg List.length (JM O1 hy).1;rw[List.length_append,<- e5,fN,fN] at hlen;have F_:=fN (T:=T) (n:=n5);have htr:1<=(tR y.1).length:=by unfold tR;simp
  have qv:H5 L=some (.lst ws):=b5 L _ GX Zsp;have nB:eO H5 ws acc:=nA.mono (TK.bar b5 h4);have MR:=(b3.trans b4).trans b5;have add:∀(H6:Hp),ZD H5 H6->(if ir acc y.1=true then i5 x.1 k (acc ++ [y.1]) y.2 else none)=A1->ir acc y.1=true->∃m',m'<k+1/\Bm C a dx T x.1 H L A1 m' [some (.ref a),some (.int (x.1:Int)),some (.ref L),some (.ref q)] (upd H6 L (.lst (ws ++ [.ref q]))):=fun H6 s6 NN hl=>by
   rw[ah hl] at NN;have tk:=TK.lst (o:=.lst (ws ++ [.ref q])) (s6 _ _ qv);refine⟨k,gO _,acc ++ [y.1],_,n5,some (.ref q),rfl,?_,?_,l5,Zc,(nB.mono (s6.tk.trans tk)).snoc ⟨q,t,ys,rfl,tk _ _ (s6 _ _ hq),tk _ _ (s6 _ _ ht),(rp.mono s6.tk).mono tk⟩,by rw[e5];exact NN,by lia,by rw[bu];show _+1<=_;lia⟩
   ·intro b o hb ho;have h7:=s6 _ _ (MR b o hb ho);by_cases e:b=L
    ·have:=b1 b o hb ho;rw[e,hL] at this;cases this
    ·rw[Zi e];exact h7
   ·show upd H6 L _ a=_;rw[Zi GX.symm];exact s6 _ _ h5
  have Xv : ¬ ir acc y.1=true->∀H6,ZD H5 H6->∀z,H6 z=none->∀o,E (.ref au) none (upd H6 z o):=fun hl H6 s6 z hz o=>by
   rw[af hl] at fe;refine q2 ?_ _ (rJ (MR.trans (aO.same s6)) hz);rw[<- hA,<- fe];rfl
  refine⟨_,rfl,_,.inl ⟨_,ak.of qv,rfl⟩,?_⟩;cases zE:acc.getLast? with
  | none =>
   rw[List.getLast?_eq_none_iff] at zE;subst zE;obtain rfl:ws=[]:=la mm;refine aE (aE ⟨_,rfl,.inl ⟨rfl,_,ak.of qv⟩,_,rfl,L,_,_,rfl,rfl,qv,(by decide),?_⟩);exact add H5 (ZD.refl H5) fe rfl
  | some l =>
   obtain⟨tH,rfl⟩:=List.getLast?_eq_some_iff.mp zE;have gC:=Rg (r:=y.1) zE;obtain⟨jk,v0,rfl,q0,t0,ys0,rfl,hq0,ht0,rp0⟩:=nB.last;rw[show(!(jk ++ [V.ref q0]).isEmpty)=true by simp];refine aH ⟨_,rfl,1,rfl,L,_,-1,.ref q0,rfl,rfl,ak.of qv,jv _ _,2,rfl,q0,_,rfl,hq0,fun p6 H6 s6 qj=>⟨_,rfl,2,rfl,q,_,rfl,s6 _ _ hq,fun p7 H7 s7 qk=>⟨p6,p7,aI l,aI y.1,rfl,rfl,aL.of (s7 _ _ qj),aL.of qk,_,rfl,?_⟩⟩⟩;have AF:=s6.trans s7;by_cases hl:ir (tH ++ [l]) y.1=true
   ·rw[<- gC,hl];refine aE ⟨_,rfl,.inl ⟨rfl,_,ak.of (AF _ _ qv)⟩,_,rfl,L,_,_,rfl,rfl,AF _ _ qv,ZW (by lia),?_⟩;exact add H7 AF fe hl
   ·rw[<- gC,show ir (tH ++ [l]) y.1=false from Bool.eq_false_iff.mpr hl];exact aH ⟨by show 1<=1000;decide,fun z hz=>Xv hl H7 AF z hz _⟩
def CC(K:PySem.W.Frag)(XB:Addr):Sp:=fun vs H Q E=>∃T,vs=[.str T]/\T.length<=2000/\(∀m rs,gH (cs T)=some (m,rs)->∀(H':Hp)(v:V),ZD H H'->kg H' v m rs->Q v H')/\(gH (cs T)=none->∀H',ZD H H'->E (.ref XB) none H')
theorem Mn{a:Addr}{H H0 H':Hp}(s:ZD H H0)(ha:H a=none)(b:aO a H0 H'):ZD H H':=fun x o h=>b x o (fun z=>by rw[z,ha] at h;cases h) (s x o h)
theorem UA(B:∀x∈cF,mg x=none)(_c_Source:ik K C)(E_:fb P w K mg base "take_changer" ["source"] 6 (CS K C au)) (EY:Bf P w K mg base C "Source" ["self","text"] 1 (Cg C)) (F:bO K "read" "read" rY f fd):aX P w K mg base (gR P w) 7 f fd ["text"] (CC K au):=by
 refine F.qB UD (fun vs H Q E h=>?_) (fun aK A outer s H vs Q E hr h=>?_)
 ·obtain⟨T,rfl,_⟩:=h;rfl
 obtain⟨T,rfl,hT,q1,q2⟩:=h;refine⟨_,(Zf (Zz (jD E_ Z8 hr rfl (Za (UU EY hr rfl (Za (pv 0) Zb)) Zb)))),?_⟩;refine⟨_,rfl,fun a dx ha Fz bP=>⟨a,dx,T,rfl,Zc,fun H1 b1 h1=>?_⟩⟩;have s0:ZD H (upd (upd H dx (.own a)) a (.ins C dx [])):=making ha Fz bP;generalize upd (upd H dx (.own a)) a (.ins C dx [])=H0 at s0 b1 ⊢;exact⟨rfl,a,dx,T,rfl,h1,hT,fun m rs hp H2 v b2 hc=>q1 m rs hp H2 v (Mn s0 ha (b1.trans b2)) hc,fun hp H2 b2=>q2 hp H2 (Mn s0 ha (b1.trans b2))⟩
theorem QY(B:∀x∈cF,mg x=none)(F:bO K "_law_cell_at" "_law_cell_at" rf f fd):aX P w K mg base cp 1 f fd ["_law_script","_law_k"] (yu K):=by
 refine F.ok QU (fun vs H Q E h=>?_) (fun aK A outer s H vs Q E hr h=>?_)
 ·obtain⟨a,ns,k,rfl,_⟩:=h;rfl
 obtain⟨a,ns,k,rfl,hS,sE,h0,q⟩:=h;refine⟨_,(Ze (bt (Zr sf (pv 1) (ZF lH rfl (B "len" (by decide)) gb (Za (pv 0) Zb)) (ZK _))
   (Zf (Zz (bo Z6 (pv 0) (pv 1) (fun _ _=>rfl))))
   ZC)
  (Zf (Zz Zg))),?_⟩
 refine⟨_,rfl,_,rfl,a,_,rfl,.inl hS,_,_,rfl,rfl,_,rfl,?_⟩;refine dC (fun c=>?_) (fun c=>?_)
 ·have c':=ig c;rw[aV] at c';obtain⟨v,hv⟩:=Lo (ns:=ns) h0 c';exact⟨_,rfl,_,rfl,a,_,k,_,rfl,rfl,hS,hv,q v⟩
 ·exact q 0
def BO(K:PySem.W.Frag):Sp:=fun vs H Q _=>∃(a:Addr)(ns:List Int)(st m:Int),vs=[.ref a,.int st,.int m]/\ak K H a (ns.map V.int)/\ns.length<=63/\0<=m/\m<=400 /\
 ∀(r:Addr)(xs:List Int)(H':Hp),ZD H H'->H r=none->H' r=some (.lst (xs.map V.int))->xs.length=m.toNat->(∀x∈xs,0<=x/\x<2147483647)->Q (.ref r) H'
theorem QR(B:∀x∈cF,mg x=none)(pU:bF P w K mg base "_law_cell_at" ["_law_script","_law_k"] 1 (yu K)) (F:bO K "_law_numbers" "_law_numbers" q_ f fd) :
  aX P w K mg base cp 2 f fd ["_law_script","_law_first","_law_many"] (BO K):=by
 refine F.ok rj (fun vs H Q E h=>?_) (fun aK A outer s H vs Q E hr h=>?_)
 ·obtain⟨a,ns,st,m,rfl,_⟩:=h;rfl
 obtain⟨a,ns,st,m,rfl,hS,sE,h0,h1,q⟩:=h;refine⟨_,(Ze (Zx (i:=3) rj.nd rfl (Or.inl rfl) (dz Zb))
  (Ze (Zx (i:=4) rj.nd rfl (Or.inl rfl) (Zv gm Zg (pv 1)))
  (Ze (jx iQ rfl (xP rfl (B "range" (by decide)) (Za (pv 2) Zb)) (dA (i:=5) rj.nd rfl (Or.inl rfl))
   (Ze (Zx (i:=6) rj.nd rfl (Or.inl rfl) (dc pU hr rfl (Za (pv 0) (Za (Zv gm Zg (Zv dm (Zv gm (pv 1) (pv 5)) (ZF (Sy rfl) rfl (B "max" (by decide)) Vh (Za Zg (Za (Zv ym (ZF lH rfl (B "len" (by decide)) gb (Za (pv 0) Zb)) Zg) Zb))))) Zb))))
    (Ze (Zx (i:=4) rj.nd rfl (Or.inl rfl) (Zv dm (Zv gm (Zv gm (Zv uS (pv 4) Zg) (pv 6)) (Zv uS (pv 5) (pv 5))) Zg))
    (Zf (Z7 (cv cI dX dY ZL (pv 3) (Za (pv 4) Zb)))))))
  (Zf (Zz (pv 3)))))),?_⟩
 refine⟨by decide,fun p hp=>?_⟩;refine⟨_,rfl,_,_,rfl,rfl,?_⟩;refine⟨_,rfl,m,rfl,by lia,by lia,xQ (lo:=0) (n:=m.toNat) (fun i σ H1=>∃(xs:List Int)(num:Int)(v4 v5:Option V),σ =[some (.ref a),some (.int st),some (.int m),some (.ref p),some (.int num),v4,v5] /\
  ZD H H1/\H1 p=some (.lst (xs.map V.int))/\xs.length=i/\(∀x∈xs,0<=x/\x<2147483647)) ⟨[],_,none,none,rfl,ZD.new hp,Zc,rfl,fun _ h=>nomatch h⟩ ?_ ?_⟩
 ·rintro i σ H1 hi ⟨xs,num,v4,v5,rfl,sm,jd,hl,hx⟩;have zi:=sm.seq hS;refine⟨_,rfl,_,rfl,_,rfl,_,_,rfl,rfl,_,rfl,a,_,rfl,.inl zi,_,_,rfl,rfl,_,_,rfl,_,_,rfl,rfl,?_,_,_,rfl,rfl,a,ns,_,rfl,zi,sE,?_,fun v=>?_⟩
  ·exact Lh _
  ·have:=dW (st+(0+(i:Int))) (Int.ne_of_gt (Lh (((ns.map V.int).length:Int)-2)));lia
  refine⟨_,rfl,_,_,rfl,rfl,.inr ⟨by decide,by decide⟩,_,rfl,_,_,rfl,rfl,_,rfl,_,rfl,_,_,rfl,rfl,.inl ⟨by lia,by lia⟩,_,_,rfl,rfl,_,_,rfl,rfl,(by show(0:Int)<2147483647;decide),?_⟩;refine⟨_,rfl,.inl ⟨rfl,_,ak.of jd⟩,_,rfl,p,_,_,rfl,rfl,jd,ZW (by rw[aV];lia),?_⟩;refine⟨xs ++ [(num*48271+v+(0+(i:Int))*(0+(i:Int))) % 2147483647],_,_,_,rfl,sm.eV hp,?_,?_,?_⟩
  ·rw[Zc,fF];rfl
  ·rw[bu,hl];rfl
  ·intro x o5;rcases bK.mp o5 with o5|o5
   ·exact hx x o5
   ·obtain rfl:=bh.mp o5;exact⟨dW _ (by decide),eY _ (by decide)⟩
 ·rintro σ H1 ⟨xs,num,v4,v5,rfl,sm,jd,hl,hx⟩;exact⟨_,rfl,q p xs H1 sm hp jd hl hx⟩
theorem Ti{t:Str}(h:jH t)(hl:1<=t.length):pP t:=⟨fun z=>by
 have:t.cps.toList.length=t.length:=aA;rw[z,tT] at this;lia,h⟩
def x6:Sp:=fun vs H Q _=>∃n:Int,vs=[.int n]/\∀t:Str,gu t=true->Q (.str t) H
theorem TZ(B:∀x∈cF,mg x=none)(F:bO K "_law_tag" "_law_tag" rQ f fd):aX P w K mg base cp 1 f fd ["_law_number"] x6:=by
 refine F.ok rB (fun vs H Q E h=>?_) (fun aK A outer s H vs Q E hr h=>?_)
 ·obtain⟨n,rfl,_⟩:=h;rfl
 obtain⟨n,rfl,q⟩:=h;have a0:jH "a" := by intro c hc;revert c;decide
 refine⟨_,(Ze (Zx (i:=1) rB.nd rfl (Or.inl rfl) Zm)
  (Ze (bt (Zr fv (Zv dm (pv 0) Zg) Zg (ZK _))
   (Zf (Zz (Zv Zy (bo jy (pv 1) (Zv dm (Zv fJ (pv 0) Zg) Zg) (fun _ _=>rfl)) (Zv R_ Zm (Zv dm (Zv fJ (pv 0) Zg) Zg)))))
   ZC)
  (Ze (Zx (i:=2) rB.nd rfl (Or.inl rfl) Zm)
  (Ze (jx iQ rfl (xP rfl (B "range" (by decide)) (Za (Zv gm Zg (Zv dm (Zv fJ (pv 0) Zg) Zg)) Zb)) (dA (i:=3) rB.nd rfl (Or.inl rfl))
   (Ze (Zx (i:=0) rB.nd rfl (Or.inl rfl) (Zv dm (Zv gm (Zv uS (pv 0) Zg) (pv 3)) Zg))
    (Zf (Zx (i:=2) rB.nd rfl (Or.inl rfl) (Zv Zy (pv 2) (bo jy (pv 1) (Zv dm (pv 0) Zg) (fun _ _=>rfl)))))))
  (Zf (Zz (pv 2))))))),?_⟩
 refine⟨_,rfl,_,_,rfl,rfl,(by show(0:Int)<4;decide),rfl,_,rfl,?_⟩;refine dC (fun _=>?_) (fun _=>?_)
 ·obtain⟨c,hc,c1,c2⟩:=LN (i:=n / 4 % 3) (dW _ (by decide)) (Int.lt_trans (eY _ (by decide)) (by decide));have e1:=dW (n / 12) (by decide:(8:Int)≠0);have e2:=eY (n / 12) (by decide:(0:Int)<8);refine⟨_,rfl,_,rfl,_,_,rfl,rfl,⟨by decide,by decide⟩,_,_,rfl,rfl,(by show(0:Int)<3;decide),_,_,c,rfl,rfl,(by decide),hc,?_⟩;refine⟨_,rfl,_,_,rfl,rfl,⟨by decide,by decide⟩,_,_,rfl,rfl,(by show(0:Int)<8;decide),_,_,rfl,rfl,by lia,by lia,?_,_,_,rfl,rfl,?_,?_⟩
  ·show(n / 12 % 8).toNat*1<=sizeLine;exact Zk (by lia)
  ·rw[xZ];show 1+(n / 12 % 8).toNat*1<=sizeLine;exact Zk (by lia)
  ·refine q _ (JI (V4 (Ku c1 c2) (SR a0 _)) ?_);rw[ZG,xZ];show 1+(n / 12 % 8).toNat*1<=8;lia
 have e1:=dW (n / 4) (by decide:(8:Int)≠0);have e2:=eY (n / 4) (by decide:(0:Int)<8);refine⟨_,rfl,_,_,rfl,rfl,⟨by decide,by decide⟩,_,_,rfl,rfl,(by show(0:Int)<8;decide),_,_,rfl,rfl,_,rfl,by lia,by lia,xQ (lo:=0) (n:=(1+n / 4 % 8).toNat)
  (fun i σ H1=>∃(n':Int)(t:Str)(v4:Option V),σ =[some (.int n'),some (.str kf),some (.str t),v4]/\H1=H/\jH t/\t.length=i) ⟨n,Str.empty,none,rfl,rfl,(fun c hc=>nomatch hc),rfl⟩ ?_ ?_⟩
 ·rintro i σ H1 hi ⟨n',t,v4,rfl,rfl,ht,hl⟩;have m1:=dW (n'*69621+(0+(i:Int))) (by decide:(2147483629:Int)≠0);have m2:=eY (n'*69621+(0+(i:Int))) (by decide:(0:Int)<2147483629);refine⟨_,rfl,_,_,rfl,rfl,.inr ⟨by decide,by decide⟩,_,rfl,_,_,rfl,rfl,_,_,rfl,rfl,(by show(0:Int)<2147483629;decide),?_⟩;obtain⟨c,hc,c1,c2⟩:=LN (i:=(n'*69621+(0+(i:Int))) % 2147483629 % 26) (dW _ (by decide)) (eY _ (by decide));refine⟨_,rfl,_,rfl,_,rfl,_,_,rfl,rfl,(by show(0:Int)<26;decide),_,_,c,rfl,rfl,(by decide),hc,_,_,rfl,rfl,?_,?_⟩
  ·show t.length+1<=sizeLine;exact Zk (by lia)
  ·refine⟨_,t++⟨#[c]⟩,_,rfl,rfl,KO ht (Ku c1 c2).Zti,?_⟩;rw[ZG,hl];rfl
 ·rintro σ H1 ⟨n',t,v4,rfl,rfl,ht,hl⟩;exact⟨_,rfl,q t (JI (Ti ht (by lia)) (by lia))⟩
structure qW(m:Nat)(gs:List Pa)(os:List Str)(i:Nat):Prop where
 sz:(gs.map Pa.sz).sum+os.length<=i
 ok:∀g∈gs,bg m g
 op:∀x∈os,fQ x
theorem qW.Pu{m:Nat}{g0 g1:Pa}{g2:List Pa}{t:Str}{os:List Str}{i:Nat}(h:qW m (g0::g1::g2) (t::os) i):qW m (g1.app (.tag t g0 .nil)::g2) os i:=by
 obtain⟨h1,h3,h4⟩:=h;refine⟨?_,fun g hg=>?_,fun x hx=>h4 x (aW _ hx)⟩
 ·simp only[br,iP,aN,Pa.iu,Pa.sz] at h1 ⊢;lia
 ·rcases aG.mp hg with rfl|hg
  ·exact km (h3 g1 (by simp)) ⟨h4 t (ba ..),h3 g0 (by simp),trivial⟩
  ·exact h3 g (by simp[hg])
def BC:Sp:=fun vs H Q _=>∃(na:Addr)(xs:List Int)(md:Nat),vs=[.ref na,.int (md:Int)]/\H na=some (.lst (xs.map V.int))/\xs.length<=6/\0<md/\md<=4/\∀(r:Addr)(ys:List V)(p:Pa)(H':Hp),ZD H H'->H' r=some (.tup ys)->bq H' ys p->p.sz<=6->bg md p->Q (.ref r) H'
set_option maxHeartbeats 8000000 in
theorem RE(B:∀x∈cF,mg x=none)(sC:bF P w K mg base "_law_tag" ["_law_number"] 1 x6) (F:bO K "_law_parts" "_law_parts" ZS f fd):aX P w K mg base cp 2 f fd ["_law_numbers_here","_law_modes"] BC:=by
 refine F.ok pf (fun vs H Q E h=>?_) (fun aK A outer s H vs Q E hr h=>?_)
 ·obtain⟨na,xs,md,rfl,_⟩:=h;rfl
 obtain⟨na,xs,md,rfl,mh,hx6,m0,m1,q⟩:=h;refine Zw ((Zd ZS).drop 4) (Zf (Zz (ZX Z0 rfl (B "tuple" (by decide)) iY (Za (bo Z6 (pv 3) Zg (fun _ _=>rfl)) Zb)))) (fun u4 h4 e4=>?_);refine Zw ((ZV ((Zd ZS).getD 3 (.Pass ⟨0,0,0,0⟩))).drop 1) (Zf (Z7 (cv cI dX dY ZL (bo Z6 (pv 3) (jF jz Zg) (fun _ _=>rfl)) (Za (cS (Za Zm (Za (m9 cI oK oM m_ (pv 2)) (Za (pv 6) Zb)))) Zb)))) (fun AK vC vk=>?_);refine Zw ((ZV ((Zd ZS).getD 3 (.Pass ⟨0,0,0,0⟩))).drop 0) (Ze (Zx (i:=6) pf.nd rfl (Or.inl rfl) (ZX Z0 rfl (B "tuple" (by decide)) iY (Za (m9 cI oK oM m_ (pv 3)) Zb))) vC) (fun Hk vB vj=>?_);refine Zw ((Zd ZS).drop 3) (Ze (uD iQ (Zr V' (ZF lH rfl (B "len" (by decide)) gb (Za (pv 2) Zb)) Zg (ZK _))
   vB) h4) (fun u3 h3 e3=>?_)
 refine Zw ((i9 ((ZV ((Zd ZS).getD 2 (.Pass ⟨0,0,0,0⟩))).getD 1 (.Pass ⟨0,0,0,0⟩))).drop 1) (Zf (Z7 (cv cI dX dY ZL (pv 3) (Za (dz Zb) Zb)))) (fun Zwq Zp8 Y3=>?_);refine Zw ((i9 ((ZV ((Zd ZS).getD 2 (.Pass ⟨0,0,0,0⟩))).getD 1 (.Pass ⟨0,0,0,0⟩))).drop 0) (Ze (Z7 (cv cI dX dY ZL (pv 2) (Za (dc sC hr rfl (Za (Zv fJ (pv 4) Zg) Zb)) Zb))) Zp8) (fun Zwp Zp7 Y2=>?_);refine Zw ((ZV ((Zd ZS).getD 2 (.Pass ⟨0,0,0,0⟩))).drop 1) (Zf (bt (Zr fv (Zv dm (Zv fJ (pv 4) Zg) Zg) Zg (ZK _))
   (Zf (Z7 (cv cI dX dY ZL (bo Z6 (pv 3) (jF jz Zg) (fun _ _=>rfl)) (Za (cS (Za Zm (Za (Zv dm (Zv fJ (pv 4) Zg) (pv 1)) Zb))) Zb))))
   Zp7)) (fun Zwo Zp6 Y1=>?_)
 refine Zw ((ZV ((ZV ((Zd ZS).getD 2 (.Pass ⟨0,0,0,0⟩))).getD 0 (.Pass ⟨0,0,0,0⟩))).drop 1) (Zf (Z7 (cv cI dX dY ZL (bo Z6 (pv 3) (jF jz Zg) (fun _ _=>rfl)) (Za (cS (Za Zm (Za (m9 cI oK oM m_ (pv 2)) (Za (pv 6) Zb)))) Zb)))) (fun Zyb Zp5 Y0=>?_);refine Zw ((ZV ((ZV ((Zd ZS).getD 2 (.Pass ⟨0,0,0,0⟩))).getD 0 (.Pass ⟨0,0,0,0⟩))).drop 0) (Ze (Zx (i:=6) pf.nd rfl (Or.inl rfl) (ZX Z0 rfl (B "tuple" (by decide)) iY (Za (m9 cI oK oM m_ (pv 3)) Zb))) Zp5) (fun Zya Zp4 YZ=>?_);refine Zw ((ZV ((Zd ZS).getD 2 (.Pass ⟨0,0,0,0⟩))).drop 0) (Ze (jx iQ rfl (xP rfl (B "range" (by decide)) (Za (ZF (RN rfl) rfl (B "min" (by decide)) Vj (Za (ZF lH rfl (B "len" (by decide)) gb (Za (pv 2) Zb)) (Za (bo Z6 (dz (Za Zg (Za Zg (Za Zg (Za Zg Zb))))) (Zv dm (pv 4) Zg) (fun _ _=>rfl)) Zb))) Zb)) (dA (i:=5) pf.nd rfl (Or.inl rfl))
   Zp4) Zp6) (fun Zx9 Zp3 YY=>?_)
 refine Zw ((Zd ZS).drop 2) (Ze (jx iQ rfl (uL (pv 0)) (dA (i:=4) pf.nd rfl (Or.inl rfl))
   Zp3) h3) (fun u2 h2 e2=>?_)
 refine Zw ((Zd ZS).drop 1) (Ze (Zx (i:=3) pf.nd rfl (Or.inl rfl) (dz (Za (dz Zb) Zb))) h2) (fun u1 h1 e1=>?_);refine Zw ((Zd ZS).drop 0) (Ze (Zx (i:=2) pf.nd rfl (Or.inl rfl) (dz Zb)) h1) (fun u0 h0 e0=>?_);refine⟨u0,h0,?_⟩;refine Zq e0 ?_;refine⟨by decide,fun T hT=>?_⟩;show u1 _ _ _;refine Zq e1 ?_;refine⟨by decide,fun a0 h0=>⟨(by show 1<=sizeLine;decide),fun R hR=>?_⟩⟩;have g0:=bp.Hc hT h0 hR;show u2 _ _ _;refine Zq e2 ?_;generalize upd (upd (upd H T (.lst [])) a0 (.lst [])) R (.lst [.ref a0])=H1 at g0 ⊢;refine⟨_,rfl,na,rfl,⟨_,ak.of (g0.sm _ _ mh)⟩,B2 (K:=K) (a:=na) (xs:=xs.map V.int) (fun i σ H2=>∃(as:List Addr)(gs:List Pa)(os:List Str)(v7 v8 v9:Option V),σ =[some (.ref na),some (.int (md:Int)),some (.ref T),some (.ref R),v7,v8,v9]/\bp H H2 R T as gs os/\qW md gs os i)
  ⟨_,_,_,none,none,none,rfl,g0,⟨az _,fun g hg=>by rw[bh.mp hg];exact trivial,fun _ h=>(nomatch h)⟩⟩ ?_ ?_ ?_⟩
 ·rintro i σ H2 _ ⟨_,_,_,_,_,_,_,hg,_⟩;exact ak.of (hg.sm _ _ mh)
 ·rintro i x σ H2 hx ⟨as,gs,os,v7,v8,v9,rfl,hg,hb⟩;obtain⟨nP,hix⟩:=cA.mp hx;rw[aV] at nP;obtain rfl:x=V.int xs[i]:=by
   rw[<- hix,List.getElem_map]
  generalize xs[i]=num;have mK:=dW num (by decide:(4:Int)≠0);have mL:=eY num (by decide:(0:Int)<4);obtain⟨cl,bM⟩:=Lo (ns:=[0,0,1,2]) mK mL;have cl0:0<=cl:=by
   generalize num % 4=z at mK mL bM;rcases(show z=0\/z=1\/z=2\/z=3 by lia) with rfl|rfl|rfl|rfl
   ·injection bM with bM;injection bM with bM;lia
   ·injection bM with bM;injection bM with bM;lia
   ·injection bM with bM;injection bM with bM;lia
   ·injection bM with bM;injection bM with bM;lia
  refine Zq YY ?_;refine⟨_,rfl,T,_,rfl,.inl (ak.of hg.hT),(by show 4<=sizeLine;decide),fun L hL=>?_⟩;have sL:ZD H2 (upd H2 L (.lst [.int 0,.int 0,.int 1,.int 2])):=ZD.new hL;have FE:bp H (upd H2 L (.lst [.int 0,.int 0,.int 1,.int 2])) R T as gs os:=hg.more sL;refine⟨_,rfl,_,_,rfl,rfl,(by show(0:Int)<4;decide),L,_,_,_,rfl,rfl,ak.of Zc,bM,_,_,rfl,?_⟩;generalize upd H2 L (.lst [.int 0,.int 0,.int 1,.int 2])=H3 at sL FE ⊢;clear hg sL hL;have hbo:os.length<=6:=by
   have:=hb.sz;lia
  have qi:((os.map V.str).reverse.length:Int)=(os.length:Int):=by rw[tV,aV]
  obtain⟨c,hc,Zxm⟩:∃c:Nat,(if cl<((os.map V.str).reverse.length:Int) then cl else((os.map V.str).reverse.length:Int))=(c:Int)/\c<=os.length:=by
   rw[qi];by_cases z:cl<(os.length:Int)
   ·exact⟨cl.toNat,by rw[ah z];lia,by lia⟩
   ·exact⟨os.length,by rw[af z],az _⟩
  refine⟨(c:Int),(congrArg (fun z=>[V.int z]) hc),by lia,by lia,xQ (lo:=0) (n:=c) (fun j σ H4=>∃(as:List Addr)(gs:List Pa)(gi:List Str)(v8 v9:Option V),σ =[some (.ref na),some (.int (md:Int)),some (.ref T),some (.ref R),some (.int num),v8,v9]/\bp H H4 R T as gs gi/\qW md gs gi i/\gi.length+j=os.length)
   ⟨as,gs,os,v8,v9,rfl,FE,hb,rfl⟩ ?_ ?_⟩
  ·rintro j σ H4 hj ⟨as,gs,gi,v8,v9,rfl,hg,hb,zL⟩;cases gi with
   | nil =>
    rw[tT] at zL;lia
   | cons t gi =>
    obtain⟨b0,b1,a2,g0,g1,g2,vs0,eW,rfl,rfl,cw,dS,eQ,iM,jQ,iD⟩:=hg.two;have vY:=iM.length;have sY:g1.sz<=6:=by
     have:=hb.sz;simp only[br,iP] at this;lia
    refine Zq YZ ?_;refine⟨_,rfl,.inl ⟨rfl,_,ak.of jQ⟩,R,_,_,rfl,rfl,jQ,mR _ _,?_⟩;rw[mW];have pW:(upd H4 R (.lst ((b1::a2).map V.ref).reverse)) b0=some (.lst vs0):=by
     rw[Zi (hg.nR b0 (by simp))];exact cw
    refine⟨b0,vs0,rfl,.inl ⟨ak.of pW,fun l hl=>?_⟩⟩;refine Zq Y0 ?_;have gz:(upd (upd H4 R (.lst ((b1::a2).map V.ref).reverse)) l (.tup vs0)) R=some (.lst ((a2.map V.ref).reverse ++ [.ref b1])):=by
     rw[Zi (Z1 hl).1.symm,Zc,br,gM]
    have pX:(upd (upd H4 R (.lst ((b1::a2).map V.ref).reverse)) l (.tup vs0)) b1=some (.lst eW):=by
     rw[Zi (Zo eQ (Z1 hl).2),Zi (hg.nR b1 (by simp))];exact eQ
    have iC:(upd (upd H4 R (.lst ((b1::a2).map V.ref).reverse)) l (.tup vs0)) T=some (.lst ((gi.map V.str).reverse ++ [.str t])):=by
     rw[Zi (Zo hg.hT (Z1 hl).2),Zi hg.RT.symm];exact iD
    refine⟨_,rfl,1,rfl,R,_,-1,.ref b1,rfl,rfl,ak.of gz,jv _ _,.inl ⟨rfl,_,ak.of pX⟩,_,rfl,.inl ⟨rfl,_,ak.of iC⟩,T,_,_,rfl,rfl,iC,mR _ _,?_⟩;rw[mW];refine⟨_,rfl,(by show 3<=sizeLine;decide),fun l2 gC=>?_⟩;obtain⟨_,_,_,_,z5,z6⟩:=hg.AG cw dS eQ iM hl gC;refine⟨b1,_,_,rfl,rfl,z5,ZW (by lia),?_⟩;rw[aN] at zL;exact⟨_,_,gi,_,_,rfl,z6,hb.Pu,by lia⟩
  ·rintro σ H4 ⟨as,gs,gi,v8,v9,rfl,hg,hb,zL⟩;clear FE zL;have jT:=hg.gl;have kC:=hb.sz;have hal:as.length=gs.length:=f_ hg.rows;have qi:gi.length<=6:=by lia
   show Zwo _ _ _;refine Zq Y1 ?_;have ZwW:(gs.map Pa.sz).sum+gi.length<=i:=kC;refine via (t:=Zwp) (R:=fun σ H5=>σ =[some (.ref na),some (.int (md:Int)),some (.ref T),some (.ref R),some (.int num),v8,v9]/\H5=H4) ?_ fun fin=>?_
   ·rintro σ H5 ⟨rfl,rfl⟩;refine Zq Y2 ?_;refine⟨_,rfl,.inl ⟨rfl,_,ak.of hg.hT⟩,_,rfl,_,_,rfl,rfl,⟨by decide,by decide⟩,num / 12,rfl,fun tt zX=>⟨T,_,_,rfl,rfl,hg.hT,ZW (by rw[tV,aV];lia),?_⟩⟩;have nC:(upd H5 T (.lst ((gi.map V.str).reverse ++ [.str tt]))) R=some (.lst (as.map V.ref).reverse):=by
     rw[Zi hg.RT];exact hg.hR
    show Zwq _ _ _;refine Zq Y3 ?_;refine⟨_,rfl,.inl ⟨rfl,_,ak.of nC⟩,by decide,fun l hl=>?_⟩;obtain⟨_,dg⟩:=Z1 hl;have gz:(upd (upd H5 T (.lst ((gi.map V.str).reverse ++ [.str tt]))) l (.lst [])) R=some (.lst (as.map V.ref).reverse):=by
     rw[Zi (Zo hg.hR dg)];exact nC
    refine⟨R,_,_,rfl,rfl,gz,ZW (by rw[tV,aV];lia),?_⟩;refine⟨_,_,_,_,_,_,rfl,hg.opened hl,⟨?_,fun g gh=>?_,fun x hx=>?_⟩⟩
    ·simp only[br,iP,aN,Pa.sz];lia
    ·rcases aG.mp gh with rfl|gh
     ·exact trivial
     ·exact hb.ok g gh
    ·rcases aG.mp hx with rfl|hx
     ·exact rS.mp zX
     ·exact hb.op x hx
   ·refine⟨_,rfl,_,_,rfl,rfl,⟨by decide,by decide⟩,_,_,rfl,rfl,(by show(0:Int)<3;decide),rfl,_,rfl,dC (fun c1=>?_) (fun c1=>fin _ _ ⟨rfl,rfl⟩)⟩;have cG:=hg.rows;cases gs with
    | nil=>simp at jT
    | cons g0 gs =>
     cases cG with
     | @cons b0 _ a1 _ r0 cG =>
      obtain⟨vs0,cw,dS⟩:=r0;have nE:H4 R=some (.lst ((a1.map V.ref).reverse ++ [.ref b0])):=by rw[hg.hR,br,gM]
      have Gd:=dS.length;have ZxL:g0.sz<=6:=by
       simp only[br,iP] at kC;lia
      refine⟨_,rfl,1,rfl,R,_,-1,.ref b0,rfl,rfl,ak.of nE,jv _ _,.inl ⟨rfl,_,ak.of cw⟩,_,rfl,_,_,rfl,rfl,⟨by decide,by decide⟩,_,rfl,_,_,rfl,rfl,(by show(0:Int)<(md:Int);lia),(by show 2<=sizeLine;decide),fun pt eU=>?_⟩;have s5:ZD H4 (upd H4 pt (.tup [.str "kids",.int (num / 12 % (md:Int))])):=ZD.new eU;have qA:pt≠b0:=fun z=>by rw[z,cw] at eU;cases eU
      refine⟨b0,_,_,rfl,rfl,s5 _ _ cw,ZW (by lia),?_⟩;refine⟨_,_,_,_,_,_,rfl,hg.put (q:=.kids (num / 12 % (md:Int)) .nil) cw dS s5 (.kids (by rw[Zi qA];exact Zc) .nil),⟨?_,fun g gh=>?_,hb.op⟩⟩
      ·simp only[br,iP,Pa.iu,Pa.sz] at kC ⊢;lia
      ·rcases aG.mp gh with rfl|gh
       ·exact km (hb.ok g0 (ba ..)) ⟨⟨dW _ (by lia),eY _ (by lia)⟩,trivial⟩
       ·exact hb.ok g (aW _ gh)
 ·rintro σ H2 ⟨as,gs,os,v7,v8,v9,rfl,hg,hb⟩;rw[aV] at hb;show u3 _ _ _;refine Zq e3 ?_
  let W:Nat->St->Hp->Prop:=fun n σ H3=>∃(as:List Addr)(gs:List Pa)(os:List Str)(v9:Option V),σ =[some (.ref na),some (.int (md:Int)),some (.ref T),some (.ref R),v7,v8,v9]/\bp H H3 R T as gs os/\qW md gs os xs.length/\n=os.length
  refine⟨W,⟨_,as,gs,os,v9,rfl,hg,hb,rfl⟩,?_⟩;clear hb hg;rintro n σ H3 ⟨as,gs,os,v9,rfl,hg,hb,rfl⟩;refine⟨_,rfl,T,_,rfl,.inl (ak.of hg.hT),_,_,rfl,rfl,_,rfl,dC (fun cc=>?_) (fun cc=>?_)⟩
  ·cases os with
   | nil=>exact absurd (ig cc) (by decide)
   | cons t os =>
    obtain⟨b0,b1,a2,g0,g1,g2,vs0,eW,rfl,rfl,cw,dS,eQ,iM,jQ,iD⟩:=hg.two;have vY:=iM.length;have sY:g1.sz<=6:=by
     have:=hb.sz;simp only[br,iP] at this;lia
    refine⟨fun ao H'=>∃m',m'<(t::os).length/\W m' ao H',fun _ _ h=>h,?_⟩;refine Zq vj ?_;refine⟨_,rfl,.inl ⟨rfl,_,ak.of jQ⟩,R,_,_,rfl,rfl,jQ,mR _ _,?_⟩;rw[mW];have pW:(upd H3 R (.lst ((b1::a2).map V.ref).reverse)) b0=some (.lst vs0):=by
     rw[Zi (hg.nR b0 (by simp))];exact cw
    refine⟨b0,vs0,rfl,.inl ⟨ak.of pW,fun l hl=>?_⟩⟩;refine Zq vk ?_;have gz:(upd (upd H3 R (.lst ((b1::a2).map V.ref).reverse)) l (.tup vs0)) R=some (.lst ((a2.map V.ref).reverse ++ [.ref b1])):=by
     rw[Zi (Z1 hl).1.symm,Zc,br,gM]
    have pX:(upd (upd H3 R (.lst ((b1::a2).map V.ref).reverse)) l (.tup vs0)) b1=some (.lst eW):=by
     rw[Zi (Zo eQ (Z1 hl).2),Zi (hg.nR b1 (by simp))];exact eQ
    have iC:(upd (upd H3 R (.lst ((b1::a2).map V.ref).reverse)) l (.tup vs0)) T=some (.lst ((os.map V.str).reverse ++ [.str t])):=by
     rw[Zi (Zo hg.hT (Z1 hl).2),Zi hg.RT.symm];exact iD
    refine⟨_,rfl,1,rfl,R,_,-1,.ref b1,rfl,rfl,ak.of gz,jv _ _,.inl ⟨rfl,_,ak.of pX⟩,_,rfl,.inl ⟨rfl,_,ak.of iC⟩,T,_,_,rfl,rfl,iC,mR _ _,?_⟩;rw[mW];refine⟨_,rfl,(by show 3<=sizeLine;decide),fun l2 gC=>?_⟩;obtain⟨_,_,_,_,z5,z6⟩:=hg.AG cw dS eQ iM hl gC;refine⟨b1,_,_,rfl,rfl,z5,ZW (by lia),?_⟩;exact⟨os.length,by rw[aN];lia,_,_,os,_,rfl,z6,hb.Pu,rfl⟩
  ·cases os with
   | cons t os =>
    refine absurd (aQ ?_) cc;show(0:Int)<((((t::os).map V.str).reverse.length:Nat):Int);rw[tV,aV,aN];lia
   | nil =>
    have jT:=hg.gl;have cG:=hg.rows;cases gs with
    | nil=>simp at jT
    | cons g gs =>
     obtain rfl:gs=[]:=la (by simpa using jT);cases cG with
     | @cons b _ _ _ r cG =>
      cases cG;obtain⟨vs,kD,qd⟩:=r;refine Zq e4 ?_;refine⟨_,rfl,R,_,0,.ref b,rfl,rfl,ak.of hg.hR,rfl,b,vs,rfl,.inl ⟨ak.of kD,fun r hr=>?_⟩⟩;have h1:=hb.sz;simp only[br,List.map_nil,iP,List.sum_nil,tT] at h1;exact q r vs g _ (hg.sm.eV (hg.sm.free hr)) Zc (qd.mono (TK.new hr)) (by lia) (hb.ok g (ba ..))
def nh(i:Int)(t:Str):List Key:=[Sum.inl i,Sum.inr t]
def fc(H:Hp)(m:List (List Key×V))(rs:List (Rl)):Prop:=Paired (fun(kv:List Key×V)(r:Rl)=>kv.1=nh r.1 r.2.1/\∃q ys,kv.2=V.ref q/\H q=some (.tup ys)/\bq H ys r.2.2) m rs
theorem fc.tk{H H':Hp}(k:TK H H'):∀{m:List (List Key×V)}{rs:List (Rl)},fc H m rs->fc H' m rs
 | _,_,.nil=>.nil
 | _,_,.cons ⟨e,q,ys,h1,h2,h3⟩ t=>.cons ⟨e,q,ys,h1,k _ _ h2,h3.mono k⟩ (fc.tk k t)
theorem fc.keys{H:Hp}:∀{m:List (List Key×V)}{rs:List (Rl)},fc H m rs->m.map (·.1)=(rs.map aI).map bR
 | _,_,.nil=>rfl
 | _,_,.cons ⟨e,_⟩ t=>by rw[br,br,br,e,fc.keys t];rfl
theorem fc.val{H:Hp}:∀{m:List (List Key×V)}{rs:List (Rl)},fc H m rs->∀k:bj.Ps,(k∉rs.map aI/\gv m (bR k)=none)\/∃r q ys,r∈rs/\aI r=k/\gv m (bR k)=some (.ref q)/\H q=some (.tup ys)/\bq H ys r.2.2
 | _,_,.nil,k=>.inl ⟨by simp,rfl⟩
 | _,_,.cons (a:=kv) (b:=r) (l₁ := m) ⟨e,q,ys,h1,h2,h3⟩ t,k=>by
  obtain⟨kk,v⟩:=kv;have e:kk=bR (aI r):=e;have h1:v=V.ref q:=h1;subst e h1;by_cases c:aI r=k
  ·refine .inr ⟨r,q,ys,by simp,c,?_,h2,h3⟩;rw[<- c];exact xI rfl
  ·have c':bR (aI r)≠bR k:=fun z=>c (uJ z);have ev:gv ((bR (aI r),V.ref q)::m) (bR k)=gv m (bR k):=xY c';rw[ev];rcases fc.val t k with⟨h,hv⟩|⟨r',q',lE,h,z⟩
   ·refine .inl ⟨fun z=>?_,hv⟩;rw[br] at z;rcases aG.mp z with z|z
    ·exact c z.symm
    ·exact h z
   ·exact .inr ⟨r',q',lE,aW _ h,z⟩
theorem fc.put{H:Hp}{m:List (List Key×V)}{rs:List (Rl)}(h:fc H m rs){r:Rl}{q:Addr}{ys:List V}(nk:aI r∉rs.map aI)(hq:H q=some (.tup ys))(hp:bq H ys r.2.2):fc H (putK m (nh r.1 r.2.1) (.ref q)) (rs ++ [r]):=by
 have:(m.any fun kv=>decide (kv.1=nh r.1 r.2.1))=false:=by
  refine Bool.eq_false_iff.mpr fun z=>?_;obtain⟨kv,FL,z⟩:=List.any_eq_true.mp z;have z:=ig z;have e:kv.1∈(rs.map aI).map bR:=by
   rw[<- h.keys];exact AV FL
  obtain⟨k,hk,e⟩:=gL.mp e;rw[z] at e;have:k=aI r:=uJ e;exact nk (this ▸ hk)
 unfold putK;rw[this];exact Paired.app h (.cons ⟨rfl,q,ys,rfl,hq,hp⟩ .nil)
theorem UE(xs:List V)(i j:Nat)(h:i<=j)(hj:j<=xs.length):dI xs (some (i:Int)) (some (j:Int))=(xs.drop i).take (j-i):=by
 unfold dI;rw[HT.yb,HT.yb,Nat.min_eq_left hj,Nat.min_eq_left (by lia)]
structure GoodR(md:Nat)(rs:List (Rl)):Prop where
 ok:∀r∈rs,gK md r/\r.2.2.sz<=6
 nd:(rs.map aI).Nodup
theorem fc.put2{H:Hp}{md:Nat}{m:List (List Key×V)}{rs:List (Rl)}(h:fc H m rs)(ho:GoodR md rs){r:Rl}{q:Addr}{ys:List V}(hq:H q=some (.tup ys))(hp:bq H ys r.2.2)(hi:gK md r/\r.2.2.sz<=6):∃dy,fc H (putK m (nh r.1 r.2.1) (.ref q)) dy/\GoodR md dy/\dy ≠ []/\dy.length<=rs.length+1:=by
 by_cases c:aI r∈rs.map aI
 ·have c2:(m.any fun kv=>decide (kv.1=nh r.1 r.2.1))=true:=by
   have:bR (aI r)∈m.map (·.1):=by
    rw[h.keys];exact AV c
   obtain⟨kv,FL,e⟩:=gL.mp this;exact List.any_eq_true.mpr ⟨kv,FL,aQ e⟩
  unfold putK;rw[ah c2]
  let g:Rl->Rl:=fun x=>if aI x=aI r then r else x
  have hg:∀x,aI (g x)=aI x:=fun x=>by
   by_cases z:aI x=aI r
   ·simp only[g,ah z];exact z.symm
   ·simp only[g,af z]
  refine⟨rs.map g,?_,⟨fun x hx=>?_,?_⟩,?_,by rw[aV];lia⟩
  ·clear c ho c2
   induction h with
   | nil=>exact .nil
   | @cons kv x m rs hh tl ih =>
    refine .cons ?_ ih;obtain⟨e,q',lE,e1,e2,e3⟩:=hh;by_cases z:kv.1=nh r.1 r.2.1
    ·have z':aI x=aI r:=uJ (show bR (aI x)=bR (aI r) by rw[show bR (aI r)=kv.1 from z.symm];exact e.symm);simp only[g,ah z,ah z'];exact⟨z,q,ys,rfl,hq,hp⟩
    ·have z' : ¬ aI x=aI r:=fun w=>z (e.trans (congrArg bR w));simp only[g,af z,af z'];exact⟨e,q',lE,e1,e2,e3⟩
  ·obtain⟨x0,hx0,rfl⟩:=gL.mp hx;by_cases z:aI x0=aI r
   ·simp only[g,ah z];exact hi
   ·simp only[g,af z];exact ho.ok x0 hx0
  ·rw[w_,show aI ∘ g=aI from funext hg];exact ho.nd
  ·intro z;rw[List.map_eq_nil_iff] at z;rw[z] at c;cases c
 ·refine⟨rs ++ [r],h.put c hq hp,⟨fun x hx=>?_,?_⟩,by simp,by rw[bu];exact az _⟩
  ·rcases bK.mp hx with hx|hx
   ·exact ho.ok x hx
   ·rw[bh.mp hx];exact hi
  ·rw[fF];refine List.nodup_append.mpr ⟨ho.nd,by simp,fun x hx y hy e=>?_⟩;have hy:y=aI r:=by simpa using hy
   rw[e,hy] at hx;exact c hx
theorem GoodR.none{md:Nat}:GoodR md []:=⟨fun _ h=>(nomatch h),List.nodup_nil⟩
def BG:Sp:=fun vs H Q _=>∃(na:Addr)(xs:List Int)(md k:Nat),vs=[.int (md:Int),.ref na]/\H na=some (.lst (xs.map V.int))/\xs.length=7*k/\k<=8/\1<=md/\md<=4/\∀(d:Addr)(m:List (List Key×V))(rs:List Rl)(H':Hp),ZD H H'->H' d=some (.dT m)->fc H' m rs->GoodR md rs->rs.length<=8->Q (.ref d) H'
set_option maxHeartbeats 4000000 in
theorem Rm(B:∀x∈cF,mg x=none)(E6:bF P w K mg base "_law_parts" ["_law_numbers_here","_law_modes"] 2 BC) (sC:bF P w K mg base "_law_tag" ["_law_number"] 1 x6) (F:bO K "_law_known" "_law_known" i4 f fd):aX P w K mg base cp 3 f fd ["_law_modes","_law_numbers_here"] BG:=by
 refine F.ok xE (fun vs H Q E h=>?_) (fun aK A outer s H vs Q E hr h=>?_)
 ·obtain⟨na,xs,md,k,rfl,_⟩:=h;rfl
 obtain⟨na,xs,md,k,rfl,mh,tf,k8,m1,m4,q⟩:=h;have s_:(A.deeper (PyProof.Rows.envOfC (Str.ofString "_law_known") (Zh i4) s.heap.objs.size f aK)).units+1<cLine:=by have:=hr.un;lia
 refine Zw ((Zd i4).drop 2) (Zf (Zz (pv 2))) (fun u2 h2 e2=>?_);refine Zw ((ZV ((Zd i4).getD 1 (.Pass ⟨0,0,0,0⟩))).drop 1) (Zf (Uz s_ (pv 2) (cS (Za (Zv dm (bo Z6 (pv 1) (pv 3) (fun _ _=>rfl)) (pv 0)) (Za (dc sC hr rfl (Za (Zv fJ (bo Z6 (pv 1) (pv 3) (fun _ _=>rfl)) Zg) Zb)) Zb))) (pv 4) rfl)) (fun Hj Ff EO=>?_);refine Zw ((ZV ((Zd i4).getD 1 (.Pass ⟨0,0,0,0⟩))).drop 0) (Ze (Zx (i:=4) xE.nd rfl (Or.inl rfl) (dc E6 hr rfl (Za (fK yg (pv 1) (eL (Zv gm (pv 3) Zg)) (eL (Zv gm (Zv gm (pv 3) Zg) (Zv dm (Zv fJ (bo Z6 (pv 1) (pv 3) (fun _ _=>rfl)) Zg) Zg)))) (Za (pv 0) Zb)))) Ff) (fun Hi Fe EN=>?_);refine Zw ((Zd i4).drop 1) (Ze (jx iQ rfl (Sh rfl (B "range" (by decide)) (Za Zg (Za (ZF lH rfl (B "len" (by decide)) gb (Za (pv 1) Zb)) (Za Zg Zb)))) (dA (i:=3) xE.nd rfl (Or.inl rfl))
   Fe) h2) (fun u1 h1 e1=>?_)
 refine Zw ((Zd i4).drop 0) (Ze (Zx (i:=2) xE.nd rfl (Or.inl rfl) SV) h1) (fun u0 h0 e0=>?_);refine⟨u0,h0,?_⟩;refine Zq e0 ?_;refine fun d hd=>?_;have s0:ZD H (upd H d (.dT [])):=ZD.new hd;have sH:(upd H d (.dT [])) d=some (.dT []):=Zc;show u1 _ _ _;refine Zq e1 ?_;generalize upd H d (.dT [])=H0 at s0 sH ⊢;have rsz:(Builtin.Range.rangeSize 0 ((xs.map V.int).length:Int) 7).toNat=k:=by
  rw[aV,tf];unfold Builtin.Range.rangeSize;rw[ah (by decide)]
  split <;> lia
 refine⟨_,rfl,na,_,rfl,.inl (ak.of (s0 _ _ mh)),0,_,7,rfl,⟨by decide,by decide,by lia,by rw[aV];lia⟩,⟨by decide,by decide⟩,?_⟩;rw[rsz];refine Sw (fun i σ H1=>∃(v3 v4:Option V)(m:List (List Key×V))(rs:List Rl),σ =[some (.int (md:Int)),some (.ref na),some (.ref d),v3,v4]/\ZD H H1/\H1 d=some (.dT m)/\fc H1 m rs/\GoodR md rs/\rs.length<=i)
  ⟨none,none,[],[],rfl,s0,sH,.nil,GoodR.none,az _⟩ ?_ ?_
 ·rintro i σ H1 hi ⟨v3,v4,m,rs,rfl,s1,iE,hm,hg,iJ⟩;have FP:=s1 _ _ mh;have kB:7*i<xs.length:=by lia
  have g0:dO (xs.map V.int) (0+(i:Int)*7)=some (.int (xs[7*i])):=by
   rw[show(0:Int)+(i:Int)*7=((7*i:Nat):Int) by lia];exact i8 (by rw[f',cH kB];rfl)
  generalize xs[7*i]=num at g0;show Hi _ [some (.int (md:Int)),some (.ref na),some (.ref d),some (.int (0+(i:Int)*7)),v4] H1;refine Zq EN ?_;have b0:=dW (num / 8) (by decide:(7:Int)≠0);have b1:=eY (num / 8) (by decide:(0:Int)<7);obtain⟨j,hj,hj5⟩:∃j:Nat,0+(i:Int)*7+1+num / 8 % 7=((7*i+1+j:Nat):Int)/\j<=6:=⟨(num / 8 % 7).toNat,by lia,by lia⟩;have ER:dI (xs.map V.int) (some (0+(i:Int)*7+1)) (some (0+(i:Int)*7+1+num / 8 % 7))=((xs.drop (7*i+1)).take j).map V.int:=by
   rw[hj,show(0:Int)+(i:Int)*7+1=((7*i+1:Nat):Int) by lia,UE _ _ _ (by lia) (by rw[aV];lia),List.map_take,List.map_drop,show 7*i+1+j-(7*i+1)=j by lia]
  refine⟨_,rfl,_,rfl,_,_,rfl,rfl,_,rfl,_,rfl,_,_,rfl,rfl,_,rfl,_,rfl,na,_,_,_,rfl,rfl,ak.of FP,g0,_,_,rfl,rfl,⟨by decide,by decide⟩,_,_,rfl,rfl,(by show(0:Int)<7;decide),_,_,rfl,rfl,_,rfl,na,_,rfl,ak.of FP,fun C hC=>?_⟩;rw[ER];have s3:=ZD.new (o:=.lst (((xs.drop (7*i+1)).take j).map V.int)) hC;refine⟨_,rfl,C,(xs.drop (7*i+1)).take j,md,rfl,Zc,by rw[dM];lia,by lia,by lia,fun r ys p H4 s4 hr4 hp hsz aq=>?_⟩;have G_:=s3.trans s4;have hd4:=G_ _ _ iE;have Ot:=G_ _ _ FP;have hml:m.length=rs.length:=f_ hm;show Hj _ [some (.int (md:Int)),some (.ref na),some (.ref d),some (.int (0+(i:Int)*7)),some (.ref r)] H4;refine Zq EO ?_;refine⟨_,rfl,_,rfl,_,rfl,_,rfl,na,_,_,_,rfl,rfl,ak.of Ot,g0,_,rfl,_,_,rfl,rfl,(by show(0:Int)<(md:Int);lia),_,rfl,_,rfl,na,_,_,_,rfl,rfl,ak.of Ot,g0,_,_,rfl,rfl,⟨by decide,by decide⟩,num / 4,rfl,fun tg zW=>⟨(by show 2<=sizeLine;decide),fun pr hpr=>?_⟩⟩;have s5:=ZD.new (o:=.tup [.int (num % (md:Int)),.str tg]) hpr;have N2:=s5 _ _ hd4;refine⟨d,_,rfl,vd.t (k:=nh (num % (md:Int)) tg) N2 Zc (ZW (by lia)),?_⟩;have Hf:TK (upd H4 pr (.tup [.int (num % (md:Int)),.str tg])) (upd (upd H4 pr (.tup [.int (num % (md:Int)),.str tg])) d (.dT (putK m (nh (num % (md:Int)) tg) (.ref r)))):=fun b ys e=>by
   rw[Zi (Mo e N2 (fun z=>nomatch z))]
   exact e
  have Pr:=G_.trans s5;obtain⟨dy,g1,g2,g3,g4⟩:=((hm.tk Pr.tk).tk Hf).put2 hg (r:=(num % (md:Int),tg,p)) (Hf _ _ (s5 _ _ hr4)) ((hp.mono s5.tk).mono Hf) ⟨⟨⟨dW _ (by lia),eY _ (by lia)⟩,rS.mp zW,aq⟩,hsz⟩;exact⟨_,_,_,dy,rfl,(s1.trans Pr).eV hd,Zc,g1,g2,by lia⟩
 ·rintro σ H1 ⟨v3,v4,m,rs,rfl,s1,iE,hm,hg,iJ⟩;show u2 _ _ _;refine Zq e2 ?_;exact⟨_,rfl,q d m rs H1 s1 iE hm hg (by lia)⟩
theorem RB{X:Cx}(hu:X.A.units+200<cLine):bB X (compareOp .Eq) (fun x y H Q=>∃a b xs,x=.ref a/\y=.ref b/\aL X.K H a xs/\aL X.K H b []/\Q (.bl xs.isEmpty) H):=by
 intro pins s σ H x y v u Q I rx ry h;obtain⟨a,b,xs,rfl,rfl,ha,hb,q⟩:=h;cases rx;cases ry;obtain⟨its,r1,p1,z1⟩:=I.tuple ha;obtain⟨mr,r2,p2,z2⟩:=I.tuple hb;cases r2;refine PySem.SeqAt.eq_tupleAt (e:=fun _=>false) p1 p2 (by lia) (fun j j1 j2=>absurd j2 (by simp)) ⟨.bl _,H,I,rfl,?_⟩;have e:((List.range (min its.toArray.size (List.toArray ([]:List Value)).size)).all (fun _=>false)&&its.toArray.size == (List.toArray ([]:List Value)).size)=xs.isEmpty:=by
  cases r1 with
  | nil=>simp
  | cons _ _=>simp
 rw[e];exact q
theorem RF{X:Cx}(hu:X.A.units+200<cLine):bB X (compareOp .NotEq) (fun x y H Q=>∃a b xs,x=.ref a/\y=.ref b/\aL X.K H a xs/\aL X.K H b []/\Q (.bl (!xs.isEmpty)) H):=by
 intro pins s σ H x y v u Q I rx ry h;obtain⟨a,b,xs,rfl,rfl,ha,hb,q⟩:=h;cases rx;cases ry;obtain⟨its,r1,p1,z1⟩:=I.tuple ha;obtain⟨mr,r2,p2,z2⟩:=I.tuple hb;cases r2;refine PySem.SeqAt.RcNeAt.tuples (e:=fun _=>false) p1 p2 (by lia) (fun j j1 j2=>absurd j2 (by simp)) X.prog X.w X.xe _ ⟨.bl _,H,I,rfl,?_⟩;have e:((List.range (min its.toArray.size (List.toArray ([]:List Value)).size)).all (fun _=>false)&&its.toArray.size == (List.toArray ([]:List Value)).size)=xs.isEmpty:=by
  cases r1 with
  | nil=>simp
  | cons _ _=>simp
 rw[e];exact q
theorem L3{n:Int}(h0:0<=n)(h1:n<4):dO (Str.cps "0123").toList n=some (48+n.toNat):=by
 have:n=0\/n=1\/n=2\/n=3:=by lia
 rcases this with rfl|rfl|rfl|rfl <;> rfl
theorem rO{m:Nat}:∀{p q:Pa},bg m (p.app q)->bg m p/\bg m q
 | .nil,_,h=>⟨trivial,h⟩
 | .kids _ o,_,h=>⟨⟨h.1,(rO (p:=o) h.2).1⟩,(rO (p:=o) h.2).2⟩
 | .tag _ _ o,_,h=>⟨⟨h.1,h.2.1,(rO (p:=o) h.2.2).1⟩,(rO (p:=o) h.2.2).2⟩
theorem BY{m:Nat}:∀(i:Nat){p:Pa},bg m p->bg m (p.take i)
 | 0,_,_=>trivial
 | _+1,.nil,_=>trivial
 | i+1,.kids _ o,h=>⟨h.1,BY i h.2⟩
 | i+1,.tag _ _ o,h=>⟨h.1,h.2.1,BY i h.2.2⟩
theorem pI{m:Nat}:∀{p:Pa},bg m p->(tP p).length+1<=12*p.sz+1
 | .nil,_=>az _
 | .kids n o,h=>by
  have:=pI h.2;simp only[tP,Pa.sz,aN]
  split
  ·show 0+1+1<=_;lia
  ·simp only[aN];lia
 | .tag t w o,h=>by
  have h1:=pI h.2.1;have h2:=pI h.2.2;have h3:=h.1.2.2;simp only[tP,Pa.sz,bu];have a1:(if aB w=true then [] else 40::(tP w ++ [41])).length<=12*w.sz+2:=by
   split
   ·exact bi _
   ·simp only[aN,bu,tT];lia
  have a2:(if aB o=true then [] else 32::tP o).length<=12*o.sz+1:=by
   split
   ·exact bi _
   ·simp only[aN];lia
  lia
theorem K9(sep y:Str):∀(x:Str)(xs:List Str),jn sep (x::xs ++ [y])=jn sep (x::xs)++cs sep++cs y
 | x,[]=>by show cs x++(cs sep++cs y)=cs x++cs sep++cs y;rw[bS]
 | x,z::r=>by
  show cs x++(cs sep++jn sep (z::r ++ [y]))=cs x++(cs sep++jn sep (z::r))++cs sep++cs y;rw[K9 sep y z r];simp only[bS]
structure Tx(ts:List Str)(p:Pa):Prop where
 e:jn " " ts=tP p
 n:ts.isEmpty=aB p
 s:(ts.map (·.length)).sum<=(tP p).length
theorem Tx.snoc{ts:List Str}{p q:Pa}{z:Str}(h:Tx ts p)(hq:aB q=false)(hz:cs z=tP q):Tx (ts ++ [z]) (p.app q):=by
 have e1:tP (p.app q)=spT p++tP q:=uW p q hq;refine⟨?_,?_,?_⟩
 ·rw[e1,<- hz];unfold spT;rw[<- h.e,<- h.n];cases ts with
  | nil=>rfl
  | cons x xs =>
   rw[show(x::xs:List Str).isEmpty=false from rfl,af bb];exact K9 " " z x xs
 ·rw[pJ hq];simp
 ·have:=h.s;rw[e1];unfold spT;rw[fF,List.sum_append,bu,bu,<- hz,ZR];simp only[br,List.map_nil,iP,List.sum_nil];lia
def xR(d:Nat):Sp:=fun vs H Q _=>∃(a:Addr)(ws:List V)(p:Pa),vs=[.ref a]/\H a=some (.tup ws)/\bq H ws p/\p.dep<d/\p.sz<=2001/\bg 4 p/\∀(z:Str)(H':Hp),ZD H H'->cs z=tP p->Q (.str z) H'
set_option maxHeartbeats 4000000 in
theorem Sj(d:Nat)(B:∀x∈cF,mg x=none)(vy:bF P w K mg base "_law_text" ["_law_parts_here"] d (xR d)) (F:bO K "_law_text" "_law_text" rq f fd):aX P w K mg base cp (d+1) f fd ["_law_parts_here"] (xR (d+1)):=by
 refine F.ok By (fun vs H Q E h=>?_) (fun aK A outer s H vs Q E hr h=>?_)
 ·obtain⟨a,ws,p,rfl,_⟩:=h;rfl
 obtain⟨a,ws,pa,rfl,ha,hP,hd,hs,hw,q⟩:=h;have hu:=pE hr;have hl:=hP.length;have jf:=pI hw;refine⟨_,(Ze (Zx (i:=1) By.nd rfl (Or.inl rfl) (dz Zb))
  (Ze (jx iQ rfl (Va (pv 0)) (dA (i:=2) By.nd rfl (Or.inl rfl))
   (Zf (bt (Zr fv (bo lO (pv 2) Zg (fun _ _=>rfl)) Zm (ZK _))
     (Zf (Z7 (cv cI dX dY ZL (pv 1) (Za (bo jy Zm (bo lO (pv 2) Zg (fun _ _=>rfl)) (fun _ _=>rfl)) Zb))))
     (Zf (bt (Zr (RB hu) (bo lO (pv 2) Zg (fun _ _=>rfl)) (cS Zb) (ZK _))
       (Zf (Z7 (cv cI dX dY ZL (pv 1) (Za (bo lO (pv 2) Zg (fun _ _=>rfl)) Zb))))
       (Zf (Z7 (cv cI dX dY ZL (pv 1) (Za (Zv Zy (Zv Zy (Zv Zy (bo lO (pv 2) Zg (fun _ _=>rfl)) Zm) (dc vy hr rfl (Za (bo lO (pv 2) Zg (fun _ _=>rfl)) Zb) (by lia))) Zm) Zb)))))))))
  (Zf (Zz (cv mG t5 t6 rV Zm (Za (pv 1) Zb)))))),?_⟩
 refine⟨by decide,fun p hp=>?_⟩;have s0:ZD H (upd H p (.lst [])):=ZD.new hp;refine⟨_,rfl,a,rfl,⟨ws,aL.of (s0 _ _ ha)⟩,TM (K:=K) (a:=a) (xs:=ws) (fun i σ H2=>∃(v2:Option V)(ts:List Str),σ =[some (.ref a),some (.ref p),v2]/\ZD H H2/\H2 p=some (.lst (ts.map V.str))/\Tx ts (pa.take i)/\ts.length<=i)
  ⟨none,[],rfl,s0,Zc,⟨rfl,rfl,az _⟩,az _⟩ ?_ ?_ ?_⟩
 ·rintro i σ H2 _ ⟨v2,ts,_,sm,_⟩;exact aL.of (sm _ _ ha)
 ·rintro i x σ H2 hx ⟨v2,ts,rfl,sm,bG,hT,Zsf⟩;have nP:=(cA.mp hx).1;have aR:(ts.map V.str).length<sizeLine:=ZW (by rw[aV];lia);have z_:=BY (i+1) hw;obtain⟨r,rfl,⟨n,h1,e1⟩|⟨tg,q0,jk,w1,h1,h2,h3,e1,hdw,OH⟩⟩:=hP.at i x hx
  ·rw[e1] at z_;have hk:=(rO z_).2.1;refine⟨_,rfl,r,_,0,_,rfl,rfl,aL.of (sm _ _ h1),rfl,rfl,_,rfl,aH ?_⟩;refine⟨_,rfl,.inl ⟨rfl,_,ak.of bG⟩,_,rfl,r,_,1,_,rfl,rfl,aL.of (sm _ _ h1),rfl,_,_,(48+n.toNat),rfl,rfl,(by decide),L3 hk.1 hk.2,p,_,_,rfl,rfl,bG,aR,?_⟩;refine⟨_,ts ++ [⟨#[48+n.toNat]⟩],rfl,sm.eV hp,by rw[Zc,fF];rfl,?_,by rw[bu];show _+1<=_;lia⟩;rw[e1];exact hT.snoc rfl rfl
  ·rw[e1] at z_;have hk:=(rO z_).2;have hk8:=hk.1.2.2;rw[ZR] at hk8;have Fh:=sm _ _ h1;have NL:=sm _ _ h2;have h3s:=h3.mono sm.tk;refine⟨_,rfl,r,_,0,_,rfl,rfl,aL.of Fh,rfl,rfl,_,rfl,aE ?_⟩;refine⟨_,rfl,r,_,2,_,rfl,rfl,aL.of Fh,rfl,by decide,fun e he=>?_⟩;have se:ZD H2 (upd H2 e (.tup [])):=ZD.new he;refine⟨q0,e,jk,rfl,rfl,aL.of (se _ _ NL),aL.of Zc,_,rfl,?_⟩;have tE:=sm.trans se;have vT:=se _ _ bG;have ze:=se _ _ Fh;have vA:=se _ _ NL;have vD:=h3s.mono se.tk;generalize upd H2 e (.tup [])=H3 at tE vT ze vA vD ⊢;have hn:jk.isEmpty=aB w1:=by cases h3 <;> rfl
   rw[hn];cases OR:aB w1 with
   | true =>
    obtain rfl:=kj.mp OR;refine aH ?_;refine⟨_,rfl,.inl ⟨rfl,_,ak.of vT⟩,_,rfl,r,_,1,_,rfl,rfl,aL.of ze,rfl,p,_,_,rfl,rfl,vT,aR,?_⟩;refine⟨_,ts ++ [tg],rfl,tE.eV hp,by rw[Zc,fF];rfl,?_,by rw[bu];show _+1<=_;lia⟩;rw[e1];refine hT.snoc rfl ?_;show cs tg=cs tg++([] ++ []);simp
   | false =>
    refine aE ?_;refine⟨_,rfl,.inl ⟨rfl,_,ak.of vT⟩,_,rfl,r,_,1,_,rfl,rfl,aL.of ze,rfl,_,_,rfl,rfl,Zk (by show tg.length+1<=_;lia),?_⟩;have ZxQ:=pI hk.2.1;refine⟨_,rfl,r,_,2,_,rfl,rfl,aL.of ze,rfl,q0,jk,w1,rfl,vA,vD,by lia,by lia,hk.2.1,fun z H4 s4 hz=>?_⟩;have iK:z.length=(tP w1).length:=by rw[<- hz,ZR]
    refine⟨_,_,rfl,rfl,Zk (by rw[ZG];show tg.length+1+_<=_;lia),_,_,rfl,rfl,Zk (by rw[ZG,ZG];show tg.length+1+_+1<=_;lia),?_⟩;refine⟨p,_,_,rfl,rfl,s4 _ _ vT,aR,?_⟩;refine⟨_,ts ++ [tg ++ "(" ++ z ++ ")"],rfl,(tE.trans s4).eV hp,by rw[Zc,fF];rfl,?_,by rw[bu];show _+1<=_;lia⟩;rw[e1];refine hT.snoc rfl ?_;show _=cs tg++((if aB w1=true then [] else 40::(tP w1 ++ [41])) ++ [])
    rw[OR,af (by decide),Z2,Z2,Z2,hz];show cs tg ++ [40]++tP w1 ++ [41]=_;simp
 ·rintro σ H2 ⟨v2,ts,rfl,sm,bG,hT,Zsf⟩;rw[hP.take_all] at hT;have h1:=hT.s;refine⟨rfl,_,rfl," ",p,ts,rfl,rfl,ak.of bG,?_,q _ H2 sm (by rw[rR];exact hT.e)⟩;show _+_*1<=16777216;lia
theorem rH{α β : Type}{R : α -> β -> Prop}:∀{xs:List α}{ys:List β}{i:Nat}{x : α},Paired R xs ys->xs[i]?= some x->∃y,ys[i]?= some y/\R x y
 | _,_,i,_,.nil,h=>by simp at h
 | _,_,0,_,.cons r _,e=>by
  cases e;exact⟨_,rfl,r⟩
 | _,_,i+1,x,.cons _ t,e=>by
  obtain⟨y,h1,h2⟩:=rH (i:=i) (x:=x) t (by simpa using e);exact⟨y,by simpa using h1,h2⟩
theorem UI{m:Nat}(h0:1<=m)(h1:m<=4):dO (Str.cps "1234").toList ((m:Int)-1)=some (48+m):=by
 have:m=1\/m=2\/m=3\/m=4:=by lia
 rcases this with rfl|rfl|rfl|rfl <;> rfl
structure qX(r:Rl):Prop where
 n0:0<=r.1
 n4:r.1<4
 t8:r.2.1.length<=8
 dp:r.2.2.dep<70
 sz:r.2.2.sz<=2001
 wf:bg 4 r.2.2
theorem Ma{r:Rl}(h:qX r):(tR r).length<=15+12*r.2.2.sz:=by
 have h1:=pI h.wf;have h2:=h.t8;rw[<- ZR] at h2;have h3:(if aB r.2.2=true then [123,125] else tP r.2.2).length<=2+12*r.2.2.sz:=by
  split
  ·show 2<=_;lia
  ·lia
 unfold tR;simp only[aN,bu];lia
def x4:Sp:=fun vs H Q _=>∃(L:Addr)(xs:List V)(m:Nat)(rs:List Rl),vs=[.int (m:Int),.ref L]/\H L=some (.lst xs)/\eO H xs rs/\1<=m/\m<=4/\(∀r∈rs,qX r)/\rs.length<=2001 /\
 ∀(p:Addr)(zs:List Str)(H':Hp),ZD H H'->H' p=some (.lst (zs.map V.str))->zs.map cs=[48+m]::rs.map tR->Q (.ref p) H'
set_option maxHeartbeats 4000000 in
theorem RP(B:∀x∈cF,mg x=none)(vy:bF P w K mg base "_law_text" ["_law_parts_here"] 70 (xR 70)) (F:bO K "_law_rows" "_law_rows" i3 f fd):aX P w K mg base cp 71 f fd ["_law_modes","_law_rules"] x4:=by
 refine F.ok pB (fun vs H Q E h=>?_) (fun aK A outer s H vs Q E hr h=>?_)
 ·obtain⟨L,xs,m,rs,rfl,_⟩:=h;rfl
 obtain⟨L,xs,m,rs,rfl,hL,hR,m1,m4,hB,iJ,q⟩:=h;have hu:=pE hr;refine Zw ((Zd i3).drop 2) (Zf (Zz (pv 2))) (fun u2 h2 e2=>?_);refine Zw ((ZV ((Zd i3).getD 1 (.Pass ⟨0,0,0,0⟩))).drop 2) (Zf (Z7 (cv cI dX dY ZL (pv 2) (Za (Zv Zy (Zv Zy (Zv Zy (Zv Zy (bo jy Zm (pv 3) (fun _ _=>rfl)) Zm) (pv 4)) Zm) (pv 6)) Zb)))) (fun Zwn Zp2 YX=>?_);refine Zw ((ZV ((Zd i3).getD 1 (.Pass ⟨0,0,0,0⟩))).drop 1) (Ze (bt (Zr (RF hu) (pv 5) (cS Zb) (ZK _))
   (Zf (Zx (i:=6) pB.nd rfl (Or.inl rfl) (dc vy hr rfl (Za (pv 5) Zb))))
   ZC) Zp2) (fun Hj Ff EO=>?_)
 refine Zw ((ZV ((Zd i3).getD 1 (.Pass ⟨0,0,0,0⟩))).drop 0) (Ze (Zx (i:=6) pB.nd rfl (Or.inl rfl) Zm) Ff) (fun Hi Fe EN=>?_);refine Zw ((Zd i3).drop 1) (Ze (jx iQ rfl (uL (pv 1)) (uV rfl (iZ (dA (i:=3) pB.nd rfl (Or.inl rfl)) (iZ (dA (i:=4) pB.nd rfl (Or.inl rfl)) (iZ (dA (i:=5) pB.nd rfl (Or.inl rfl)) uI))))
   Fe) h2) (fun u1 h1 e1=>?_)
 refine Zw ((Zd i3).drop 0) (Ze (Zx (i:=2) pB.nd rfl (Or.inl rfl) (dz (Za (bo jy Zm (Zv ym (pv 0) Zg) (fun _ _=>rfl)) Zb))) h1) (fun u0 h0 e0=>?_);refine⟨u0,h0,?_⟩;refine Zq e0 ?_;refine⟨_,rfl,_,_,rfl,rfl,_,_,(48+m),rfl,rfl,(by decide),UI m1 m4,(by show 1<=sizeLine;decide),fun p hp=>?_⟩;have s0:=ZD.new (o:=.lst [.str ⟨#[48+m]⟩]) hp;have Oy:(upd H p (.lst [.str ⟨#[48+m]⟩])) p=some (.lst [.str ⟨#[48+m]⟩]):=Zc;show u1 _ _ _;refine Zq e1 ?_;generalize upd H p (.lst [.str ⟨#[48+m]⟩])=H0 at s0 Oy ⊢;refine⟨_,rfl,L,rfl,⟨_,ak.of (s0 _ _ hL)⟩,B2 (K:=K) (a:=L) (xs:=xs) (fun i σ H1=>∃(v3 v4 v5 v6:Option V)(zs:List Str),σ =[some (.int (m:Int)),some (.ref L),some (.ref p),v3,v4,v5,v6]/\ZD H H1/\H1 p=some (.lst (zs.map V.str))/\zs.map cs=[48+m]::(rs.take i).map tR)
  ⟨none,none,none,none,[⟨#[48+m]⟩],rfl,s0,Oy,rfl⟩ ?_ ?_ ?_⟩
 ·rintro i σ H1 _ ⟨v3,v4,v5,v6,zs,_,sm,_⟩;exact ak.of (sm _ _ hL)
 ·rintro i x σ H1 hx ⟨v3,v4,v5,v6,zs,rfl,sm,jd,hz⟩;obtain⟨r,zP,mj⟩:=rH hR hx;obtain⟨kH,FI⟩:=cA.mp zP;obtain⟨qa,ta,ys,rfl,h1,h2,h3⟩:=mj.mono sm.tk;have hb:=hB r (cP zP);have iK:=congrArg List.length hz;rw[aV,aN,aV,dM] at iK;obtain⟨n,tg,pa⟩:=r;have hsz:=hb.sz;have OK:=hb.t8;refine⟨qa,_,rfl,aL.of h1,rfl,_,_,rfl,_,_,rfl,_,_,rfl,rfl,?_⟩;show Hi _ _ _;refine Zq EN ?_;show Hj _ _ _;refine Zq EO ?_;refine⟨_,rfl,by decide,fun e he=>?_⟩;have se:=ZD.new (o:=.tup []) he;refine⟨ta,e,ys,rfl,rfl,aL.of (se _ _ h2),aL.of Zc,_,rfl,?_⟩;have tE:=sm.trans se;have bG:=se _ _ jd;have vA:=se _ _ h2;have vD:=h3.mono se.tk;generalize upd H1 e (.tup [])=H2 at tE bG vA vD ⊢;have fin:∀(D:Ends)(y:Str)(H3:Hp),ZD H2 H3->cs y=(if aB pa=true then [123,125] else tP pa)->(∀ σ H4,(∃(v3 v4 v5 v6:Option V)(zs:List Str),σ =[some (.int (m:Int)),some (.ref L),some (.ref p),v3,v4,v5,v6]/\ZD H H4/\H4 p=some (.lst (zs.map V.str))/\zs.map cs=[48+m]::(rs.take (i+1)).map tR)->D.nx σ H4) ->
    Zwn D [some (.int (m:Int)),some (.ref L),some (.ref p),some (.int n),some (.str tg),some (.ref ta),some (.str y)] H3:=fun D y H3 s3 hy hD=>by
   refine Zq YX ?_;have kO:y.length<=2+12*pa.sz:=by
    rw[<- ZR,hy];have:=pI hb.wf;have:(tP pa).length+1<=12*pa.sz+1:=this
    split
    ·show 2<=_;lia
    ·lia
   have hsz:pa.sz<=2001:=hsz;have OK:tg.length<=8:=OK;refine⟨_,rfl,.inl ⟨rfl,_,ak.of (s3 _ _ bG)⟩,_,rfl,_,_,(48+n.toNat),rfl,rfl,(by decide),L3 hb.n0 hb.n4,_,_,rfl,rfl,(by show 1+1<=sizeLine;decide),_,rfl,_,_,rfl,rfl,?_,_,_,rfl,rfl,?_,_,rfl,_,_,rfl,rfl,?_,p,_,_,rfl,rfl,s3 _ _ bG,ZW (by rw[aV];lia),?_⟩
   ·refine Zk ?_;rw[ZG];show 1+1+tg.length<=_;lia
   ·refine Zk ?_;rw[ZG,ZG];show 1+1+tg.length+3<=_;lia
   ·refine Zk ?_;rw[ZG,ZG,ZG];show 1+1+tg.length+3+y.length<=_;lia
   ·refine hD _ _ ⟨_,_,_,_,zs ++ [(⟨#[48+n.toNat]⟩:Str) ++ " " ++ tg ++ " = " ++ y],rfl,(tE.trans s3).eV hp,by rw[Zc,fF];rfl,?_⟩;rw[fF,hz,AY kH,FI,fF,kZ];refine congrArg (fun z=>[48+m]::(List.map tR (List.take i rs)++z)) ?_;show [cs ((⟨#[48+n.toNat]⟩:Str) ++ " " ++ tg ++ " = " ++ y)] =[tR (n,tg,pa)];rw[Z2,Z2,Z2,Z2,hy];unfold tR;show [[48+n.toNat] ++ [32]++cs tg ++ [32,61,32]++_]=_;simp
  have hn:ys.isEmpty=aB pa:=by cases h3 <;> rfl
  rw[hn];cases iI:aB pa with
  | true =>
   refine aE (fin _ _ H2 (ZD.refl _) ?_ (fun _ _ h=>h));rw[iI];rfl
  | false =>
   refine aH ?_;refine⟨_,rfl,ta,ys,pa,rfl,vA,vD,hb.dp,hb.sz,hb.wf,fun z H3 s3 v_=>?_⟩;refine fin _ z H3 s3 ?_ (fun _ _ h=>h);rw[iI,af (by decide),v_]
 ·rintro σ H1 ⟨v3,v4,v5,v6,zs,rfl,sm,jd,hz⟩;rw[show xs.length=rs.length from f_ hR,oG] at hz;show u2 _ _ _;refine Zq e2 ?_;exact⟨_,rfl,q p zs H1 sm jd hz⟩
def xW:Sp:=fun vs H Q _=>∃z:Str,vs=[.str z]/\ix z/\z.length<=100000/\Q (.bl (gu z)) H
theorem Rc(B:∀x∈cF,mg x=none)(F:bO K "_law_is_tag" "_law_is_tag" rG f fd):aX P w K mg base cp 1 f fd ["_law_word"] xW:=by
 refine F.ok Jo (fun vs H Q E h=>?_) (fun aK A outer s H vs Q E hr h=>?_)
 ·obtain⟨z,rfl,_⟩:=h;rfl
 obtain⟨z,rfl,ha,hl,q⟩:=h;refine⟨_,(Ze (jx iQ rfl (L1 (pv 0)) (dA (i:=1) Jo.nd rfl (Or.inl rfl))
   (Zf (bt (Zr Bq (pv 1) Zm (by with_unfolding_all rfl))
     (Zf (Zz kr))
     ZC)))
  (Zf (Zz (Kl sh sh Zg (ZF pq rfl (B "len" (by decide)) gb (Za (pv 0) Zb)) Zg)))),?_⟩
 refine⟨_,rfl,z,rfl,ha.asc,Lb (fun i σ H1=>∃v1:Option V,σ =[some (.str z),v1]/\H1=H/\(z.cps.toList.take i).all du=true) ⟨none,rfl,rfl,rfl⟩ ?_ ?_⟩
 ·rintro i c σ H1 hi ⟨v1,rfl,rfl,cx⟩;have hc:c<128:=ha c (cP hi);have fh:=TX hc;refine⟨_,rfl,_,kf,rfl,rfl,_,rfl,?_⟩;rw[fh,Bool.not_not];have hs:=QC hi;cases hb:du c with
  | true =>
   refine aE ⟨_,rfl,rfl,?_⟩;rw[hs,cx,hb];rfl
  | false =>
   refine aH ?_;have:gu z=false:=by
    unfold gu;have:z.cps.toList.all du=false:=by
     rw[List.all_eq_false];exact⟨c,cP hi,by rw[hb];exact bb⟩
    rw[this,Bool.and_false]
   rw[this] at q;exact q
 ·rintro σ H1 ⟨v1,rfl,rfl,cx⟩;rw[oG] at cx;unfold gu at q;rw[cx,Bool.and_true] at q;refine⟨_,rfl,z,rfl,Zk (by lia),_,_,rfl,rfl,_,rfl,?_⟩;refine dC (fun c=>?_) (fun c=>?_)
  ·have c1:1<=z.length:=by
    have:=ig c;lia
   rw[aQ c1,wW] at q;refine⟨_,_,rfl,rfl,?_⟩;have e8:decide (((z.length:Nat):Int)<=8)=decide (z.length<=8):=j9.mpr (by lia);show Q (.bl (decide (((z.length:Nat):Int)<=8))) _;rw[e8];exact q
  ·have c1 : ¬ 1<=z.length:=fun h=>c (aQ (by show(1:Int)<=((z.length:Nat):Int);lia));rw[aZ c1,qG] at q;exact q
theorem CF(L:Str)(c:Nat):(!(Builtin.Str.occurrences L ⟨#[c]⟩ 0 L.length 1).isEmpty)=decide (c∈cs L):=PySem.StrLaws.found_one L c
def CZ:Str := "abcdefghijklmnopqrstuvwxyz0123456789"
theorem Ux{c:Nat}(h:c<128):decide (c∈cs CZ)=(bU c || bA c):=by
 have:∀c:Fin 128,decide (c.val∈cs CZ)=(bU c.val || bA c.val):=by decide +kernel
 exact this ⟨c,h⟩
theorem Vp{c:Nat}:decide (c∈cs (Str.ofString " ()"))=decide (c=32\/c=40\/c=41):=by
 refine j9.mpr ?_;show c ∈ [32,40,41]↔_;simp
theorem pK(c d:Nat):decide (V.str ⟨#[c]⟩=V.str ⟨#[d]⟩)=decide (c=d):=by
 refine j9.mpr ⟨fun h=>?_,fun h=>by rw[h]⟩;injection h with h;have:=congrArg cs h;have:[c] =[d]:=this
 simpa using this
theorem CH(wd:List Nat):decide (V.str (aM wd)=V.str (Str.ofString ""))=decide (wd=[]):=by
 refine j9.mpr ⟨fun h=>?_,fun h=>by rw[h];rfl⟩;injection h with h;have:=congrArg cs h;rw[df] at this;exact this
theorem Kw{m:Nat}:∀(l:List Nat)(c:Nat)(wd:List Nat)(cur:Pa)(st:aY),bJ m (l ++ [c]) wd cur st=(match bJ m l wd cur st with|none=>none|some x=>c_ m c x.1 x.2.1 x.2.2)
 | [],c,wd,cur,st=>by
  show(match c_ m c wd cur st with|none=>none|some x=>some (x.1,x.2.1,x.2.2))=c_ m c wd cur st
  cases c_ m c wd cur st with
  | none=>rfl
  | some x=>rfl
 | a::l,c,wd,cur,st=>by
  rw[kZ,bJ,bJ];cases c_ m a wd cur st with
  | none=>rfl
  | some x=>exact Kw l c x.1 x.2.1 x.2.2
theorem Km{m:Nat}:∀(l r:List Nat)(wd:List Nat)(cur:Pa)(st:aY),bJ m l wd cur st=none->bJ m (l++r) wd cur st=none
 | [],r,wd,cur,st,h=>by cases h
 | a::l,r,wd,cur,st,h=>by
  rw[kZ,bJ];rw[bJ] at h;cases hq:c_ m a wd cur st with
  | none=>rfl
  | some x =>
   rw[hq] at h;exact Km l r x.1 x.2.1 x.2.2 h
theorem Uj(wd:List Nat):jV (V.str (aM wd)) [.str "0",.str "1",.str "2",.str "3"]=(decide (wd.length=1)&&decide (48<=wd.headD 0)&&decide (wd.headD 0<=51)):=by
 have e:∀d:Nat,(aM [d]=aM wd)↔wd=[d]:=fun d=>⟨fun h=>by
  have:=congrArg cs h;rw[df,df] at this;exact this.symm,fun h=>by rw[h]⟩
 have h0:jV (V.str (aM wd)) [.str "0",.str "1",.str "2",.str "3"]=(decide (wd=[48]) || (decide (wd=[49]) || (decide (wd=[50]) || decide (wd=[51])))):=by
  rw[<- j9.mpr (e 48),<- j9.mpr (e 49),<- j9.mpr (e 50),<- j9.mpr (e 51)];unfold jV;simp only[oA,List.any_nil,Bool.or_false];rfl
 rw[h0];cases wd with
 | nil=>rfl
 | cons c r =>
  cases r with
  | nil =>
   rw[jl];simp;lia
  | cons d r=>simp
structure IS(m:Nat)(t:List Nat)(H H1:Hp)(T R:Addr)(i:Nat)(wd:List Nat)(cur:Pa)(st:aY):Prop where
 e:bJ m (t.take i) [] .nil []=some (wd,cur,st)
 pg:∃as,bp H H1 R T as (cur::st.map Prod.snd) (st.map Prod.fst)
 sz:cur.sz+(st.map fun x=>x.2.sz).sum+st.length<=i
 wl:wd.length<=i
 wa:∀c∈wd,c<128
theorem bp.same{H H1 H2:Hp}{R T:Addr}{as:List Addr}{gs:List Pa}{ts:List Str}(h:bp H H1 R T as gs ts)(s:ZD H1 H2):bp H H2 R T as gs ts :=
 ⟨h.sm.trans s,s _ _ h.hT,s _ _ h.hR,pw s.tk h.rows (fun b _ o e=>s _ _ e),h.nd,h.fr,h.gl⟩
def CI:Sp:=fun vs H Q _=>∃(t:Str)(m:Nat),vs=[.str t,.int (m:Int)]/\ix t/\t.length<=2000/\1<=m/\m<=4/\(fD m (cs t)=none->∀H',ZD H H'->Q .aD H')/\(∀p,fD m (cs t)=some p->∀(H':Hp)(r:Addr)(ys:List V),ZD H H'->H' r=some (.tup ys)->bq H' ys p->Q (.ref r) H')
set_option maxHeartbeats 4000000 in
theorem QA(B:∀x∈cF,mg x=none)(pV:bF P w K mg base "_law_is_tag" ["_law_word"] 1 xW) (F:bO K "_law_parts_read" "_law_parts_read" Zj f fd):aX P w K mg base cp 2 f fd ["_law_text_here","_law_modes"] CI:=by
 refine F.ok Z4 (fun vs H Q E h=>?_) (fun aK A outer s H vs Q E hr h=>?_)
 ·obtain⟨t,m,rfl,_⟩:=h;rfl
 obtain⟨t,m,rfl,Fv,hT,m1,m4,q1,q2⟩:=h;have hu:=pE hr;refine Zw ((Zd Zj).drop 5) (Zf (Zz (ZX Z0 rfl (B "tuple" (by decide)) iY (Za (bo Z6 (pv 3) Zg (fun _ _=>rfl)) Zb)))) (fun u5 h5 e5=>?_);refine Zw ((Zd Zj).drop 4) (Ze (bt (Zr (Sv hu) (pv 2) (dz Zb) (ZK _))
   (Zf (Zz gn))
   ZC) h5) (fun u4 h4 e4=>?_)
 refine Zw ((ZV ((ZV ((Zd Zj).getD 3 (.Pass ⟨0,0,0,0⟩))).getD 5 (.Pass ⟨0,0,0,0⟩))).drop 1) (Zf (Z7 (cv cI dX dY ZL (bo Z6 (pv 3) (jF jz Zg) (fun _ _=>rfl)) (Za (cS (Za Zm (Za (m9 cI oK oM m_ (pv 2)) (Za (pv 6) Zb)))) Zb)))) (fun ZwF Zqp ZO=>?_);refine Zw ((ZV ((ZV ((Zd Zj).getD 3 (.Pass ⟨0,0,0,0⟩))).getD 5 (.Pass ⟨0,0,0,0⟩))).drop 0) (Ze (Zx (i:=6) Z4.nd rfl (Or.inl rfl) (ZX Z0 rfl (B "tuple" (by decide)) iY (Za (m9 cI oK oM m_ (pv 3)) Zb))) Zqp) (fun ZwE Zqo ZN=>?_);refine Zw ((ZV ((Zd Zj).getD 3 (.Pass ⟨0,0,0,0⟩))).drop 5) (Zf (bt (Zr fv (pv 5) Zm (ZK _))
   Zqo
   ZC)) (fun ZwD Zqn ZI=>?_)
 refine Zw ((ZV ((Zd Zj).getD 3 (.Pass ⟨0,0,0,0⟩))).drop 4) (Ze (Zx (i:=4) Z4.nd rfl (Or.inl rfl) Zm) Zqn) (fun PK Zqm ZH=>?_);refine Zw ((ZV ((ZV ((Zd Zj).getD 3 (.Pass ⟨0,0,0,0⟩))).getD 3 (.Pass ⟨0,0,0,0⟩))).drop 1) (Zf (Z7 (cv cI dX dY ZL (pv 3) (Za (dz Zb) Zb)))) (fun ZwC Zql ZE=>?_);refine Zw ((ZV ((ZV ((Zd Zj).getD 3 (.Pass ⟨0,0,0,0⟩))).getD 3 (.Pass ⟨0,0,0,0⟩))).drop 0) (Ze (Z7 (cv cI dX dY ZL (pv 2) (Za (pv 4) Zb))) Zql) (fun ZwB Zqk ZA=>?_);refine Zw ((i9 ((i9 ((i9 ((ZV ((Zd Zj).getD 3 (.Pass ⟨0,0,0,0⟩))).getD 3 (.Pass ⟨0,0,0,0⟩))).getD 0 (.Pass ⟨0,0,0,0⟩))).getD 0 (.Pass ⟨0,0,0,0⟩))).drop 0) (Zf (bt (Zr pM (pv 4) Zm (ZK _))
   (Zf (Zz gn))
   ZC)) (fun ZwA Zqj Zs=>?_)
 refine Zw ((i9 ((i9 ((ZV ((Zd Zj).getD 3 (.Pass ⟨0,0,0,0⟩))).getD 3 (.Pass ⟨0,0,0,0⟩))).getD 0 (.Pass ⟨0,0,0,0⟩))).drop 0) (Zf (bt (ZZ (dc pV hr rfl (Za (pv 4) Zb)) (fun _=>rfl))
   (Zf (Z7 (cv cI dX dY ZL (bo Z6 (pv 3) (jF jz Zg) (fun _ _=>rfl)) (Za (cS (Za Zm (Za (pv 4) (Za (cS Zb) Zb)))) Zb))))
   Zqj)) (fun Zwz Zqi Zp=>?_)
 refine Zw ((i9 ((ZV ((Zd Zj).getD 3 (.Pass ⟨0,0,0,0⟩))).getD 3 (.Pass ⟨0,0,0,0⟩))).drop 0) (Zf (bt (PW.pt (jw (Zr RR (pv 4) (cS (Za Zm (Za Zm (Za Zm (Za Zm Zb))))) (by with_unfolding_all rfl)) (ko (Zr sf (ZX pC rfl (B "int" (by decide)) mZ (Za (pv 4) Zb)) (pv 1) (ZK _)))))
   (Zf (Z7 (cv cI dX dY ZL (bo Z6 (pv 3) (jF jz Zg) (fun _ _=>rfl)) (Za (cS (Za Zm (Za (ZX pC rfl (B "int" (by decide)) mZ (Za (pv 4) Zb)) Zb))) Zb))))
   Zqi)) (fun Zwy Zqh Zl=>?_)
 refine Zw ((ZV ((Zd Zj).getD 3 (.Pass ⟨0,0,0,0⟩))).drop 3) (Ze (bt (Zr fv (pv 5) Zm (ZK _))
   Zqk
   Zqh) Zqm) (fun Zwx Zqg Y_=>?_)
 refine Zw ((ZV ((Zd Zj).getD 3 (.Pass ⟨0,0,0,0⟩))).drop 2) (Ze (bt (PW.pt (jE (PW.pt (jw (Zr fv (pv 5) Zm (ZK _)) (ko (jA (ZZ (dc pV hr rfl (Za (pv 4) Zb)) (fun _=>rfl)))))) (lN (PW.pt (jw (Zr fv (pv 5) Zm (ZK _)) (ko (PW.pt (jE (Zr (BA hu) (pv 2) (dz Zb) (ZK _)) (lN (PW.pt (jw (Zr fv (pv 4) Zm (ZK _)) (ko (Zr (BA hu) (bo Z6 (pv 3) (jF jz Zg) (fun _ _=>rfl)) (dz Zb) (ZK _))))))))))))))
   (Zf (Zz gn))
   ZC) Zqg) (fun Hl Fj EQ=>?_)
 refine Zw ((ZV ((Zd Zj).getD 3 (.Pass ⟨0,0,0,0⟩))).drop 1) (Ze (bt (PW.pt (jE (Zr Bq (pv 5) Zm (by with_unfolding_all rfl)) (lN (PW.pt (jw (Zr pM (pv 5) Zm (ZK _)) (jw (Zr fv (pv 4) Zm (ZK _)) (ko (Zr (BA hu) (bo Z6 (pv 3) (jF jz Zg) (fun _ _=>rfl)) (dz Zb) (ZK _)))))))))
   (Zf (Zz gn))
   ZC) Fj) (fun AK vC vk=>?_)
 refine Zw ((ZV ((ZV ((Zd Zj).getD 3 (.Pass ⟨0,0,0,0⟩))).getD 0 (.Pass ⟨0,0,0,0⟩))).drop 1) (Zf Jn) (fun Zww Zqe Y9=>?_);refine Zw ((ZV ((ZV ((Zd Zj).getD 3 (.Pass ⟨0,0,0,0⟩))).getD 0 (.Pass ⟨0,0,0,0⟩))).drop 0) (Ze (Zx (i:=4) Z4.nd rfl (Or.inl rfl) (Zv Zy (pv 4) (pv 5))) Zqe) (fun Zwv Zqd Y8=>?_);refine Zw ((ZV ((Zd Zj).getD 3 (.Pass ⟨0,0,0,0⟩))).drop 0) (Ze (bt (Zr Sb (pv 5) Zm (by with_unfolding_all rfl))
   Zqd
   ZC) vC) (fun Hk vB vj=>?_)
 refine Zw ((Zd Zj).drop 3) (Ze (jx iQ rfl (L1 (Zv Zy (pv 0) Zm)) (dA (i:=5) Z4.nd rfl (Or.inl rfl))
   vB) h4) (fun u3 h3 e3=>?_)
 refine Zw ((Zd Zj).drop 2) (Ze (Zx (i:=4) Z4.nd rfl (Or.inl rfl) Zm) h3) (fun u2 h2 e2=>?_);refine Zw ((Zd Zj).drop 1) (Ze (Zx (i:=3) Z4.nd rfl (Or.inl rfl) (dz (Za (dz Zb) Zb))) h2) (fun u1 h1 e1=>?_);refine Zw ((Zd Zj).drop 0) (Ze (Zx (i:=2) Z4.nd rfl (Or.inl rfl) (dz Zb)) h1) (fun u0 h0 e0=>?_);refine⟨u0,h0,?_⟩;refine Zq e0 ?_;refine⟨by decide,fun Tg Fs=>?_⟩;show u1 _ _ _;refine Zq e1 ?_;refine⟨by decide,fun a0 h0=>⟨(by show 1<=sizeLine;decide),fun R hR=>?_⟩⟩;have g0:=bp.Hc Fs h0 hR;show u2 _ _ _;refine Zq e2 ?_;show u3 _ _ _;refine Zq e3 ?_;generalize upd (upd (upd H Tg (.lst [])) a0 (.lst [])) R (.lst [.ref a0])=H1 at g0 ⊢;obtain⟨tt,zX⟩:∃tt,t++(" " : Str)=tt:=⟨_,rfl⟩;have yR:cs tt=cs t ++ [32]:=by rw[<- zX,Z2];rfl
 have MQ:ix tt:=fun c hc=>by
  have hc:c∈cs tt:=hc;rw[yR] at hc;rcases bK.mp hc with hc|hc
  ·exact Fv c hc
  ·rw[bh.mp hc];decide
 have ZxW:(cs tt).length=t.length+1:=by rw[yR,bu,ZR];rfl
 have g9:∀i,bJ m ((cs tt).take i) [] .nil []=none->fD m (cs t)=none:=fun i hi=>by
  have:=Km _ ((cs tt).drop i) _ _ _ hi;rw[j5,yR] at this;unfold fD;rw[this]
 refine⟨_,rfl,_,_,rfl,rfl,Zk (by show t.length+1<=_;lia),tt,(congrArg V.str zX),MQ.asc,Lb (fun i σ H2=>∃(wd:List Nat)(cur:Pa)(st:aY)(v5 v6:Option V),σ =[some (.str t),some (.int (m:Int)),some (.ref Tg),some (.ref R),some (.str (aM wd)),v5,v6]/\IS m (cs tt) H H2 Tg R i wd cur st)
  ⟨[],.nil,[],none,none,rfl,⟨rfl,⟨_,g0⟩,bi _,bi _,fun _ h=>nomatch h⟩⟩ ?_ ?_⟩
 ·rintro i c σ H2 hi ⟨wd,cur,st,v5,v6,rfl,hS⟩;have hi:(cs tt)[i]?= some c:=hi;have hc:c<128:=MQ c (cP hi);have nP:=(cA.mp hi).1;have FI:i<=2000:=by
   have nP:i<(cs tt).length:=nP;lia
  have hsz:=hS.sz;have mm:=hS.wl;obtain⟨as,pg⟩:=hS.pg;have n8:bJ m ((cs tt).take (i+1)) [] .nil []=c_ m c wd cur st:=by
   rw[uB hi,Kw,hS.e]
  show Hk _ _ _;refine Zq vj ?_;refine⟨_,rfl,_,CZ,rfl,rfl,_,rfl,?_⟩;rw[CF,Ux hc];cases hL:bU c || bA c with
  | true =>
   refine aH ?_;show Zwv _ _ _;refine Zq Y8 ?_;refine⟨_,rfl,_,rfl,_,_,rfl,rfl,Zk (by rw[B9];show wd.length+1<=_;lia),?_⟩;show Zww _ _ _;refine Zq Y9 ?_;refine⟨wd ++ [c],cur,st,some (.str ⟨#[c]⟩),v6,?_,?_⟩
   ·have:aM wd++(⟨#[c]⟩:Str)=aM (wd ++ [c]):=jB (by rw[Z2,df,df];rfl);rw[<- this];rfl
   ·refine⟨?_,⟨as,pg⟩,by lia,by rw[bu];show _+1<=_;lia,fun x hx=>?_⟩
    ·rw[n8];unfold c_;rw[ah hL]
    ·rcases bK.mp hx with hx|hx
     ·exact hS.wa x hx
     ·rw[bh.mp hx];exact hc
  | false =>
   refine aE ?_;unfold c_ at n8;rw[af (by rw[hL];exact bb)] at n8;have out:∀H3,ZD H2 H3->bJ m ((cs tt).take (i+1)) [] .nil []=none->Q .aD H3:=fun H3 s3 hq=>q1 (g9 _ hq) H3 (pg.sm.trans s3);have cG:=pg.rows;cases cG with
   | @cons b0 _ a1 _ r0 cG =>
   obtain⟨vs0,cw,dS⟩:=r0;have nE:H2 R=some (.lst ((a1.map V.ref).reverse ++ [.ref b0])):=by rw[pg.hR,br,gM]
   have Oq:vs0.isEmpty=aB cur:=by cases dS <;> rfl
   have OS:ix (aM wd):=fun x hx=>hS.wa x (by have hx:x∈cs (aM wd):=hx;rw[df] at hx;exact hx);have zW:gu (aM wd)=eG wd:=by
    rw[jl,rS,<- uF,df]
   let Nx:St->Hp->Prop:=fun σ H2=>∃(wd:List Nat)(cur:Pa)(st:aY)(v5 v6:Option V),σ =[some (.str t),some (.int (m:Int)),some (.ref Tg),some (.ref R),some (.str (aM wd)),v5,v6]/\IS m (cs tt) H H2 Tg R (i+1) wd cur st
   have tail:∀(D:Ends),(∀ ao H',Nx ao H'->D.nx ao H')->∀(pR:Pa)(aF:aY)(Dv:List Addr)(H3:Hp),bp H H3 R Tg Dv (pR::aF.map Prod.snd) (aF.map Prod.fst)->pR.sz+(aF.map fun x=>x.2.sz).sum+aF.length<=i+1 ->
     bJ m ((cs tt).take (i+1)) [] .nil []=(if c=41 then CT pR aF else some ([],pR,aF))->(c=41->aF ≠ [])->PK D [some (.str t),some (.int (m:Int)),some (.ref Tg),some (.ref R),some (.str (aM wd)),some (.str ⟨#[c]⟩),v6] H3:=fun D hD pR aF Dv H3 iL jg zO FZ=>by
    refine Zq ZH ?_;show ZwD _ _ _;refine Zq ZI ?_;refine⟨_,rfl,rfl,_,rfl,?_⟩;show if decide (V.str ⟨#[c]⟩=V.str ⟨#[41]⟩)=true then _ else _
    rw[pK];by_cases fV:c=41
    ·rw[aQ fV];rw[ah fV] at zO;refine aH ?_;cases aF with
     | nil=>exact absurd rfl (FZ fV)
     | cons x aF =>
      obtain⟨w2,o2⟩:=x;obtain⟨c0,c1,a2,g0,g1,g2,wR,jk,rfl,eg,cw,dS,eQ,iM,jQ,iD⟩:=iL.two;injection eg with vn jL;injection jL with jL vo;subst vn jL vo;have vY:jk.length<=o2.sz:=iM.length;have jg:pR.sz+(o2.sz+(aF.map fun x=>x.2.sz).sum)+(aF.length+1)<=i+1:=jg;show ZwE _ _ _;refine Zq ZN ?_;refine⟨_,rfl,.inl ⟨rfl,_,ak.of jQ⟩,R,_,_,rfl,rfl,jQ,mR _ _,?_⟩;rw[mW];have pW:(upd H3 R (.lst ((c1::a2).map V.ref).reverse)) c0=some (.lst wR):=by
       rw[Zi (iL.nR c0 (by simp))];exact cw
      refine⟨c0,wR,rfl,.inl ⟨ak.of pW,fun l hl=>?_⟩⟩;show ZwF _ _ _;refine Zq ZO ?_;have gz:(upd (upd H3 R (.lst ((c1::a2).map V.ref).reverse)) l (.tup wR)) R=some (.lst ((a2.map V.ref).reverse ++ [.ref c1])):=by
       rw[Zi (Z1 hl).1.symm,Zc,br,gM]
      have pX:(upd (upd H3 R (.lst ((c1::a2).map V.ref).reverse)) l (.tup wR)) c1=some (.lst jk):=by
       rw[Zi (Zo eQ (Z1 hl).2),Zi (iL.nR c1 (by simp))];exact eQ
      have iC:(upd (upd H3 R (.lst ((c1::a2).map V.ref).reverse)) l (.tup wR)) Tg=some (.lst (((aF.map Prod.fst).map V.str).reverse ++ [.str w2])):=by
       rw[Zi (Zo iL.hT (Z1 hl).2),Zi iL.RT.symm];exact iD
      refine⟨_,rfl,1,rfl,R,_,-1,.ref c1,rfl,rfl,ak.of gz,jv _ _,.inl ⟨rfl,_,ak.of pX⟩,_,rfl,.inl ⟨rfl,_,ak.of iC⟩,Tg,_,_,rfl,rfl,iC,mR _ _,?_⟩;rw[mW];refine⟨_,rfl,(by show 3<=sizeLine;decide),fun l2 gC=>?_⟩;obtain⟨_,_,_,_,z5,z6⟩:=iL.AG cw dS eQ iM hl gC;refine⟨c1,_,_,rfl,rfl,z5,ZW (by lia),hD _ _ ⟨[],_,aF,_,_,rfl,?_,⟨_,z6⟩,?_,bi _,fun _ h=>nomatch h⟩⟩
      ·rw[zO];rfl
      ·simp only[Pa.iu,Pa.sz];lia
    ·rw[aZ fV];rw[af fV] at zO;exact aE (hD _ _ ⟨[],pR,aF,_,_,rfl,zO,⟨Dv,iL⟩,jg,bi _,fun _ h=>nomatch h⟩)
   have lop:∀(D:Ends),D.rt=Q->(∀ ao H',Nx ao H'->D.nx ao H')->∀H3,ZD H2 H3 -> ¬ ((c=40/\eG wd=false)\/(c=41/\(st=[]\/(wd=[]/\aB cur=true))))->(c=32\/c=40\/c=41)->bJ m ((cs tt).take (i+1)) [] .nil []=(if c=40 then some ([],.nil,(aM wd,cur)::st) else match eM m wd cur with|none=>none|some bf=>if c=41 then CT bf st else some ([],bf,st))->Zwx D [some (.str t),some (.int (m:Int)),some (.ref Tg),some (.ref R),some (.str (aM wd)),some (.str ⟨#[c]⟩),v6] H3:=fun D nY hD H3 s3 fh h3 hq=>by
    have hU:=pg.same s3;have Xd:(b0::a1).length<=2010:=by
     have:=f_ pg.rows;simp only[aN,aV] at this ⊢;lia
    refine Zq Y_ ?_;refine⟨_,rfl,rfl,_,rfl,?_⟩;show if decide (V.str ⟨#[c]⟩=V.str ⟨#[40]⟩)=true then _ else _
    rw[pK];by_cases fz:c=40
    ·rw[aQ fz];rw[ah fz] at hq;refine aH ?_;show ZwB _ _ _;refine Zq ZA ?_;refine⟨_,rfl,.inl ⟨rfl,_,ak.of hU.hT⟩,_,rfl,Tg,_,_,rfl,rfl,hU.hT,ZW (by simp;lia),?_⟩;have nC:(upd H3 Tg (.lst (((st.map Prod.fst).map V.str).reverse ++ [.str (aM wd)]))) R=some (.lst ((b0::a1).map V.ref).reverse):=by
      rw[Zi hU.RT];exact hU.hR
     show ZwC _ _ _;refine Zq ZE ?_;refine⟨_,rfl,.inl ⟨rfl,_,ak.of nC⟩,by decide,fun l hl=>?_⟩;obtain⟨_,dg⟩:=Z1 hl;have gz:(upd (upd H3 Tg (.lst (((st.map Prod.fst).map V.str).reverse ++ [.str (aM wd)]))) l (.lst [])) R=some (.lst ((b0::a1).map V.ref).reverse):=by
      rw[Zi (Zo hU.hR dg)];exact nC
     refine⟨R,_,_,rfl,rfl,gz,ZW (by simp at Xd ⊢;lia),?_⟩;have jW:=hU.opened hl;refine tail D hD .nil ((aM wd,cur)::st) _ _ jW (by simp[Pa.sz] <;> lia) ?_ (fun h=>by lia)
     rw[hq,af (by lia)]
    ·rw[aZ fz];rw[af fz] at hq;refine aE ?_;have Nv:∀(D':Ends),D'.rt=Q->(∀(bf:Pa)(H5:Hp)(lu:List Addr),bp H H5 R Tg lu (bf::st.map Prod.snd) (st.map Prod.fst)->bf.sz<=cur.sz+1->eM m wd cur=some bf->D'.nx [some (.str t),some (.int (m:Int)),some (.ref Tg),some (.ref R),some (.str (aM wd)),some (.str ⟨#[c]⟩),v6] H5)->gp m wd=false->∀H4,ZD H2 H4 ->
       Zwz D' [some (.str t),some (.int (m:Int)),some (.ref Tg),some (.ref R),some (.str (aM wd)),some (.str ⟨#[c]⟩),v6] H4:=fun D' P6 ly sS H4 s4=>by
      refine Zq Zp ?_;refine⟨_,rfl,aM wd,rfl,OS,by rw[B9];lia,_,rfl,?_⟩;rw[zW];unfold eM at ly;rw[sS,af bb] at ly;have jW:=pg.same s4;cases jf:eG wd with
      | true =>
       rw[jf,ah rfl] at ly;refine aH ?_;have vz:=s4 _ _ cw;refine⟨_,rfl,1,rfl,R,_,-1,.ref b0,rfl,rfl,ak.of (s4 _ _ nE),jv _ _,.inl ⟨rfl,_,ak.of vz⟩,_,rfl,by decide,fun e he=>⟨(by show 3<=sizeLine;decide),fun pt eU=>?_⟩⟩;have s5:=ZD.new (o:=.tup []) he;have s6:=ZD.new (o:=.tup [.str "tag",.str (aM wd),.ref e]) eU;have Pt:=s5.trans s6;have h06:=Pt _ _ vz;have qA:pt≠b0:=fun z=>by rw[z,s5 _ _ vz] at eU;cases eU
       have neb:e≠b0:=fun z=>by rw[z,vz] at he;cases he
       have Gd:=dS.length;refine⟨b0,_,_,rfl,rfl,h06,ZW (by lia),?_⟩;refine ly (cur.app (.tag (aM wd) .nil .nil)) _ _ (jW.put vz (dS.mono s4.tk) Pt (.tag (q:=e) (by rw[Zi qA];exact Zc) (by rw[Zi neb];exact s6 _ _ Zc) .nil .nil)) ?_ rfl;simp only[Pa.iu,Pa.sz];lia
      | false =>
       rw[jf,af bb] at ly;refine aE ?_;show ZwA _ _ _;refine Zq Zs ?_;refine⟨_,rfl,rfl,_,rfl,?_⟩;show if(!decide (V.str (aM wd)=V.str (Str.ofString "")))=true then _ else _
       rw[CH];by_cases g_:wd=[]
       ·rw[aQ g_];rw[ah g_] at ly;exact aE (ly cur _ _ jW (by lia) rfl)
       ·rw[aZ g_];refine aH ?_;show D'.rt V.aD H4;rw[P6];refine out H4 s4 (hq.trans ?_);unfold eM;rw[sS,af bb,jf,af bb,af g_]
     have G3:∀(D':Ends),(∀ σ H,PK D σ H->D'.nx σ H)->∀(bf:Pa)(H5:Hp)(lu:List Addr),bp H H5 R Tg lu (bf::st.map Prod.snd) (st.map Prod.fst)->bf.sz<=cur.sz+1->eM m wd cur=some bf->D'.nx [some (.str t),some (.int (m:Int)),some (.ref Tg),some (.ref R),some (.str (aM wd)),some (.str ⟨#[c]⟩),v6] H5:=fun D' ly bf H5 lu pg5 hz5 hq5=>by
      rw[hq5] at hq;exact ly _ _ (tail D hD bf st lu H5 pg5 (by lia) hq (fun h hs=>fh (.inr ⟨h,.inl hs⟩)))
     show Zwy _ _ _;refine Zq Zl ?_;refine⟨_,rfl,(by show 4<=sizeLine;decide),fun tp Gb=>⟨tp,_,rfl,.inr (aL.of Zc),rfl,rfl,_,rfl,?_⟩⟩;have sp:=ZD.new (o:=.tup [.str "0",.str "1",.str "2",.str "3"]) Gb;have tB:=s3.trans sp;show if jV (V.str (aM wd)) [.str "0",.str "1",.str "2",.str "3"]=true then _ else _
     rw[Uj];cases sI:(decide (wd.length=1)&&decide (48<=wd.headD 0)&&decide (wd.headD 0<=51)) with
     | false =>
      have sS:gp m wd=false:=by unfold gp;rw[sI];rfl
      refine aE (aE (Nv _ ?_ ?_ sS _ tB))
      ·exact nY
      ·exact G3 _ (fun _ _ h=>h)
     | true =>
      rw[cO,cO,cB,cB,cB] at sI;obtain⟨⟨iE,N1⟩,N3⟩:=sI;cases wd with
      | nil=>cases iE
      | cons c9 r9 =>
       obtain rfl:r9=[]:=la (by simpa using iE);have N1:48<=c9:=N1;have N3:c9<=51:=N3;obtain⟨d9,rfl⟩:∃d9,c9=48+d9:=⟨c9-48,by lia⟩;have NA:PySem.intText? (aM [48+d9])=some (d9:Int):=r_ (by lia);refine aH ⟨_,rfl,_,_,rfl,NA,(by show 1<=640;decide),_,rfl,_,_,rfl,rfl,_,rfl,?_⟩;by_cases aC:d9<m
       ·rw[aQ (by lia)];refine aH ?_;have ny:=tB _ _ cw;have jW:=pg.same tB;refine⟨_,rfl,1,rfl,R,_,-1,.ref b0,rfl,rfl,ak.of (tB _ _ nE),jv _ _,.inl ⟨rfl,_,ak.of ny⟩,_,rfl,_,_,rfl,NA,(by show 1<=640;decide),(by show 2<=sizeLine;decide),fun pt eU=>?_⟩;have s6:=ZD.new (o:=.tup [.str "kids",.int (d9:Int)]) eU;have qA:pt≠b0:=fun z=>by rw[z,ny] at eU;cases eU
        have Gd:=dS.length;refine⟨b0,_,_,rfl,rfl,s6 _ _ ny,ZW (by lia),?_⟩;refine G3 _ (fun _ _ h=>h) (cur.app (.kids (d9:Int) .nil)) _ _ (jW.put ny (dS.mono tB.tk) s6 (.kids (by rw[Zi qA];exact Zc) .nil)) ?_ ?_
        ·simp only[Pa.iu,Pa.sz];lia
        ·have:gp m [48+d9]=true:=by
          unfold gp;simp;lia
         unfold eM;rw[this,ah rfl];show some (cur.app (.kids ((48+d9-48:Nat):Int) .nil))=_;rw[show(48+d9-48:Nat)=d9 by lia]
       ·rw[aZ (by lia)];have sS:gp m [48+d9]=false:=by
         unfold gp;simp;lia
        refine aE (Nv _ ?_ ?_ sS _ tB)
        ·exact nY
        ·exact G3 _ (fun _ _ h=>h)
   have mid:∀(D:Ends),D.rt=Q->(∀ ao H',Nx ao H'->D.nx ao H')->∀H3,ZD H2 H3->(c=32\/c=40\/c=41) -> ¬ (c≠41/\wd=[]/\aB cur=true)->Hl D [some (.str t),some (.int (m:Int)),some (.ref Tg),some (.ref R),some (.str (aM wd)),some (.str ⟨#[c]⟩),v6] H3:=fun D nY hD H3 s3 h3 fh=>by
    refine Zq EQ ?_;have hs:=n8;rw[af (show ¬ (¬ (c=32\/c=40\/c=41)\/(c≠41/\wd=[]/\aB cur=true)) from fun h=>h.elim (fun k=>k h3) fh)] at hs;have zd:=fun H4 (s4:ZD H2 H4) (hb : ¬ ((c=40/\eG wd=false)\/(c=41/\(st=[]\/(wd=[]/\aB cur=true)))))=>lop D nY hD H4 s4 hb h3 (hs.trans (af hb));have G6:∀H4 (s4:ZD H2 H4),((c=40/\eG wd=false)\/(c=41/\(st=[]\/(wd=[]/\aB cur=true))))->D.rt .aD H4:=fun H4 s4 hb=>by
     rw[nY];exact out H4 s4 (hs.trans (ah hb))
    refine⟨_,rfl,rfl,_,rfl,?_⟩;show if decide (V.str ⟨#[c]⟩=V.str ⟨#[40]⟩)=true then _ else _
    rw[pK];by_cases fz:c=40
    ·rw[aQ fz];refine aH ⟨_,rfl,aM wd,rfl,OS,by rw[B9];lia,_,rfl,?_⟩;rw[zW];cases jf:eG wd with
     | true =>
      refine aE ⟨_,rfl,rfl,_,rfl,?_⟩;show if decide (V.str ⟨#[c]⟩=V.str ⟨#[41]⟩)=true then _ else _
      rw[pK,aZ (by lia)];exact aE (aE (zd H3 s3 (by rw[jf];rintro(⟨_,h⟩|⟨h,_⟩);cases h;lia)))
     | false=>exact aH (aH (G6 H3 s3 (.inl ⟨fz,jf⟩)))
    ·rw[aZ fz];refine aE (aE ⟨_,rfl,rfl,_,rfl,?_⟩);show if decide (V.str ⟨#[c]⟩=V.str ⟨#[41]⟩)=true then _ else _
     rw[pK];by_cases fV:c=41
     ·rw[aQ fV];refine aH ⟨_,rfl,by decide,fun e he=>?_⟩;have se:=ZD.new (o:=.lst []) he;have qD:=s3.trans se;refine⟨Tg,e,_,rfl,rfl,ak.of (qD _ _ pg.hT),ak.of Zc,_,rfl,?_⟩;cases dh:st with
      | nil=>exact aH (aH (G6 _ qD (.inr ⟨fV,.inl dh⟩)))
      | cons x ag =>
       rw[show(((x::ag).map Prod.fst).map V.str).reverse.isEmpty=false by simp];refine aE ⟨_,rfl,rfl,_,rfl,?_⟩;show if decide (V.str (aM wd)=V.str (Str.ofString ""))=true then _ else _
       rw[CH];by_cases g_:wd=[]
       ·rw[aQ g_];refine aH ⟨_,rfl,1,rfl,R,_,-1,.ref b0,rfl,rfl,ak.of (qD _ _ nE),jv _ _,by decide,fun e2 ma=>?_⟩;have Hb:=ZD.new (o:=.lst []) ma;refine⟨b0,e2,vs0,rfl,rfl,ak.of ((qD.trans Hb) _ _ cw),ak.of Zc,_,rfl,?_⟩;rw[Oq];cases vR:aB cur with
        | true=>exact aH (G6 _ (qD.trans Hb) (.inr ⟨fV,.inr ⟨g_,vR⟩⟩))
        | false=>exact aE (zd _ (qD.trans Hb) (by rw[dh,vR];rintro(⟨h,_⟩|⟨_,h|h⟩);exact fz h;cases h;cases h.2))
       ·rw[aZ g_];exact aE (aE (zd _ qD (by rw[dh];rintro(⟨h,_⟩|⟨_,h|h⟩);exact fz h;cases h;exact g_ h.1)))
     ·rw[aZ fV];exact aE (aE (zd H3 s3 (by rintro(⟨h,_⟩|⟨h,_⟩);exact fz h;exact fV h)))
   show AK _ _ _;refine Zq vk ?_;refine⟨_,rfl,_,_,rfl,rfl,_,rfl,?_⟩;rw[CF,Vp];by_cases h3:c=32\/c=40\/c=41
   ·rw[aQ h3];refine aE ⟨_,rfl,rfl,_,rfl,?_⟩;show if(!(decide (V.str ⟨#[c]⟩=V.str ⟨#[41]⟩)))=true then _ else _
    rw[pK];by_cases fV:c=41
    ·rw[aQ fV];exact aE (aE (mid _ rfl (fun _ _ h=>h) H2 (ZD.refl _) h3 (fun h=>h.1 fV)))
    ·rw[aZ fV];refine aH ⟨_,rfl,rfl,_,rfl,?_⟩;show if decide (V.str (aM wd)=V.str (Str.ofString ""))=true then _ else _
     rw[CH];by_cases g_:wd=[]
     ·rw[aQ g_];refine aH ⟨_,rfl,1,rfl,R,_,-1,.ref b0,rfl,rfl,ak.of nE,jv _ _,by decide,fun e he=>?_⟩;have se:=ZD.new (o:=.lst []) he;refine⟨b0,e,vs0,rfl,rfl,ak.of (se _ _ cw),ak.of Zc,_,rfl,?_⟩;rw[Oq];cases vR:aB cur with
      | true =>
       rw[ah (.inr ⟨fV,g_,vR⟩)] at n8;exact aH (out _ se n8)
      | false =>
       exact aE (mid _ rfl (fun _ _ h=>h) _ se h3 (fun h=>by rw[vR] at h;cases h.2.2))
     ·rw[aZ g_];exact aE (aE (mid _ rfl (fun _ _ h=>h) H2 (ZD.refl _) h3 (fun h=>g_ h.2.1)))
   ·rw[aZ h3];rw[ah (.inl h3)] at n8;exact aH (aH (out H2 (ZD.refl _) n8))
 ·rintro σ H2 ⟨wd,cur,st,v5,v6,rfl,hS⟩;have he:=hS.e;rw[show tt.cps.toList.length=(cs tt).length from rfl,oG,yR] at he;obtain⟨as,pg⟩:=hS.pg;show u4 _ _ _;refine Zq e4 ?_;refine⟨_,rfl,by decide,fun e ma=>?_⟩;have se:=ZD.new (o:=.lst []) ma;have iL:=pg.same se;refine⟨Tg,e,_,rfl,rfl,ak.of iL.hT,ak.of Zc,_,rfl,?_⟩;cases st with
  | cons x st =>
   rw[show(!(((x::st).map Prod.fst).map V.str).reverse.isEmpty)=true by simp];refine aH (q1 ?_ _ iL.sm);unfold fD;rw[he]
  | nil =>
   refine aE ?_;show u5 _ _ _;refine Zq e5 ?_;have cG:=iL.rows;cases cG with
   | @cons b1 _ lu _ r cG =>
    cases cG;obtain⟨vs,kD,qd⟩:=r;refine⟨_,rfl,R,_,0,.ref b1,rfl,rfl,ak.of iL.hR,rfl,b1,vs,rfl,.inl ⟨ak.of kD,fun r hr=>?_⟩⟩;refine q2 cur ?_ _ r vs (iL.sm.trans (ZD.new hr)) Zc (qd.mono (TK.new hr));unfold fD;rw[he]
theorem RZ{m c:Nat}{wd:List Nat}{cur:Pa}{st:aY}{x:Qs}(h:c_ m c wd cur st=some x) :
  x.2.1.sz+(x.2.2.map fun y=>y.2.sz).sum+x.2.2.length<=cur.sz+(st.map fun y=>y.2.sz).sum+st.length+1:=by
 unfold c_ at h
 split at h
 ·cases h;dsimp only;lia
 ·split at h
  ·cases h
  ·split at h
   ·cases h
   ·split at h
    ·cases h;simp[Pa.sz];lia
    ·split at h
     ·cases h
     ·rename_i bf hq
      have hc:bf.sz<=cur.sz+1:=by
       unfold eM at hq
       split at hq
       ·cases hq;simp only[Pa.iu,Pa.sz];lia
       ·split at hq
        ·cases hq;simp only[Pa.iu,Pa.sz];lia
        ·split at hq
         ·cases hq;lia
         ·cases hq
      split at h
      ·cases st with
       | nil=>cases h
       | cons y st =>
        obtain⟨w,o⟩:=y;cases h;simp[Pa.iu,Pa.sz];lia
      ·cases h;dsimp only;lia
theorem LV{m:Nat}:∀(t wd:List Nat)(cur:Pa)(st:aY)(x:Qs),bJ m t wd cur st=some x->x.2.1.sz+(x.2.2.map fun y=>y.2.sz).sum+x.2.2.length<=cur.sz+(st.map fun y=>y.2.sz).sum+st.length+t.length
 | [],wd,cur,st,x,h=>by
  cases h;exact az _
 | c::t,wd,cur,st,x,h=>by
  rw[bJ] at h;cases hq:c_ m c wd cur st with
  | none=>rw[hq] at h;cases h
  | some y =>
   rw[hq] at h;have h1:=RZ hq;have h2:=LV t _ _ _ _ h;rw[aN];lia
theorem LR{m:Nat}{t:List Nat}{p:Pa}(h:fD m t=some p):p.sz<=t.length+1:=by
 unfold fD at h
 split at h
 ·rename_i wd cur hq
  cases h;have:=LV _ _ _ _ _ hq;simp[Pa.sz] at this;lia
 ·cases h
def ij(B:Nat):Pa->aY->Prop
 | cur,[]=>cur.dep<=B+1
 | cur,(_,o)::st=>cur.dep+st.length+1<=B+1/\ij B o st
theorem ij.top{B:Nat}{cur:Pa}{st:aY}(h:ij B cur st):cur.dep+st.length<=B+1:=by
 cases st with
 | nil=>exact h
 | cons x st=>exact h.1
theorem ij.set{B:Nat}{cur bf:Pa}{st:aY}(h:ij B cur st)(hc:bf.dep+st.length<=B+1):ij B bf st:=by
 cases st with
 | nil=>exact hc
 | cons x st=>exact⟨hc,h.2⟩
theorem ij.mono{B B':Nat}(hb:B<=B'):∀{st:aY}{cur:Pa},ij B cur st->ij B' cur st
 | [],_,h=>cY h (by lia)
 | (_,o)::st,cur,h=>⟨by have:=h.1;lia,h.2.mono hb⟩
theorem uH:∀p q:Pa,(p.app q).dep=max p.dep q.dep
 | .nil,q=>by simp[Pa.app,Pa.dep]
 | .kids _ o,q=>by simp only[Pa.app,Pa.dep,uH o q]
 | .tag _ w o,q=>by simp only[Pa.app,Pa.dep,uH o q];lia
theorem Te{m c B:Nat}{wd:List Nat}{cur:Pa}{st:aY}{x:Qs}(h:c_ m c wd cur st=some x)(hd:ij B cur st)(hl:st.length<=B):ij (B+(if c=40 then 1 else 0)) x.2.1 x.2.2/\x.2.2.length<=B+(if c=40 then 1 else 0):=by
 have ht:=hd.top;unfold c_ at h
 split at h
 ·cases h;exact⟨hd.mono (Nat.le_add_right _ _),by show st.length<=_;lia⟩
 ·split at h
  ·cases h
  ·split at h
   ·cases h
   ·split at h
    ·rename_i fz
     cases h;rw[ah fz];refine⟨⟨?_,hd.mono (h_ _)⟩,?_⟩
     ·show 0+st.length+1<=B+1+1;lia
     ·show st.length+1<=_;lia
    ·rename_i fz
     rw[af fz]
     split at h
     ·cases h
     ·rename_i bf hq
      have hc:bf.dep+st.length<=B+1:=by
       unfold eM at hq
       split at hq
       ·cases hq;rw[uH];simp only[Pa.dep];lia
       ·split at hq
        ·cases hq;rw[uH];simp only[Pa.dep];lia
        ·split at hq
         ·cases hq;lia
         ·cases hq
      have gg:=hd.set hc
      split at h
      ·cases st with
       | nil=>cases h
       | cons y st =>
        obtain⟨w,o⟩:=y;cases h;have ho:=gg.2.top;have h1:=gg.1;refine⟨gg.2.set ?_,?_⟩
        ·rw[uH];simp only[Pa.dep];lia
        ·show st.length<=_;simp only[aN] at hl;lia
      ·cases h;exact⟨gg,hl⟩
theorem Ln{m:Nat}:∀(t wd:List Nat)(cur:Pa)(st:aY)(x:Qs)(B:Nat),bJ m t wd cur st=some x->ij B cur st->st.length<=B->ij (B+t.count 40) x.2.1 x.2.2
 | [],wd,cur,st,x,B,h,hd,hl=>by
  cases h;exact hd
 | c::t,wd,cur,st,x,B,h,hd,hl=>by
  rw[bJ] at h;cases hq:c_ m c wd cur st with
  | none=>rw[hq] at h;cases h
  | some y =>
   rw[hq] at h;obtain⟨h1,h2⟩:=Te hq hd hl;have h3:=Ln t _ _ _ _ _ h h1 h2;rw[fo];have e:B+(if c=40 then 1 else 0)+t.count 40=B+(t.count 40+if(c == 40)=true then 1 else 0):=by
    by_cases z:c=40 <;> simp[z] <;> lia
   rw[e] at h3;exact h3
theorem Lk{m:Nat}{t:List Nat}{p:Pa}(h:fD m t=some p):p.dep<=t.count 40+1:=by
 unfold fD at h
 split at h
 ·rename_i wd cur hq
  cases h;have:=Ln _ _ _ _ _ 0 hq (bi _) (az _);rw[fm,show List.count 40 [32]=0 from rfl] at this;have:p.dep<=0+(t.count 40+0)+1:=this;lia
 ·cases h
def gr(m:Nat)(row:Str):Option Rl :=
 match cs (Txt.partition row " = ").1 with
 | c::b::g=>if g ≠ []/\(48<=c/\c<=51)/\c-48<m/\b=32 then
   (match (if(Txt.partition row " = ").2.2=Str.ofString "{}" then some Pa.nil else fD m (cs (Txt.partition row " = ").2.2)) with
    | none=>none
    | some p=>if eG g=true then some (((c-48:Nat):Int),aM g,p) else none)
  else none
 | _=>none
theorem uN{m:Nat}(hm:m<=9):∀{p:Pa},bg m p->∀c∈tP p,bU c=true\/bA c=true\/c=32\/c=40\/c=41
 | .nil,_,c,hc=>nomatch hc
 | .kids n o,h,c,hc=>by
  have h1:=h.1.1;have h2:=h.1.2;have hc:c∈(48+n.toNat)::XT o:=hc;rcases aG.mp hc with rfl|hc
  ·exact .inr (.inl (yz (by lia)))
  ·unfold XT at hc
   split at hc
   ·cases hc
   ·rcases aG.mp hc with rfl|hc
    ·exact .inr (.inr (.inl rfl))
    ·exact uN hm h.2 c hc
 | .tag t w o,h,c,hc=>by
  have hc:c∈cs t++((if aB w=true then [] else 40::(tP w ++ [41]))++XT o):=hc
  rcases bK.mp hc with hc|hc
  ·exact .inl (eZ.mp h.1.1 c hc)
  ·rcases bK.mp hc with hc|hc
   ·split at hc
    ·cases hc
    ·rcases aG.mp hc with rfl|hc
     ·exact .inr (.inr (.inr (.inl rfl)))
     ·rcases bK.mp hc with hc|hc
      ·exact uN hm h.2.1 c hc
      ·rw[bh.mp hc];exact .inr (.inr (.inr (.inr rfl)))
   ·unfold XT at hc
    split at hc
    ·cases hc
    ·rcases aG.mp hc with rfl|hc
     ·exact .inr (.inr (.inl rfl))
     ·exact uN hm h.2.2 c hc
theorem CG{c d:Nat}(h:bU c=true)(hd:d=59\/d=61):c≠d:=by
 unfold bU at h;simp at h;lia
theorem VQ{c d:Nat}(h:bA c=true)(hd:d=59\/d=61):c≠d:=by
 unfold bA at h;simp at h;lia
theorem MG{m d:Nat}(hm:m<=9){p:Pa}(h:bg m p)(hd:d=59\/d=61):d∉tP p:=fun hc=>by
 rcases uN hm h d hc with k|k|k|k|k
 ·exact CG k hd rfl
 ·exact VQ k hd rfl
 ·lia
 ·lia
 ·lia
def vL(r:Rl):List Nat:=(48+r.1.toNat)::32::cs r.2.1
def qF(r:Rl):List Nat:=if aB r.2.2=true then [123,125] else tP r.2.2
theorem SO(r:Rl):aM (tR r)=aM (vL r)++Str.ofString " = " ++ aM (qF r):=by
 apply jB;rw[Z2,Z2,df,df,df];unfold tR vL qF;show _=_ ++ [32,61,32]++_;simp
theorem Vw{m:Nat}(hm:m<=4){r:Rl}(h:gK m r):gr m (aM (tR r))=some r:=by
 obtain⟨n,g,p⟩:=r;obtain⟨⟨n0,n1⟩,hT,hp⟩:=h;have n0:0<=n:=n0;have n1:n<m:=n1;have hT:fQ g:=hT;have hp:bg m p:=hp;have hh:(61:Nat)∉cs (aM (vL (n,g,p))):=by
  rw[df];unfold vL;intro hc;rcases aG.mp hc with hc|hc
  ·have hc:61=48+n.toNat:=hc;lia
  ·rcases aG.mp hc with hc|hc
   ·cases hc
   ·exact CG (eZ.mp hT.1 61 hc) (.inr rfl) rfl
 have ht:(61:Nat)∉cs (aM (qF (n,g,p))):=by
  rw[df];unfold qF
  split
  ·decide
  ·exact MG (by lia) hp (.inr rfl)
 have e:=T4 (y:=Str.ofString " = ") (c:=61) (q:=1) rfl (by decide) (by decide) _ _ hh ht;unfold gr;rw[SO,e];dsimp only;rw[df];unfold vL;dsimp only;have FF:cs g ≠ []:=fun z=>by
  have:=hT.2.1;rw[z] at this;cases this
 rw[ah ⟨FF,⟨by lia,by lia⟩,by lia,rfl⟩];have e2:(if aM (qF (n,g,p))=Str.ofString "{}" then some Pa.nil else fD m (cs (aM (qF (n,g,p)))))=some p:=by
  rw[df];unfold qF;dsimp only;cases iI:aB p with
  | true =>
   obtain rfl:=kj.mp iI;rw[ah rfl];exact ah rfl
  | false =>
   rw[af bb,af,LY hm iI hp];intro z;have z:=congrArg cs z;rw[df] at z;obtain⟨c,zz,hc,kI⟩:=Mu (by lia) iI hp;rw[hc] at z;injection z with z _;subst z;exact absurd kI (by decide)
 rw[e2];dsimp only;rw[uF.mpr hT,if_pos rfl,r8,show((48+n.toNat-48:Nat):Int)=n by lia]
theorem JX{m:Nat}(hm:m<=4){row:Str}{r:Rl}(h:gr m row=some r):gK m r/\r.2.2.sz<=row.length+1/\r.2.2.dep<=(cs row).count 40+1:=by
 have hl:=KU row (Str.ofString " = ");have hs:=PySem.StrLaws.partition_sum row (Str.ofString " = ");have hcn:(cs (Txt.partition row (Str.ofString " = ")).2.2).count 40<=(cs row).count 40:=by
  conv=>rhs;rw[<- hs]
  rw[Z2,fm];lia
 unfold gr at h
 split at h
 ·rename_i c b g vK
  split at h
  ·rename_i cW
   split at h
   ·cases h
   ·rename_i p hp
    split at h
    ·rename_i hg
     cases h;have bG:bg m p/\p.sz<=row.length+1/\p.dep<=(cs row).count 40+1:=by
      split at hp
      ·cases hp;exact⟨trivial,bi _,bi _⟩
      ·have h1:=LR hp;have h2:=Lk hp;rw[ZR] at h1;exact⟨SG hp,cY h1 (by lia),by lia⟩
     refine⟨⟨⟨?_,?_⟩,Ce hg,bG.1⟩,bG.2⟩
     ·show(0:Int)<=((c-48:Nat):Int);lia
     ·show((c-48:Nat):Int)<(m:Int);lia
    ·cases h
  ·cases h
 ·cases h
theorem Kz{m:Nat}{rs:List Rl}(hw:∀r∈rs,gK m r)(hm:m<=4){T:Str}(e:cs T=tC m rs):Txt.split T (Str.ofString "; ")=aM [48+m]::rs.map fun r=>aM (tR r):=by
 have eT:T=Txt.join (Str.ofString "; ") (aM [48+m]::rs.map fun r=>aM (tR r)):=by
  apply jB;rw[e,rR];have:∀(x:Str)(rs:List Rl),jn (Str.ofString "; ") (x::rs.map fun r=>aM (tR r))=cs x++ck rs:=by
   intro x rs
   induction rs generalizing x with
   | nil=>exact(iO _).symm
   | cons r rs ih =>
    show cs x++([59,32]++jn (Str.ofString "; ") (aM (tR r)::rs.map fun r=>aM (tR r)))=cs x++59::32::(tR r++ck rs);rw[ih (aM (tR r)),df];rfl
  rw[this,df];rfl
 rw[eT];refine Rt (c:=59) (q:=0) rfl (by decide) (by decide +kernel) _ _ fun z hz=>?_;rcases aG.mp hz with rfl|hz
 ·rw[df];intro hc;have:59=48+m:=by simpa using hc
  lia
 ·obtain⟨r,hr,rfl⟩:=gL.mp hz;obtain⟨⟨n0,n1⟩,hT,hp⟩:=hw r hr;rw[df];unfold tR;intro hc;rcases aG.mp hc with hc|hc
  ·have hc:59=48+r.1.toNat:=hc;lia
  ·rcases aG.mp hc with hc|hc
   ·cases hc
   ·rcases bK.mp hc with hc|hc
    ·exact CG (eZ.mp hT.1 59 hc) (.inl rfl) rfl
    ·rcases aG.mp hc with hc|hc
     ·cases hc
     ·rcases aG.mp hc with hc|hc
      ·cases hc
      ·rcases aG.mp hc with hc|hc
       ·cases hc
       ·split at hc
        ·revert hc;decide
        ·exact MG (by lia) hp (.inl rfl) hc
theorem Lf{m:Nat}{rs:List Rl}{zs:List Str}(e:zs.map cs=[48+m]::rs.map tR):cs (Txt.join (Str.ofString "; ") zs)=tC m rs:=by
 rw[rR];cases zs with
 | nil=>cases e
 | cons z zs =>
  rw[br] at e;injection e with e1 e2;have:∀(x:Str)(zs:List Str)(rs:List Rl),zs.map cs=rs.map tR->jn (Str.ofString "; ") (x::zs)=cs x++ck rs:=by
   intro x zs
   induction zs generalizing x with
   | nil =>
    intro rs h;cases rs with
    | nil=>exact(iO _).symm
    | cons r rs=>cases h
   | cons y zs ih =>
    intro rs h;cases rs with
    | nil=>cases h
    | cons r rs =>
     rw[br,br] at h;injection h with h1 h2;show cs x++([59,32]++jn (Str.ofString "; ") (y::zs))=cs x++59::32::(tR r++ck rs);rw[ih y rs h2,h1];rfl
  rw[this z zs rs e2,e1];rfl
theorem yy(sep:Str):∀(x:Str)(xs:List Str),(jn sep (x::xs)).length=((x::xs).map (·.length)).sum+xs.length*sep.length
 | x,[]=>by show(cs x).length=x.length+0+0*_;rw[ZR];lia
 | x,y::r=>by
  have:=yy sep y r;show(cs x++(cs sep++jn sep (y::r))).length=x.length+((y::r).map (·.length)).sum+(r.length+1)*sep.length;rw[bu,bu,ZR,ZR,this,Nat.succ_mul];lia
theorem B0(sep:Str)(a:Nat):∀(xs:List Str)(z:Str),z∈xs->(cs z).count a<=(jn sep xs).count a
 | [],z,h=>nomatch h
 | [x],z,h=>by
  rw[bh.mp h];exact az _
 | x::y::r,z,h=>by
  show _<=(cs x++(cs sep++jn sep (y::r))).count a;rw[fm,fm];rcases aG.mp h with rfl|h
  ·lia
  ·have:=B0 sep a (y::r) z h;lia
theorem T2(x y:Str):jn y (Txt.split x y)=cs x:=by
 have:=PySem.StrLaws.join_split x y;have e:Txt.join y (Txt.split x y)=Str.join y (Txt.split x y):=PySem.StrLaws.glued_eq_join y _;rw[<- rR,e,this]
theorem Ts(x y:Str):∃z zs,Txt.split x y=z::zs:=by
 unfold Txt.split
 split
 ·exact⟨_,_,rfl⟩
 ·split
  ·exact⟨_,_,rfl⟩
  ·rw[PySem.StrLaws.partsBetween_eq];exact PySem.StrLaws.partsFrom_ne _ _ _ _
theorem B3{t:Str}{j:Int}(h0:0<=j)(h:j<=t.length):cs (PySem.StrLaws.sliceText t (some j) none)=(cs t).drop j.toNat:=by
 have aC:t.cps.toList.length=t.length:=by rw[aA];rfl
 rw[PySem.StrLaws.sliceText_from (x:=t) (i:=j) ⟨h0,by rw[aC];lia⟩];show(List.take _ (List.drop _ t.cps.toList)).toArray.toList=_;simp only[xg];rw[j6 (by rw[dE,aC];lia)];rfl
theorem K5(z:Str):jV (V.str z) [.str "1",.str "2",.str "3",.str "4"]=true↔∃m,1<=m/\m<=4/\z=⟨#[48+m]⟩:=by
 have h0:jV (V.str z) [.str "1",.str "2",.str "3",.str "4"]=(decide (z=⟨#[49]⟩) || (decide (z=⟨#[50]⟩) || (decide (z=⟨#[51]⟩) || decide (z=⟨#[52]⟩)))):=by
  have c:∀a b:Str,decide (a=b)=decide (b=a):=fun a b=>j9.mpr ⟨Eq.symm,Eq.symm⟩;rw[c z,c z,c z,c z];unfold jV;simp only[oA,List.any_nil,Bool.or_false];rfl
 rw[h0];simp only[qI,cB];constructor
 ·rintro(h|h|h|h)
  ·exact⟨1,by decide,by decide,h⟩
  ·exact⟨2,by decide,by decide,h⟩
  ·exact⟨3,by decide,by decide,h⟩
  ·exact⟨4,by decide,by decide,h⟩
 ·rintro⟨m,h1,h4,h⟩;have:m=1\/m=2\/m=3\/m=4:=by lia
  rcases this with rfl|rfl|rfl|rfl
  ·exact .inl h
  ·exact .inr (.inl h)
  ·exact .inr (.inr (.inl h))
  ·exact .inr (.inr (.inr h))
def dP(q:bj.Ps):PyData:=.tuple [.int q.1,.str q.2]
theorem U7(a b:bj.Ps):PyData.eqv (dP a) (dP b)=decide (a=b):=by
 obtain⟨a1,a2⟩:=a;obtain⟨b1,b2⟩:=b;rw[jl];simp[dP,PyData.eqv,PyData.eqvAll]
theorem K':∀as bs:List bj.Ps,PyData.eqvAll (as.map dP) (bs.map dP)=decide (as=bs)
 | [],[]=>rfl
 | [],_::_=>rfl
 | _::_,[]=>rfl
 | a::as,b::bs=>by
  show(PyData.eqv (dP a) (dP b)&&PyData.eqvAll (as.map dP) (bs.map dP))=_;rw[U7,K' as bs,jl];simp
theorem Cs:∀{qs:List bj.Ps},(∀q∈qs,PyData.strOk q.2=true)->PyData.canLayAll0 (qs.map dP)=true
 | [],_=>rfl
 | q::qs,h=>by
  show((true&&(PyData.strOk q.2&&true))&&PyData.canLayAll0 (qs.map dP))=true;rw[h q (ba ..),Cs fun x hx=>h x (aW _ hx)];rfl
theorem CB{K:PySem.W.Frag}{H:Hp}:∀{zs:List V}{qs:List bj.Ps},cD H zs qs->jr K H zs (qs.map dP)
 | _,_,.nil=>.nil
 | _,_,.cons ⟨p,e1,e2⟩ t=>by
  rw[e1];exact .cons (.tup (aL.of e2) (.cons (.int _) (.cons (.str _) .nil))) (CB t)
theorem J8:∀qs:List bj.Ps,PyData.depthAll (qs.map dP)<=3
 | []=>bi _
 | q::qs=>by
  have:=J8 qs;show max ((dP q).depth) (PyData.depthAll (qs.map dP))<=3;have:(dP q).depth<=3:=by
   show _<=3;simp[dP,PyData.depth,PyData.depthAll]
  lia
theorem VW{g:Str}(h:fQ g):PyData.strOk g=true:=Ri (fun c hc=>by
 have:=CQ (eZ.mp h.1 c hc);lia)
theorem RX{a b:List bj.Ps}(ha:a.Pairwise (fun x y=>bj.cT x y=true))(hb:b.Pairwise (fun x y=>bj.cT x y=true))(h:∀q,q∈a↔q∈b):a=b:=by
 have nd:∀{l:List bj.Ps},l.Pairwise (fun x y=>bj.cT x y=true)->l.Nodup:=fun hl=>hl.imp fun{x y} kN e=>by
  rw[e,bj.mY.tw] at kN;cases kN
 refine List.Perm.eq_of_pairwise (le:=fun x y=>bj.cT x y=true) (fun x y _ _ h1 h2=>?_) ha hb ((List.perm_ext_iff_of_nodup (nd ha) (nd hb)).mpr h);have:=bj.mY.trans _ _ _ h1 h2;rw[bj.mY.tw] at this;cases this
theorem T1{c:Nat}:decide (c∈cs (Str.ofString "0123"))=decide (48<=c/\c<=51):=by
 refine j9.mpr ?_;show c ∈ [48,49,50,51]↔_;simp;lia
theorem KD{m:Nat}(hm:m<=4):∀{zs:List Str}{rs:List Rl},Paired (fun z r=>gr m z=some r) zs rs->(rs.map fun r=>15+12*r.2.2.sz).sum<=27*rs.length+12*(zs.map (·.length)).sum
 | _,_,.nil=>bi _
 | _,_,.cons a b=>by
  have h1:=(JX hm a).2.1;have h2:=KD hm b;simp only[br,iP,aN] at h2 ⊢;lia
theorem JC{α β : Type}{F : α -> β -> Prop}:∀{xs:List α}{ys:List β},Paired F xs ys->∀y∈ys,∃x∈xs,F x y
 | _,_,.cons r t,y,hy=>by
  rcases aG.mp hy with rfl|hy
  ·exact⟨_,ba ..,r⟩
  ·obtain⟨x,h1,h2⟩:=JC t y hy;exact⟨x,aW _ h1,h2⟩
theorem JE{m:Nat}:∀{zs:List Str}{rs dy:List Rl},Paired (fun z r=>gr m z=some r) zs rs->Paired (fun z r=>gr m z=some r) zs dy->rs=dy
 | _,_,_,.nil,.nil=>rfl
 | _,_,_,.cons a b,.cons c d=>by
  rw[a] at c;rw[dk c,JE b d]
theorem Jg{m:Nat}(hm:m<=4):∀{rs:List Rl},(∀r∈rs,gK m r)->Paired (fun z r=>gr m z=some r) (rs.map fun r=>aM (tR r)) rs
 | [],_=>.nil
 | r::rs,h=>.cons (Vw hm (h r (ba ..))) (Jg hm fun x hx=>h x (aW _ hx))
def kh(T:Str):List Str:=Txt.split T (Str.ofString "; ")
def Cn:Sp:=fun vs H Q _=>∃T:Str,vs=[.str T]/\ix T/\T.length<=1500/\(cs T).count 40<=60/\(∀m rs,oy m rs->cs T=tC m rs->∀(v:V)(H':Hp),ZD H H'->kg H' v m rs->Q v H')/\((∀m rs,oy m rs->cs T=tC m rs->False)->∀H',ZD H H'->Q .aD H')
set_option maxHeartbeats 8000000 in
theorem Qz(B:∀x∈cF,mg x=none)(E7:bF P w K mg base "_law_parts_read" ["_law_text_here","_law_modes"] 2 CI) (pV:bF P w K mg base "_law_is_tag" ["_law_word"] 1 xW) (sy:bF P w K mg base "_law_rows" ["_law_modes","_law_rules"] 71 x4) (F:bO K "_law_changer_of" "_law_changer_of" Zn f fd):aX P w K mg base cp 72 f fd ["_law_text_here"] Cn:=by
 refine F.ok ZJ (fun vs H Q E h=>?_) (fun aK A outer s H vs Q E hr h=>?_)
 ·obtain⟨T,rfl,_⟩:=h;rfl
 obtain⟨T,rfl,Fv,hT,Zxo,q1,q2⟩:=h;have hu:=pE hr;refine Zw ((Zd Zn).drop 7) (Zf (Zz (cS (Za (pv 2) (Za (ZX Z0 rfl (B "tuple" (by decide)) iY (Za (pv 3) Zb)) Zb))))) (fun u7 h7 e7=>?_);refine Zw ((Zd Zn).drop 6) (Ze (bt (PW.pt (jE (Zr (LQ hu) (pv 9) (QD rfl hu rfl (B "sorted" (by decide)) rfl (B "set" (by decide)) (Za (pv 9) Zb)) (ZK _)) (lN (Zr pM (cv mG t5 t6 rV Zm (Za (dc sy hr rfl (Za (pv 2) (Za (pv 3) Zb))) Zb)) (pv 0) (ZK _)))))
   (Zf (Zz gn))
   ZC) h7) (fun u6 h6 e6=>?_)
 refine Zw ((Zd Zn).drop 5) (Ze (Jl (cl:=[]) (n0:=9) ZJ.nd rfl (Or.inl rfl) ["_law_rule"] [] (uL (pv 3)) (fun _ _ _ _=>(dA (i:=0) nd1 rfl (Or.inl rfl))) (fun _ _ _ _=>(cS (Za (bo (Lm (K:=K) rfl) (pv 0) Zg (fun _ _=>rfl)) (Za (bo (Lm (K:=K) rfl) (pv 0) Zg (fun _ _=>rfl)) Zb)))) rfl rfl (by decide) rfl (by decide) (fun _ _ h=>nomatch h) (Cr (by decide)) (fun _ _ h=>nomatch h) (fun _=>rfl) rfl) h6) (fun u5 h5 e5=>?_)
 refine Zw ((ZV ((Zd Zn).getD 4 (.Pass ⟨0,0,0,0⟩))).drop 5) (Zf (Z7 (cv cI dX dY ZL (pv 3) (Za (cS (Za (ZX pC rfl (B "int" (by decide)) mZ (Za (bo jy (pv 5) Zg (fun _ _=>rfl)) Zb)) (Za (fK kq (pv 5) (eL Zg) io) (Za (pv 8) Zb)))) Zb)))) (fun ZwL Zqw ZpK=>?_);refine Zw ((ZV ((Zd Zn).getD 4 (.Pass ⟨0,0,0,0⟩))).drop 4) (Ze (bt (PW.pt (jE (Zr Ct (pv 8) gn (ZK _)) (lN (jA (ZZ (dc pV hr rfl (Za (fK kq (pv 5) (eL Zg) io) Zb)) (fun _=>rfl))))))
   (Zf (Zz gn))
   ZC) Zqw) (fun ZwK Zqv Z_=>?_)
 refine Zw ((ZV ((Zd Zn).getD 4 (.Pass ⟨0,0,0,0⟩))).drop 3) (Ze (bt (Zr pM (pv 7) Zm (ZK _))
   (Zf (Zx (i:=8) ZJ.nd rfl (Or.inl rfl) (dc E7 hr rfl (Za (pv 7) (Za (pv 2) Zb)))))
   ZC) Zqv) (fun ZwJ Zqu Z'=>?_)
 refine Zw ((ZV ((Zd Zn).getD 4 (.Pass ⟨0,0,0,0⟩))).drop 2) (Ze (Zx (i:=8) ZJ.nd rfl (Or.inl rfl) (cS Zb)) Zqu) (fun ZwI Zqt ZY=>?_);refine Zw ((ZV ((Zd Zn).getD 4 (.Pass ⟨0,0,0,0⟩))).drop 1) (Ze (bt (PW.pt (jE (Zr sf (ZF pq rfl (B "len" (by decide)) gb (Za (pv 5) Zb)) Zg (ZK _)) (jE (Zr Bq (bo jy (pv 5) Zg (fun _ _=>rfl)) Zm (by with_unfolding_all rfl)) (jE (Zr Wa (ZX pC rfl (B "int" (by decide)) mZ (Za (bo jy (pv 5) Zg (fun _ _=>rfl)) Zb)) (pv 2) (ZK _)) (lN (Zr pM (bo jy (pv 5) Zg (fun _ _=>rfl)) Zm (ZK _)))))))
   (Zf (Zz gn))
   ZC) Zqt) (fun ZwH Zqs ZU=>?_)
 refine Zw ((ZV ((Zd Zn).getD 4 (.Pass ⟨0,0,0,0⟩))).drop 0) (Ze (Cu (cv mG PySem.F.slot_str_partition PySem.F.type_str_partition UJ (pv 4) (Za Zm Zb)) (uV rfl (iZ (dA (i:=5) ZJ.nd rfl (Or.inl rfl)) (iZ (dA (i:=6) ZJ.nd rfl (Or.inl rfl)) (iZ (dA (i:=7) ZJ.nd rfl (Or.inl rfl)) uI))))) Zqs) (fun ZwG Zqr ZT=>?_);refine Zw ((Zd Zn).drop 4) (Ze (jx iQ rfl (uL (fK yg (pv 1) (eL Zg) io)) (dA (i:=4) ZJ.nd rfl (Or.inl rfl))
   Zqr) h5) (fun u4 h4 e4=>?_)
 refine Zw ((Zd Zn).drop 3) (Ze (Zx (i:=3) ZJ.nd rfl (Or.inl rfl) (dz Zb)) h4) (fun u3 h3 e3=>?_);refine Zw ((Zd Zn).drop 2) (Ze (Zx (i:=2) ZJ.nd rfl (Or.inl rfl) (ZX pC rfl (B "int" (by decide)) mZ (Za (bo Z6 (pv 1) Zg (fun _ _=>rfl)) Zb))) h3) (fun u2 h2 e2=>?_);refine Zw ((Zd Zn).drop 1) (Ze (bt (Zr QX (bo Z6 (pv 1) Zg (fun _ _=>rfl)) (cS (Za Zm (Za Zm (Za Zm (Za Zm Zb))))) (by with_unfolding_all rfl))
   (Zf (Zz gn))
   ZC) h2) (fun u1 h1 e1=>?_)
 refine Zw ((Zd Zn).drop 0) (Ze (Zx (i:=1) ZJ.nd rfl (Or.inl rfl) (cv mG PySem.F.slot_str_split PySem.F.type_str_split S_ (pv 0) (Za Zm Zb))) h1) (fun u0 h0 e0=>?_);refine⟨u0,h0,?_⟩;refine Zq e0 ?_;refine⟨_,rfl,rfl,T,Str.ofString "; ",rfl,rfl,rfl,by lia,fun Z hZ=>?_⟩;have s0:=ZD.new (o:=.lst ((kh T).map V.str)) hZ;have zl:(upd H Z (.lst ((kh T).map V.str))) Z=some (.lst ((kh T).map V.str)):=Zc;show u1 _ [some (.str T),some (.ref Z),none,none,none,none,none,none,none,none] (upd H Z (.lst ((kh T).map V.str)));generalize upd H Z (.lst ((kh T).map V.str))=H0 at s0 zl ⊢;have zC:jn (Str.ofString "; ") (kh T)=cs T:=T2 T _;obtain⟨z0,rest,fZ⟩:=Ts T (Str.ofString "; ");have fZ:kh T=z0::rest:=fZ;have OG:((kh T).map (·.length)).sum<=2000:=by
  have:=yy (Str.ofString "; ") z0 rest;rw[<- fZ,zC,ZR] at this;lia
 have iJ:rest.length<=750:=by
  have:=yy (Str.ofString "; ") z0 rest;rw[<- fZ,zC,ZR] at this;have e2:(Str.ofString "; ").length=2:=rfl;rw[e2] at this;lia
 have OD:∀z∈kh T,z.length<=2000/\(cs z).count 40<=60/\ix z:=fun z hz=>by
  refine⟨?_,?_,fun c hc=>?_⟩
  ·have:z.length<=((kh T).map (·.length)).sum:=B4 (AV hz);lia
  ·have:=B0 (Str.ofString "; ") 40 _ z hz;rw[zC] at this;lia
  ·have:=B0 (Str.ofString "; ") c _ z hz;rw[zC] at this;have h1:0<(cs z).count c:=List.count_pos_iff.mpr hc;have h2:0<(cs T).count c:=by lia
   exact Fv c (List.count_pos_iff.mp h2)
 rw[fZ] at zl;refine Zq e1 ?_;refine⟨_,rfl,Z,_,0,.str z0,rfl,rfl,ak.of zl,i8 (j:=0) rfl,(by show 4<=sizeLine;decide),fun tp Gb=>⟨tp,_,rfl,.inr (aL.of Zc),rfl,rfl,_,rfl,?_⟩⟩;have s1:=ZD.new (o:=.tup [.str "1",.str "2",.str "3",.str "4"]) Gb;have AB:=s0.trans s1;have Fu:=s1 _ _ zl;generalize upd H0 tp (.tup [.str "1",.str "2",.str "3",.str "4"])=H1 at AB Fu ⊢;show if(!jV (V.str z0) [.str "1",.str "2",.str "3",.str "4"])=true then _ else _
 cases iG:jV (V.str z0) [.str "1",.str "2",.str "3",.str "4"] with
 | false =>
  refine aH (q2 (fun m rs hw e=>?_) H1 AB);have e2:=Kz hw.2.1 hw.1.2 e;rw[show Txt.split T (Str.ofString "; ")=z0::rest from fZ] at e2;injection e2 with e2 _;have:=(K5 z0).mpr ⟨m,hw.1.1,hw.1.2,e2⟩;rw[iG] at this;cases this
 | true =>
  refine aE ?_;obtain⟨m,m1,m4,rfl⟩:=(K5 z0).mp iG;have only:∀m' rs,oy m' rs->cs T=tC m' rs->m'=m/\Paired (fun z r=>gr m z=some r) rest rs:=fun m' rs hw e=>by
   have e2:=Kz hw.2.1 hw.1.2 e;rw[show Txt.split T (Str.ofString "; ")=⟨#[48+m]⟩::rest from fZ] at e2;injection e2 with e2 e3;have e2:=congrArg cs e2;rw[df] at e2;have e2:[48+m] =[48+m']:=e2;have:m'=m:=by
    injection e2 with e2 _;lia
   subst this;rw[e3];exact⟨rfl,Jg m4 hw.2.1⟩
  show u2 _ _ _;refine Zq e2 ?_;refine⟨_,rfl,Z,_,0,.str ⟨#[48+m]⟩,rfl,rfl,ak.of Fu,i8 (j:=0) rfl,_,_,rfl,r_ (by lia),(by show 1<=640;decide),?_⟩;show u3 _ _ _;refine Zq e3 ?_;refine⟨by decide,fun L hL=>?_⟩;have s2:=ZD.new (o:=.lst []) hL;have AD:=AB.trans s2;have NW:=s2 _ _ Fu;have pZ:(upd H1 L (.lst [])) L=some (.lst []):=Zc;have fL:H L=none:=AB.free hL;show u4 _ _ _;generalize upd H1 L (.lst [])=H2 at AD NW pZ ⊢;refine Zq e4 ?_;refine⟨_,rfl,1,rfl,Z,_,rfl,ak.of NW,fun Cc hC=>?_⟩;have ER:dI ((⟨#[48+m]⟩::rest).map V.str) (some 1) none=rest.map V.str:=Kx _ 1;rw[ER];have s3:=ZD.new (o:=.lst (rest.map V.str)) hC;have wI:=AD.trans s3;have vE:(upd H2 Cc (.lst (rest.map V.str))) Cc=some (.lst (rest.map V.str)):=Zc;have p8:=s3 _ _ pZ;have nCL:Cc≠L:=fun z=>by rw[z,pZ] at hC;cases hC
  generalize upd H2 Cc (.lst (rest.map V.str))=H3 at wI vE p8 ⊢;refine⟨Cc,rfl,⟨_,ak.of vE⟩,B2 (K:=K) (a:=Cc) (xs:=rest.map V.str) (fun i σ H4=>∃(v4 v5 v6 v7 v8:Option V)(ws:List V)(rs:List Rl),σ =[some (.str T),some (.ref Z),some (.int (m:Int)),some (.ref L),v4,v5,v6,v7,v8,none]/\ZD H H4/\H4 Cc=some (.lst (rest.map V.str))/\H4 L=some (.lst ws)/\eO H4 ws rs/\Paired (fun z r=>gr m z=some r) (rest.take i) rs)
   ⟨none,none,none,none,none,[],[],rfl,wI,vE,p8,.nil,.nil⟩ ?_ ?_ ?_⟩
  ·rintro i σ H4 _ ⟨v4,v5,v6,v7,v8,ws,rs,_,_,h,_⟩;exact ak.of h
  ·rintro i x σ H4 hx ⟨v4,v5,v6,v7,v8,ws,rs,rfl,sm,pY,jO,nA,nz⟩;rw[f'] at hx;obtain⟨row,zS,rfl⟩:=oI.mp hx;obtain⟨nP,qe⟩:=cA.mp zS;obtain⟨b1,b2,b3⟩:=OD row (by rw[fZ];exact aW _ (cP zS));have g9:gr m row=none->∀H',ZD H H'->Q .aD H':=fun hq H' s'=>q2 (fun m' dy hw e=>by
    obtain⟨_,hp⟩:=only m' dy hw e;obtain⟨r,_,h2⟩:=rH hp zS;rw[hq] at h2;cases h2) H' s'
   have OB:=KU row (Str.ofString " = ");have zM:=PySem.StrLaws.partition_sum row (Str.ofString " = ");obtain⟨hd,zx⟩:∃hd,(Txt.partition row (Str.ofString " = ")).1=hd:=⟨_,rfl⟩;obtain⟨md,zJ⟩:∃md,(Txt.partition row (Str.ofString " = ")).2.1=md:=⟨_,rfl⟩;obtain⟨tl,jf⟩:∃tl,(Txt.partition row (Str.ofString " = ")).2.2=tl:=⟨_,rfl⟩;have hq:gr m row=(match cs hd with
    | c::b::g=>if g ≠ []/\(48<=c/\c<=51)/\c-48<m/\b=32 then(match (if tl=Str.ofString "{}" then some Pa.nil else fD m (cs tl)) with|none=>none|some p=>if eG g=true then some (((c-48:Nat):Int),aM g,p) else none) else none
    | _=>none):=by
    unfold gr;rw[zx,jf]
   rw[zx,jf] at OB;rw[zx,zJ,jf] at zM;have hhl:hd.length<=2000:=by lia
   have Zsg:tl.length<=2000:=by lia
   have hah:ix hd:=fun c hc=>b3 c (by
    have:c∈cs row:=by rw[<- zM,Z2,Z2];exact oE _ (oE _ hc)
    exact this)
   have kB:ix tl:=fun c hc=>b3 c (by
    have:c∈cs row:=by rw[<- zM,Z2,Z2];exact ft _ hc
    exact this)
   show ZwG _ _ _;refine Zq ZT ?_;refine⟨_,rfl,rfl,row,Str.ofString " = ",rfl,rfl,rfl,by lia,fun wN OO=>?_⟩;rw[zx,zJ,jf];have s5:=ZD.new (o:=.tup [.str hd,.str md,.str tl]) OO;have gI:=sm.trans s5;have NP:=s5 _ _ pY;have zg:=s5 _ _ jO;have nB:=nA.mono s5.tk;have ON:(upd H4 wN (.tup [.str hd,.str md,.str tl])) wN=some (.tup [.str hd,.str md,.str tl]):=Zc;refine⟨wN,_,rfl,aL.of ON,rfl,_,_,rfl,_,_,rfl,_,_,rfl,rfl,?_⟩;show ZwH _ [some (.str T),some (.ref Z),some (.int (m:Int)),some (.ref L),some (.str row),some (.str hd),some (.str md),some (.str tl),v8,none] (upd H4 wN (.tup [.str hd,.str md,.str tl]));generalize upd H4 wN (.tup [.str hd,.str md,.str tl])=H5 at gI NP zg nB ⊢;clear zM OB ON s5 OO jO nA pY sm;refine Zq ZU ?_;refine⟨_,rfl,hd,rfl,Zk (by lia),_,_,rfl,rfl,_,rfl,dC (fun c1=>?_) (fun c1=>?_)⟩
   ·have c1:(hd.length:Int)<3:=ig c1;refine aH (g9 ?_ H5 gI);rw[hq];rw[<- ZR] at c1;cases h:cs hd with
    | nil=>rfl
    | cons c r =>
     cases r with
     | nil=>rfl
     | cons b g =>
      rw[h] at c1;have:g=[]:=la (by simp only[aN] at c1;lia);rw[this];exact af fun z=>z.1 rfl
   have c1 : ¬ (hd.length:Int)<3:=fun z=>c1 (aQ z);rw[<- ZR] at c1;cases cW:cs hd with
   | nil=>rw[cW] at c1;exact absurd (by decide) c1
   | cons c r =>
    cases r with
    | nil=>rw[cW] at c1;exact absurd (by show(1:Int)<3;decide) c1
    | cons b g =>
     have FF:g ≠ []:=fun z=>by
      rw[cW,z] at c1;exact absurd (by show(2:Int)<3;decide) c1
     rw[cW] at hq;dsimp only at hq;have g0:dO hd.cps.toList 0=some c:=i8 (j:=0) (by rw[show hd.cps.toList=c::b::g from cW];rfl);have g1:dO hd.cps.toList 1=some b:=i8 (j:=1) (by rw[show hd.cps.toList=c::b::g from cW];rfl);refine⟨_,rfl,_,_,c,rfl,rfl,Zk (by lia),g0,_,_,rfl,rfl,_,rfl,?_⟩;rw[CF,T1];by_cases sM:48<=c/\c<=51;rotate_left
     ·rw[aZ sM];refine aH (aH (g9 ?_ H5 gI));rw[hq,af fun z=>sM z.2.1]
     rw[aQ sM];obtain⟨n,rfl⟩:∃n,c=48+n:=⟨c-48,by lia⟩;refine aE ⟨_,rfl,_,_,(48+n),rfl,rfl,Zk (by lia),g0,_,_,rfl,r_ (by lia),(by show 1<=640;decide),_,rfl,_,_,rfl,rfl,_,rfl,dC (fun c2=>?_) (fun c2=>?_)⟩
     ·have c2:(n:Int)>=(m:Int):=ig c2;refine aH (g9 ?_ H5 gI);rw[hq,af fun z=>by have:=z.2.2.1;lia]
     have c2 : ¬ (n:Int)>=(m:Int):=fun z=>c2 (aQ z);refine⟨_,rfl,_,_,b,rfl,rfl,Zk (by lia),g1,rfl,_,rfl,?_⟩;show if(!decide (V.str ⟨#[b]⟩=V.str ⟨#[32]⟩))=true then _ else _
     rw[pK];by_cases zm:b=32;rotate_left
     ·rw[aZ zm];refine aH (g9 ?_ H5 gI);rw[hq,af fun z=>zm z.2.2.2]
     rw[aQ zm];refine aE ?_;rw[ah ⟨FF,⟨by lia,by lia⟩,by lia,zm⟩] at hq;have lU:cs (PySem.StrLaws.sliceText hd (some 2) none)=g:=by
      rw[B3 (by decide) (by rw[<- ZR,cW];simp only[aN];lia),cW];rfl
     obtain⟨gt,nK⟩:∃gt,PySem.StrLaws.sliceText hd (some 2) none=gt:=⟨_,rfl⟩;rw[nK] at lU;have hga:ix gt:=fun x hx=>hah x (by
      have hx:x∈cs gt:=hx;rw[lU] at hx;have:x∈cs hd:=by rw[cW];exact aW _ (aW _ hx)
      exact this)
     have jT:gt.length<=2000:=by
      have:=congrArg List.length cW;rw[ZR] at this;simp only[aN] at this;rw[<- ZR,lU];lia
     have Zrg:gu gt=eG g:=by
      rw[jl,rS,<- uF,lU]
     have fin:∀(D:Ends),D.rt=Q->(∀ ao H',(∃(v4 v5 v6 v7 v8:Option V)(ws:List V)(rs:List Rl),ao=[some (.str T),some (.ref Z),some (.int (m:Int)),some (.ref L),v4,v5,v6,v7,v8,none]/\ZD H H'/\H' Cc=some (.lst (rest.map V.str))/\H' L=some (.lst ws)/\eO H' ws rs/\Paired (fun z r=>gr m z=some r) (rest.take (i+1)) rs)->D.nx ao H') ->
       ∀(o:Option Pa)(v:V)(H6:Hp),ZD H5 H6->(match o with|none=>v=.aD|some p=>∃r ys,v=.ref r/\H6 r=some (.tup ys)/\bq H6 ys p)->gr m row=(match o with|none=>none|some p=>if eG g=true then some (((48+n-48:Nat):Int),aM g,p) else none) ->
       ZwK D [some (.str T),some (.ref Z),some (.int (m:Int)),some (.ref L),some (.str row),some (.str hd),some (.str md),some (.str tl),some v,none] H6:=fun D nY hD o v H6 s6 hv vV=>by
      refine Zq Z_ ?_;have om:=gI.trans s6;cases o with
      | none =>
       have hv:v=.aD:=hv;subst hv;refine⟨_,rfl,rfl,_,rfl,aH (aH ?_)⟩;show D.rt V.aD H6;rw[nY];exact g9 vV H6 om
      | some p =>
       obtain⟨r,ys,rfl,h1,h2⟩:=hv;refine⟨_,rfl,rfl,_,rfl,aE ⟨_,rfl,2,rfl,hd,rfl,Zk (by lia),gt,?_⟩⟩;refine⟨congrArg (fun z=>[V.str z]) nK,hga,by lia,_,rfl,?_⟩;rw[Zrg];cases OL:eG g with
       | false =>
        refine aH ?_;show D.rt V.aD H6;rw[nY];refine g9 ?_ H6 om;rw[vV];dsimp only;rw[OL,if_neg Bool.false_ne_true]
       | true =>
        refine aE ?_;show ZwL _ _ _;refine Zq ZpK ?_;have p9:=s6 _ _ zg;have mm:ws.length<=2000:=by
         have h1:=f_ nB;have h2:=f_ nz;rw[dM] at h2;lia
        refine⟨_,rfl,.inl ⟨rfl,_,ak.of p9⟩,_,rfl,_,_,(48+n),rfl,rfl,Zk (by lia),g0,_,_,rfl,r_ (by lia),(by show 1<=640;decide),_,rfl,2,rfl,hd,rfl,Zk (by lia),_,rfl,(by show 3<=sizeLine;decide),fun pt eU=>?_⟩;rw[nK];have s7:=ZD.new (o:=.tup [.int (n:Int),.str gt,.ref r]) eU;refine⟨L,_,_,rfl,rfl,s7 _ _ p9,ZW (by lia),hD _ _ ?_⟩;have tk:=TK.lst (o:=.lst (ws ++ [.ref pt])) (s7 _ _ p9);have npl:pt≠L:=fun z=>by rw[z,p9] at eU;cases eU
        dsimp only at vV;rw[OL,if_pos rfl] at vV;refine⟨_,_,_,_,_,ws ++ [.ref pt],rs ++ [((n:Int),gt,p)],rfl,(om.trans s7).eV fL,?_,Zc,?_,?_⟩
        ·rw[Zi nCL];exact(s6.trans s7) _ _ NP
        ·refine((nB.mono (s6.tk.trans s7.tk)).mono tk).snoc ⟨pt,r,ys,rfl,?_,tk _ _ (s7 _ _ h1),(h2.mono s7.tk).mono tk⟩;rw[Zi npl];exact Zc
        ·rw[uB zS];refine Paired.app nz (.cons ?_ .nil);rw[vV,show(48+n-48:Nat)=n by lia,show aM g=gt from by rw[<- lU,r8]]
     show ZwI _ _ _;refine Zq ZY ?_;refine⟨by decide,fun e he=>?_⟩;have s6:=ZD.new (o:=.tup []) he;have N5:(upd H5 e (.tup [])) e=some (.tup []):=Zc;show ZwJ _ [some (.str T),some (.ref Z),some (.int (m:Int)),some (.ref L),some (.str row),some (.str hd),some (.str md),some (.str tl),some (.ref e),none] (upd H5 e (.tup []));generalize upd H5 e (.tup [])=H6 at s6 N5 ⊢;refine Zq Z' ?_;refine⟨_,rfl,rfl,_,rfl,dC (fun c3=>?_) (fun c3=>?_)⟩
     ·have c3:tl≠Str.ofString "{}" := fun z=>by rw[z] at c3;exact absurd c3 (by decide)
      rw[af c3] at hq;refine⟨_,rfl,_,rfl,tl,m,rfl,kB,Zsg,m1,m4,fun hn H7 s7=>?_,fun p hp H7 r ys s7 hr7 qk=>?_⟩
      ·rw[hn] at hq;exact fin _ rfl (fun _ _ h=>h) none .aD H7 (s6.trans s7) rfl hq
      ·rw[hp] at hq;exact fin _ rfl (fun _ _ h=>h) (some p) (.ref r) H7 (s6.trans s7) ⟨r,ys,rfl,hr7,qk⟩ hq
     ·have c3:tl=Str.ofString "{}" := by
       by_cases z:tl=Str.ofString "{}"
       ·exact z
       ·refine absurd ?_ c3;have:V.str tl≠V.str (Str.ofString "{}"):=fun k=>z (by injection k)
        simpa using this
      rw[ah c3] at hq;exact fin _ rfl (fun _ _ h=>h) (some .nil) (.ref e) H6 s6 ⟨e,[],rfl,N5,.nil⟩ hq
  ·rintro σ H4 ⟨v4,v5,v6,v7,v8,ws,rs,rfl,sm,pY,jO,nA,nz⟩;rw[aV,oG] at nz;have mm:=f_ nA;have ZxH:=f_ nz;have zZ:∀r∈rs,gK m r/\qX r:=fun r hr=>by
    obtain⟨z,hz,hq⟩:=JC nz r hr;obtain⟨h1,h2,h3⟩:=JX m4 hq;obtain⟨z1,z2,_⟩:=OD z (by rw[fZ];exact aW _ hz);have t8:=h1.2.1.2.2;rw[ZR] at t8;refine⟨h1,h1.1.1,by have:=h1.1.2;lia,t8,by lia,by lia,?_⟩;have mono:∀{p:Pa},bg m p->bg 4 p:=by
     intro p
     induction p with
     | nil=>exact id
     | kids k o ih=>exact fun h=>⟨⟨h.1.1,by have:=h.1.2;lia⟩,ih h.2⟩
     | tag t w o ihw iho=>exact fun h=>⟨h.1,ihw h.2.1,iho h.2.2⟩
    exact mono h1.2.2
   have Pj:∀m' dy,oy m' dy->cs T=tC m' dy->m'=m/\dy=rs:=fun m' dy hw e=>by
    obtain⟨e1,hp⟩:=only m' dy hw e;exact⟨e1,JE hp nz⟩
   show u5 _ _ _;refine Zq e5 ?_;refine⟨_,rfl,L,rfl,⟨ws,ak.of jO⟩,fun p5 Oz=>JT (K:=K) (a:=L) (p:=p5) (xs:=ws) (fun i ys σ H5=>∃v0:Option V,σ =[v0]/\ZD H4 H5/\H5 p5=some (.lst ys)/\cD H5 ys ((rs.take i).map aI))
    ⟨none,rfl,ZD.new Oz,Zc,.nil⟩ ?_ ?_ ?_⟩
   ·rintro i ys σ H5 _ ⟨v0,_,gI,oY,_⟩;exact⟨ak.of (gI _ _ jO),oY⟩
   ·rintro i ys x σ H5 hi hx ⟨v0,rfl,gI,oY,gE⟩;obtain⟨r,zP,q0,t0,ys0,rfl,h1,h2,h3⟩:=rH nA hx;have NJ:=gI _ _ h1;refine⟨_,rfl,q0,_,0,.int r.1,rfl,rfl,aL.of NJ,rfl,_,rfl,q0,_,1,.str r.2.1,rfl,rfl,aL.of NJ,rfl,(by show 2<=sizeLine;decide),fun t3 sZ=>?_⟩;have s8:=ZD.new (o:=.tup [.int r.1,.str r.2.1]) sZ;have kO:=gE.length;rw[aV,dM] at kO;have qm:=s8 _ _ oY;have n3:t3≠p5:=fun z=>by rw[z,oY] at sZ;cases sZ
    have tk:=s8.tk.trans (TK.lst (o:=.lst (ys ++ [.ref t3])) qm);refine⟨qm,ZW (by lia),CW.next hi ⟨_,rfl,(gI.trans s8).eV Oz,Zc,?_⟩⟩
    rw[uB zP,fF];refine cD.snoc (q:=aI r) ?_ (gE.keep tk);rw[Zi n3];exact Zc
   rintro ys σ H5 ⟨v0,rfl,gI,oY,gE⟩;rw[mm,oG] at gE;have ZvY:=sm.trans gI;have zg:=gI _ _ jO;have nB:=nA.mono gI.tk;show u6 _ _ _;refine Zq e6 ?_;have kO:=gE.length;rw[aV] at kO;have aq:∀q∈rs.map aI,PyData.strOk q.2=true:=fun q hq=>by
    obtain⟨r,hr,rfl⟩:=gL.mp hq;exact VW (zZ r hr).1.2.1
   refine⟨_,rfl,_,rfl,p5,ys,rs.map aI,rfl,ak.of oY,by lia,gE,fun sr zs ms hsr zN fY Zsy=>?_⟩;have s6:=ZD.new (o:=.lst zs) hsr;have ZrG:∀q∈ms,PyData.strOk q.2=true:=fun q hq=>aq q ((fY q).mp hq);refine⟨.list ((rs.map aI).map dP),.list (ms.map dP),.lst (ak.of (s6 _ _ oY)) (CB (gE.keep s6.tk)),.lst (ak.of Zc) (CB (Zsy.keep s6.tk)),Cs aq,Cs ZrG,?_,_,rfl,?_⟩
   ·have:=J8 (rs.map aI);show min (_+1) _<=200;lia
   have om:=ZvY.trans s6;have p9:=s6 _ _ zg;have NU:=nB.mono s6.tk;show if(!PyData.eqvAll ((rs.map aI).map dP) (ms.map dP))=true then _ else _
   rw[K'];by_cases qo:rs.map aI=ms;rotate_left
   ·rw[aZ qo];refine aH (aH (q2 (fun m' dy hw e=>?_) _ om));obtain⟨_,rfl⟩:=Pj m' dy hw e;exact qo (RX hw.2.2 zN fun q=>(fY q).symm)
   rw[aQ qo];refine aE ⟨rfl,_,rfl,_,rfl,L,ws,m,rs,rfl,p9,NU,m1,m4,fun r hr=>(zZ r hr).2,by lia,fun p7 tI H7 s7 qk Gj=>⟨Str.ofString "; ",p7,tI,rfl,rfl,ak.of qk,?_,_,rfl,rfl,_,rfl,?_⟩⟩
   ·have h1:=KD m4 nz;rw[fZ] at OG;simp only[br,iP] at OG;have h2:(tI.map (·.length)).sum<=1+(rs.map fun r=>15+12*r.2.2.sz).sum:=by
     have h3:(tI.map (·.length)).sum=((tI.map cs).map List.length).sum:=by
      rw[w_];refine congrArg List.sum (List.map_congr_left fun z _=>?_);exact(ZR z).symm
     rw[h3,Gj];show 1+((rs.map tR).map List.length).sum<=_;have:∀l:List Rl,(∀r∈l,qX r)->((l.map tR).map List.length).sum<=(l.map fun r=>15+12*r.2.2.sz).sum:=by
      intro l
      induction l with
      | nil=>exact fun _=>az _
      | cons r l ih =>
       intro h;have h1:=Ma (h r (ba ..));have h2:=ih fun x hx=>h x (aW _ hx);simp only[br,iP];lia
     have:=this rs fun r hr=>(zZ r hr).2;lia
    have h4:=congrArg List.length Gj;rw[aV,aN,aV] at h4;show _+_*2<=16777216;lia
   have ej:=Lf Gj;have AE:=om.trans s7;by_cases zA:Txt.join (Str.ofString "; ") tI=T;rotate_left
   ·refine dC (fun _=>q2 (fun m' dy hw e=>?_) _ AE) (fun c=>absurd ?_ c)
    ·obtain⟨rfl,rfl⟩:=Pj m' dy hw e;exact zA (jB (ej.trans e.symm))
    ·have:V.str (Txt.join (Str.ofString "; ") tI)≠V.str T:=fun k=>zA (by injection k)
     simpa using this
   refine dC (fun c=>absurd c ?_) (fun _=>?_)
   ·rw[zA];simp
   show u7 _ _ _;refine Zq e7 ?_;have hL7:=s7 _ _ p9;have hR7:=NU.mono s7.tk;refine⟨_,rfl,_,rfl,L,ws,rfl,.inl ⟨ak.of hL7,fun r hr=>⟨(by show 2<=sizeLine;decide),fun q hq=>?_⟩⟩⟩;have s8:=ZD.new (o:=.tup ws) hr;have s9:=ZD.new (o:=.tup [.int (m:Int),.ref r]) hq;refine q1 m rs ⟨⟨m1,m4⟩,fun r hr=>(zZ r hr).1,by rw[qo];exact zN⟩ ?_ _ _ ((AE.trans s8).trans s9) ⟨q,r,ws,rfl,Zc,s9 _ _ Zc,hR7.mono (s8.tk.trans s9.tk)⟩;rw[<- ej,zA]
inductive Sm(H:Hp):Nat->V->V->Prop
 | str {d:Nat} {s:Str}:Sm H (d+1) (.str s) (.str s)
 | int {d:Nat} {i:Int}:Sm H (d+1) (.int i) (.int i)
 | tup {d:Nat} {p q:Addr} {xs ys:List V}:H p=some (.tup xs)->H q=some (.tup ys)->xs.length=ys.length->xs.length<=5000->(∀(i:Nat) x y,xs[i]?= some x->ys[i]?= some y->Sm H d x y)->Sm H (d+1) (.ref p) (.ref q)
theorem Sm.up{H:Hp}{d:Nat}{x y:V}(h:Sm H d x y):∀{e:Nat},d<=e->Sm H e x y:=by
 induction h with
 | str =>
  intro e he;obtain⟨e,rfl⟩:∃e',e=e'+1:=⟨e-1,by lia⟩;exact .str
 | int =>
  intro e he;obtain⟨e,rfl⟩:∃e',e=e'+1:=⟨e-1,by lia⟩;exact .int
 | tup h1 h2 h3 h4 _ ih =>
  intro e he;obtain⟨e,rfl⟩:∃e',e=e'+1:=⟨e-1,by lia⟩;exact .tup h1 h2 h3 h4 fun i x y a b=>ih i x y a b (by lia)
theorem Sm.three{H:Hp}{d:Nat}{p q:Addr}{a b c a' b' c':V}(h1:H p=some (.tup [a,b,c]))(h2:H q=some (.tup [a',b',c']))(k1:Sm H d a a')(k2:Sm H d b b')(k3:Sm H d c c'):Sm H (d+1) (.ref p) (.ref q) :=
 .tup h1 h2 rfl (by show 3<=5000;decide) fun i x y hx hy=>by
  match i,hx,hy with
  | 0,hx,hy=>cases hx;cases hy;exact k1
  | 1,hx,hy=>cases hx;cases hy;exact k2
  | 2,hx,hy=>cases hx;cases hy;exact k3
  | i+3,hx,_=>simp at hx
theorem Sm.two{H:Hp}{d:Nat}{p q:Addr}{a b a' b':V}(h1:H p=some (.tup [a,b]))(h2:H q=some (.tup [a',b']))(k1:Sm H d a a')(k2:Sm H d b b'):Sm H (d+1) (.ref p) (.ref q) :=
 .tup h1 h2 rfl (by show 2<=5000;decide) fun i x y hx hy=>by
  match i,hx,hy with
  | 0,hx,hy=>cases hx;cases hy;exact k1
  | 1,hx,hy=>cases hx;cases hy;exact k2
  | i+2,hx,_=>simp at hx
theorem x8{H:Hp}:∀{xs ys:List V}{p:Pa},bq H xs p->bq H ys p->xs.length=ys.length
 | _,_,_,.nil,.nil=>rfl
 | _,_,_,.kids _ a,.kids _ b=>by rw[aN,aN,x8 a b]
 | _,_,_,.tag _ _ _ a,.tag _ _ _ b=>by rw[aN,aN,x8 a b]
theorem xU{H:Hp}:∀{p:Pa}{xs ys:List V},p.sz<=5000->bq H xs p->bq H ys p->∀(i:Nat) x y,xs[i]?= some x->ys[i]?= some y->Sm H (2*p.dep+2) x y
 | .nil,_,_,_,.nil,.nil,i,x,y,hx,_=>by simp at hx
 | .kids m o,_,_,hs,.kids h1 r1,.kids h2 r2,i,x,y,hx,hy=>by
  simp only[Pa.sz] at hs
  match i,hx,hy with
  | 0,hx,hy =>
   cases hx;cases hy;exact(Sm.two h1 h2 (d:=1) .str .int).up (by lia)
  | i+1,hx,hy=>exact(xU (p:=o) (by lia) r1 r2 i x y (by simpa using hx) (by simpa using hy)).up (by simp only[Pa.dep];lia)
 | .tag t w o,_,_,hs,.tag h1 k1 r1 s1,.tag h2 k2 r2 s2,i,x,y,hx,hy=>by
  simp only[Pa.sz] at hs
  match i,hx,hy with
  | 0,hx,hy =>
   cases hx;cases hy;have hl:=r1.length;exact(Sm.three h1 h2 (d:=2*w.dep+3) .str .str (.tup k1 k2 (x8 r1 r2) (by lia) (xU (p:=w) (by lia) r1 r2))).up (by simp only[Pa.dep];lia)
  | i+1,hx,hy=>exact(xU (p:=o) (by lia) s1 s2 i x y (by simpa using hx) (by simpa using hy)).up (by simp only[Pa.dep];lia)
theorem Mi{H:Hp}{v v':V}{m:Nat}{rs:List Rl}(h1:kg H v m rs)(h2:kg H v' m rs)(hl:rs.length<=5000)(hb:∀r∈rs,r.2.2.sz<=2001/\r.2.2.dep<70):Sm H 149 v v':=by
 obtain⟨q,t,ws,rfl,a1,a2,a3⟩:=h1;obtain⟨q',t',Qb,rfl,b1,b2,b3⟩:=h2;have l1:ws.length=rs.length:=f_ a3;have l2:Qb.length=rs.length:=f_ b3;refine Sm.two a1 b1 (d:=148) .int (.tup a2 b2 (by lia) (by lia) fun i x y hx hy=>?_);obtain⟨r,hr,q1,t1,tH,rfl,c1,c2,c3⟩:=rH a3 hx;obtain⟨r',mN,q2,t2,ys2,rfl,d1,d2,d3⟩:=rH b3 hy;rw[hr] at mN;cases mN;obtain⟨s1,s2⟩:=hb r (cP hr);have hl:=c3.length;exact(Sm.three c1 d1 (d:=2*r.2.2.dep+3) .int .str (.tup c2 d2 (x8 c3 d3) (by lia) (xU (by lia) c3 d3))).up (by lia)
def yA(d:Nat):Sp:=fun vs H Q _=>∃x y,vs=[x,y]/\Sm H d x y/\Q (.bl true) H
set_option maxHeartbeats 2000000 in
theorem Qy(d:Nat)(B:∀x∈cF,mg x=none)(sA:bF P w K mg base "_law_same_kinds" ["_law_found","_law_due"] d (yA d)) (F:bO K "_law_same_kinds" "_law_same_kinds" ro f fd):aX P w K mg base cp (d+1) f fd ["_law_found","_law_due"] (yA (d+1)):=by
 refine F.ok IW (fun vs H Q E h=>?_) (fun aK A outer s H vs Q E hr h=>?_)
 ·obtain⟨x,y,rfl,_⟩:=h;rfl
 obtain⟨x,y,rfl,hA,q⟩:=h;have hu:=pE hr;refine⟨_,(Ze (bt (ZZ (ZF rk rfl (B "isinstance" (by decide)) mU (Za (pv 1) (Za (pN rfl (B "tuple" (by decide)) iY) Zb))) (fun _=>rfl))
   (Ze (bt (PW.pt (jE (jA (ZZ (ZF rk rfl (B "isinstance" (by decide)) mU (Za (pv 0) (Za (pN rfl (B "tuple" (by decide)) iY) Zb))) (fun _=>rfl))) (lN (Zr pM (ZF lH rfl (B "len" (by decide)) gb (Za (pv 0) Zb)) (ZF lH rfl (B "len" (by decide)) gb (Za (pv 1) Zb)) (ZK _)))))
     (Zf (Zz kr))
     ZC)
    (Ze (jx iQ rfl (xP rfl (B "range" (by decide)) (Za (ZF lH rfl (B "len" (by decide)) gb (Za (pv 1) Zb)) Zb)) (dA (i:=2) IW.nd rfl (Or.inl rfl))
     (Zf (bt (jA (ZZ (dc sA hr rfl (Za (bo lO (pv 0) (pv 2) (fun _ _=>rfl)) (Za (bo lO (pv 1) (pv 2) (fun _ _=>rfl)) Zb)) (by lia)) (fun _=>rfl)))
       (Zf (Zz kr))
       ZC)))
    (Zf (Zz kr))))
   ZC)
  (Ze (bt (ZZ (ZF rk rfl (B "isinstance" (by decide)) mU (Za (pv 1) (Za (pN rfl (B "str" (by decide)) LL) Zb))) (fun _=>rfl))
   (Zf (Zz (rX (ZF rk rfl (B "isinstance" (by decide)) mU (Za (pv 0) (Za (pN rfl (B "str" (by decide)) LL) Zb))) (uO (ya fv (pv 0) (pv 1) (ZK _))))))
   ZC)
  (Zf (Zz (rX (ZF rk rfl (B "isinstance" (by decide)) mU (Za (pv 0) (Za (pN rfl (B "int" (by decide)) mZ) Zb))) (rX (Vi (ZF rk rfl (B "isinstance" (by decide)) mU (Za (pv 0) (Za (pN rfl (B "bool" (by decide)) Uw) Zb)))) (uO (ya fv (pv 0) (pv 1) (ZK _))))))))),?_⟩
 cases hA with
 | @str _ z =>
  refine⟨_,rfl,.str z,"tuple",_,false,rfl,.str z,rfl,false,rfl,aE ?_⟩;refine⟨_,rfl,.str z,"str",_,true,rfl,.str z,rfl,true,rfl,aH ?_⟩;refine⟨_,rfl,.str z,"str",_,true,rfl,.str z,rfl,true,rfl,aH ⟨_,rfl,_,rfl,rfl,?_⟩⟩;rw[aQ rfl];exact q
 | @int _ i =>
  refine⟨_,rfl,.int i,"tuple",_,false,rfl,.int i,rfl,false,rfl,aE ?_⟩;refine⟨_,rfl,.int i,"str",_,false,rfl,.int i,rfl,false,rfl,aE ?_⟩;refine⟨_,rfl,.int i,"int",_,true,rfl,.int i,rfl,true,rfl,aH ⟨_,rfl,.int i,"bool",_,false,rfl,.int i,rfl,false,rfl,?_⟩⟩;refine⟨true,rfl,aH ⟨_,rfl,_,rfl,rfl,?_⟩⟩;rw[aQ rfl];exact q
 | @tup _ p qa xs ys h1 h2 h3 h4 k =>
  refine⟨_,rfl,.ref qa,"tuple",_,true,rfl,.tup h2,rfl,true,rfl,aH ?_⟩;refine⟨_,rfl,.ref p,"tuple",_,true,rfl,.tup h1,rfl,true,rfl,aE ?_⟩;refine⟨_,rfl,p,_,rfl,.inr (aL.of h1),_,rfl,qa,_,rfl,.inr (aL.of h2),rfl,_,rfl,dC (fun z=>absurd z (by rw[h3];simp)) (fun _=>?_)⟩;refine⟨_,rfl,qa,_,rfl,.inr (aL.of h2),_,rfl,by lia,by lia,xQ (lo:=0) (fun i σ H1=>∃(v2:Option V),σ =[some (.ref p),some (.ref qa),v2]/\H1=H) ⟨none,rfl,rfl⟩ ?_ ?_⟩
  ·rintro i σ H1 hi ⟨v2,rfl,rfl⟩;rw[tM] at hi;have hx:xs[i]?= some xs[i]:=cH (by lia);have hy:ys[i]?= some ys[i]:=cH (by lia);have ax:dO xs (0+(i:Int))=some xs[i]:=by rw[Int.zero_add];exact i8 hx
   have ay:dO ys (0+(i:Int))=some ys[i]:=by rw[Int.zero_add];exact i8 hy
   exact⟨_,rfl,_,rfl,p,_,_,_,rfl,rfl,aL.of h1,ax,_,rfl,_,rfl,qa,_,_,_,rfl,rfl,aL.of h2,ay,xs[i],ys[i],rfl,k i _ _ hx hy,true,rfl,aE ⟨_,rfl,rfl⟩⟩
  ·rintro σ H1 ⟨v2,rfl,rfl⟩;exact q
theorem QH:bootBuiltins "ValueError" = some (.type "ValueError"):=by decide +kernel
theorem yw{α : Type}{p : α -> Prop}:∀x∈([]:List α),p x:=fun _ h=>absurd h (xa)
theorem Z3{α : Type}{p : α -> Prop}{a : α}{l:List α}(h:p a)(t:∀x∈l,p x):∀x∈a::l,p x:=fun x hx=>(aG.mp hx).elim (fun e=>e ▸ h) (t x)
def Kp(H H':Hp):Prop := ∀b o,H b=some o->(∀x,o ≠ .ext x)->H' b=some o
theorem Kp.same{H H':Hp}(s:ZD H H'):Kp H H':=fun b o h _=>s b o h
theorem Kp.trans{H H1 H2:Hp}(a:Kp H H1)(b:Kp H1 H2):Kp H H2:=fun c o h n=>b c o (a c o h n) n
theorem Kp.ext{H H1:Hp}{e:Addr}{x:Heap->Prop}{o:HO}(a:Kp H H1)(h:H1 e=some (.ext x)):Kp H (upd H1 e o):=fun b u q n=>by
 have q1:=a b u q n;have:b≠e:=fun z=>by
  rw[z,h] at q1;exact n x (dk q1).symm
 rw[Zi this];exact q1
theorem Kp.tk{H H':Hp}(k:Kp H H'):TK H H':=fun b xs e=>k b _ e fun _ z=>nomatch z
def B1(K:PySem.W.Frag):Sp:=fun vs H Q _=>∃T:Str,vs=[.str T]/\T.length<=2000/\(∀m rs,gH (cs T)=some (m,rs)->∀(H':Hp)(v:V)(r:Addr),ZD H H'->kg H' v m rs->H' r=some (.tup [v,.aD])->Q (.ref r) H')/\(gH (cs T)=none->∀(H':Hp)(r:Addr),Kp H H'->H' r=some (.tup [.aD,.bl true])->Q (.ref r) H')
set_option maxHeartbeats 2000000 in
theorem SF(B:∀x∈cF,mg x=none)(xc:XC K mg bZ ef d8 eE eC et d_ eF eh eB d7 au eA ee eo)(E9:fb P w K mg base "read" ["text"] 7 (CC K au)) (F:bO K "_law_told" "_law_told" rC f fd):aX P w K mg base cp 8 f fd ["_law_text_here"] (B1 K):=by
 refine F.ok rD (fun vs H Q E h=>?_) (fun aK A outer s H vs Q E hr h=>?_)
 ·obtain⟨T,rfl,_⟩:=h;rfl
 obtain⟨T,rfl,hT,q1,q2⟩:=h;refine⟨_,(Ze (Zx (i:=1) rD.nd rfl (Or.inl rfl) gn)
  (Ze (Zx (i:=2) rD.nd rfl (Or.inl rfl) gn)
  (Ze (U2 rfl rfl (fun E pins xB hT hp=>(Zf (Zx (i:=1) rD.nd rfl (Or.inl rfl) (jD E9 hT hr rfl (Za (pv 0) Zb)))))
   (KY (fun e=>(cS (Za (fu (v:=.ref d7) rfl xc.ZtC rfl) (Za (fu (v:=.ref d8) rfl xc.ZtD rfl) (Za (fu (v:=.ref d_) rfl xc.ZtF rfl) (Za (fu (v:=.ref ee) rfl xc.ZtG rfl) (Za (fu (v:=.ref ef) rfl xc.ZtH rfl) (Za (fu (v:=.ref eh) rfl xc.ZtI rfl) (Za (fu (v:=.ref et) rfl xc.ZtK rfl) (Za (fu (v:=.ref eo) rfl xc.ZtJ rfl) Zb))))))))))
   (KY (fun e=>(cS (Za (fu (v:=.ref eA) rfl xc.ZtL rfl) (Za (fu (v:=.ref eB) rfl xc.ZtM rfl) (Za (fu (v:=.ref eC) rfl xc.ZtN rfl) (Za (fu (v:=.ref eE) rfl xc.ZtO rfl) (Za (fu (v:=.ref eF) rfl xc.ZtP rfl) Zb)))))))
   (VL (i:=3) (rest:=[]) (fun e=>(fu (v:=.ref au) rfl xc.qy rfl)) rD.nd rfl rfl (fun e=>(Zf (Zx (i:=2) rD.nd rfl (Or.inl rfl) (rX (ZF (R6 (K:=K) rfl) rfl (B "isinstance" (by decide)) mU (Za (pv 3) (Za (fu (v:=.ref bZ) rfl xc.ZtE rfl) Zb))) (uO (ZF (Rr (K:=K) rfl) rfl (B "isinstance" (by decide)) mU (Za (pv 3) (Za (pN rfl (B "ValueError" (by decide)) QH) Zb))))))))))))
  (Zf (Zz (cS (Za (pv 1) (Za (pv 2) Zb)))))))),?_⟩
 refine⟨fun ao C d H'=>ao=[some (.str T),some .aD,some .aD,none]/\C=.ref au/\d=none/\ZD H H'/\gH (cs T)=none,?_,?_⟩
 ·refine⟨_,rfl,T,rfl,hT,fun m rs hp H' v s' hc=>?_,fun hp H' s'=>⟨rfl,rfl,rfl,s',hp⟩⟩;refine⟨_,rfl,_,rfl,(by show 2<=sizeLine;decide),fun r hr=>?_⟩;have s2:=ZD.new (o:=.tup [v,.aD]) hr;exact q1 m rs hp _ v r (s'.trans s2) (hc.mono s2.tk) Zc
 ·rintro ao C d H' e oe ⟨rfl,rfl,rfl,sm,hp⟩ he hc hd hf;have k0:Kp H (upd H' e (Known e oe)):=(Kp.same sm).ext he;have e3:(upd H' e (Known e oe)) e=some (Known e oe):=Zc;generalize upd H' e (Known e oe)=H1 at k0 e3;refine⟨(by show 8<=sizeLine;decide),fun t1 h1=>?_⟩;have s1:=ZD.new (o:=.tup [.ref d7,.ref d8,.ref d_,.ref ee,.ref ef,.ref eh,.ref et,.ref eo]) h1;refine⟨[d7,d8,d_,ee,ef,eh,et,eo],au,.many (aL.of Zc) ?_,hc,?_,s1 _ _ e3,?_⟩
  ·exact Z3 xc.Xx (Z3 xc.Xy (Z3 xc.XD (Z3 xc.XE (Z3 xc.XF (Z3 xc.XG (Z3 xc.XJ (Z3 xc.XI yw)))))))
  ·exact Z3 xc.we (Z3 xc.wg (Z3 xc.wk (Z3 xc.wm (Z3 xc.wo (Z3 xc.wq (Z3 xc.ww (Z3 xc.wu yw)))))))
  refine⟨(by show 5<=sizeLine;decide),fun t2 h2=>?_⟩;have s2:=s1.trans (ZD.new (o:=.tup [.ref eA,.ref eB,.ref eC,.ref eE,.ref eF]) h2);refine⟨[eA,eB,eC,eE,eF],au,.many (aL.of Zc) ?_,hc,?_,s2 _ _ e3,?_⟩
  ·exact Z3 xc.XM (Z3 xc.XN (Z3 xc.XQ (Z3 xc.XR (Z3 xc.XS yw))))
  ·exact Z3 xc.wx (Z3 xc.wy (Z3 xc.wz (Z3 xc.wA (Z3 xc.wB yw))))
  refine⟨[au],au,fun _=>true,.one xc.XH,hc,?_,rfl,s2 _ _ e3,?_⟩
  ·intro D hD;obtain rfl:=bh.mp hD;exact xc.wt
  refine⟨_,rfl,e,oe,au,bZ,rfl,s2 _ _ e3,hc,xc.ZtS,xc.isG,xc.tyG,xc.wj,true,rfl,aH ?_⟩;refine⟨_,rfl,e,oe,au,"ValueError",rfl,s2 _ _ e3,hc,rfl,xc.Ztp,?_⟩;refine⟨_,rfl,_,rfl,(by show 2<=sizeLine;decide),fun r hr=>?_⟩;exact q2 hp _ r (k0.trans (Kp.same (s2.trans (ZD.new hr)))) Zc
structure cR(z:Str)(n k:Nat):Prop where
 asc:ix z
 len:z.length<=n
 cnt:(cs z).count 40<=k
theorem cR.app{x y:Str}{n k n' k':Nat}(h:cR x n k)(h':cR y n' k'):cR (x++y) (n+n') (k+k'):=by
 refine⟨fun c hc=>?_,?_,?_⟩
 ·have hc:c∈cs (x++y):=hc;rw[Z2] at hc;rcases bK.mp hc with hc|hc
  ·exact h.asc c hc
  ·exact h'.asc c hc
 ·rw[ZG];have:=h.len;have:=h'.len;lia
 ·rw[Z2,fm];have:=h.cnt;have:=h'.cnt;lia
theorem cR.mono{z:Str}{n k n' k':Nat}(h:cR z n k)(hn:n<=n')(hk:k<=k'):cR z n' k':=⟨h.asc,cY h.len hn,cY h.cnt hk⟩
theorem JN(sep:Str)(a:Nat):∀(x:Str)(xs:List Str),(jn sep (x::xs)).count a=((x::xs).map fun z=>(cs z).count a).sum+xs.length*(cs sep).count a
 | x,[]=>by show(cs x).count a=(cs x).count a+0+0*_;lia
 | x,y::r=>by
  have:=JN sep a y r;show(cs x++(cs sep++jn sep (y::r))).count a=(cs x).count a+((y::r).map fun z=>(cs z).count a).sum+(r.length+1)*(cs sep).count a;rw[fm,fm,this,Nat.succ_mul];lia
theorem LO(sep:Str):∀(xs:List Str)(c:Nat),c∈jn sep xs->c∈cs sep\/∃z∈xs,c∈cs z
 | [],c,h=>nomatch h
 | [x],c,h=>.inr ⟨x,bh.mpr rfl,h⟩
 | x::y::r,c,h=>by
  have h:c∈cs x++(cs sep++jn sep (y::r)):=h;rcases bK.mp h with h|h
  ·exact .inr ⟨x,ba ..,h⟩
  ·rcases bK.mp h with h|h
   ·exact .inl h
   ·rcases LO sep (y::r) c h with h|⟨z,h1,h2⟩
    ·exact .inl h
    ·exact .inr ⟨z,aW _ h1,h2⟩
theorem rM:∀{zs:List Str}{n k:Nat},(∀z∈zs,cR z n k)->(zs.map (·.length)).sum<=zs.length*n/\(zs.map fun z=>(cs z).count 40).sum<=zs.length*k
 | [],n,k,_=>by simp
 | z::zs,n,k,h=>by
  have h1:=h z (ba ..);have h2:=rM fun x hx=>h x (aW _ hx);simp only[br,iP,aN,Nat.succ_mul];have:=h1.len;have:=h1.cnt;lia
theorem xS{zs:List Str}{c:Nat}(hl:zs.length<=c)(hc:c<=10)(h:∀z∈zs,cR z 100 6):cR (Txt.join (Str.ofString "; ") zs) (102*c) (6*c):=by
 have e:=rR (Str.ofString "; ") zs;have hs:=rM h;refine⟨fun x hx=>?_,?_,?_⟩
 ·have hx:x∈cs (Txt.join (Str.ofString "; ") zs):=hx;rw[e] at hx;rcases LO _ _ _ hx with hx|⟨z,h1,h2⟩
  ·have:x ∈ [59,32]:=hx;simp at this;lia
  ·exact(h z h1).asc x h2
 ·rw[<- ZR,e];cases zs with
  | nil=>exact bi _
  | cons z zs =>
   rw[yy];have e2:(Str.ofString "; ").length=2:=rfl;rw[e2];simp only[aN] at hs hl;lia
 ·rw[e];cases zs with
  | nil=>exact bi _
  | cons z zs =>
   rw[JN];have e2:(cs (Str.ofString "; ")).count 40=0:=by decide
   rw[e2];simp only[aN] at hs hl;lia
theorem Sz{x:Str}{u:Option Int}{j:Int}(h:(x.length:Int)<=j):PySem.StrLaws.sliceText x (some j) u=PySem.StrLaws.sliceText x (some (x.length:Int)) u:=by
 have e:Builtin.Str.strSliceIndices (some j) u 1 x.length=Builtin.Str.strSliceIndices (some (x.length:Int)) u 1 x.length:=by
  unfold Builtin.Str.strSliceIndices;have h1 : ¬ j<0:=by lia
  have h2 : ¬ (x.length:Int)<0:=by lia
  simp only[h1,h2,ie,show(1:Int) > 0 from by decide,gQ];rw[show max 0 (min j (x.length:Int))=max 0 (min (x.length:Int) (x.length:Int)) by lia]
 unfold PySem.StrLaws.sliceText;rw[e]
theorem Kh{t:Str}(n:Nat):cs (PySem.StrLaws.sliceText t (some (n:Int)) none)=(cs t).drop n:=by
 by_cases h:n<=t.length
 ·rw[B3 (by lia) (by lia),tM]
 ·rw[Sz (by lia),B3 (by lia) (Int.le_refl _),tM,List.drop_of_length_le (by rw[ZR];exact az _),List.drop_of_length_le (by rw[ZR];lia)]
theorem Td{t:Str}(n:Nat)(h:n<=t.length):cs (PySem.StrLaws.sliceText t none (some (n:Int)))=(cs t).take n:=by
 have aC:t.cps.toList.length=t.length:=by rw[aA];rfl
 rw[PySem.StrLaws.sliceText_to (x:=t) (j:=n) ⟨by lia,by rw[aC];lia⟩];show((t.cps.toList.drop 0).take _).toArray.toList=_;rw[qL];simp[cs]
theorem B_{t a b:Str}{n k i j:Nat}(h:cR t n k)(ha:cs a=(cs t).take i)(hb:cs b=(cs t).drop j)(eS:i<=j):cR a n k/\cR (a++b) n k:=by
 have hl:=h.len;rw[<- ZR] at hl;have ZxK:(cs t).count 40=((cs t).take i).count 40+((cs t).drop i).count 40:=by
  conv=>lhs;rw[<- j5 i (cs t)]
  rw[fm]
 have hdj:((cs t).drop j).count 40<=((cs t).drop i).count 40:=by
  have:(cs t).drop j=((cs t).drop i).drop (j-i):=by rw[k_,show i+(j-i)=j by lia]
  rw[this];exact(List.drop_sublist _ _).count_le 40
 have hc:=h.cnt;have aa:ix a:=fun c hc=>h.asc c (by have hc:c∈cs a:=hc;rw[ha] at hc;exact oF hc);refine⟨⟨aa,?_,?_⟩,⟨fun c hc=>?_,?_,?_⟩⟩
 ·rw[<- ZR,ha,dM];lia
 ·rw[ha];lia
 ·have hc:c∈cs (a++b):=hc;rw[Z2] at hc;rcases bK.mp hc with hc|hc
  ·exact aa c hc
  ·rw[hb] at hc;exact h.asc c (tW hc)
 ·rw[ZG,<- ZR,<- ZR,ha,hb,dM,dE];lia
 ·rw[Z2,fm,ha,hb];lia
theorem L6{t a b sg:Str}{n k i j:Nat}(h:cR t n k)(ha:cs a=(cs t).take i)(hb:cs b=(cs t).drop j)(eS:i<=j)(hs:cR sg 1 1):cR (a++sg++b) (n+1) (k+1):=by
 have h0:=(B_ h ha hb eS).2;refine⟨fun c hc=>?_,?_,?_⟩
 ·have hc:c∈cs (a++sg++b):=hc;rw[Z2,Z2] at hc;rcases bK.mp hc with hc|hc
  ·rcases bK.mp hc with hc|hc
   ·exact h0.asc c (by show c∈cs (a++b);rw[Z2];exact oE _ hc)
   ·exact hs.asc c hc
  ·exact h0.asc c (by show c∈cs (a++b);rw[Z2];exact ft _ hc)
 ·have h1:=h0.len;have h2:=hs.len;rw[ZG] at h1;rw[ZG,ZG];lia
 ·have h1:=h0.cnt;have h2:=hs.cnt;rw[Z2,fm] at h1;rw[Z2,Z2,fm,fm];lia
def BD(K:PySem.W.Frag):Sp:=fun vs H Q _=>∃(L:Addr)(zs:List Str)(m:Int)(cl:Int),vs=[.ref L,.int m,.int cl]/\H L=some (.lst (zs.map V.str))/\zs ≠ []/\zs.length<=9/\(∀z∈zs,cR z 100 6)/\∀(z:Str)(H':Hp),ZD H H'->cR z 1500 60->Q (.str z) H'
theorem some_at:∀i:Nat,i<21->∃c,dO (Str.cps (Str.ofString " ();={}0123ab/" ++ Str.ofString "-A?|,.4")).toList (i:Int)=some c/\c<128:=by
 have h:∀i:Fin 21,∃c,(cs (Str.ofString " ();={}0123ab/" ++ Str.ofString "-A?|,.4"))[i.val]?= some c/\c<128:=by
  intro i;have hl:(cs (Str.ofString " ();={}0123ab/" ++ Str.ofString "-A?|,.4")).length=21:=by rw[Z2];rfl
  have ha:∀c∈cs (Str.ofString " ();={}0123ab/" ++ Str.ofString "-A?|,.4"),c<128:=by rw[Z2];decide
  have hi:i.val<(cs (Str.ofString " ();={}0123ab/" ++ Str.ofString "-A?|,.4")).length:=by rw[hl];exact i.isLt
  exact⟨_,cH hi,ha _ (w6 hi)⟩
 intro i hi;obtain⟨c,h1,h2⟩:=h ⟨i,hi⟩;exact⟨c,i8 h1,h2⟩
theorem Vo{c:Nat}(h:c<128):cR ⟨#[c]⟩ 1 1:=by
 refine⟨fun x hx=>?_,az _,?_⟩
 ·have:x ∈ [c]:=hx;rw[bh.mp this];exact h
 ·show List.count 40 [c]<=1;exact List.count_le_length
def G4(n k:Nat)(z:Str):Bool:=(cs z).all (fun c=>decide (c<128))&&decide ((cs z).length<=n)&&decide ((cs z).count 40<=k)
theorem yn{n k:Nat}{z:Str}(h:G4 n k z=true):cR z n k:=by
 unfold G4 at h;rw[cO,cO,cB,cB,eZ] at h;exact⟨fun c hc=>ig (h.1.1 c hc),by rw[<- ZR];exact h.1.2,h.2⟩
theorem BL{l:List Str}{i:Int}{n k:Nat}(h:l.all (G4 n k)=true)(h0:0<=i)(h1:i<(l.length:Int)):∃z,dO (l.map V.str) i=some (.str z)/\cR z n k:=by
 obtain⟨j,rfl⟩:∃j:Nat,i=(j:Int):=⟨i.toNat,by lia⟩;have hj:j<l.length:=by lia
 exact⟨l[j],K4 hj,yn (eZ.mp h _ (w6 hj))⟩
theorem kn{z:Str}{n k:Nat}(h:cR z n k)(hn:n<=100000):z.length<=sizeLine:=Zk (cY h.len hn)
set_option maxHeartbeats 4000000 in
theorem QM(B:∀x∈cF,mg x=none)(F:bO K "_law_spoiled" "_law_spoiled" Zt f fd):aX P w K mg base cp 1 f fd ["_law_rows_here","_law_modes","_law_cell"] (BD K):=by
 refine F.ok ph (fun vs H Q E h=>?_) (fun aK A outer s H vs Q E hr h=>?_)
 ·obtain⟨L,zs,m,cl,rfl,_⟩:=h;rfl
 obtain⟨L,zs,m,cl,rfl,hL,bP,iK,hz,q⟩:=h;have hu:=pE hr;refine VM ((Zd Zt).drop 13) (Tf (Ud (Vg Z6 (yh (iV.of Lp)) (Zv dm (Zv fJ (pv 2) Zg) Zg) (fun _ _=>rfl)))) (fun u13 h13 YW=>?_);refine Zw ((ZV ((Zd Zt).getD 12 (.Pass ⟨0,0,0,0⟩))).drop 0) (Zf (Zz (Zv Zy (Zv Zy (pv 4) Zm) (bo Z6 (fI.to (yh (iV.of Lp))) (Zv dm (Zv fJ (pv 2) Zg) Zg) (fun _ _=>rfl))))) (fun Zwl Zp0 YV=>?_);refine iw ((Zd Zt).drop 12) (iq (bt (Zr fv (pv 5) Zg (ZK _)) Zp0 ZC) h13) (fun u12 h12 YU=>?_);refine Zw ((ZV ((Zd Zt).getD 11 (.Pass ⟨0,0,0,0⟩))).drop 0) (Zf (Zz (Zv Zy (Zv Zy (Zv Zy (pv 4) Zm) (bo Z6 (fI.to (yh (mX pF (mX pF (mX pF (mX pF (mX pF (mX pF (mX pF LF))))))))) (Zv dm (Zv fJ (pv 2) Zg) Zg) (fun _ _=>rfl))) Zm))) (fun Zwj ZpY YT=>?_);refine iw ((Zd Zt).drop 11) (iq (bt (Zr fv (pv 5) Zg (ZK _)) ZpY ZC) h12) (fun u11 eQ YS=>?_);refine Zw ((ZV ((Zd Zt).getD 10 (.Pass ⟨0,0,0,0⟩))).drop 0) (Zf (Zz (cv mG t5 t6 rV Zm (Za (Zv L4 (pv 0) (fI.to (yh (mX (fI.of (bo Z6 (pv 0) (pv 8) (fun _ _=>rfl))) LF)))) Zb)))) (fun Zwh ZpX YR=>?_);refine iw ((Zd Zt).drop 10) (iq (bt (Zr fv (pv 5) Zg (ZK _)) ZpX ZC) eQ) (fun u10 h10 YQ=>?_);refine iw ((Zd Zt).drop 9) (iq (bt (Zr fv (pv 5) Zg (ZK _)) (Zf (Zz (cv mG t5 t6 rV Zm (Za (Zv L4 (fK yg (pv 0) io (eL Zg)) (Q4 rfl rfl (B "list" (by decide)) rfl (B "reversed" (by decide)) (Za (fK yg (pv 0) (eL Zg) io) Zb))) Zb)))) ZC) h10) (fun u9 h9 e9=>?_);refine iw ((Zd Zt).drop 8) (iq (bt (Zr sf (pv 5) Zg (ZK _)) (Zf (Zz (Zv Zy (Zv Zy (fK kq (pv 4) io (eL (pv 7))) (pv 6)) (fK kq (pv 4) (eL (Zv gm (pv 7) Zg)) io)))) ZC) h9) (fun u8 h8 e8=>?_);refine iw ((Zd Zt).drop 7) (iq (bt (Zr sf (pv 5) Zg (ZK _)) (Zf (Zz (Zv Zy (fK kq (pv 4) io (eL (pv 7))) (fK kq (pv 4) (eL (Zv gm (pv 7) Zg)) io)))) ZC) h8) (fun u7 h7 e7=>?_);refine iw ((Zd Zt).drop 6) (iq (bt (Zr sf (pv 5) Zg (ZK _)) (Zf (Zz (Zv Zy (Zv Zy (fK kq (pv 4) io (eL (pv 7))) (pv 6)) (fK kq (pv 4) (eL (pv 7)) io)))) ZC) h7) (fun u6 h6 e6=>?_);refine iw ((Zd Zt).drop 5) (iq (Zx (i:=8) ph.nd rfl (Or.inl rfl) (Zv dm (Zv fJ (pv 2) Zg) (ZF lH rfl (B "len" (by decide)) gb (Za (pv 0) Zb)))) h6) (fun u5 h5 e5=>?_);refine iw ((Zd Zt).drop 4) (iq (Zx (i:=7) ph.nd rfl (Or.inl rfl) (Zv dm (Zv dm (Zv uS (Zv fJ (pv 2) Zg) Zg) Zg) (Zv gm (ZF pq rfl (B "len" (by decide)) gb (Za (pv 4) Zb)) Zg))) h5) (fun u4 h4 e4=>?_);refine iw ((Zd Zt).drop 3) (iq (Zx (i:=6) ph.nd rfl (Or.inl rfl) (bo jy (pv 3) (Zv dm (Zv fJ (pv 2) Zg) Zg) (fun _ _=>rfl))) h4) (fun u3 h3 e3=>?_);refine iw ((Zd Zt).drop 2) (iq (Zx (i:=5) ph.nd rfl (Or.inl rfl) (Zv dm (pv 2) Zg)) h3) (fun u2 h2 e2=>?_);refine iw ((Zd Zt).drop 1) (iq (Zx (i:=4) ph.nd rfl (Or.inl rfl) (cv mG t5 t6 rV Zm (Za (pv 0) Zb))) h2) (fun u1 h1 e1=>?_);refine iw ((Zd Zt).drop 0) (iq (Zx (i:=3) ph.nd rfl (Or.inl rfl) (Zv Zy Zm Zm)) h1) (fun u0 h0 e0=>?_);refine Wz h0 ?_;refine Zq e0 ?_;refine⟨_,_,rfl,rfl,(by decide),?_⟩;show u1 _ _ _;refine Zq e1 ?_;have hj:=xS (c:=9) iK (by decide) hz;have zB:=hj.len;refine⟨rfl,_,rfl,Str.ofString "; ",L,zs,rfl,rfl,ak.of hL,?_,?_⟩
 ·have:=(rM hz).1;show _+_*2<=16777216;lia
 obtain⟨T,hT⟩:∃T,Txt.join (Str.ofString "; ") zs=T:=⟨_,rfl⟩;show u2 _ [some (.ref L),some (.int m),some (.int cl),some (.str (Str.ofString " ();={}0123ab/" ++ Str.ofString "-A?|,.4")),some (.str (Txt.join (Str.ofString "; ") zs)),none,none,none,none] H;rw[hT] at hj zB ⊢;refine Zq e2 ?_;have w0:=dW cl (by decide:(12:Int)≠0);refine⟨_,rfl,_,_,rfl,rfl,(by show(0:Int)<12;decide),?_⟩;show u3 _ _ _;refine Zq e3 ?_;have a0:=dW (cl / 12) (by decide:(21:Int)≠0);have a1:=eY (cl / 12) (by decide:(0:Int)<21);obtain⟨cg,N0,ZqY⟩:=some_at (cl / 12 % 21).toNat (by lia);rw[show(((cl / 12 % 21).toNat:Nat):Int)=cl / 12 % 21 by lia] at N0;refine⟨_,rfl,_,rfl,_,_,rfl,rfl,⟨by decide,by decide⟩,_,_,rfl,rfl,(by show(0:Int)<21;decide),_,_,cg,rfl,rfl,(by decide),N0,?_⟩;have FY:=Vo ZqY;show u4 _ _ _;refine Zq e4 ?_;refine⟨_,rfl,_,_,rfl,rfl,⟨by decide,by decide⟩,_,_,rfl,rfl,.inr ⟨by decide,by decide⟩,_,_,rfl,rfl,(by show(0:Int)<1000003;decide),_,rfl,T,rfl,Zk (by lia),_,_,rfl,rfl,_,_,rfl,rfl,(by show(0:Int)<(T.length:Int)+1;lia),?_⟩;have p0:=dW (cl / 12*69621 % 1000003) (show(T.length:Int)+1≠0 by lia);have p1:=eY (cl / 12*69621 % 1000003) (show(0:Int)<(T.length:Int)+1 by lia);obtain⟨j,hj1,hj2⟩:∃j:Nat,cl / 12*69621 % 1000003 % ((T.length:Int)+1)=(j:Int)/\j<=T.length:=⟨(cl / 12*69621 % 1000003 % ((T.length:Int)+1)).toNat,by lia,by lia⟩;show u5 _ [some (.ref L),some (.int m),some (.int cl),some (.str (Str.ofString " ();={}0123ab/" ++ Str.ofString "-A?|,.4")),some (.str T),some (.int (cl % 12)),some (.str ⟨#[cg]⟩),some (.int (cl / 12*69621 % 1000003 % ((T.length:Int)+1))),none] H;rw[hj1];refine Zq e5 ?_;have hzp:0<zs.length:=List.length_pos_iff.mpr bP;refine⟨_,rfl,_,_,rfl,rfl,⟨by decide,by decide⟩,_,rfl,L,_,rfl,.inl (ak.of hL),_,_,rfl,rfl,(by show(0:Int)<(((zs.map V.str).length:Nat):Int);rw[aV];lia),?_⟩;obtain⟨k,sP,iH⟩:∃k:Nat,cl / 7 % (((zs.map V.str).length:Nat):Int)=(k:Int)/\k<zs.length:=by
  rw[aV];have:=dW (cl / 7) (show(zs.length:Int)≠0 by lia);have:=eY (cl / 7) (show(0:Int)<(zs.length:Int) by lia);exact⟨(cl / 7 % (zs.length:Int)).toNat,by lia,by lia⟩
 show u6 _ [some (.ref L),some (.int m),some (.int cl),some (.str (Str.ofString " ();={}0123ab/" ++ Str.ofString "-A?|,.4")),some (.str T),some (.int (cl % 12)),some (.str ⟨#[cg]⟩),some (.int (j:Int)),some (.int (cl / 7 % (((zs.map V.str).length:Nat):Int)))] H;rw[sP];obtain⟨ta,ml⟩:∃ta,PySem.StrLaws.sliceText T none (some (j:Int))=ta:=⟨_,rfl⟩;obtain⟨tb,Ga⟩:∃tb,PySem.StrLaws.sliceText T (some (j:Int)) none=tb:=⟨_,rfl⟩;obtain⟨tc,vX⟩:∃tc,PySem.StrLaws.sliceText T (some ((j:Int)+1)) none=tc:=⟨_,rfl⟩;have yQ:cs ta=(cs T).take j:=by rw[<- ml,Td j hj2]
 have Nq:cs tb=(cs T).drop j:=by rw[<- Ga,Kh]
 have Nr:cs tc=(cs T).drop (j+1):=by rw[<- vX,show(j:Int)+1=((j+1:Nat):Int) by lia,Kh]
 have oka:=B_ hj yQ Nq (az _);have Pg:=B_ hj yQ Nr (h_ _);have Pe:=L6 hj yQ Nq (az _) FY;have Pf:=L6 hj yQ Nr (h_ _) FY;have Ph:cR (ta++⟨#[cg]⟩) 1000 60:=(oka.1.app FY).mono (by decide) (by decide);refine Zq e6 ?_;refine⟨_,rfl,_,_,rfl,rfl,_,rfl,dC (fun _=>?_) (fun _=>?_)⟩
 ·refine⟨_,rfl,_,rfl,(j:Int),rfl,T,rfl,Zk (by lia),_,rfl,_,_,rfl,rfl,?_,_,rfl,_,rfl,(j:Int),rfl,T,rfl,Zk (by lia),_,_,rfl,rfl,?_,?_⟩
  ·rw[ml,<- ZG];exact kn Ph (by decide)
  ·rw[ml,Ga,<- ZG];exact kn Pe (by decide)
  ·rw[ml,Ga];exact q _ _ (ZD.refl _) (Pe.mono (by decide) (by decide))
 show u7 _ _ _;refine Zq e7 ?_;refine⟨_,rfl,_,_,rfl,rfl,_,rfl,dC (fun _=>?_) (fun _=>?_)⟩
 ·refine⟨_,rfl,_,rfl,(j:Int),rfl,T,rfl,Zk (by lia),_,rfl,_,rfl,_,_,rfl,rfl,((j:Int)+1),rfl,T,rfl,Zk (by lia),_,_,rfl,rfl,?_,?_⟩
  ·rw[ml,vX,<- ZG];exact kn Pg.2 (by decide)
  ·rw[ml,vX];exact q _ _ (ZD.refl _) (Pg.2.mono (by decide) (by decide))
 show u8 _ _ _;refine Zq e8 ?_;refine⟨_,rfl,_,_,rfl,rfl,_,rfl,dC (fun _=>?_) (fun _=>?_)⟩
 ·refine⟨_,rfl,_,rfl,(j:Int),rfl,T,rfl,Zk (by lia),_,rfl,_,_,rfl,rfl,?_,_,rfl,_,rfl,_,_,rfl,rfl,((j:Int)+1),rfl,T,rfl,Zk (by lia),_,_,rfl,rfl,?_,?_⟩
  ·rw[ml,<- ZG];exact kn Ph (by decide)
  ·rw[ml,vX,<- ZG];exact kn Pf (by decide)
  ·rw[ml,vX];exact q _ _ (ZD.refl _) (Pf.mono (by decide) (by decide))
 show u9 _ _ _;refine Zq e9 ?_;refine⟨_,rfl,rfl,_,rfl,dC (fun _=>?_) (fun _=>?_)⟩
 ·have wF:∀z∈zs.take 1++(zs.drop 1).reverse,cR z 100 6:=fun z h=>by
   rcases bK.mp h with h|h
   ·exact hz z (oF h)
   ·exact hz z (tW (lb.mp h))
  have lp:(zs.take 1++(zs.drop 1).reverse).length<=9:=by
   rw[bu,tV,dM,dE];lia
  refine⟨rfl,_,rfl,1,rfl,L,_,rfl,ak.of hL,fun C1 lZ=>?_⟩;have s1:=ZD.new (o:=.lst (dI (zs.map V.str) none (some 1))) lZ;refine⟨_,rfl,1,rfl,L,_,rfl,ak.of (s1 _ _ hL),fun C2 hC2=>?_⟩;have s2:=ZD.new (o:=.lst (dI (zs.map V.str) (some 1) none)) hC2;refine⟨C2,_,rfl,ak.of Zc,fun C3 vE=>?_⟩;have s3:=ZD.new (o:=.lst (dI (zs.map V.str) (some 1) none).reverse) vE;have vm:dI (zs.map V.str) none (some 1)++(dI (zs.map V.str) (some 1) none).reverse=(zs.take 1++(zs.drop 1).reverse).map V.str:=by
   rw[show(1:Int)=((1:Nat):Int) from rfl,S8,Kx,fF,List.map_take,List.map_reverse,List.map_drop]
  refine⟨C1,C3,_,_,rfl,rfl,(s2.trans s3) _ _ Zc,Zc,?_,fun C4 pY=>?_⟩
  ·rw[<- bu,vm,aV];exact Zk (by lia)
  ·rw[vm];have s4:=ZD.new (o:=.lst ((zs.take 1++(zs.drop 1).reverse).map V.str)) pY;refine⟨Str.ofString "; ",C4,zs.take 1++(zs.drop 1).reverse,rfl,rfl,ak.of Zc,?_,q _ _ (s1.trans (s2.trans (s3.trans s4))) ((xS lp (by decide) wF).mono (by decide) (by decide))⟩;have:=(rM wF).1;show _+_*2<=16777216;lia
 show u10 _ _ _;refine Zq YQ ?_;refine⟨_,rfl,rfl,_,rfl,dC (fun _=>?_) (fun _=>?_)⟩
 ·show Zwh _ _ _;refine Zq YR ?_;have wF:∀z∈zs ++ [zs[k]],cR z 100 6:=fun z h=>by
   rcases bK.mp h with h|h
   ·exact hz z h
   ·rw[bh.mp h];exact hz _ (w6 iH)
  have lp:(zs ++ [zs[k]]).length<=10:=by
   rw[bu];show _+1<=_;lia
  refine⟨rfl,_,rfl,_,rfl,_,rfl,L,_,(k:Int),.str zs[k],rfl,rfl,ak.of hL,K4 iH,(by show 1<=sizeLine;decide),fun C1 lZ=>?_⟩;have s1:=ZD.new (o:=.lst [.str zs[k]]) lZ;have vm:zs.map V.str ++ [.str zs[k]]=(zs ++ [zs[k]]).map V.str:=by
   rw[fF];rfl
  refine⟨L,C1,_,_,rfl,rfl,s1 _ _ hL,Zc,?_,fun C4 pY=>?_⟩
  ·rw[<- bu,vm,aV];exact Zk (by lia)
  ·rw[vm];have s4:=ZD.new (o:=.lst ((zs ++ [zs[k]]).map V.str)) pY;refine⟨Str.ofString "; ",C4,zs ++ [zs[k]],rfl,rfl,ak.of Zc,?_,q _ _ (s1.trans s4) ((xS lp (by decide) wF).mono (by decide) (by decide))⟩;have:=(rM wF).1;show _+_*2<=16777216;lia
 show u11 _ _ _;refine Zq YS ?_;refine⟨_,rfl,rfl,_,rfl,dC (fun _=>?_) (fun _=>?_)⟩
 ·show Zwj _ _ _;refine Zq YT ?_;obtain⟨z,vZ,jg⟩:=BL (l:=["3","4","9","10","-1","03",""]) (n:=2) (k:=0) (i:=cl / 12 % 7) (by decide) (dW _ (by decide)) (eY _ (by decide));have o1:=hj.app (yn (n:=2) (k:=0) (z:=Str.ofString "; ") (by decide));have o2:=o1.app jg;have o3:=o2.app (yn (n:=13) (k:=0) (z:=Str.ofString " zzzzzzzz = a") (by decide));refine⟨_,rfl,_,_,rfl,rfl,?_,(by show 7<=sizeLine;decide),fun C1 lZ=>?_⟩
  ·rw[<- ZG];exact kn o1 (by decide)
  refine⟨_,rfl,_,_,rfl,rfl,⟨by decide,by decide⟩,_,_,rfl,rfl,(by show(0:Int)<7;decide),C1,_,_,.str z,rfl,rfl,ak.of Zc,vZ,_,_,rfl,rfl,?_,_,_,rfl,rfl,?_,q _ _ (ZD.new lZ) (o3.mono (by decide) (by decide))⟩
  ·rw[<- ZG];exact kn o2 (by decide)
  ·rw[<- ZG];exact kn o3 (by decide)
 show u12 _ _ _;refine Zq YU ?_;refine⟨_,rfl,rfl,_,rfl,dC (fun _=>?_) (fun _=>?_)⟩
 ·show Zwl _ _ _;refine Zq YV ?_;obtain⟨z,vZ,jg⟩:=BL (l:=["a()","{}","a({})",""," a","a ","a  0","0(a)","1_0"]) (n:=5) (k:=1) (i:=cl / 12 % 9) (by decide) (dW _ (by decide)) (eY _ (by decide));have o1:=hj.app (yn (n:=15) (k:=0) (z:=Str.ofString "; 0 zzzzzzzz = ") (by decide));have o2:=o1.app jg;refine⟨_,rfl,_,_,rfl,rfl,?_,(by show 9<=sizeLine;decide),fun C1 lZ=>?_⟩
  ·rw[<- ZG];exact kn o1 (by decide)
  refine⟨_,rfl,_,_,rfl,rfl,⟨by decide,by decide⟩,_,_,rfl,rfl,(by show(0:Int)<9;decide),C1,_,_,.str z,rfl,rfl,ak.of Zc,vZ,_,_,rfl,rfl,?_,q _ _ (ZD.new lZ) (o2.mono (by decide) (by decide))⟩;rw[<- ZG];exact kn o2 (by decide)
 show u13 _ _ _;refine Zq YW ?_;obtain⟨z,vZ,jg⟩:=BL (l:=["","0","5","1;","2; "," 1","1 ","01","1; 0 a","1; 0 a =","one"]) (n:=8) (k:=0) (i:=cl / 12 % 11) (by decide) (dW _ (by decide)) (eY _ (by decide));refine⟨(by show 11<=sizeLine;decide),fun C1 lZ=>?_⟩;exact⟨_,rfl,_,_,rfl,rfl,⟨by decide,by decide⟩,_,_,rfl,rfl,(by show(0:Int)<11;decide),C1,_,_,.str z,rfl,rfl,ak.of Zc,vZ,q _ _ (ZD.new lZ) (jg.mono (by decide) (by decide))⟩
theorem uE{m m':Nat}(hm:m<=m'):∀{p:Pa},bg m p->bg m' p
 | .nil,_=>trivial
 | .kids k o,h=>⟨⟨h.1.1,by have:=h.1.2;lia⟩,uE hm h.2⟩
 | .tag t w o,h=>⟨h.1,uE hm h.2.1,uE hm h.2.2⟩
theorem L0{l:List Nat}(h:l.all bU=true):l.count 40=0:=List.count_eq_zero.mpr fun hc=>by
 have:=eZ.mp h 40 hc
 revert this
 decide
theorem yj{m:Nat}:∀{p:Pa},bg m p->(tP p).count 40<=p.sz
 | .nil,_=>az _
 | .kids n o,h=>by
  have h1:=yj h.2;show List.count 40 ((48+n.toNat)::XT o)<=1+o.sz;have hx:(XT o).count 40<=o.sz:=by
   unfold XT
   split
   ·exact bi _
   ·rw[fo];have:((32:Nat) == 40)=false:=rfl;rw[this]
    simpa using h1
  rw[fo];have:((48+n.toNat) == 40)=false:=by simp;lia
  rw[this];simp;lia
 | .tag t w o,h=>by
  have h1:=yj h.2.1;have h2:=yj h.2.2;have h3:=L0 h.1.1;show List.count 40 (cs t++((if aB w=true then [] else 40::(tP w ++ [41]))++XT o))<=1+w.sz+o.sz
  have hx:(XT o).count 40<=o.sz:=by
   unfold XT
   split
   ·exact bi _
   ·rw[fo];have:((32:Nat) == 40)=false:=rfl;rw[this]
    simpa using h2
  have hw:(if aB w=true then [] else 40::(tP w ++ [41])).count 40<=1+w.sz:=by
   split
   ·exact bi _
   ·rw[fo,fm];have:List.count 40 [41]=0:=rfl;rw[this];simp;lia
  rw[fm,fm];lia
theorem V2{m:Nat}(hm:m<=4){r:Rl}(h:gK m r)(hs:r.2.2.sz<=6){z:Str}(hz:cs z=tR r):cR z 100 6:=by
 have hb:qX r:=⟨h.1.1,by have:=h.1.2;lia,by have:=h.2.1.2.2;rw[ZR] at this;exact this,by have:=Pa.uR r.2.2;lia,by lia,uE hm h.2.2⟩;have hl:=Ma hb;have ht:=h.2.1.1;refine⟨fun c hc=>?_,by rw[<- ZR,hz];lia,?_⟩
 ·have hc:c∈cs z:=hc;rw[hz] at hc;have O3:∀{c:Nat},bU c=true->c<128:=fun h=>by have:=CQ h;lia
  unfold tR at hc;rcases aG.mp hc with rfl|hc
  ·have:=h.1.2;lia
  ·rcases aG.mp hc with rfl|hc
   ·decide
   ·rcases bK.mp hc with hc|hc
    ·exact O3 (eZ.mp ht c hc)
    ·rcases aG.mp hc with rfl|hc
     ·decide
     ·rcases aG.mp hc with rfl|hc
      ·decide
      ·rcases aG.mp hc with rfl|hc
       ·decide
       ·split at hc
        ·revert hc
         simp;lia
        ·rcases uN (by lia) h.2.2 c hc with k|k|k|k|k
         ·exact O3 k
         ·unfold bA at k;simp at k;lia
         ·lia
         ·lia
         ·lia
 ·rw[hz];have h1:=yj h.2.2;have h2:=L0 ht;unfold tR;rw[fo,fo,fm,fo,fo,fo];have e1:((48+r.1.toNat) == 40)=false:=by simp;lia
  have h3:(if aB r.2.2=true then [123,125] else tP r.2.2).count 40<=r.2.2.sz:=by
   split
   ·exact bi _
   ·exact h1
  rw[e1];simp;lia
theorem SU{m:Nat}{rs:List Rl}(hw:oy m rs){l:List Nat}(e:l=tC m rs)(hl:l.length<=1500)(hc:l.count 40<=60):rs.length<=5000/\∀r∈rs,r.2.2.sz<=2001/\r.2.2.dep<70:=by
 have key:∀rs:List Rl,rs.length<=(ck rs).length/\∀r∈rs,(tR r).length<=(ck rs).length/\(tR r).count 40<=(ck rs).count 40:=by
  intro rs
  induction rs with
  | nil=>exact⟨az _,fun _ h=>nomatch h⟩
  | cons r rs ih =>
   have e1:(ck (r::rs)).length=2+(tR r).length+(ck rs).length:=by
    show(59::32::(tR r++ck rs)).length=_;simp only[aN,bu];lia
   have e2:(ck (r::rs)).count 40=(tR r).count 40+(ck rs).count 40:=by
    show(59::32::(tR r++ck rs)).count 40=_;rw[fo,fo,fm];rfl
   refine⟨by rw[e1,aN];have:=ih.1;lia,fun x hx=>?_⟩;rcases aG.mp hx with rfl|hx
   ·exact⟨by lia,by lia⟩
   ·have:=ih.2 x hx;exact⟨by lia,by lia⟩
 obtain⟨k1,k2⟩:=key rs;have el:l.length=1+(ck rs).length:=by rw[e];unfold tC;rw[aN];lia
 have ec:(ck rs).count 40<=l.count 40:=by rw[e];unfold tC;rw[fo];lia
 refine⟨by lia,fun r hr=>?_⟩;obtain⟨a1,a2⟩:=k2 r hr;have hwr:=hw.2.1 r hr;cases hn:aB r.2.2 with
 | true =>
  rw[kj.mp hn];exact⟨bi _,by decide⟩
 | false =>
  have q:=LY hw.1.2 hn hwr.2.2;have s1:=LR q;have s2:=Lk q;have t1:(tR r).length=5+(cs r.2.1).length+(tP r.2.2).length:=by
   unfold tR;rw[hn,af bb];simp only[aN,bu];lia
  have t2:(tP r.2.2).count 40<=(tR r).count 40:=by
   unfold tR;rw[hn,af bb,fo,fo,fm,fo,fo,fo];lia
  exact⟨by lia,by lia⟩
theorem MH{H:Hp}:∀{ys:List V}{ps:List bj.Ps},KL H ys (ps.map bR)->cD H ys ps
 | [],[],_=>.nil
 | _::_,_::_,.cons ⟨b,e1,e2⟩ t=>.cons ⟨b,e1,e2⟩ (MH t)
set_option maxHeartbeats 8000000 in
theorem U1(B:∀x∈cF,mg x=none)(pU:bF P w K mg base "_law_cell_at" ["_law_script","_law_k"] 1 (yu K)) (E4:bF P w K mg base "_law_known" ["_law_modes","_law_numbers_here"] 3 BG) (E5:bF P w K mg base "_law_numbers" ["_law_script","_law_first","_law_many"] 2 (BO K)) (sy:bF P w K mg base "_law_rows" ["_law_modes","_law_rules"] 71 x4) (E8:bF P w K mg base "_law_spoiled" ["_law_rows_here","_law_modes","_law_cell"] 1 (BD K)) (E3:bF P w K mg base "_law_changer_of" ["_law_text_here"] 72 Cn) (zb:bF P w K mg base "_law_told" ["_law_text_here"] 8 (B1 K)) (sA:bF P w K mg base "_law_same_kinds" ["_law_found","_law_due"] 150 (yA 150)) (F:bO K "law" "law" dB f fd):aX P w K mg base cp 151 f fd ["_law_script"] (yG K):=by
 refine F.ok i6 (fun vs H Q E h=>?_) (fun aK A outer s H vs Q E hr h=>?_)
 ·obtain⟨a,ns,rfl,_⟩:=h;rfl
 obtain⟨a,ns,rfl,hS,sE,q⟩:=h;have hu:=pE hr;have s_:(A.deeper (PyProof.Rows.envOfC (Str.ofString "law") (Zh dB) s.heap.objs.size f aK)).units+1<cLine:=by have:=hr.un;lia
 refine Zw ((Zd dB).drop 7) (Zf (Zz (rX (ya Ct (pv 9) gn (ZK _)) (uO (dc sA hr rfl (Za (pv 8) (Za (cS (Za (pv 2) (Za (ZX Z0 rfl (B "tuple" (by decide)) iY (Za (pv 4) Zb)) Zb))) Zb))))))) (fun u7 h7 e7=>?_);refine Zw ((Zd dB).drop 6) (Ze (Cu (dc zb hr rfl (Za (cv mG t5 t6 rV Zm (Za (pv 5) Zb)) Zb)) (uV rfl (iZ (dA (i:=8) i6.nd rfl (Or.inl rfl)) (iZ (dA (i:=9) i6.nd rfl (Or.inl rfl)) uI)))) h7) (fun u6 h6 e6=>?_);refine Zw ((ZV ((Zd dB).getD 5 (.Pass ⟨0,0,0,0⟩))).drop 4) (Zf (bt (PW.pt (jw (Zr K2 (pv 7) gn (ZK _)) (ko (PW.pt (jE (Zr K2 (pv 9) gn (ZK _)) (lN (jA (ZZ (dc sA hr rfl (Za (pv 8) (Za (pv 7) Zb))) (fun _=>rfl)))))))))
   (Zf (Zz kr))
   ZC)) (fun PN ZqB Nz=>?_)
 refine Zw ((ZV ((Zd dB).getD 5 (.Pass ⟨0,0,0,0⟩))).drop 3) (Ze (bt (PW.pt (jw (Zr Ct (pv 7) gn (ZK _)) (ko (Zr TQ (pv 9) kr (ZK _)))))
   (Zf (Zz kr))
   ZC) ZqB) (fun PM ZqA Ny=>?_)
 refine Zw ((ZV ((Zd dB).getD 5 (.Pass ⟨0,0,0,0⟩))).drop 2) (Ze (Cu (dc zb hr rfl (Za (pv 6) Zb)) (uV rfl (iZ (dA (i:=8) i6.nd rfl (Or.inl rfl)) (iZ (dA (i:=9) i6.nd rfl (Or.inl rfl)) uI)))) ZqA) (fun PL Zqz Nw=>?_);refine Zw ((ZV ((Zd dB).getD 5 (.Pass ⟨0,0,0,0⟩))).drop 1) (Ze (Zx (i:=7) i6.nd rfl (Or.inl rfl) (dc E3 hr rfl (Za (pv 6) Zb))) Zqz) (fun ZwN Zqy ZpM=>?_);refine Zw ((ZV ((Zd dB).getD 5 (.Pass ⟨0,0,0,0⟩))).drop 0) (Ze (Zx (i:=6) i6.nd rfl (Or.inl rfl) (dc E8 hr rfl (Za (pv 5) (Za (pv 2) (Za (dc pU hr rfl (Za (pv 0) (Za Zg Zb))) Zb))))) Zqy) (fun ZwM Zqx ZpL=>?_);refine Zw ((Zd dB).drop 5) (Ze (bt (Zr fv (Zv dm (Zv fJ (pv 1) Zg) Zg) Zg (ZK _))
   Zqx
   ZC) h6) (fun u5 h5 e5=>?_)
 refine Zw ((Zd dB).drop 4) (Ze (Zx (i:=5) i6.nd rfl (Or.inl rfl) (dc sy hr rfl (Za (pv 2) (Za (pv 4) Zb)))) h5) (fun u4 h4 e4=>?_);refine Zw ((Zd dB).drop 3) (Ze (Jl (cl:=_) (n0:=4) i6.nd rfl (Or.inl rfl) ["_law_mode","_law_tag_here"] [("_law_known_here",3)] (uL (ZF (QB rfl) rfl (B "sorted" (by decide)) Sx (Za (ZX (QF rfl) rfl (B "list" (by decide)) Lz (Za (pv 3) Zb)) Zb))) (fun _ _ _ _=>(Ur (K:=K) (n:=2) rfl rfl (iZ (dA (i:=0) (show List.Nodup (["_law_mode","_law_tag_here","_law_known_here"]:List Str) by decide) rfl (Or.inl rfl)) (iZ (dA (i:=1) (show List.Nodup (["_law_mode","_law_tag_here","_law_known_here"]:List Str) by decide) rfl (Or.inl rfl)) uI)))) (fun _ _ _ _=>(cS (Za (pv 0) (Za (pv 1) (Za (Ue s_ (pv 2) (cS (Za (pv 0) (Za (pv 1) Zb))) (fun _ _=>rfl)) Zb))))) rfl rfl (by decide) rfl (by decide) (Vq (by(repeat' first|exact AR _|refine fq.mpr ⟨?_,?_⟩) <;> rfl)) (TN (by(repeat' first|exact AR _|refine fq.mpr ⟨?_,?_⟩) <;> first|(intro h;exact⟨_,rfl⟩)|(intro h;exact absurd h (by decide)))) (fun _=>by(repeat' first|exact AR _|refine fq.mpr ⟨?_,?_⟩) <;> exact⟨rfl,rfl,Or.inl rfl⟩) (fun _=>rfl) rfl) h4) (fun u3 h3 e3=>?_)
 refine Zw ((Zd dB).drop 2) (Ze (Zx (i:=3) i6.nd rfl (Or.inr rfl) (dc E4 hr rfl (Za (pv 2) (Za (dc E5 hr rfl (Za (pv 0) (Za Zg (Za (Zv uS Zg (Zv dm (Zv fJ (pv 1) Zg) Zg)) Zb)))) Zb)))) h3) (fun u2 h2 e2=>?_);refine Zw ((Zd dB).drop 1) (Ze (Zx (i:=2) i6.nd rfl (Or.inl rfl) (Zv gm Zg (Zv dm (pv 1) Zg))) h2) (fun u1 h1 e1=>?_);refine Zw ((Zd dB).drop 0) (Ze (Zx (i:=1) i6.nd rfl (Or.inl rfl) (dc pU hr rfl (Za (pv 0) (Za Zg Zb)))) h1) (fun u0 h0 e0=>?_);refine⟨u0,h0,?_⟩;refine Zq e0 ?_;refine⟨_,rfl,a,ns,0,rfl,hS,sE,by decide,fun fst=>?_⟩;show u1 _ _ _;refine Zq e1 ?_;have f0:=dW fst (by decide:(4:Int)≠0);have f1:=eY fst (by decide:(0:Int)<4);obtain⟨md,zJ,m1,m4⟩:∃md:Nat,1+fst % 4=(md:Int)/\1<=md/\md<=4:=⟨(1+fst % 4).toNat,by lia,by lia,by lia⟩;refine⟨_,rfl,_,_,rfl,rfl,(by show(0:Int)<4;decide),_,_,rfl,rfl,?_⟩;show u2 _ [some (.ref a),some (.int fst),some (.int (1+fst % 4)),none,none,none,none,none,none,none] H;rw[zJ];refine Zq e2 ?_;have n0:=dW (fst / 4) (by decide:(9:Int)≠0);have n1:=eY (fst / 4) (by decide:(0:Int)<9);refine⟨_,rfl,_,rfl,_,rfl,_,_,rfl,rfl,⟨by decide,by decide⟩,_,_,rfl,rfl,(by show(0:Int)<9;decide),_,_,rfl,rfl,.inl ⟨by decide,by decide⟩,a,ns,0,_,rfl,hS,sE,by lia,by lia,fun na xs H1 s1 _ mh tf _=>?_⟩;refine⟨na,xs,md,(fst / 4 % 9).toNat,rfl,mh,by lia,by lia,m1,m4,fun d m rs H2 s2 hd2 zI hg iJ=>?_⟩;have AD:=s1.trans s2;show u3 _ _ _;refine Zq e3 ?_;refine⟨_,rfl,d,m,rfl,hd2,fun l ys zD Od=>?_⟩;rw[zI.keys] at Od;have gE:=MH Od;have z1:=ZD.new (o:=.lst ys) zD;have kO:ys.length=rs.length:=by rw[gE.length,aV]
 refine⟨l,ys,rs.map aI,rfl,ak.of Zc,by lia,gE.keep z1.tk,fun ks zk kl hk0 jU hup Oe=>?_⟩;have z2:=ZD.new (o:=.lst zk) hk0;have Zxv:kl.length=rs.length:=by rw[jU.length_eq,aV]
 have Gk:zk.length=kl.length:=Oe.length;have iH:(upd (upd H2 l (.lst ys)) ks (.lst zk)) ks=some (.lst zk):=Zc;have Of:=Oe.keep z2.tk;have sI:=(z1.trans z2) _ _ hd2;have Oj:=zI.tk (z1.trans z2).tk;have wI:=AD.trans (z1.trans z2);generalize upd (upd H2 l (.lst ys)) ks (.lst zk)=H3 at iH Of sI Oj wI ⊢;refine⟨ks,rfl,⟨_,ak.of iH⟩,fun pc vU=>?_⟩;refine JT (K:=K) (a:=ks) (p:=pc) (xs:=zk) (fun i us σ H6=>∃(w0 w1:Option V)(ms:List Rl),σ =[w0,w1,some (.ref d)]/\ZD H3 H6/\H6 pc=some (.lst us)/\us.length=i/\eO H6 us ms/\(∀r∈ms,r∈rs)/\ms.map aI=kl.take i)
  ⟨none,none,[],rfl,ZD.new vU,Zc,rfl,.nil,fun _ h=>(nomatch h),rfl⟩ ?_ ?_ ?_
 ·rintro i us σ H6 _ ⟨_,_,_,_,s6,h,_⟩;exact⟨ak.of (s6 _ _ iH),h⟩
 ·rintro i us x σ H6 hi hx ⟨w0,w1,ms,rfl,s6,qj,OP,zR,fY,jc⟩;obtain⟨pk,kk,e1,rfl,e3⟩:=Of.get i x hx;have hkm:kk∈rs.map aI:=jU.mem_iff.mp (cP e1);rcases Oj.val kk with⟨no,_⟩|⟨r,qp,yp,hr,hrk,hv,x2,x3⟩
  ·exact absurd hkm no
  subst hrk;refine⟨pk,_,rfl,aL.of (s6 _ _ e3),rfl,_,_,rfl,_,_,rfl,rfl,?_⟩;refine⟨_,rfl,_,rfl,_,rfl,_,rfl,_,rfl,(by show 2<=sizeLine;decide),fun kt hkt=>?_⟩;have s7:=ZD.new (o:=.tup [.int r.1,.str r.2.1]) hkt;have nK:pQ (upd H6 kt (.tup [.int r.1,.str r.2.1])) d (.ref kt) (some (.ref qp)):=by
   have:=pQ.t (k:=bR (aI r)) ((s6.trans s7) _ _ sI) (show(upd H6 kt (.tup [.int r.1,.str r.2.1])) kt=some (.tup ((bR (aI r)).map kV)) from Zc);rw[hv] at this;exact this
  refine⟨d,_,rfl,nK,(by show 3<=sizeLine;decide),fun t3 sZ=>?_⟩;have s8:=ZD.new (o:=.tup [.int r.1,.str r.2.1,.ref qp]) sZ;have Ha:=s7.trans s8;have qm:=Ha _ _ qj;have tk:=Ha.tk.trans (TK.lst (o:=.lst (us ++ [.ref t3])) qm);have nt:t3≠pc:=fun z=>nomatch ((z ▸ sZ:_=none).symm.trans (s7 _ _ qj))
  refine⟨qm,ZW (by lia),CW.next hi ⟨_,_,ms ++ [r],rfl,(s6.trans Ha).eV vU,Zc,by rw[bu,List.length_singleton,OP],(zR.mono tk).snoc ⟨t3,qp,yp,rfl,?_,tk _ _ (s6 _ _ x2),(x3.mono s6.tk).mono tk⟩,fun r' mN=>?_,?_⟩⟩
  ·rw[Zi nt];exact Zc
  ·rcases bK.mp mN with mN|mN
   ·exact fY r' mN
   ·rw[bh.mp mN];exact hr
  ·rw[uB e1,fF,jc];rfl
 rintro us σ H6 ⟨w0,w1,ms,rfl,s6,qj,OP,zR,fY,jc⟩;rw[Gk,oG] at jc;have zY:∀r∈ms,gK md r/\r.2.2.sz<=6:=fun r hr=>hg.ok r (fY r hr);have ZxC:ms.length<=8:=by
  have:=congrArg List.length jc;rw[aV] at this;lia
 have zN:(ms.map aI).Pairwise (fun a b=>bj.cT a b=true):=by
  rw[jc];have zK:kl.Nodup:=jU.nodup_iff.mpr hg.nd;exact bj.mY.strict hup zK
 have hwC:oy md ms:=⟨⟨m1,m4⟩,fun r hr=>(zY r hr).1,zN⟩;have hB:∀r∈ms,qX r:=fun r hr=>by
  obtain⟨h1,h2⟩:=zY r hr;exact⟨h1.1.1,by have:=h1.1.2;lia,by have:=h1.2.1.2.2;rw[ZR] at this;exact this,by have:=Pa.uR r.2.2;lia,by lia,uE m4 h1.2.2⟩
 have om:=wI.trans s6;show u4 _ _ _;refine Zq e4 ?_;refine⟨_,rfl,_,rfl,pc,us,md,ms,rfl,qj,zR,m1,m4,hB,by lia,fun rp zs H7 s7 OE fZ=>?_⟩;have AE:=om.trans s7;have qk:=s7 _ _ qj;have Zr0:=zR.mono s7.tk;have ej:=Lf fZ;have v_:∀z∈zs,cR z 100 6:=fun z hz=>by
  have hc:cs z∈zs.map cs:=AV hz;rw[fZ] at hc;rcases aG.mp hc with hc|hc
  ·refine⟨fun c fW=>?_,by rw[<- ZR,hc];show 1<=100;decide,by rw[hc];exact cY List.count_le_length (by show 1<=6;decide)⟩;have fW:c∈cs z:=fW;rw[hc] at fW;have:=bh.mp fW;lia
  ·obtain⟨r,hr,hrc⟩:=gL.mp hc;exact V2 m4 (zY r hr).1 (zY r hr).2 hrc.symm
 have iK:zs.length=ms.length+1:=by
  have:=congrArg List.length fZ;rw[aV,aN,aV] at this;exact this
 have Zsx:zs ≠ []:=fun z=>by rw[z] at iK;cases iK
 have hj3:=xS (c:=9) (by lia) (by decide) v_;have fin:∀(v6 v7 v8 v9:Option V)(H8:Hp),Kp H7 H8->u6 { nx:=fun x H'=>Q V.aD H',rt:=Q } [some (.ref a),some (.int fst),some (.int (md:Int)),some (.ref d),some (.ref pc),some (.ref rp),v6,v7,v8,v9] H8:=fun v6 v7 v8 v9 H8 k8=>by
  have Zr3:H8 rp=some (.lst (zs.map V.str)):=k8 _ _ OE (fun _ z=>nomatch z)
  have qm:H8 pc=some (.lst us):=k8 _ _ qk (fun _ z=>nomatch z)
  have Zr1:=Zr0.mono k8.tk;refine Zq e6 ?_;have nS:=(rM v_).1;have vU:gH (cs (Txt.join (Str.ofString "; ") zs))=some (md,ms):=by rw[ej,ME hwC]
  have zB:=hj3.len;refine⟨rfl,_,rfl,Str.ofString "; ",rp,zs,rfl,rfl,ak.of Zr3,?_,Txt.join (Str.ofString "; ") zs,rfl,by lia,fun m2 Pq bG H9 v2 r s9 fW hr9=>?_,fun bG=>?_⟩
  ·show _+_*2<=16777216;lia
  ·rw[vU] at bG;cases bG;refine⟨r,_,rfl,aL.of hr9,rfl,_,_,rfl,_,_,rfl,rfl,?_⟩;show u7 _ _ _;refine Zq e7 ?_;have hp9:=s9 _ _ qm;have Zr2:=Zr1.mono s9.tk;refine⟨_,rfl,rfl,true,rfl,aH ⟨_,rfl,_,rfl,_,rfl,pc,us,rfl,.inl ⟨ak.of hp9,fun r2 mj=>⟨(by show 2<=sizeLine;decide),fun q3 hq3=>?_⟩⟩⟩⟩;have qC:=ZD.new (o:=.tup us) mj;have G':=ZD.new (o:=.tup [.int (md:Int),.ref r2]) hq3;have c1:kg (upd (upd H9 r2 (.tup us)) q3 (.tup [.int (md:Int),.ref r2])) (.ref q3) md ms:=⟨q3,r2,us,rfl,Zc,G' _ _ Zc,Zr2.mono (qC.tk.trans G'.tk)⟩;have c2:=fW.mono (qC.tk.trans G'.tk);exact⟨v2,.ref q3,rfl,(Mi c2 c1 (by lia) fun r hr=>⟨(hB r hr).sz,(hB r hr).dp⟩).up (by decide),q _⟩
  ·rw[vU] at bG;cases bG
 show u5 _ _ _;refine Zq e5 ?_;refine⟨_,rfl,_,_,rfl,rfl,⟨by decide,by decide⟩,_,_,rfl,rfl,(by show(0:Int)<2;decide),rfl,_,rfl,dC (fun _=>?_) (fun _=>fin _ _ _ _ H7 (Kp.same (ZD.refl _)))⟩;show ZwM _ _ _;refine Zq ZpL ?_;refine⟨_,rfl,_,rfl,_,rfl,a,ns,1,rfl,AE.seq hS,sE,by decide,fun c1=>⟨rp,zs,(md:Int),c1,rfl,OE,Zsx,by lia,v_,fun T H8 s8 hT=>?_⟩⟩;show ZwN _ _ _;refine Zq ZpM ?_;have hTl:=hT.len;refine⟨_,rfl,T,rfl,hT.asc,hT.len,hT.cnt,fun m' dy hw e v H9 s9 hc=>?_,fun fh H9 s9=>?_⟩
 ·have hp:gH (cs T)=some (m',dy):=by rw[e,ME hw]
  obtain⟨h5,qq⟩:=SU hw e (by rw[ZR];exact hTl) hT.cnt;show PL _ _ _;refine Zq Nw ?_;refine⟨_,rfl,T,rfl,by lia,fun m2 Pq bG mO v2 r qC fW zQ=>?_,fun bG=>?_⟩;rotate_left
  ·rw[hp] at bG;cases bG
  rw[hp] at bG;cases bG;refine⟨r,_,rfl,aL.of zQ,rfl,_,_,rfl,_,_,rfl,rfl,?_⟩;have hc3:=hc.mono qC.tk;have Zr8:Sm mO 150 v2 v:=(Mi fW hc3 h5 qq).up (by decide);obtain⟨q0,t0,w0,rfl,_⟩:=hc;have kk:Kp H7 mO:=Kp.same (s8.trans (s9.trans qC));show PM _ _ _;refine Zq Ny ?_;refine⟨_,rfl,rfl,_,rfl,aE (aE ?_)⟩;show PN _ _ _;refine Zq Nz ?_;refine⟨_,rfl,rfl,_,rfl,aH ⟨_,rfl,rfl,_,rfl,aE ⟨_,rfl,_,rfl,v2,.ref q0,rfl,Zr8,true,rfl,?_⟩⟩⟩;exact aE (fin _ _ _ _ mO kk)
 ·show PL _ _ _;refine Zq Nw ?_;refine⟨_,rfl,T,rfl,by lia,fun m2 Pq bG mO v2 r qC fW zQ=>?_,fun bG mO r tx zQ=>?_⟩
  ·obtain⟨e2,Ge⟩:=SM bG;exact absurd e2 (fun e2=>fh _ _ Ge e2)
  refine⟨r,_,rfl,aL.of zQ,rfl,_,_,rfl,_,_,rfl,rfl,?_⟩;have kk:Kp H7 mO:=(Kp.same (s8.trans s9)).trans tx;show PM _ _ _;refine Zq Ny ?_;refine⟨_,rfl,rfl,_,rfl,aH ⟨_,rfl,_,_,rfl,rfl,_,rfl,aE ?_⟩⟩;show PN _ _ _;refine Zq Nz ?_;refine⟨_,rfl,rfl,_,rfl,aE (aE ?_)⟩;exact fin _ _ _ _ mO kk
end
theorem Vs{l:PySem.W.OpenLaw}{w:World}{K:PySem.W.Frag}{h:Heap}{mg:Str->Option Value}{fa f1 f2 f3 f4 f5 f6 f7 f8 f9 yT yU vp vq yV vt vv yW yX yY yZ y2 y3 y4 vw y6 y8 vx EX:Addr}(X:K.In h)(G:h.Ns mainGlobals mg)(hfa:mg "law" = some (.ref fa))
  {od1 WK od2 WX od3 W7 od4 W8 od5 W9 od6 W' od7 W_ od8 Xa od9 Xb Zut WL Zuu WM Zuv WN Zuw WQ Zux WR Zuy WS Zuz WT ZuA WU ZuB WV ZuC WW ZuE WY ZuF WZ ZuG W0 ZuH W2 ZuI W3 ZuJ W4 ZuK W5 ZuL W6 ZuM MP:Option Addr} {sl1 wJ sl3 sl4 sl5 sl6 sl7 sl8 sl9 Zvy Zvz ZvA ZvB ZvC ZvD ZvE ZvF ZvG ZvH ZvI ZvJ ZvK ZvL ZvM ZvN ZvO ZvP ZvQ:Array (Option Value)} {oc1 kV1 Ym pm1 MW XW oc2 kV2 Yx pm2 M8 X8 oc3 kV3 YG pm3 Ng Yf oc4 kV4 YH pm4 Nh Yg oc5 kV5 YI pm5 Ni Yh oc6 kV6 YJ pm6 Nj Yi oc7 kV7 YK pm7 Nk Yj oc8 kV8 YL pm8 Nl Yk oc9 kV9 YM pm9 Nm Yl Zt1 ZsM Yn Zu0 MX XX Zt2 ZsN Yo Zu1 MY XY Zt3 ZsO Yp Zu2 MZ XZ Zt4 ZsP Yq Zu3 M0 X0 Zt5 ZsQ Yr Zu4 M1 X1 Zt6 ZsR Ys Zu5 M3 X3 Zt7 ZsS Yt Zu6 M4 X4 Zt8 ZsT Yu Zu7 M5 X5 Zt9 ZsU Yv Zu8 M6 X6 Zua ZsV Yw Zu9 M7 X7 Zuc ZsX Yy Zvb M9 X9 Zud ZsY Yz Zvc M' X' Zue ZsZ YA Zvd M_ X_ Zuf Zs0 YB Zve Na Ya Zug Zs1 YC Zvf Nb Yb Zuh Zs2 YD Zvg Nc Yc Zui Zs3 YE Zvh Nd Yd Zuj Zs4 YF Zvi Nf Ye Zuk OV Nt Pn DQ Np:Value}
  {bZ ef d8 eE eC et d_ eF eh eB d7 au eA ee eo:Addr}
  (HE:PySem.W.nsIn K mainGlobals "GroveError" = some (some (.ref bZ)))
  (HH:PySem.W.nsIn K mainGlobals "NoGrove" = some (some (.ref ef)))
  (HD:PySem.W.nsIn K mainGlobals "BadForm" = some (some (.ref d8)))
  (HQ:PySem.W.nsIn K mainGlobals "TooMany" = some (some (.ref eE)))
  (HP:PySem.W.nsIn K mainGlobals "TooBig" = some (some (.ref eC)))
  (HL:PySem.W.nsIn K mainGlobals "NoneFits" = some (some (.ref et)))
  (HF:PySem.W.nsIn K mainGlobals "NoBook" = some (some (.ref d_)))
  (HR:PySem.W.nsIn K mainGlobals "TwiceNamed" = some (some (.ref eF)))
  (HI:PySem.W.nsIn K mainGlobals "NoName" = some (some (.ref eh)))
  (HN:PySem.W.nsIn K mainGlobals "Ring" = some (some (.ref eB)))
  (HC:PySem.W.nsIn K mainGlobals "BadChanger" = some (some (.ref d7)))
  (HJ:PySem.W.nsIn K mainGlobals "NoRecipe" = some (some (.ref au)))
  (HM:PySem.W.nsIn K mainGlobals "NotStraight" = some (some (.ref eA)))
  (HG:PySem.W.nsIn K mainGlobals "NoChange" = some (some (.ref ee)))
  (HK:PySem.W.nsIn K mainGlobals "NoRow" = some (some (.ref eo)))
  {g0 goc:Value} {gdd god:Option Addr} {gcd:ClassData} {gsl P1:Array (Option Value)} {NI:Array DictEntry} {gep:Nat} (Hv:K.lookup bZ=some ⟨g0,gdd,.cls gcd,gsl⟩) (Hw:K.lookup gcd.ns=some ⟨goc,god,.dict NI gep,P1⟩) (Hx:keysOk NI=true) (Hy:PySem.W.nsIn K gcd.ns "__init__" = some none)
  (Hn:PySem.W.specialIn K (.ref bZ) "__getattribute__" = some (some (.builtin "type.__getattribute__"))) (Ho:PySem.W.readsIn K bZ (.type "type")=true) (Hq:PySem.W.findCls K (.ref bZ) (.type "type") "__init__" = some (.val (.builtin "ValueError.__init__"))) (Hr:PySem.W.isClsIn K bZ=true) (Hs:PySem.W.typeIn K (.ref bZ)=some (.type "type"))
  (D3:PySem.W.isClsIn K bZ=true) (Eh:PySem.W.mroIn K bZ (.type "BaseException")=some true) (Ey:PySem.W.instIn K (.ref bZ) (.type "tuple")=some false)
  (D6:PySem.W.isClsIn K ef=true) (Ek:PySem.W.mroIn K ef (.type "BaseException")=some true) (EB:PySem.W.instIn K (.ref ef) (.type "tuple")=some false)
  (D2:PySem.W.isClsIn K d8=true) (Eg:PySem.W.mroIn K d8 (.type "BaseException")=some true) (Ex:PySem.W.instIn K (.ref d8) (.type "tuple")=some false)
  (Ed:PySem.W.isClsIn K eE=true) (Et:PySem.W.mroIn K eE (.type "BaseException")=some true) (EJ:PySem.W.instIn K (.ref eE) (.type "tuple")=some false)
  (Ec:PySem.W.isClsIn K eC=true) (Es:PySem.W.mroIn K eC (.type "BaseException")=some true) (EI:PySem.W.instIn K (.ref eC) (.type "tuple")=some false)
  (D_:PySem.W.isClsIn K et=true) (Eo:PySem.W.mroIn K et (.type "BaseException")=some true) (EF:PySem.W.instIn K (.ref et) (.type "tuple")=some false)
  (D4:PySem.W.isClsIn K d_=true) (Ei:PySem.W.mroIn K d_ (.type "BaseException")=some true) (Ez:PySem.W.instIn K (.ref d_) (.type "tuple")=some false)
  (Ee:PySem.W.isClsIn K eF=true) (Eu:PySem.W.mroIn K eF (.type "BaseException")=some true) (EL:PySem.W.instIn K (.ref eF) (.type "tuple")=some false)
  (D7:PySem.W.isClsIn K eh=true) (El:PySem.W.mroIn K eh (.type "BaseException")=some true) (EC:PySem.W.instIn K (.ref eh) (.type "tuple")=some false)
  (Eb:PySem.W.isClsIn K eB=true) (Er:PySem.W.mroIn K eB (.type "BaseException")=some true) (EH:PySem.W.instIn K (.ref eB) (.type "tuple")=some false)
  (D1:PySem.W.isClsIn K d7=true) (Ef:PySem.W.mroIn K d7 (.type "BaseException")=some true) (Ew:PySem.W.instIn K (.ref d7) (.type "tuple")=some false)
  (D8:PySem.W.isClsIn K au=true) (Em:PySem.W.mroIn K au (.type "BaseException")=some true) (ED:PySem.W.instIn K (.ref au) (.type "tuple")=some false)
  (Ea:PySem.W.isClsIn K eA=true) (Ep:PySem.W.mroIn K eA (.type "BaseException")=some true) (EG:PySem.W.instIn K (.ref eA) (.type "tuple")=some false)
  (D5:PySem.W.isClsIn K ee=true) (Ej:PySem.W.mroIn K ee (.type "BaseException")=some true) (EA:PySem.W.instIn K (.ref ee) (.type "tuple")=some false)
  (D9:PySem.W.isClsIn K eo=true) (En:PySem.W.mroIn K eo (.type "BaseException")=some true) (EE:PySem.W.instIn K (.ref eo) (.type "tuple")=some false)
  {ZtV Zvq:Str} {Qj:Addr} {Xw:List Value} {Zq5:Bool} {ZvZ:List Str} {Zv1:List Value} {WJ:Bool} {XU:Option Bool} {YN:Option Addr} {ZsG ZsH ZsI ZsJ ZsK:Option Value}
  (HB:K.lookup au=some (excClassObj ZtV Zvq au Qj Xw (.ref bZ::sq) Zq5 ZvZ Zv1 WJ XU YN ZsG ZsH ZsI ZsJ ZsK "ValueError.__new__"))
  (Ht:PySem.W.specialIn K (.ref au) "__call__" = some (some (.builtin "type.__call__"))) (HS:PySem.W.instIn K (.ref au) (.type "type")=some true) (HA:PySem.W.keepIn K (.ref au)=true) (HU:PySem.W.mroIn K au (.type "ValueError")=some true)
  (Hu:au≠bZ)
  (Hz:PySem.W.findIn K (.ref au) "__init__" = some (some (.builtin "ValueError.__init__")))
  (wj:PySem.W.mroIn K au (.ref bZ)=some true)
  (wo:PySem.W.mroIn K au (.ref ef)=some false)
  (wg:PySem.W.mroIn K au (.ref d8)=some false)
  (wA:PySem.W.mroIn K au (.ref eE)=some false)
  (wz:PySem.W.mroIn K au (.ref eC)=some false)
  (ww:PySem.W.mroIn K au (.ref et)=some false)
  (wk:PySem.W.mroIn K au (.ref d_)=some false)
  (wB:PySem.W.mroIn K au (.ref eF)=some false)
  (wq:PySem.W.mroIn K au (.ref eh)=some false)
  (wy:PySem.W.mroIn K au (.ref eB)=some false)
  (we:PySem.W.mroIn K au (.ref d7)=some false)
  (wt:PySem.W.mroIn K au (.ref au)=some true)
  (wx:PySem.W.mroIn K au (.ref eA)=some false)
  (wm:PySem.W.mroIn K au (.ref ee)=some false)
  (wu:PySem.W.mroIn K au (.ref eo)=some false)
  {cf:Addr}
  (DU:PySem.W.nsIn K mainGlobals "Source" = some (some (.ref cf))) (DV:PySem.W.plainGet K cf Str.empty=true) (DR:PySem.W.hasDictIn K cf=true) (DW:PySem.W.plainOver K cf=true) (DX:PySem.W.findIn K (.ref cf) "__setattr__" = some (some (.builtin "object.__setattr__"))) (DT:PySem.W.makesIn K cf=true) (DS:PySem.W.keepIn K (.ref cf)=true)
  (DY:PySem.W.findIn K (.ref cf) "text" = some none)
  (DZ:PySem.W.findIn K (.ref cf) "at" = some none)
  (a1:PySem.W.nsIn K mainGlobals "_law_cell_at" = some (some (.ref f1))) (l1:K.lookup f1=some ⟨oc1,od1,.func (PySem.W.fnOf "_law_cell_at" "_law_cell_at" (ZM rf) (Zd rf) (Zh rf) .none kV1 Ym pm1 WK MW XW),sl1⟩) (c1:PySem.W.codeIn K MW "_law_cell_at" = true) (k1:PySem.W.keepIn K (.ref f1)=true)
  (a2:PySem.W.nsIn K mainGlobals "_law_tag" = some (some (.ref f2))) (l2:K.lookup f2=some ⟨oc2,od2,.func (PySem.W.fnOf "_law_tag" "_law_tag" (ZM rQ) (Zd rQ) (Zh rQ) .none kV2 Yx pm2 WX M8 X8),wJ⟩) (c2:PySem.W.codeIn K M8 "_law_tag" = true) (k2:PySem.W.keepIn K (.ref f2)=true)
  (a3:PySem.W.nsIn K mainGlobals "_law_parts" = some (some (.ref f3))) (l3:K.lookup f3=some ⟨oc3,od3,.func (PySem.W.fnOf "_law_parts" "_law_parts" (ZM ZS) (Zd ZS) (Zh ZS) .none kV3 YG pm3 W7 Ng Yf),sl3⟩) (c3:PySem.W.codeIn K Ng "_law_parts" = true) (k3:PySem.W.keepIn K (.ref f3)=true)
  (a4:PySem.W.nsIn K mainGlobals "_law_known" = some (some (.ref f4))) (l4:K.lookup f4=some ⟨oc4,od4,.func (PySem.W.fnOf "_law_known" "_law_known" (ZM i4) (Zd i4) (Zh i4) .none kV4 YH pm4 W8 Nh Yg),sl4⟩) (c4:PySem.W.codeIn K Nh "_law_known" = true) (k4:PySem.W.keepIn K (.ref f4)=true)
  (a5:PySem.W.nsIn K mainGlobals "_law_numbers" = some (some (.ref f5))) (l5:K.lookup f5=some ⟨oc5,od5,.func (PySem.W.fnOf "_law_numbers" "_law_numbers" (ZM q_) (Zd q_) (Zh q_) .none kV5 YI pm5 W9 Ni Yh),sl5⟩) (c5:PySem.W.codeIn K Ni "_law_numbers" = true) (k5:PySem.W.keepIn K (.ref f5)=true)
  (a6:PySem.W.nsIn K mainGlobals "_law_text" = some (some (.ref f6))) (l6:K.lookup f6=some ⟨oc6,od6,.func (PySem.W.fnOf "_law_text" "_law_text" (ZM rq) (Zd rq) (Zh rq) .none kV6 YJ pm6 W' Nj Yi),sl6⟩) (c6:PySem.W.codeIn K Nj "_law_text" = true) (k6:PySem.W.keepIn K (.ref f6)=true)
  (a7:PySem.W.nsIn K mainGlobals "_law_rows" = some (some (.ref f7))) (l7:K.lookup f7=some ⟨oc7,od7,.func (PySem.W.fnOf "_law_rows" "_law_rows" (ZM i3) (Zd i3) (Zh i3) .none kV7 YK pm7 W_ Nk Yj),sl7⟩) (c7:PySem.W.codeIn K Nk "_law_rows" = true) (k7:PySem.W.keepIn K (.ref f7)=true)
  (a8:PySem.W.nsIn K mainGlobals "_law_spoiled" = some (some (.ref f8))) (l8:K.lookup f8=some ⟨oc8,od8,.func (PySem.W.fnOf "_law_spoiled" "_law_spoiled" (ZM Zt) (Zd Zt) (Zh Zt) .none kV8 YL pm8 Xa Nl Yk),sl8⟩) (c8:PySem.W.codeIn K Nl "_law_spoiled" = true) (k8:PySem.W.keepIn K (.ref f8)=true)
  (a9:PySem.W.nsIn K mainGlobals "_law_is_tag" = some (some (.ref f9))) (l9:K.lookup f9=some ⟨oc9,od9,.func (PySem.W.fnOf "_law_is_tag" "_law_is_tag" (ZM rG) (Zd rG) (Zh rG) .none kV9 YM pm9 Xb Nm Yl),sl9⟩) (c9:PySem.W.codeIn K Nm "_law_is_tag" = true) (k9:PySem.W.keepIn K (.ref f9)=true)
  (C9:PySem.W.nsIn K mainGlobals "_law_parts_read" = some (some (.ref yT))) (Gu:K.lookup yT=some ⟨Zt1,Zut,.func (PySem.W.fnOf "_law_parts_read" "_law_parts_read" (ZM Zj) (Zd Zj) (Zh Zj) .none ZsM Yn Zu0 WL MX XX),Zvy⟩) (Dx:PySem.W.codeIn K MX "_law_parts_read" = true) (tx:PySem.W.keepIn K (.ref yT)=true)
  (C':PySem.W.nsIn K mainGlobals "_law_changer_of" = some (some (.ref yU))) (Gv:K.lookup yU=some ⟨Zt2,Zuu,.func (PySem.W.fnOf "_law_changer_of" "_law_changer_of" (ZM Zn) (Zd Zn) (Zh Zn) .none ZsN Yo Zu1 WM MY XY),Zvz⟩) (Dy:PySem.W.codeIn K MY "_law_changer_of" = true) (Ab:PySem.W.keepIn K (.ref yU)=true)
  (C_:PySem.W.findIn K (.ref cf) "at_end" = some (some (.ref vp))) (Gw:K.lookup vp=some ⟨Zt3,Zuv,.func (PySem.W.fnOf "at_end" "Source.at_end" (ZM rm) (Zd rm) (Zh rm) .none ZsO Yp Zu2 WN MZ XZ),ZvA⟩) (Dz:PySem.W.codeIn K MZ "Source.at_end" = true) (Ac:PySem.W.keepIn K (.ref vp)=true) (GQ:PySem.W.isFn K (.ref vp)=true)
  (Dc:PySem.W.findIn K (.ref cf) "take_letters" = some (some (.ref vq))) (Gx:K.lookup vq=some ⟨Zt4,Zuw,.func (PySem.W.fnOf "take_letters" "Source.take_letters" (ZM ZQ) (Zd ZQ) (Zh ZQ) .none ZsP Yq Zu3 WQ M0 X0),ZvB⟩) (DA:PySem.W.codeIn K M0 "Source.take_letters" = true) (Ad:PySem.W.keepIn K (.ref vq)=true) (GR:PySem.W.isFn K (.ref vq)=true)
  (Dd:PySem.W.nsIn K mainGlobals "take_number" = some (some (.ref yV))) (Gy:K.lookup yV=some ⟨Zt5,Zux,.func (PySem.W.fnOf "take_number" "take_number" (ZM ri) (Zd ri) (Zh ri) .none ZsQ Yr Zu4 WR M1 X1),ZvC⟩) (DB:PySem.W.codeIn K M1 "take_number" = true) (Ae:PySem.W.keepIn K (.ref yV)=true)
  (De:PySem.W.findIn K (.ref cf) "sees" = some (some (.ref vt))) (Gz:K.lookup vt=some ⟨Zt6,Zuy,.func (PySem.W.fnOf "sees" "Source.sees" (ZM rh) (Zd rh) (Zh rh) .none ZsR Ys Zu5 WS M3 X3),ZvD⟩) (DC:PySem.W.codeIn K M3 "Source.sees" = true) (Af:PySem.W.keepIn K (.ref vt)=true) (GS:PySem.W.isFn K (.ref vt)=true)
  (Df:PySem.W.findIn K (.ref cf) "skips" = some (some (.ref vv))) (GA:K.lookup vv=some ⟨Zt7,Zuz,.func (PySem.W.fnOf "skips" "Source.skips" (ZM rn) (Zd rn) (Zh rn) .none ZsS Yt Zu6 WT M4 X4),ZvE⟩) (DD:PySem.W.codeIn K M4 "Source.skips" = true) (Ag:PySem.W.keepIn K (.ref vv)=true) (GU:PySem.W.isFn K (.ref vv)=true)
  (Dg:PySem.W.nsIn K mainGlobals "skip" = some (some (.ref yW))) (GB:K.lookup yW=some ⟨Zt8,ZuA,.func (PySem.W.fnOf "skip" "skip" (ZM rZ) (Zd rZ) (Zh rZ) .none ZsT Yu Zu7 WU M5 X5),ZvF⟩) (DE:PySem.W.codeIn K M5 "skip" = true) (Ah:PySem.W.keepIn K (.ref yW)=true)
  (Dh:PySem.W.nsIn K mainGlobals "is_tag" = some (some (.ref yX))) (GC:K.lookup yX=some ⟨Zt9,ZuB,.func (PySem.W.fnOf "is_tag" "is_tag" (ZM rA) (Zd rA) (Zh rA) .none ZsU Yv Zu8 WV M6 X6),ZvG⟩) (DF:PySem.W.codeIn K M6 "is_tag" = true) (Ai:PySem.W.keepIn K (.ref yX)=true)
  (Di:PySem.W.nsIn K mainGlobals "take_tag" = some (some (.ref yY))) (GD:K.lookup yY=some ⟨Zua,ZuC,.func (PySem.W.fnOf "take_tag" "take_tag" (ZM rF) (Zd rF) (Zh rF) .none ZsV Yw Zu9 WW M7 X7),ZvH⟩) (DG:PySem.W.codeIn K M7 "take_tag" = true) (Aj:PySem.W.keepIn K (.ref yY)=true)
  (Dj:PySem.W.nsIn K mainGlobals "end_tag" = some (some (.ref yZ))) (GF:K.lookup yZ=some ⟨Zuc,ZuE,.func (PySem.W.fnOf "end_tag" "end_tag" (ZM rK) (Zd rK) (Zh rK) .none ZsX Yy Zvb WY M9 X9),ZvI⟩) (DH:PySem.W.codeIn K M9 "end_tag" = true) (kR:PySem.W.keepIn K (.ref yZ)=true)
  (Dk:PySem.W.nsIn K mainGlobals "take_parts" = some (some (.ref y2))) (GG:K.lookup y2=some ⟨Zud,ZuF,.func (PySem.W.fnOf "take_parts" "take_parts" (ZM Zu) (Zd Zu) (Zh Zu) .none ZsY Yz Zvc WZ M' X'),ZvJ⟩) (DI:PySem.W.codeIn K M' "take_parts" = true) (Ak:PySem.W.keepIn K (.ref y2)=true)
  (Dl:PySem.W.nsIn K mainGlobals "take_rule" = some (some (.ref y3))) (GH:K.lookup y3=some ⟨Zue,ZuG,.func (PySem.W.fnOf "take_rule" "take_rule" (ZM rc) (Zd rc) (Zh rc) .none ZsZ YA Zvd W0 M_ X_),ZvK⟩) (DJ:PySem.W.codeIn K M_ "take_rule" = true) (Al:PySem.W.keepIn K (.ref y3)=true)
  (Dm:PySem.W.nsIn K mainGlobals "take_changer" = some (some (.ref y4))) (GI:K.lookup y4=some ⟨Zuf,ZuH,.func (PySem.W.fnOf "take_changer" "take_changer" (ZM pz) (Zd pz) (Zh pz) .none Zs0 YB Zve W2 Na Ya),ZvL⟩) (DK:PySem.W.codeIn K Na "take_changer" = true) (Am:PySem.W.keepIn K (.ref y4)=true)
  (Dq:PySem.W.findIn K (.ref cf) "__init__" = some (some (.ref vw))) (GJ:K.lookup vw=some ⟨Zug,ZuI,.func (PySem.W.fnOf "__init__" "Source.__init__" (ZM rl) (Zd rl) (Zh rl) .none Zs1 YC Zvf W3 Nb Yb),ZvM⟩) (DL:PySem.W.codeIn K Nb "Source.__init__" = true) (Gr:PySem.W.keepIn K (.ref vw)=true) (GV:PySem.W.isFn K (.ref vw)=true)
  (Dr:PySem.W.nsIn K mainGlobals "read" = some (some (.ref y6))) (GK:K.lookup y6=some ⟨Zuh,ZuJ,.func (PySem.W.fnOf "read" "read" (ZM rY) (Zd rY) (Zh rY) .none Zs2 YD Zvg W4 Nc Yc),ZvN⟩) (DM:PySem.W.codeIn K Nc "read" = true) (An:PySem.W.keepIn K (.ref y6)=true)
  (Dt:PySem.W.nsIn K mainGlobals "_law_told" = some (some (.ref y8))) (GL:K.lookup y8=some ⟨Zui,ZuK,.func (PySem.W.fnOf "_law_told" "_law_told" (ZM rC) (Zd rC) (Zh rC) .none Zs3 YE Zvh W5 Nd Yd),ZvO⟩) (DN:PySem.W.codeIn K Nd "_law_told" = true) (Ao:PySem.W.keepIn K (.ref y8)=true)
  (yN:PySem.W.nsIn K mainGlobals "_law_same_kinds" = some (some (.ref vx))) (GN:K.lookup vx=some ⟨Zuj,ZuL,.func (PySem.W.fnOf "_law_same_kinds" "_law_same_kinds" (ZM ro) (Zd ro) (Zh ro) .none Zs4 YF Zvi W6 Nf Ye),ZvP⟩) (DO:PySem.W.codeIn K Nf "_law_same_kinds" = true) (wb:PySem.W.keepIn K (.ref vx)=true)
  (Du:PySem.W.nsIn K mainGlobals "law" = some (some (.ref EX))) (GO:K.lookup EX=some ⟨Zuk,ZuM,.func (PySem.W.fnOf "law" "law" (ZM dB) (Zd dB) (Zh dB) .none OV Nt Pn MP DQ Np),ZvQ⟩) (DP:PySem.W.codeIn K DQ "law" = true) (Gs:PySem.W.keepIn K (.ref EX)=true)
  {tk0 tk1:Tok} (y0:PySem.W.nsIn K mainGlobals "LONGEST_TAG" = some (some (.int 8 tk0))) (y1:PySem.W.nsIn K mainGlobals "MOST_MODES" = some (some (.int 4 tk1)))
  (z0:PySem.W.nsIn K mainGlobals "ValueError" = some none) (z1:PySem.W.nsIn K mainGlobals "all" = some none) (z2:PySem.W.nsIn K mainGlobals "bool" = some none) (z3:PySem.W.nsIn K mainGlobals "int" = some none) (z4:PySem.W.nsIn K mainGlobals "isinstance" = some none) (z5:PySem.W.nsIn K mainGlobals "len" = some none) (z6:PySem.W.nsIn K mainGlobals "list" = some none) (z7:PySem.W.nsIn K mainGlobals "max" = some none) (z8:PySem.W.nsIn K mainGlobals "min" = some none) (z9:PySem.W.nsIn K mainGlobals "range" = some none) (HV:PySem.W.nsIn K mainGlobals "reversed" = some none) (HW:PySem.W.nsIn K mainGlobals "set" = some none) (HX:PySem.W.nsIn K mainGlobals "sorted" = some none) (HY:PySem.W.nsIn K mainGlobals "str" = some none) (HZ:PySem.W.nsIn K mainGlobals "tuple" = some none) :
  ∃fd:FuncData,(∀(s:Shared)(v:Value),BindsTo s fd ⟨[v],[]⟩ [("_law_script",v)])/\∀base:Heap,K.In base->base.Ns mainGlobals mg->aX l.prog w K mg base cp 151 fa fd ["_law_script"] (Fg.yG K):=by
 have e:=hfa.symm.trans (bw X G Du);cases e;have B:∀x∈cF,mg x=none:=fq.mpr ⟨gP X G z0,fq.mpr ⟨gP X G z1,fq.mpr ⟨gP X G z2,fq.mpr ⟨gP X G z3,fq.mpr ⟨gP X G z4,fq.mpr ⟨gP X G z5,fq.mpr ⟨gP X G z6,fq.mpr ⟨gP X G z7,fq.mpr ⟨gP X G z8,fq.mpr ⟨gP X G z9,fq.mpr ⟨gP X G HV,fq.mpr ⟨gP X G HW,fq.mpr ⟨gP X G HX,fq.mpr ⟨gP X G HY,fq.mpr ⟨gP X G HZ,AR _⟩⟩⟩⟩⟩⟩⟩⟩⟩⟩⟩⟩⟩⟩⟩;have Qf:∃t:Tok,mg "LONGEST_TAG" = some (.int 8 t):=⟨_,bw X G y0⟩;have Qg:∃t:Tok,mg "MOST_MODES" = some (.int 4 t):=⟨_,bw X G y1⟩;have F1:=cL (st:=rf) l1 c1 k1;have b1:=F1.binds (ps:=["_law_script","_law_k"]) fun _ _ _ _ _ _ us hl=>by obtain⟨_,_,rfl⟩:=gT hl;rfl
 have F2:=cL (st:=rQ) l2 c2 k2;have b2:=F2.binds (ps:=["_law_number"]) fun _ _ _ _ _ _ us hl=>by obtain⟨_,rfl⟩:=jI hl;rfl
 have F3:=cL (st:=ZS) l3 c3 k3;have b3:=F3.binds (ps:=["_law_numbers_here","_law_modes"]) fun _ _ _ _ _ _ us hl=>by obtain⟨_,_,rfl⟩:=gT hl;rfl
 have F4:=cL (st:=i4) l4 c4 k4;have b4:=F4.binds (ps:=["_law_modes","_law_numbers_here"]) fun _ _ _ _ _ _ us hl=>by obtain⟨_,_,rfl⟩:=gT hl;rfl
 have F5:=cL (st:=q_) l5 c5 k5;have b5:=F5.binds (ps:=["_law_script","_law_first","_law_many"]) fun _ _ _ _ _ _ us hl=>by obtain⟨_,_,_,rfl⟩:=yL hl;rfl
 have F6:=cL (st:=rq) l6 c6 k6;have b6:=F6.binds (ps:=["_law_parts_here"]) fun _ _ _ _ _ _ us hl=>by obtain⟨_,rfl⟩:=jI hl;rfl
 have F7:=cL (st:=i3) l7 c7 k7;have b7:=F7.binds (ps:=["_law_modes","_law_rules"]) fun _ _ _ _ _ _ us hl=>by obtain⟨_,_,rfl⟩:=gT hl;rfl
 have F8:=cL (st:=Zt) l8 c8 k8;have b8:=F8.binds (ps:=["_law_rows_here","_law_modes","_law_cell"]) fun _ _ _ _ _ _ us hl=>by obtain⟨_,_,_,rfl⟩:=yL hl;rfl
 have F9:=cL (st:=rG) l9 c9 k9;have b9:=F9.binds (ps:=["_law_word"]) fun _ _ _ _ _ _ us hl=>by obtain⟨_,rfl⟩:=jI hl;rfl
 have Ip:=cL (st:=Zj) Gu Dx tx;have Xe:=Ip.binds (ps:=["_law_text_here","_law_modes"]) fun _ _ _ _ _ _ us hl=>by obtain⟨_,_,rfl⟩:=gT hl;rfl
 have Iq:=cL (st:=Zn) Gv Dy Ab;have Xf:=Iq.binds (ps:=["_law_text_here"]) fun _ _ _ _ _ _ us hl=>by obtain⟨_,rfl⟩:=jI hl;rfl
 have Ir:=cL (st:=rm) Gw Dz Ac;have Xg:=Ir.binds (ps:=["self"]) fun _ _ _ _ _ _ us hl=>by obtain⟨_,rfl⟩:=jI hl;rfl
 have Iu:=cL (st:=ZQ) Gx DA Ad;have Xh:=Iu.binds (ps:=["self","first","last"]) fun _ _ _ _ _ _ us hl=>by obtain⟨_,_,_,rfl⟩:=yL hl;rfl
 have Iv:=cL (st:=ri) Gy DB Ae;have Xi:=Iv.binds (ps:=["source","least","greatest"]) fun _ _ _ _ _ _ us hl=>by obtain⟨_,_,_,rfl⟩:=yL hl;rfl
 have Iw:=cL (st:=rh) Gz DC Af;have Xj:=Iw.binds (ps:=["self","piece"]) fun _ _ _ _ _ _ us hl=>by obtain⟨_,_,rfl⟩:=gT hl;rfl
 have Iy:=cL (st:=rn) GA DD Ag;have Xk:=Iy.binds (ps:=["self","piece"]) fun _ _ _ _ _ _ us hl=>by obtain⟨_,_,rfl⟩:=gT hl;rfl
 have Iz:=cL (st:=rZ) GB DE Ah;have Xl:=Iz.binds (ps:=["source","piece"]) fun _ _ _ _ _ _ us hl=>by obtain⟨_,_,rfl⟩:=gT hl;rfl
 have IA:=cL (st:=rA) GC DF Ai;have Xm:=IA.binds (ps:=["text"]) fun _ _ _ _ _ _ us hl=>by obtain⟨_,rfl⟩:=jI hl;rfl
 have IB:=cL (st:=rF) GD DG Aj;have Xn:=IB.binds (ps:=["source"]) fun _ _ _ _ _ _ us hl=>by obtain⟨_,rfl⟩:=jI hl;rfl
 have IC:=cL (st:=rK) GF DH kR;have Xo:=IC.binds (ps:=["tags","rows"]) fun _ _ _ _ _ _ us hl=>by obtain⟨_,_,rfl⟩:=gT hl;rfl
 have ID:=cL (st:=Zu) GG DI Ak;have Xp:=ID.binds (ps:=["source","modes"]) fun _ _ _ _ _ _ us hl=>by obtain⟨_,_,rfl⟩:=gT hl;rfl
 have IE:=cL (st:=rc) GH DJ Al;have Xq:=IE.binds (ps:=["source","modes"]) fun _ _ _ _ _ _ us hl=>by obtain⟨_,_,rfl⟩:=gT hl;rfl
 have IF:=cL (st:=pz) GI DK Am;have Xr:=IF.binds (ps:=["source"]) fun _ _ _ _ _ _ us hl=>by obtain⟨_,rfl⟩:=jI hl;rfl
 have IG:=cL (st:=rl) GJ DL Gr;have Xs:=IG.binds (ps:=["self","text"]) fun _ _ _ _ _ _ us hl=>by obtain⟨_,_,rfl⟩:=gT hl;rfl
 have IH:=cL (st:=rY) GK DM An;have Xt:=IH.binds (ps:=["text"]) fun _ _ _ _ _ _ us hl=>by obtain⟨_,rfl⟩:=jI hl;rfl
 have II:=cL (st:=rC) GL DN Ao;have Xu:=II.binds (ps:=["_law_text_here"]) fun _ _ _ _ _ _ us hl=>by obtain⟨_,rfl⟩:=jI hl;rfl
 have IJ:=cL (st:=ro) GN DO wb;have MS:=IJ.binds (ps:=["_law_found","_law_due"]) fun _ _ _ _ _ _ us hl=>by obtain⟨_,_,rfl⟩:=gT hl;rfl
 have Qh:=cL (st:=dB) GO DP Gs;refine⟨PySem.W.fnOf "law" "law" (ZM dB) (Zd dB) (Zh dB) .none OV Nt Pn MP DQ Np,fun s v=>.of_eq rfl,fun base _ _=>?_⟩;have xc:XC K mg bZ ef d8 eE eC et d_ eF eh eB d7 au eA ee eo:=⟨bw X G HE,bw X G HH,bw X G HD,bw X G HQ,bw X G HP,bw X G HL,bw X G HF,bw X G HR,bw X G HI,bw X G HN,bw X G HC,bw X G HJ,bw X G HM,bw X G HG,bw X G HK,⟨Hn,Ho,Hq⟩,Hr,Hs,⟨D3,Eh,Ey⟩,⟨D6,Ek,EB⟩,⟨D2,Eg,Ex⟩,⟨Ed,Et,EJ⟩,⟨Ec,Es,EI⟩,⟨D_,Eo,EF⟩,⟨D4,Ei,Ez⟩,⟨Ee,Eu,EL⟩,⟨D7,El,EC⟩,⟨Eb,Er,EH⟩,⟨D1,Ef,Ew⟩,⟨D8,Em,ED⟩,⟨Ea,Ep,EG⟩,⟨D5,Ej,EA⟩,⟨D9,En,EE⟩,⟨⟨_,_,_,_,_,_,_,_,_,_,_,_,_,_,_,HB⟩,⟨⟨_,_,_,_,_,_,_,_,_,Hv,Hw,Hx,Hy⟩⟩,Ht,HS,HA⟩,Hz,HU,Hu,wj,wo,wg,wA,wz,ww,wk,wB,wq,wy,we,wt,wx,wm,wu⟩;have bC:cC.ik K cf:=⟨⟨DV,DR,DW,DX⟩,DY,DZ⟩;have pU:bF l.prog w K mg base "_law_cell_at" ["_law_script","_law_k"] 1 (Fg.yu K):=⟨⟨f1,_,QY B  F1,b1,k1,bw X G a1⟩⟩;have sC:bF l.prog w K mg base "_law_tag" ["_law_number"] 1 (cC.x6):=⟨⟨f2,_,TZ B  F2,b2,k2,bw X G a2⟩⟩;have E6:bF l.prog w K mg base "_law_parts" ["_law_numbers_here","_law_modes"] 2 (cC.BC):=⟨⟨f3,_,RE B sC F3,b3,k3,bw X G a3⟩⟩;have E4:bF l.prog w K mg base "_law_known" ["_law_modes","_law_numbers_here"] 3 (cC.BG):=⟨⟨f4,_,Rm B E6 sC F4,b4,k4,bw X G a4⟩⟩;have E5:bF l.prog w K mg base "_law_numbers" ["_law_script","_law_first","_law_many"] 2 (cC.BO K):=⟨⟨f5,_,QR B pU F5,b5,k5,bw X G a5⟩⟩;have rt:∀d:Nat,bF l.prog w K mg base "_law_text" ["_law_parts_here"] d (cC.xR d):=by
  intro d
  induction d with
  | zero=>exact⟨⟨f6,_,aX.none (fun vs H Q E z=>by obtain⟨_,_,_,_,_,_,hd,_⟩:=z;exact absurd hd (ic _)),b6,k6,bw X G a6⟩⟩
  | succ d ih=>exact⟨⟨f6,_,Sj d B ih F6,b6,k6,bw X G a6⟩⟩
 have vy:=rt 70;have sy:bF l.prog w K mg base "_law_rows" ["_law_modes","_law_rules"] 71 (cC.x4):=⟨⟨f7,_,RP B vy F7,b7,k7,bw X G a7⟩⟩;have E8:bF l.prog w K mg base "_law_spoiled" ["_law_rows_here","_law_modes","_law_cell"] 1 (cC.BD K):=⟨⟨f8,_,QM B  F8,b8,k8,bw X G a8⟩⟩;have pV:bF l.prog w K mg base "_law_is_tag" ["_law_word"] 1 (cC.xW):=⟨⟨f9,_,Rc B  F9,b9,k9,bw X G a9⟩⟩;have E7:bF l.prog w K mg base "_law_parts_read" ["_law_text_here","_law_modes"] 2 (cC.CI):=⟨⟨yT,_,QA B pV Ip,Xe,tx,bw X G C9⟩⟩;have E3:bF l.prog w K mg base "_law_changer_of" ["_law_text_here"] 72 (cC.Cn):=⟨⟨yU,_,Qz B E7 pV sy Iq,Xf,Ab,bw X G C'⟩⟩;have sv:gj l.prog w K mg base cf "at_end" ["self"] 1 (cC.yk cf):=⟨⟨vp,_,Qm B bC  Ir,Xg,⟨C_,GQ,Ac⟩⟩⟩;have sx:gj l.prog w K mg base cf "take_letters" ["self","first","last"] 2 (cC.xO cf):=⟨⟨vq,_,Ql B bC sv Iu,Xh,⟨Dc,GR,Ad⟩⟩⟩
 have lX:fb l.prog w K mg base "take_number" ["source","least","greatest"] 3 (cC.uX K cf au):=⟨⟨yV,_,QI B bC xc sx Iv,Xi,Ae,bw X G Dd⟩⟩;have EZ:gj l.prog w K mg base cf "sees" ["self","piece"] 1 (cC.Cy cf):=⟨⟨vt,_,QK B bC  Iw,Xj,⟨De,GS,Af⟩⟩⟩;have gX:gj l.prog w K mg base cf "skips" ["self","piece"] 2 (cC.rT cf):=⟨⟨vv,_,Qx B bC EZ Iy,Xk,⟨Df,GU,Ag⟩⟩⟩;have zc:fb l.prog w K mg base "skip" ["source","piece"] 3 (cC.Cm cf au):=⟨⟨yW,_,Uq B bC xc gX Iz,Xl,Ah,bw X G Dg⟩⟩;have E2:bF l.prog w K mg base "is_tag" ["text"] 1 (Fg.Ci):=⟨⟨yX,_,Su B Qf  IA,Xm,Ai,bw X G Dh⟩⟩;have sD:fb l.prog w K mg base "take_tag" ["source"] 3 (cC.yB K cf au):=⟨⟨yY,_,Q3 B bC xc sx E2 IB,Xn,Aj,bw X G Di⟩⟩;have za:bF l.prog w K mg base "end_tag" ["tags","rows"] 1 (cC.CU K):=⟨⟨yZ,_,Rj B  IC,Xo,kR,bw X G Dj⟩⟩;have Fb:fb l.prog w K mg base "take_parts" ["source","modes"] 4 (cC.CM K cf au):=⟨⟨y2,_,QG B bC xc lX sD gX za ID,Xp,Ak,bw X G Dk⟩⟩;have Fc:fb l.prog w K mg base "take_rule" ["source","modes"] 5 (cC.CN K cf au):=⟨⟨y3,_,QO B bC lX zc sD gX Fb IE,Xq,Al,bw X G Dl⟩⟩;have E_:fb l.prog w K mg base "take_changer" ["source"] 6 (cC.CS K cf au):=⟨⟨y4,_,Qv B Qg bC xc lX gX Fc sv IF,Xr,Am,bw X G Dm⟩⟩;have EY:Bf l.prog w K mg base cf "Source" ["self","text"] 1 (cC.Cg cf):=⟨⟨vw,_,Qt B bC  IG,Xs,⟨DT,Dq,GV,DS⟩,bw X G DU⟩⟩;have E9:fb l.prog w K mg base "read" ["text"] 7 (cC.CC K au):=⟨⟨y6,_,UA B bC E_ EY IH,Xt,An,bw X G Dr⟩⟩;have zb:bF l.prog w K mg base "_law_told" ["_law_text_here"] 8 (cC.B1 K):=⟨⟨y8,_,SF B xc E9 II,Xu,Ao,bw X G Dt⟩⟩;have rs:∀d:Nat,bF l.prog w K mg base "_law_same_kinds" ["_law_found","_law_due"] d (cC.yA d):=by
  intro d
  induction d with
  | zero=>exact⟨⟨vx,_,aX.none (fun vs H Q E z=>by obtain⟨_,_,_,hs,_⟩:=z;cases hs),MS,wb,bw X G yN⟩⟩
  | succ d ih=>exact⟨⟨vx,_,Qy d B ih IJ,MS,wb,bw X G yN⟩⟩
 have sA:=rs 150;exact U1 B pU E4 E5 sy E8 E3 zb sA Qh
theorem walk{l:PySem.W.OpenLaw}{q:Program}{loose:List Str}{XP:(Str->Option Value)->Heap->Prop}{YP:World->Heap->Prop}{d:DefRec}{K:Params->PySem.W.Frag}(hn:l.most=some 63)(vM:d.params.defaults=[])
  (hY:∀(w:World)(h:Heap),YP w h->(K w.params).In h)
  (F:∀(w:World)(mg:Str->Option Value)(fa:Addr)(h:Heap),(K w.params).In h->h.Ns mainGlobals mg->mg d.name=some (.ref fa) ->
   ∃fd:FuncData,(∀(s:Shared)(u:Value),BindsTo s fd ⟨[u],[]⟩ [("_law_script",u)])/\∀base:Heap,(K w.params).In base->base.Ns mainGlobals mg->aX l.prog w (K w.params) mg base cp 151 fa fd ["_law_script"] (Fg.yG (K w.params))) :
  PySem.W.WalkO q loose XP YP l.row.toRowW d [] (fun f vs=>PySem.call f vs) :=
 L2.Lg (n:=63) (k:=151) (x := "_law_script") (CX:=fun _=>cp) (sp:=fun w=>Fg.yG (K w.params)) hn (by decide) vM ⟨rfl,by decide,by decide,rfl⟩ hY F (fun _ _ a ns hl _ hS=>⟨a,ns,rfl,hS,hl,fun _=>rfl⟩) fun _ _ _ _ _ z=>z
end cC
namespace PySem.W.Fast
def tw9470045144451058167:=0
def tw15780177946575827963:=0
def tw8057095234575658339:=0
def tw10835121602690038406:=0
def tw10203690162920913712:=0
def tw17693000894473324287:=0
def tw11560925887351700740:=0
def tw5235951376112985595:=0
def tw12075761716208697463:=0
def tw17705815770796030733:=0
def tw5161607830168469491:=0
def tw1168034191154220598:=0
def tw12978381365293270311:=0
def tw15887052113734182008:=0
def tw15284377254984398099:=0
def tw13951572296022933764:=0
def tw13810473627197862990:=0
def tw16803559851263454587:=0
def tw12198605175784521726:=0
def tw11313215480355307688:=0
def tw386032962181933115:=0
def tw16651165203855663497:=0
def tw218602054706813281:=0
def tw18193737154631447160:=0
def tw15709429921980146170:=0
def tw10302616505085293494:=0
def tw14295376397980876935:=0
def tw14399333077358953557:=0
def tw15940533762943209701:=0
def tw1183018291499069391:=0
def tw11996927602778048870:=0
def tw1548475802754669684:=0
def tw6301931731726246377:=0
def tw16236990526157952878:=0
def tw6265487853345821688:=0
def tw4185646061467648610:=0
def tw359202203981631917:=0
def tw8165142038365725819:=0
def tw8754623286857106168:=0
def tw5991841420745860927:=0
def tw5562336270027476090:=0
def tw15408986165399985288:=0
def tw7956356936812788909:=0
def tw13042688409795116947:=0
def tw11927155429326638946:=0
def tw10583632176620782823:=0
def tw13754227254674152750:=0
def tw18387564646919796262:=0
def tw14071874493966391480:=0
def tw9424365402909857151:=0
def tw9441379170883626047:=0
def tw14516188646449804125:=0
def tw7514014951241505031:=0
def tw6177362996338356030:=0
def tw11316290131793852984:=0
def tw15153308988965158378:=0
def tw16788422711114315726:=0
def tw9308777711363342343:=0
def tw18429261353163394475:=0
def tw14304549343533408498:=0
def tw18236931827390787221:=0
def tw16379831963923398175:=0
def tw7700791297064649616:=0
def tw14371733238654661913:=0
def tw8437195709129376184:=0
def tw2638713391189128907:=0
def tw4932599178784701807:=0
def tw4441350001177656710:=0
def tw10788454425854621924:=0
def tw16018670588715055631:=0
def tw13332882133183473053:=0
def tw432399649903243904:=0
def tw3457166004281548711:=0
def tw3302720830188190615:=0
def tw2805002365306076779:=0
def tw594099729274583236:=0
def tw5108911164142262453:=0
def tw12662879388792992531:=0
def tw9315299467881527134:=0
def tw15141240550352525887:=0
def tw1614151788329947910:=0
def tw6688348646909249006:=0
def tw3613088129584851784:=0
def tw15567220399924962318:=0
def tw17197821752931068099:=0
def tw10709236253746581752:=0
def tw14203266298384674686:=0
def tw12423813143898259593:=0
def tw5033418234599118781:=0
def tw4664935929286016582:=0
def tw8948124387667497204:=0
def tw7894822687034754635:=0
def tw14578779630768356053:=0
def tw1001724231595393854:=0
def tw10861448122176428779:=0
def tw11692495686841143494:=0
def tw17661427815781794109:=0
def tw5373893806448739225:=0
def tw15249079260731187593:=0
def tw15258956840324158366:=0
def tw16413027033635124620:=0
def tw7033284859025877075:=0
def tw5504346085413220460:=0
def tw10264025615128010564:=0
def tw11332082385593257579:=0
def tw16049497588861842931:=0
def tw5373299058551817155:=0
def tw328769968199471183:=0
def tw10323816388510949603:=0
def tw5515489446330479046:=0
def tw17009060181548353366:=0
def tw17891606021252676323:=0
def tw2612383324830560254:=0
def tw16161993654983226345:=0
def tw11145294031301707773:=0
def tw6730964843057238446:=0
def tw5665856452670274154:=0
def tw15802656272667336525:=0
def tw16253271066059392494:=0
def tw5752286708091313779:=0
def tw17896077391796301119:=0
def tw1509393737596174472:=0
def tw5936383325080838669:=0
def tw11486946385350799018:=0
def tw7794292923439533761:=0
def tw10460234100999099286:=0
def tw248832375226687488:=0
def tw18108555884474801338:=0
def tw8234001010166306916:=0
def tw210169121271861785:=0
def tw1555346405634774888:=0
def tw10786412638109152469:=0
def tw8893265097095174544:=0
def tw10855083453904461004:=0
def tw1146385730965359384:=0
def tw6888706585339601186:=0
def tw2869631004504393835:=0
def tw10439660356545006768:=0
def tw2316214590393871794:=0
def tw9422370470434269017:=0
def tw6018598022753987477:=0
def tw13443018062293299769:=0
def tw4519559364059439618:=0
def tw17753336332113525906:=0
def tw2006968522324798191:=0
def tw5472509381573038353:=0
def tw7739309318420211666:=0
def tw7681392878980638111:=0
def tw11812040204299139592:=0
def tw9933667789661998908:=0
def tw3303779814005861437:=0
def tw4525943886598881725:=0
def tw11463429152965323008:=0
def tw11207119456304926619:=0
def tw4053454604688791724:=0
def tw15677111210680878472:=0
def tw4316193211530225187:=0
def tw6101158666150349200:=0
def tw12168784895960469939:=0
def tw16484048152430690034:=0
def tw6298893838179902222:=0
def tw3903576831520462322:=0
def tw7939728206958197660:=0
def tw12150245284379394708:=0
def tw6992646567348341981:=0
def tw7816920587564779541:=0
def tw1434458708723212957:=0
def tw14792875380410703136:=0
def tw5373599782397138807:=0
def tw4630082053482424094:=0
def tw9736013029442063003:=0
def tw7675065300324382522:=0
def tw14019960372433103412:=0
def tw3965603808063150152:=0
def tw9356893702191636729:=0
def tw18430848784719714321:=0
def tw7670140559811998272:=0
def tw4775497725519286934:=0
def tw13949582367954035816:=0
def tw5912614858839842212:=0
def tw4831200613460429889:=0
def tw16297384546214221470:=0
def tw17577746751637836833:=0
def tw11221399496243147655:=0
def tw7609395546819795441:=0
def tw4057619631006391250:=0
def tw9896387278037946060:=0
def tw12801045379027602852:=0
def tw9293508370989980171:=0
def tw1048598123695579755:=0
def tw11897738189265572573:=0
def tw7689314949190089335:=0
def tw12609171779521064140:=0
def tw9287236036484788277:=0
def tw584932763435485548:=0
def tw9037427790277646461:=0
def tw3960334041464526690:=0
def tw17220290482208473318:=0
def tw1087461439196983238:=0
def tw2296666659589063449:=0
def tw2587908690905997167:=0
def tw15294520171382770980:=0
def tw17315552390572376084:=0
def tw3930725966913426119:=0
def tw4169460616489840143:=0
def tw1909603898424020959:=0
def tw10088241905499700569:=0
def tw1732322942389133670:=0
def tw16789696578064474625:=0
def tw7250572065726753989:=0
def tw17365033233150600047:=0
def tw14247400150096060197:=0
def tw5053695284537326013:=0
def tw6564691255701774323:=0
def tw8448741861336380166:=0
def tw2816059198383166488:=0
def tw15357348398822262706:=0
def tw5850181130163734630:=0
def tw9423029923786971913:=0
def tw9213954668932897597:=0
def tw4653470953711849350:=0
def tw17611535713808114053:=0
def tw15967818879278592241:=0
def tw2210278266040049377:=0
def tw11701676488844209382:=0
def tw4695442673405090709:=0
def tw13729243419888054596:=0
def tw14104400058667195041:=0
def tw14504287378246462095:=0
def tw6909760007283419335:=0
def tw12400711233505392923:=0
def tw12291681179797978769:=0
def tw16651453397430515935:=0
def tw17134593799413962276:=0
def tw14523302137547578655:=0
def tw10835026721081439988:=0
def tw16293503315235022342:=0
def tw6524766723493973916:=0
def tw11711261351745500312:=0
def tw814165922708381823:=0
def tw9565508799250729931:=0
def tw2013113243059144274:=0
def tw9333111510544997176:=0
def tw17669511886502721719:=0
def tw9676646780070763928:=0
def tw107998168468029844:=0
def tw4071099110078792466:=0
def tw14355511822247866791:=0
def tw10508754802574383067:=0
def tw7545179317551492589:=0
def tw10827499930950285818:=0
def tw1446168740240578576:=0
def tw1495079058944668415:=0
def tw4798868364595161542:=0
def tw16993467500664685756:=0
def tw951035195527701936:=0
def tw11154172681624757081:=0
def tw5473608678115376529:=0
def tw88740309177326103:=0
def tw3116886225908076801:=0
def tw6144325908255816172:=0
def tw11870015727725999147:=0
def tw9933707970188959442:=0
def tw4211027249872619253:=0
def tw5875611562704260109:=0
def tw4647351998899976995:=0
def tw5015421593358222703:=0
def tw13544739875825856894:=0
def tw12455423427099713382:=0
def tw8811560163063184486:=0
def tw5922683213754005580:=0
def tw13373098880685842000:=0
def tw9006340770362181136:=0
def tw18294347919003506118:=0
def tw5412095054164905146:=0
def tw13121673775091734688:=0
def tw6932547855768803643:=0
def tw15395525161327468061:=0
def tw18275964691237520367:=0
def tw16487466678003548103:=0
def tw3517727723755065383:=0
def tw16190849887317160696:=0
def tw7844901034496283671:=0
def tw12822863869636405944:=0
def tw2448865712269578588:=0
def tw15985972838988054871:=0
def tw15924910281982351641:=0
def tw17647898565415715758:=0
def tw15287337955386524837:=0
def tw6994254794294473483:=0
def tw11129006971462968274:=0
def tw11413352464876223892:=0
def tw9643660466894633607:=0
def tw3833490140770406013:=0
def tw15127251859343989202:=0
def tw5677881071305306228:=0
def tw18243559113524452954:=0
def tw11174448326946305979:=0
def tw10329879455732847227:=0
def tw10117291534617954486:=0
def tw7795873238498255343:=0
def tw16177224307341957828:=0
def tw14945521544359122829:=0
def tw14169873607110556984:=0
def tw9733420092248318463:=0
def tw17228811678357659063:=0
def tw10592813296156211794:=0
def tw12737760417784216740:=0
def tw15504195587239879735:=0
def tw14346529476362668919:=0
def tw11849744499618666872:=0
def tw1702517468321053429:=0
def tw16187041883664455084:=0
def tw8639190267338256788:=0
def tw10717234270875971774:=0
def tw8419019651787115862:=0
def tw5739723529631445695:=0
def tw1331789624167311750:=0
def tw13615689283953734373:=0
def tw5078935226666322935:=0
def tw14726228616782001122:=0
def tw180820100070314064:=0
def tw17602499836798259335:=0
def tw17309711200825446963:=0
def tw4494310899124958213:=0
def tw1801378603332285672:=0
def tw5142379128911113974:=0
def tw16412882200023106909:=0
def tw14461379283741342702:=0
def tw17717259094625201840:=0
def tw6561573751080094511:=0
def tw4512160258272978031:=0
def tw16708364902900560414:=0
def tw13800152101097593895:=0
def tw15344936701813098017:=0
def tw929073462257394610:=0
def tw17876086139438169796:=0
def tw17096190145943026753:=0
def tw7621247929713282767:=0
def tw7314258603633039578:=0
def tw3466409437376220668:=0
def tw918523014597692496:=0
def tw13943430167485311891:=0
def tw2794608770995075587:=0
def tw4499385164606986326:=0
def tw15816329889261549890:=0
def tw966394369974083290:=0
def tw16109066665696130024:=0
def tw7611597100507548669:=0
def tw15227621002805969784:=0
def tw10705111317843554499:=0
def tw18172557995544856202:=0
def tw14658925958846384641:=0
def tw1236656820792468871:=0
def tw16848552255030970962:=0
def tw3058631269639828064:=0
def tw6739232988880793912:=0
def tw2027347676090609770:=0
def tw4545016441994968279:=0
def tw17221965749229270203:=0
def tw294851800395570617:=0
def tw8313851263355235145:=0
def tw5777628134483747460:=0
def tw9801932201666072974:=0
def tw13130351270001345192:=0
def tw13438873695880525170:=0
def tw7982378291052258651:=0
def tw4809969732467023822:=0
def tw6955376091018436262:=0
def tw7498649666258000801:=0
def tw4003469900457320701:=0
def tw17813556539367698732:=0
def tw2677947329378958217:=0
def tw6230604092853656590:=0
def tw2172462707280137456:=0
def tw12940225256375233190:=0
def tw4293564640457742990:=0
def tw15826052249281423707:=0
def tw5179996117643540255:=0
def tw4983289133663093395:=0
def tw17144275444076094182:=0
def tw16141811882700764430:=0
def tw13758768700577627230:=0
def tw18288081583191559414:=0
def tw8009427561335427481:=0
def tw5959366389878955269:=0
def tw5085528651878861478:=0
def tw677685135770255731:=0
def tw2713698375432659796:=0
def tw9992701095429222267:=0
def tw3721278992108173795:=0
def tw10659744183323682569:=0
def tw9476738272787348969:=0
def tw16857355487005484265:=0
def tw2493537993023708728:=0
def tw10377540079942169702:=0
def tw9298950016560942434:=0
def tw17328776535901041450:=0
def tw17321942930862632166:=0
def tw13670649151220230602:=0
def tw1270689370446228356:=0
def tw7157716836207018203:=0
def tw12556663326548175813:=0
def tw9756761099103040325:=0
def tw5151554888584663865:=0
def tw9077839783055471831:=0
def tw8098641597285360887:=0
def tw7064728761657425033:=0
def tw10541703575486674984:=0
def tw5692735372982725110:=0
def tw4330634813089017225:=0
def tw1606860245388781741:=0
def tw11294359640270226753:=0
def tw3108299634096350813:=0
def tw17178277951799654866:=0
def tw17272612461925237915:=0
def tw17365148224957613321:=0
def tw12972060520177933302:=0
def tw7887212850842800287:=0
def tw9577104106061489290:=0
def tw7967914726302677968:=0
def tw1347063879549478179:=0
def tw13685775115330362614:=0
def tw15986782912576089693:=0
def tw11509414456320884936:=0
def tw18226052290884578677:=0
def tw5905047353219276640:=0
def tw6432313573974903420:=0
def tw5126469925470212811:=0
def tw3777058384378642251:=0
def tw1843337068648856939:=0
def tw15924733088227173347:=0
def tw14141618234406757635:=0
def tw13708209472726771798:=0
def tw11749074196213393903:=0
def tw13237111363851853372:=0
def tw9184941107779673574:=0
def tw16666458875632283614:=0
def tw4587098234460520429:=0
def tw12110217616023328842:=0
def tw56282344476695648:=0
def tw504592596491657249:=0
def tw15958887107386707435:=0
def tw17997395539359449217:=0
def tw8079143618742906374:=0
def tw3918794446002443808:=0
def tw13477917680058421389:=0
def tw6482133680728844687:=0
def tw8046119260889620542:=0
def tw10778423175149952276:=0
def tw11478569038784391899:=0
def tw7925164676905522903:=0
def tw17650219000610351963:=0
def tw3397086525870556875:=0
def tw1023981132861762201:=0
def tw4954555401882308549:=0
def tw3190141465251984319:=0
def tw4161702609437393433:=0
def tw10593947500966426123:=0
def tw6742225538913782174:=0
def tw15604983757720271707:=0
def tw14539823855424243039:=0
def tw17382690849053340828:=0
def tw16434943879548595693:=0
def tw6143454445240764246:=0
def tw12267232137132020219:=0
def tw11030583208242712974:=0
def tw3467991019004562519:=0
def tw4947943567142208903:=0
def tw1877432340137806053:=0
def tw794397021084107149:=0
def tw6611390607985432378:=0
def tw5619490027150980731:=0
def tw3200909987000253319:=0
def tw833911042810369280:=0
def tw10082990388639139944:=0
def tw8813842604944505714:=0
def tw5773656105372416206:=0
def tw14540730213364776435:=0
def tw16283012046452898302:=0
def tw17167820102839543693:=0
def tw538586821554713585:=0
def tw3166347947464796249:=0
def tw4898082006146533232:=0
def tw1699825065795415095:=0
def tw16038714050395189985:=0
def tw10829408835824225818:=0
def tw6510043342084005568:=0
def tw1550464082601482009:=0
def tw17938793910833042024:=0
def tw8492748887971857770:=0
def tw9878332996155987992:=0
def tw11901064018856912414:=0
def tw16451341267430820419:=0
def tw15284167715070219922:=0
def tw1784083530097352174:=0
def tw441767948356442916:=0
def tw3849566814229387047:=0
def tw809667074855288520:=0
def tw12353748052859312073:=0
def tw11290002494577710952:=0
def tw14485254007108516444:=0
def tw1878612366845957650:=0
def tw14684877606119981285:=0
def tw17658696960545189345:=0
def tw13344451492561285636:=0
def tw67500408612780386:=0
def tw9889717531251990558:=0
def tw11614001193695433182:=0
def tw6776896585700772525:=0
def tw18124668277681948359:=0
def tw493941029122569139:=0
def tw4282060726131759909:=0
def tw17048499867006915579:=0
def tw3659657387501954725:=0
def tw16321263664153738737:=0
def tw2901688208793691502:=0
def tw1737727714462048207:=0
def tw858255180519230114:=0
def tw14862976892251442423:=0
def tw8459814750421450657:=0
def tw4686004133396245444:=0
def tw9850656473192850496:=0
def tw14354372224095247437:=0
def tw13743287062633473903:=0
def tw7061108455816661642:=0
def tw5021129998392661724:=0
def tw7533887376300837650:=0
def tw8080739910945632442:=0
def tw15591166101834363161:=0
def tw4085237206132049982:=0
def tw7944446410920951116:=0
def tw14008529423219303024:=0
def tw4686190668280251247:=0
def tw17062028314444201627:=0
def tw3297355909473417293:=0
def tw7268790593393966421:=0
def tw9037594802323563821:=0
def tw2059937425269377736:=0
def tw5577229852515733273:=0
def tw780094554036044612:=0
def tw9516570136593049731:=0
def tw8632687526655881998:=0
def tw10829203778427319613:=0
def tw3572344733594296358:=0
def tw3921133450276306097:=0
def tw11906396454590920519:=0
def tw16128534207302478473:=0
def tw1097182602659347972:=0
def tw12706637432585886:=0
def tw6833957594641531419:=0
def tw2291086801527517918:=0
def tw11056344760111566793:=0
def tw6928533987423101760:=0
def tw9274528324668397284:=0
def tw12385397307400895274:=0
def tw15838157986457771146:=0
def tw8808552480462383153:=0
def tw11256055475320554694:=0
def tw9211228497438045593:=0
def tw4743164749657643325:=0
def tw10379765162006512696:=0
def tw4261544072011272141:=0
def tw11425432824951141351:=0
def tw12158410916099214166:=0
end PySem.W.Fast
open PySem PySem.W PyProof.Rows
set_option maxRecDepth 100000 in
set_option maxHeartbeats 0 in
theorem PySem.Challenge.cw_formgrove_k80_changers_read_holds : PySem.Challenge.rw_formgrove_k80_changers_read.Holds := by
 w_on;o_law;k_head;(case hw=>w_witness2)
 k_fill
 refine cC.walk (l:=PySem.Challenge.rw_formgrove_k80_changers_read) rfl rfl (fun w h Y=>PySem.W.kIn_of Y) ?F
 case F =>
  intro w mg fa h KX G qg;refine' cC.Vs KX G qg ?HE ?HH ?HD ?HQ ?HP ?HL ?HF ?HR ?HI ?HN ?HC ?HJ ?HM ?HG ?HK ?Hv ?Hw ?Hx ?Hy ?Hn ?Ho ?Hq ?Hr ?Hs ?D3 ?Eh ?Ey ?D6 ?Ek ?EB ?D2 ?Eg ?Ex ?Ed ?Et ?EJ ?Ec ?Es ?EI ?D_ ?Eo ?EF ?D4 ?Ei ?Ez ?Ee ?Eu ?EL ?D7 ?El ?EC ?Eb ?Er ?EH ?D1 ?Ef ?Ew ?D8 ?Em ?ED ?Ea ?Ep ?EG ?D5 ?Ej ?EA ?D9 ?En ?EE ?HB ?Ht ?HS ?HA ?HU ?Hu ?Hz ?wj ?wo ?wg ?wA ?wz ?ww ?wk ?wB ?wq ?wy ?we ?wt ?wx ?wm ?wu ?DU ?DV ?DR ?DW ?DX ?DT ?DS ?DY ?DZ ?a1 ?l1 ?c1 ?k1 ?a2 ?l2 ?c2 ?k2 ?a3 ?l3 ?c3 ?k3 ?a4 ?l4 ?c4 ?k4 ?a5 ?l5 ?c5 ?k5 ?a6 ?l6 ?c6 ?k6 ?a7 ?l7 ?c7 ?k7 ?a8 ?l8 ?c8 ?k8 ?a9 ?l9 ?c9 ?k9 ?C9 ?Gu ?Dx ?tx ?C' ?Gv ?Dy ?Ab ?C_ ?Gw ?Dz ?Ac ?GQ ?Dc ?Gx ?DA ?Ad ?GR ?Dd ?Gy ?DB ?Ae ?De ?Gz ?DC ?Af ?GS ?Df ?GA ?DD ?Ag ?GU ?Dg ?GB ?DE ?Ah ?Dh ?GC ?DF ?Ai ?Di ?GD ?DG ?Aj ?Dj ?GF ?DH ?kR ?Dk ?GG ?DI ?Ak ?Dl ?GH ?DJ ?Al ?Dm ?GI ?DK ?Am ?Dq ?GJ ?DL ?Gr ?GV ?Dr ?GK ?DM ?An ?Dt ?GL ?DN ?Ao ?yN ?GN ?DO ?wb ?Du ?GO ?DP ?Gs ?y0 ?y1 ?z0 ?z1 ?z2 ?z3 ?z4 ?z5 ?z6 ?z7 ?z8 ?z9 ?HV ?HW ?HX ?HY ?HZ
  (case HE=>k_is)
  (case HH=>k_is)
  (case HD=>k_is)
  (case HQ=>k_is)
  (case HP=>k_is)
  (case HL=>k_is)
  (case HF=>k_is)
  (case HR=>k_is)
  (case HI=>k_is)
  (case HN=>k_is)
  (case HC=>k_is)
  (case HJ=>k_is)
  (case HM=>k_is)
  (case HG=>k_is)
  (case HK=>k_is)
  (case Hv=>k_is)
  (case Hw=>k_is)
  (case Hx=>rfl)
  (case Hy=>k_is)
  (case Hn=>k_is)
  (case Ho=>k_is)
  (case Hq=>k_is)
  (case Hr=>k_is)
  (case Hs=>k_is)
  (case D3=>k_is)
  (case Eh=>k_is)
  (case Ey=>k_is)
  (case D6=>k_is)
  (case Ek=>k_is)
  (case EB=>k_is)
  (case D2=>k_is)
  (case Eg=>k_is)
  (case Ex=>k_is)
  (case Ed=>k_is)
  (case Et=>k_is)
  (case EJ=>k_is)
  (case Ec=>k_is)
  (case Es=>k_is)
  (case EI=>k_is)
  (case D_=>k_is)
  (case Eo=>k_is)
  (case EF=>k_is)
  (case D4=>k_is)
  (case Ei=>k_is)
  (case Ez=>k_is)
  (case Ee=>k_is)
  (case Eu=>k_is)
  (case EL=>k_is)
  (case D7=>k_is)
  (case El=>k_is)
  (case EC=>k_is)
  (case Eb=>k_is)
  (case Er=>k_is)
  (case EH=>k_is)
  (case D1=>k_is)
  (case Ef=>k_is)
  (case Ew=>k_is)
  (case D8=>k_is)
  (case Em=>k_is)
  (case ED=>k_is)
  (case Ea=>k_is)
  (case Ep=>k_is)
  (case EG=>k_is)
  (case D5=>k_is)
  (case Ej=>k_is)
  (case EA=>k_is)
  (case D9=>k_is)
  (case En=>k_is)
  (case EE=>k_is)
  (case HB=>k_is)
  (case Ht=>k_is)
  (case HS=>k_is)
  (case HA=>k_is)
  (case HU=>k_is)
  (case Hu=>decide)
  (case Hz=>k_is)
  (case wj=>k_is)
  (case wo=>k_is)
  (case wg=>k_is)
  (case wA=>k_is)
  (case wz=>k_is)
  (case ww=>k_is)
  (case wk=>k_is)
  (case wB=>k_is)
  (case wq=>k_is)
  (case wy=>k_is)
  (case we=>k_is)
  (case wt=>k_is)
  (case wx=>k_is)
  (case wm=>k_is)
  (case wu=>k_is)
  (case DU=>k_is)
  (case DV=>k_is)
  (case DR=>k_is)
  (case DW=>k_is)
  (case DX=>k_is)
  (case DT=>k_is)
  (case DS=>k_is)
  (case DY=>k_is)
  (case DZ=>k_is)
  (case a1=>k_is)
  (case l1=>k_is)
  (case c1=>k_is)
  (case k1=>k_is)
  (case a2=>k_is)
  (case l2=>k_is)
  (case c2=>k_is)
  (case k2=>k_is)
  (case a3=>k_is)
  (case l3=>k_is)
  (case c3=>k_is)
  (case k3=>k_is)
  (case a4=>k_is)
  (case l4=>k_is)
  (case c4=>k_is)
  (case k4=>k_is)
  (case a5=>k_is)
  (case l5=>k_is)
  (case c5=>k_is)
  (case k5=>k_is)
  (case a6=>k_is)
  (case l6=>k_is)
  (case c6=>k_is)
  (case k6=>k_is)
  (case a7=>k_is)
  (case l7=>k_is)
  (case c7=>k_is)
  (case k7=>k_is)
  (case a8=>k_is)
  (case l8=>k_is)
  (case c8=>k_is)
  (case k8=>k_is)
  (case a9=>k_is)
  (case l9=>k_is)
  (case c9=>k_is)
  (case k9=>k_is)
  (case C9=>k_is)
  (case Gu=>k_is)
  (case Dx=>k_is)
  (case tx=>k_is)
  (case C'=>k_is)
  (case Gv=>k_is)
  (case Dy=>k_is)
  (case Ab=>k_is)
  (case C_=>k_is)
  (case Gw=>k_is)
  (case Dz=>k_is)
  (case Ac=>k_is)
  (case GQ=>k_is)
  (case Dc=>k_is)
  (case Gx=>k_is)
  (case DA=>k_is)
  (case Ad=>k_is)
  (case GR=>k_is)
  (case Dd=>k_is)
  (case Gy=>k_is)
  (case DB=>k_is)
  (case Ae=>k_is)
  (case De=>k_is)
  (case Gz=>k_is)
  (case DC=>k_is)
  (case Af=>k_is)
  (case GS=>k_is)
  (case Df=>k_is)
  (case GA=>k_is)
  (case DD=>k_is)
  (case Ag=>k_is)
  (case GU=>k_is)
  (case Dg=>k_is)
  (case GB=>k_is)
  (case DE=>k_is)
  (case Ah=>k_is)
  (case Dh=>k_is)
  (case GC=>k_is)
  (case DF=>k_is)
  (case Ai=>k_is)
  (case Di=>k_is)
  (case GD=>k_is)
  (case DG=>k_is)
  (case Aj=>k_is)
  (case Dj=>k_is)
  (case GF=>k_is)
  (case DH=>k_is)
  (case kR=>k_is)
  (case Dk=>k_is)
  (case GG=>k_is)
  (case DI=>k_is)
  (case Ak=>k_is)
  (case Dl=>k_is)
  (case GH=>k_is)
  (case DJ=>k_is)
  (case Al=>k_is)
  (case Dm=>k_is)
  (case GI=>k_is)
  (case DK=>k_is)
  (case Am=>k_is)
  (case Dq=>k_is)
  (case GJ=>k_is)
  (case DL=>k_is)
  (case Gr=>k_is)
  (case GV=>k_is)
  (case Dr=>k_is)
  (case GK=>k_is)
  (case DM=>k_is)
  (case An=>k_is)
  (case Dt=>k_is)
  (case GL=>k_is)
  (case DN=>k_is)
  (case Ao=>k_is)
  (case yN=>k_is)
  (case GN=>k_is)
  (case DO=>k_is)
  (case wb=>k_is)
  (case Du=>k_is)
  (case GO=>k_is)
  (case DP=>k_is)
  (case Gs=>k_is)
  (case y0=>k_is)
  (case y1=>k_is)
  (case z0=>k_is)
  (case z1=>k_is)
  (case z2=>k_is)
  (case z3=>k_is)
  (case z4=>k_is)
  (case z5=>k_is)
  (case z6=>k_is)
  (case z7=>k_is)
  (case z8=>k_is)
  (case z9=>k_is)
  (case HV=>k_is)
  (case HW=>k_is)
  (case HX=>k_is)
  (case HY=>k_is)
  (case HZ=>k_is)
