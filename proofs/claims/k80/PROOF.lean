import PyProof.Rows.All
import Wide.All
import OpenK.AllK
import Wide.FinOn
import Lean
import PyProof.EqAt
import PyProof.EqKinds
import PyProof.TupleCall
import PySem.Challenge.RW_formgrove_k80_changers_read
theorem ae:type_of% @PySem.wpAny_bind:=@PySem.wpAny_bind
theorem af:type_of% @if_neg:=@if_neg
theorem ah:type_of% @if_pos:=@if_pos
theorem ai:type_of% @PySem.wpAny_pure:=@PySem.wpAny_pure
theorem ap:type_of% @PyProof.Rows.wpS_bind:=@PyProof.Rows.wpS_bind
theorem ar:type_of% @PyProof.Rows.wpS_pure:=@PyProof.Rows.wpS_pure
theorem az:type_of% @Nat.le_refl:=@Nat.le_refl
theorem aB:type_of% @Array.length_toList:=@Array.length_toList
theorem aH:type_of% @List.mem_cons:=@List.mem_cons
theorem aK:type_of% @PySem.Heap.get?_push_of_some:=@PySem.Heap.get?_push_of_some
theorem aO:type_of% @List.length_cons:=@List.length_cons
theorem aR:type_of% @decide_eq_true:=@decide_eq_true
theorem aU:type_of% @PySem.Heap.lt_size:=@PySem.Heap.lt_size
theorem aW:type_of% @List.length_map:=@List.length_map
theorem aX:type_of% @List.mem_cons_of_mem:=@List.mem_cons_of_mem
theorem a_:type_of% @decide_eq_false:=@decide_eq_false
theorem bb:type_of% @List.mem_cons_self:=@List.mem_cons_self
theorem bf:type_of% @Bool.false_ne_true:=@Bool.false_ne_true
theorem bi:type_of% @List.mem_singleton:=@List.mem_singleton
theorem bj:type_of% @Nat.zero_le:=@Nat.zero_le
theorem bt:type_of% @List.map_cons:=@List.map_cons
theorem bw:type_of% @List.length_append:=@List.length_append
theorem bx:type_of% @PySem.W.mg_of:=@PySem.W.mg_of
theorem bE:type_of% @Array.getElem?_toList:=@Array.getElem?_toList
theorem bL:type_of% @List.mem_append:=@List.mem_append
theorem bO:type_of% @Array.toList_append:=@Array.toList_append
theorem bT:type_of% @List.append_assoc:=@List.append_assoc
theorem bX:type_of% @List.size_toArray:=@List.size_toArray
theorem bY:type_of% @Nat.ne_of_lt:=@Nat.ne_of_lt
theorem cf:type_of% @PySem.Heap.get?_push_size:=@PySem.Heap.get?_push_size
theorem cB:type_of% @List.getElem?_eq_some_iff:=@List.getElem?_eq_some_iff
theorem cC:type_of% @decide_eq_true_eq:=@decide_eq_true_eq
theorem cI:type_of% @List.getElem?_eq_getElem:=@List.getElem?_eq_getElem
theorem cJ:type_of% @PySem.F.plainAttrs_list:=@PySem.F.plainAttrs_list
theorem cP:type_of% @Bool.and_eq_true:=@Bool.and_eq_true
theorem cQ:type_of% @List.mem_of_getElem?:=@List.mem_of_getElem?
theorem cR:type_of% @Nat.lt_of_lt_of_le:=@Nat.lt_of_lt_of_le
theorem cZ:type_of% @Nat.le_trans:=@Nat.le_trans
theorem dm:type_of% @Option.some.inj:=@Option.some.inj
theorem dF:type_of% @List.length_drop:=@List.length_drop
theorem dG:type_of% @PyProof.Rows.wpS_mono:=@PyProof.Rows.wpS_mono
theorem dN:type_of% @List.length_take:=@List.length_take
theorem dO:type_of% @List.nodup_cons:=@List.nodup_cons
theorem dX:type_of% @Int.emod_nonneg:=@Int.emod_nonneg
theorem dY:type_of% @PySem.F.slot_list_append:=@PySem.F.slot_list_append
theorem dZ:type_of% @PySem.F.type_list_append:=@PySem.F.type_list_append
theorem d0:type_of% @PyProof.Rows.wpS_forRange:=@PyProof.Rows.wpS_forRange
theorem eJ:type_of% @PySem.wpAny_mono:=@PySem.wpAny_mono
theorem eY:type_of% @Array.getElem?_eq_getElem:=@Array.getElem?_eq_getElem
theorem eZ:type_of% @Int.emod_lt_of_pos:=@Int.emod_lt_of_pos
theorem e_:type_of% @List.all_eq_true:=@List.all_eq_true
theorem fb:type_of% @List.pairwise_append:=@List.pairwise_append
theorem fm:type_of% @Array.toList_push:=@Array.toList_push
theorem fo:type_of% @List.count_append:=@List.count_append
theorem fq:type_of% @List.count_cons:=@List.count_cons
theorem ft:type_of% @List.forall_mem_cons:=@List.forall_mem_cons
theorem fu:type_of% @List.mem_append_right:=@List.mem_append_right
theorem fF:type_of% @Array.toList_extract:=@Array.toList_extract
theorem fG:type_of% @List.map_append:=@List.map_append
theorem fH:type_of% @Ne.symm:=@Ne.symm
theorem fI:type_of% @PySem.sizeLine_eq:=@PySem.sizeLine_eq
theorem f_:type_of% @List.getElem?_map:=@List.getElem?_map
theorem gb:type_of% @PySem.Paired.length:=@PySem.Paired.length
theorem gc:type_of% @PySem.boot_len:=@PySem.boot_len
theorem gf:type_of% @PyProof.Rows.wpS_modify:=@PyProof.Rows.wpS_modify
theorem gM:type_of% @List.mem_map:=@List.mem_map
theorem gN:type_of% @List.reverse_cons:=@List.reverse_cons
theorem gO:type_of% @Nat.lt_irrefl:=@Nat.lt_irrefl
theorem gP:type_of% @Nat.lt_succ_self:=@Nat.lt_succ_self
theorem gQ:type_of% @PySem.W.mg_none_of:=@PySem.W.mg_none_of
theorem gR:type_of% @if_true:=@if_true
theorem hX:type_of% @PySem.Heap.get?_update_other:=@PySem.Heap.get?_update_other
theorem h_:type_of% @List.mem_range:=@List.mem_range
theorem ic:type_of% @Nat.le_succ:=@Nat.le_succ
theorem ie:type_of% @Nat.not_lt_zero:=@Nat.not_lt_zero
theorem ig:type_of% @if_false:=@if_false
theorem ii:type_of% @of_decide_eq_true:=@of_decide_eq_true
theorem iO:type_of% @PySem.Heap.size_push:=@PySem.Heap.size_push
theorem iP:type_of% @List.append_nil:=@List.append_nil
theorem iQ:type_of% @List.sum_cons:=@List.sum_cons
theorem iR:type_of% @PySem.PassesOwn.never:=@PySem.PassesOwn.never
theorem iS:type_of% @PySem.wpAny_holding:=@PySem.wpAny_holding
theorem iT:type_of% @PySem.wpAny_newObj_type:=@PySem.wpAny_newObj_type
theorem iU:type_of% @PyProof.Rows.wpS_get:=@PyProof.Rows.wpS_get
theorem jm:type_of% @Bool.eq_iff_iff:=@Bool.eq_iff_iff
theorem jo:type_of% @List.Perm.refl:=@List.Perm.refl
theorem jq:type_of% @getElem?_pos:=@getElem?_pos
theorem jr:type_of% @PySem.wpAny_setState_of:=@PySem.wpAny_setState_of
theorem j3:type_of% @List.getElem?_drop:=@List.getElem?_drop
theorem j4:type_of% @List.mem_iff_getElem?:=@List.mem_iff_getElem?
theorem j5:type_of% @List.perm_append_comm:=@List.perm_append_comm
theorem j6:type_of% @List.take_append_drop:=@List.take_append_drop
theorem j7:type_of% @List.take_of_length_le:=@List.take_of_length_le
theorem j8:type_of% @PySem.W.kia_one:=@PySem.W.kia_one
theorem j9:type_of% @beq_iff_eq:=@beq_iff_eq
theorem j_:type_of% @decide_eq_decide:=@decide_eq_decide
theorem kY:type_of% @Array.toList_reverse:=@Array.toList_reverse
theorem kZ:type_of% @List.Perm.append_right:=@List.Perm.append_right
theorem k_:type_of% @List.cons_append:=@List.cons_append
theorem la:type_of% @List.drop_drop:=@List.drop_drop
theorem lb:type_of% @List.eq_nil_of_length_eq_zero:=@List.eq_nil_of_length_eq_zero
theorem lc:type_of% @List.mem_reverse:=@List.mem_reverse
theorem lg:type_of% @List.pairwise_iff_getElem:=@List.pairwise_iff_getElem
theorem lh:type_of% @Nat.le_of_lt:=@Nat.le_of_lt
theorem lj:type_of% @PyProof.Rows.getElem?_mirror_all:=@PyProof.Rows.getElem?_mirror_all
theorem ll:type_of% @PySem.wpAny_Call_Name_kw:=@PySem.wpAny_Call_Name_kw
theorem lm:type_of% @PySem.wpAny_call_entry:=@PySem.wpAny_call_entry
theorem lq:type_of% @PySem.wpAny_field:=@PySem.wpAny_field
theorem mD:type_of% @Array.getElem?_eq_some_iff:=@Array.getElem?_eq_some_iff
theorem mE:type_of% @List.Perm.append_left:=@List.Perm.append_left
theorem mF:type_of% @List.getElem?_append_right:=@List.getElem?_append_right
theorem mG:type_of% @Nat.zero_add:=@Nat.zero_add
theorem mH:type_of% @PySem.F.plainAttrs_str:=@PySem.F.plainAttrs_str
theorem mI:type_of% @PySem.wpAny_rule:=@PySem.wpAny_rule
theorem mJ:type_of% @PySem.wpAny_truthy_bool:=@PySem.wpAny_truthy_bool
theorem oC:type_of% @List.any_cons:=@List.any_cons
theorem oE:type_of% @List.filterMap_cons_some:=@List.filterMap_cons_some
theorem oF:type_of% @List.getElem?_append_left:=@List.getElem?_append_left
theorem oG:type_of% @List.mem_append_left:=@List.mem_append_left
theorem oH:type_of% @List.mem_of_mem_take:=@List.mem_of_mem_take
theorem oI:type_of% @List.take_length:=@List.take_length
theorem oJ:type_of% @PySem.Obj.data_mapFields:=@PySem.Obj.data_mapFields
theorem oK:type_of% @Option.map_eq_some_iff:=@Option.map_eq_some_iff
theorem oM:type_of% @PySem.F.called_set:=@PySem.F.called_set
theorem oN:type_of% @PySem.F.slot_list_pop:=@PySem.F.slot_list_pop
theorem oO:type_of% @PySem.F.type_list_pop:=@PySem.F.type_list_pop
theorem oP:type_of% @PySem.codeAny_mono:=@PySem.codeAny_mono
theorem oQ:type_of% @PySem.typeIs_str:=@PySem.typeIs_str
theorem oR:type_of% @PySem.wpAny_setField:=@PySem.wpAny_setField
theorem qJ:type_of% @Bool.false_and:=@Bool.false_and
theorem qK:type_of% @Bool.false_eq_true:=@Bool.false_eq_true
theorem qL:type_of% @Bool.or_eq_true:=@Bool.or_eq_true
theorem qM:type_of% @PySem.Heap.get?_update_self:=@PySem.Heap.get?_update_self
theorem qN:type_of% @List.Pairwise.sublist:=@List.Pairwise.sublist
theorem qO:type_of% @List.drop_zero:=@List.drop_zero
theorem qP:type_of% @List.getElem?_take_of_lt:=@List.getElem?_take_of_lt
theorem qQ:type_of% @List.nil_append:=@List.nil_append
theorem qR:type_of% @Nat.ne_of_gt:=@Nat.ne_of_gt
theorem qS:type_of% @PySem.wpAny_passesOwn:=@PySem.wpAny_passesOwn
theorem qT:type_of% @PySem.wpAny_typeOf:=@PySem.wpAny_typeOf
theorem tN:type_of% @Array.getElem?_eq_none:=@Array.getElem?_eq_none
theorem tO:type_of% @Array.getElem?_extract:=@Array.getElem?_extract
theorem tQ:type_of% @Int.toNat_natCast:=@Int.toNat_natCast
theorem tS:type_of% @List.Perm.of_eq:=@List.Perm.of_eq
theorem tT:type_of% @List.drop_left:=@List.drop_left
theorem tU:type_of% @List.filterMap_cons_none:=@List.filterMap_cons_none
theorem tV:type_of% @List.find?_cons:=@List.find?_cons
theorem tW:type_of% @List.length_nil:=@List.length_nil
theorem tX:type_of% @List.length_range:=@List.length_range
theorem tY:type_of% @List.length_reverse:=@List.length_reverse
theorem tZ:type_of% @List.mem_of_mem_drop:=@List.mem_of_mem_drop
theorem t4:type_of% @Nat.mod_lt:=@Nat.mod_lt
theorem t5:type_of% @Nat.succ_pos:=@Nat.succ_pos
theorem t6:type_of% @PyProof.Rows.callWith_type1:=@PyProof.Rows.callWith_type1
theorem t7:type_of% @PyProof.Rows.slot_tuple_getitem:=@PyProof.Rows.slot_tuple_getitem
theorem t9:type_of% @PySem.F.slot_str_join:=@PySem.F.slot_str_join
theorem t_:type_of% @PySem.F.type_str_join:=@PySem.F.type_str_join
theorem uc:type_of% @PySem.codeAny_builtin:=@PySem.codeAny_builtin
theorem ud:type_of% @PySem.wpAny_callSpecial?_slot:=@PySem.wpAny_callSpecial?_slot
theorem ue:type_of% @PySem.wpAny_fieldsOf:=@PySem.wpAny_fieldsOf
theorem wY:type_of% @Array.size_map:=@Array.size_map
theorem wZ:type_of% @Bool.true_and:=@Bool.true_and
theorem w6:type_of% @PySem.Heap.SameBut.update:=@PySem.Heap.SameBut.update
theorem w8:type_of% @List.cons_lt_cons_iff:=@List.cons_lt_cons_iff
theorem w_:type_of% @List.drop_eq_nil_of_le:=@List.drop_eq_nil_of_le
theorem xa:type_of% @List.getElem_mem:=@List.getElem_mem
theorem xb:type_of% @List.length_replicate:=@List.length_replicate
theorem xf:type_of% @List.map_map:=@List.map_map
theorem xg:type_of% @List.not_mem_nil:=@List.not_mem_nil
theorem xh:type_of% @List.takeWhile_cons:=@List.takeWhile_cons
theorem xi:type_of% @List.take_sublist:=@List.take_sublist
theorem xj:type_of% @List.toList_toArray:=@List.toList_toArray
theorem xk:type_of% @Nat.le_of_lt_succ:=@Nat.le_of_lt_succ
theorem xl:type_of% @Nat.lt_of_le_of_lt:=@Nat.lt_of_le_of_lt
theorem xm:type_of% @Nat.lt_trichotomy:=@Nat.lt_trichotomy
theorem xn:type_of% @PySem.F.slot_dict_keyiterator_next:=@PySem.F.slot_dict_keyiterator_next
theorem xp:type_of% @PySem.W.callWith_K:=@PySem.W.callWith_K
theorem xr:type_of% @PySem.mem_of_lookup:=@PySem.mem_of_lookup
theorem xt:type_of% @beq_eq_false_iff_ne:=@beq_eq_false_iff_ne
theorem xu:type_of% @PySem.wpAny_isInstance:=@PySem.wpAny_isInstance
theorem AS:type_of% @Array.size_setIfInBounds:=@Array.size_setIfInBounds
theorem AU:type_of% @Array.toList_modify:=@Array.toList_modify
theorem AV:type_of% @Classical.byContradiction:=@Classical.byContradiction
theorem AW:type_of% @List.forall_mem_nil:=@List.forall_mem_nil
theorem AX:type_of% @List.getElem?_eq_none:=@List.getElem?_eq_none
theorem AY:type_of% @List.mem_iff_getElem:=@List.mem_iff_getElem
theorem AZ:type_of% @List.mem_map_of_mem:=@List.mem_map_of_mem
theorem A2:type_of% @List.pairwise_cons:=@List.pairwise_cons
theorem A3:type_of% @List.pairwise_map:=@List.pairwise_map
theorem A4:type_of% @List.take_succ_eq_append_getElem:=@List.take_succ_eq_append_getElem
theorem A5:type_of% @List.zip_cons_cons:=@List.zip_cons_cons
theorem A6:type_of% @Nat.add_right_comm:=@Nat.add_right_comm
theorem A7:type_of% @PySem.wpAny_typeNameOfWhole_keyiter:=@PySem.wpAny_typeNameOfWhole_keyiter
theorem A8:type_of% @PySem.wpAny_typeNameOf_keyiter:=@PySem.wpAny_typeNameOf_keyiter
namespace jt
end jt
set_option Elab.async false
set_option linter.all false
set_option maxRecDepth 100000
namespace L2
open PySem PySem.Spec PyProof.Rows
abbrev Key:=Sum Int Str
def su:Key->Value->Bool
 | .inl k,v=>Value.isInt k v
 | .inr x,v=>Value.isStrOf x v
def Wx(w:World):Key->Int
 | .inl k=>hashInt k
 | .inr x=>hashStr w x
theorem lJ:∀{k:Key}{v:Value},su k v=true->(∃i t,k=Sum.inl i/\v=Value.int i t)\/(∃x t,k=Sum.inr x/\v=Value.str x t)
 | .inl i,v,h=>by
  obtain⟨t,e⟩:=Value.isInt_shape (k:=i) (v:=v) h;exact .inl ⟨i,t,rfl,e⟩
 | .inr x,v,h=>by
  obtain⟨t,e⟩:=Value.isStrOf_shape (x:=x) (v:=v) h;exact .inr ⟨x,t,rfl,e⟩
theorem Tu(i:Int)(t:Tok):su (.inl i) (.int i t)=true:=by simp[su,Value.isInt]
theorem R0(x:Str)(t:Tok):su (.inr x) (.str x t)=true:=by simp[su,Value.isStrOf]
theorem Vj(a b:Int):decide ((Sum.inl a:Key)=Sum.inl b)=(a == b):=by
 by_cases e:a=b
 ·subst e;simp
 ·have h : ¬ (Sum.inl a:Key)=Sum.inl b:=fun q=>e (Sum.inl.inj q);rw[a_ h];exact(xt.mpr e).symm
theorem Vg(a b:Str):decide ((Sum.inr a:Key)=Sum.inr b)=decide (a=b):=by
 by_cases e:a=b
 ·subst e;simp
 ·have h : ¬ (Sum.inr a:Key)=Sum.inr b:=fun q=>e (Sum.inr.inj q);rw[a_ h,a_ e]
theorem VC(a:Int)(b:Str):decide ((Sum.inl a:Key)=Sum.inr b)=false:=a_ (fun q=>nomatch q)
theorem V6(a:Str)(b:Int):decide ((Sum.inr a:Key)=Sum.inl b)=false:=a_ (fun q=>nomatch q)
def Z9(prog:Program)(w:World):PySem.KeyKind prog w Key where
 is:=su
 hash:=Wx w
 inj:=fun v a b ha hb=>by
  rcases lJ ha with⟨i,t,rfl,rfl⟩|⟨x,t,rfl,rfl⟩
  ·rcases lJ hb with⟨j,u,rfl,e⟩|⟨y,u,rfl,e⟩
   ·injection e with e1 _;rw[e1]
   ·exact nomatch e
  ·rcases lJ hb with⟨j,u,rfl,e⟩|⟨y,u,rfl,e⟩
   ·exact nomatch e
   ·injection e with e1 _;rw[e1]
 byValue:=fun k v h=>by
  rcases lJ h with⟨i,t,rfl,rfl⟩|⟨x,t,rfl,rfl⟩ <;> rfl
 pyHash:=fun hv h=>by
  rcases lJ hv with⟨i,t,rfl,rfl⟩|⟨x,t,rfl,rfl⟩
  ·exact wpAny_pyHash_int h
  ·exact wpAny_pyHash_str h
 eqBool:=fun hu hv h=>by
  rcases lJ hu with⟨i,t,rfl,rfl⟩|⟨x,t,rfl,rfl⟩
  ·rcases lJ hv with⟨j,u,rfl,rfl⟩|⟨y,u,rfl,rfl⟩
   ·rw[Vj] at h;exact wpAny_eqBool_int h
   ·rw[VC] at h;exact SeqAt.EqAt.int_str i t y u _ _ _ _ h
  ·rcases lJ hv with⟨j,u,rfl,rfl⟩|⟨y,u,rfl,rfl⟩
   ·rw[V6] at h;exact SeqAt.EqAt.str_int x t j u _ _ _ _ h
   ·rw[Vg] at h;exact wpAny_eqBool_str h
 «strs» := fun k x t v h=>by
  rcases lJ h with⟨i,u,rfl,e⟩|⟨y,u,rfl,e⟩
  ·exact nomatch e
  ·injection e with e1 _;subst e1;cases v <;> rfl
theorem Rk(prog:Program)(w:World)(i:Int)(t:Tok):(Z9 prog w).is (.inl i) (.int i t)=true:=Tu i t
theorem Rf(prog:Program)(w:World)(x:Str)(t:Tok):(Z9 prog w).is (.inr x) (.str x t)=true:=R0 x t
inductive V where
 | aE|bl (b:Bool)|int (i:Int)|str (x:Str)|gV (b:Array UInt8)|pV (b:UInt64)|ref (a:Addr)|ty (n:String)
 deriving DecidableEq
def RelV:V->Value->Prop
 | .aE,u=>u=Value.none
 | .bl b,u=>u=Value.bool b
 | .int i,u=>∃t,u=Value.int i t
 | .str x,u=>∃t,u=Value.str x t
 | .gV b,u=>∃t,u=Value.bytes b t
 | .pV b,u=>∃t,u=Value.float b t
 | .ref a,u=>u=Value.ref a
 | .ty n,u=>u=Value.type n
abbrev Vals:List V->List Value->Prop:=Paired RelV
theorem Vals.length{xs:List V}{us:List Value}(r:Vals xs us):xs.length=us.length:=gb r
theorem Vals.get:∀{xs:List V}{us:List Value}{i:Nat}{x:V},Vals xs us->xs[i]?= some x->∃u,us[i]?= some u/\RelV x u
 | _,_,_,_,.nil,e=>by simp at e
 | _,_,0,_,.cons r _,e=>by simp at e;subst e;exact⟨_,rfl,r⟩
 | _,_,i+1,x,.cons _ t,e=>by
  obtain⟨u,h1,h2⟩:=Vals.get (i:=i) (x:=x) t (by simpa using e);exact⟨u,by simpa using h1,h2⟩
theorem Vals.append:∀{xs ys:List V}{us ws:List Value},Vals xs us->Vals ys ws->Vals (xs++ys) (us++ws)
 | _,_,_,_,.nil,s=>s
 | _,_,_,_,.cons r t,s=>.cons r (Vals.append t s)
theorem Vals.take:∀{xs:List V}{us:List Value}(n:Nat),Vals xs us->Vals (xs.take n) (us.take n)
 | _,_,0,_=>.nil
 | _,_,_+1,.nil=>.nil
 | _,_,n+1,.cons r t=>.cons r (Vals.take n t)
theorem Vals.drop:∀{xs:List V}{us:List Value}(n:Nat),Vals xs us->Vals (xs.drop n) (us.drop n)
 | _,_,0,r=>r
 | _,_,_+1,.nil=>.nil
 | _,_,n+1,.cons _ t=>Vals.drop n t
def fS:Option V->Option Value->Prop
 | some v,some u=>RelV v u
 | none,none=>True
 | _,_=>False
def KV{κ : Type}:List (κ × V)->List (κ × Value)->Prop:=Paired fun(p : κ × V)(q : κ × Value)=>p.1=q.1/\RelV p.2 q.2
def kV:Key->V
 | .inl i=>.int i
 | .inr x=>.str x
inductive HO where
 | lst (xs:List V)
 | tup (xs:List V)
 | dK (aj:List (Key×V))|dT (aj:List (List Key×V))
 | set (S:Int->Bool) (n:Nat)
 | ins (C dx:Addr) (fs:List (Str×V))
 | own (x:Addr)
 | xd (fs:List (Str×V))
 | met (f x:Addr)
 | AF (lo hi:Int)
 | gy (o:Obj) (u:HO)
 | oy (ps:Array Value)
 | ext (φ : Heap->Prop)
abbrev Hp:=Addr->Option HO
def upd(H:Hp)(a:Addr)(o:HO):Hp:=fun b=>if b=a then some o else H b
theorem Zc{H:Hp}{a:Addr}{o:HO}:upd H a o a=some o:=by unfold upd;rw[ah rfl]
theorem Zi{H:Hp}{a b:Addr}{o:HO}(h:b≠a):upd H a o b=H b:=by unfold upd;rw[af h]
theorem Ms{H:Hp}{a b:Addr}{o u:HO}(h:H a=some o)(h':H b=some u)(d:o≠u):a≠b:=by
 intro e;subst e;rw[h] at h';exact d (dm h')
theorem Zo{H:Hp}{a b:Addr}{o:HO}(h:H a=some o)(h':H b=none):a≠b:=by
 intro e;subst e;rw[h] at h';cases h'
section
variable(P:Program)(w:World)
def bM(H:Hp)(h:Heap)(a:Addr):HO->Prop
 | .lst xs=>xs.length<=sizeLine/\∃(its:List Value)(n:Nat),Vals xs its/\h.get? a=some { cls:=.type "list",data:=.seq its.toArray n }
 | .tup xs=>xs.length<=sizeLine/\∃its:List Value,Vals xs its/\IsTup h a its.toArray
 | .dK aj=>aj.length<=sizeLine/\(a == sysModules)=false/\∃vs,KV aj vs/\h.DictOf (Z9 P w) a vs
 | .dT aj=>aj.length<=sizeLine/\(a == sysModules)=false/\∃xs:List (List Key×Addr×Value),
   Paired (fun(p:List Key×V)(q:List Key×Addr×Value)=>p.1=q.1/\H q.2.1=some (.tup (p.1.map kV))/\RelV p.2 q.2.2) aj xs /\
   ∃o es ep,h.get? a=some o/\o.ExactDict/\o.data=.dict es ep/\es.toList=xs.map (entryOfKey (tupleKind (Z9 P w)))/\(xs.map (·.1)).Nodup
 | .set S n=>h.SetOf (intKind P w) a S n
 | .ins C dx fs=>H dx=some (.own a)/\fs.length<=1000/\dx≠a/\h.get? a=some (PySem.W.instObj C dx) /\
   ∃mA,h.Ns1 dx mA/\(∀f,fS (fs.lookup f) (mA f))/\PySem.Within mA (fs.map (·.1))
 | .own _=>∃o,h.get? a=some o
 | .xd fs=>∃mA,h.Ns1 a mA/\∀f,fS (fs.lookup f) (mA f)
 | .AF lo hi=>∃t u v,h.get? a=some { cls:=.type "range",data:=.fields #[.int lo t,.int hi u,.int 1 v] }
 | .gy o u=>h.get? a=some o/\bM H h a u
 | .oy ps=>h.get? a=some { cls:=.none,data:=.fields ps }
 | .met f x=>h.get? a=some (PySem.W.methodObj (.ref f) (.ref x))
 | .ext φ=>φ h/\(∃o,h.get? a=some o)/\∀h1 h2:Heap,φ h1->(∀o,h1.get? a=some o->h2.get? a=some o) -> φ h2
def bF(H:Hp)(h:Heap):Prop := ∀a o,H a=some o->bM P w H h a o
end
section
variable{P:Program}{w:World}{H H':Hp}{h h':Heap}{a:Addr}{o:HO}
theorem bM.lt(x:bM P w H h a o):a<h.objs.size:=by
 cases o with
 | lst xs=>obtain⟨_,_,_,_,e⟩:=x;exact aU e
 | tup xs=>obtain⟨_,_,_,p⟩:=x;exact p.lt
 | dK aj=>obtain⟨_,_,_,_,o,_,_,e,_⟩:=x;exact aU e
 | dT aj=>obtain⟨_,_,_,_,o,_,_,e,_⟩:=x;exact aU e
 | set S n=>obtain⟨o,_,_,_,e,_⟩:=x;exact aU e
 | ins C dx fs=>obtain⟨_,_,_,e,_⟩:=x;exact aU e
 | own y=>obtain⟨_,e⟩:=x;exact aU e
 | xd fs=>obtain⟨_,⟨_,_,_,e,_⟩,_⟩:=x;exact aU e
 | AF lo hi=>obtain⟨_,_,_,e⟩:=x;exact aU e
 | gy ob u=>obtain⟨e,_⟩:=x;exact aU e
 | oy ps=>exact aU (show h.get? a=some _ from x)
 | met f y=>exact aU (show h.get? a=some _ from x)
 | ext φ=>obtain⟨_,⟨_,e⟩,_⟩:=x;exact aU e
theorem Paired.GU{α β : Type}{F G : α -> β -> Prop}:∀{oj : List α}{qA : List β},Paired F oj qA -> (∀a b,F a b->G a b)->Paired G oj qA
 | _,_,.nil,_=>.nil
 | _,_,.cons r t,f=>.cons (f _ _ r) (Paired.GU t f)
theorem bM.ou(x:bM P w H h a o)(k:∀b u,(b=a\/H b=some (.own a))->h.get? b=some u->h'.get? b=some u)
  (ho:∀b,H b=some (.own a)->H' b=some (.own a)) (ht:∀b xs,H b=some (.tup xs)->H' b=some (.tup xs)):bM P w H' h' a o:=by
 induction o with
 | lst xs=>obtain⟨z,its,n,r,e⟩:=x;exact⟨z,its,n,r,k _ _ (.inl rfl) e⟩
 | tup xs=>obtain⟨z,its,r,ob,e,c⟩:=x;exact⟨z,its,r,ob,k _ _ (.inl rfl) e,c⟩
 | dK aj=>obtain⟨z,y,vs,r,ob,es,ep,e,c⟩:=x;exact⟨z,y,vs,r,ob,es,ep,k _ _ (.inl rfl) e,c⟩
 | dT aj =>
  obtain⟨z,y,xs,r,ob,es,ep,e,c⟩:=x;exact⟨z,y,xs,Paired.GU r fun p q z=>⟨z.1,ht _ _ z.2.1,z.2.2⟩,ob,es,ep,k _ _ (.inl rfl) e,c⟩
 | set S n=>obtain⟨ob,es,ep,t,e,c⟩:=x;exact⟨ob,es,ep,t,k _ _ (.inl rfl) e,c⟩
 | ins C dx fs =>
  obtain⟨d,z,ne,e,mA,⟨od,es,ep,e2,c⟩,r⟩:=x;exact⟨ho _ d,z,ne,k _ _ (.inl rfl) e,mA,⟨od,es,ep,k _ _ (.inr d) e2,c⟩,r⟩
 | own y=>obtain⟨ob,e⟩:=x;exact⟨ob,k _ _ (.inl rfl) e⟩
 | xd fs=>obtain⟨mA,⟨od,es,ep,e,c⟩,r⟩:=x;exact⟨mA,⟨od,es,ep,k _ _ (.inl rfl) e,c⟩,r⟩
 | AF lo hi=>obtain⟨t,u,v,e⟩:=x;exact⟨t,u,v,k _ _ (.inl rfl) e⟩
 | gy ob u ih=>obtain⟨e,q⟩:=x;exact⟨k _ _ (.inl rfl) e,ih q⟩
 | oy ps =>
  have e:h.get? a=some { cls:=.none,data:=.fields ps }:=x;show h'.get? a=some { cls:=.none,data:=.fields ps };exact k a _ (.inl rfl) e
 | met f y =>
  have e:h.get? a=some (PySem.W.methodObj (.ref f) (.ref y)):=x;show h'.get? a=some (PySem.W.methodObj (.ref f) (.ref y));exact k a _ (.inl rfl) e
 | ext φ=>obtain⟨p,⟨o,e⟩,st⟩:=x;exact⟨st _ _ p fun o q=>k _ _ (.inl rfl) q,⟨o,k _ _ (.inl rfl) e⟩,st⟩
theorem bF.lt(x:bF P w H h)(e:H a=some o):a<h.objs.size:=(x a o e).lt
theorem bF.fresh(x:bF P w H h)(e:h.objs.size<=a):H a=none:=by
 cases q:H a with
 | none=>rfl
 | some u=>exact absurd (cR (x.lt q) e) (gO _)
theorem bF.kept(x:bF P w H h)(k:∀b u,h.get? b=some u->h'.get? b=some u):bF P w H h':=fun a o e =>
 (x a o e).ou (fun b u _ q=>k b u q) (fun _ q=>q) fun _ _ q=>q
theorem bF.laid(x:bF P w H h)(k:∀b u,h.get? b=some u->h'.get? b=some u)(hp:h.objs.size<=a)(new:bM P w (upd H a o) h' a o):bF P w (upd H a o) h':=fun b u e=>by
 have hn:=x.fresh hp;by_cases hb:b=a
 ·subst hb;rw[Zc] at e;cases e;exact new
 ·rw[Zi hb] at e;exact(x b u e).ou (fun c v _ q=>k c v q) (fun c q=>by rw[Zi (Zo q hn)];exact q) fun c xs q=>by rw[Zi (Zo q hn)];exact q
end
def Rd(H:Hp)(a:Addr)(u:HO):Prop:=H a=some u\/∃o,H a=some (.gy o u)
theorem Rd.ok{P:Program}{w:World}{H:Hp}{h:Heap}{a:Addr}{u:HO}(r:Rd H a u)(x:bF P w H h):bM P w H h a u:=by
 rcases r with r|⟨o,r⟩
 ·exact x a u r
 ·obtain⟨_,q⟩:=x a _ r;exact q
def uv:Option HO->Prop
 | some (.lst _)=>True
 | some (.dK _)=>True
 | some (.dT _)=>True
 | some (.set _ _)=>True
 | some (.ins _ _ _)=>True
 | some (.ext _)=>True
 | _=>False
section
variable{P:Program}{w:World}{H:Hp}{h h':Heap}{x e:Addr}{o':HO}
theorem bF.write(ok:bF P w H h)(mu:uv (H x))(he:e=x\/H e=some (.own x))(k:∀b u,b≠e->h.get? b=some u->h'.get? b=some u)(sQ:∃u,h'.get? e=some u)
  (new:bM P w (upd H x o') h' x o'):bF P w (upd H x o') h':=fun b u q=>by
 have Ph:∀c y,H c=some (.own y)->c≠x:=fun c y r z=>by subst z;rw[r] at mu;exact mu
 have Zt4:∀c xs,H c=some (.tup xs)->c≠x:=fun c xs r z=>by subst z;rw[r] at mu;exact mu
 by_cases hb:b=x
 ·subst hb;rw[Zc] at q;cases q;exact new
 ·rw[Zi hb] at q;by_cases qd:b=e
  ·have q':H b=some (.own x):=by
    rcases he with z|z
    ·exact absurd (qd.trans z) hb
    ·rw[qd];exact z
   rw[q] at q';cases q';obtain⟨v,hv⟩:=sQ;exact⟨v,by rw[qd];exact hv⟩
  ·refine(ok b u q).ou (fun c v hc r=>k c v ?_ r) (fun c r=>by rw[Zi (Ph c b r)];exact r) fun c xs r=>by rw[Zi (Zt4 c xs r)];exact r
   rcases hc with rfl|hc
   ·exact qd
   ·rintro rfl;rcases he with z|z
    ·exact Ph c b hc z
    ·rw[hc] at z;cases z;exact hb rfl
end
structure Un(fs ex:List Addr)(H H':Hp)(h h':Heap):Prop where
 keep:∀b o,h.get? b=some o->H b=none->b∉fs->b∉ex->h'.get? b=some o
 slot:∀b o,h.get? b=some o->H b=none->b∈fs->b∉ex->∃sl,h'.get? b=some { o with slots:=sl }
 free:∀b o,h.get? b=some o->H b=none->b∉ex->H' b=none
 there:∀b o,h.get? b=some o->b∉ex->∃o',h'.get? b=some o'
 mB:∀b xs,H b=some (.tup xs)->H' b=some (.tup xs)
 kB:∀b o u,H b=some (.gy o u)->H' b=some (.gy o u)
 mz:∀b ps,H b=some (.oy ps)->∃more,H' b=some (.oy (ps++more))
section
variable{fs mN ex ex':List Addr}{H H1 H2:Hp}{h h1 h2 h':Heap}{a x e:Addr}{o:HO}
theorem Un.any(u:Un fs ex H H1 h h1){b:Addr}{ob:Obj}(q:h.get? b=some ob)(n:H b=none)(hx:b∉ex):∃sl,h1.get? b=some { ob with slots:=sl }:=by
 by_cases hb:b∈fs
 ·exact u.slot b ob q n hb hx
 ·exact⟨ob.slots,u.keep b ob q n hb hx⟩
theorem Un.kept(k:∀b u,h.get? b=some u->h'.get? b=some u):Un fs ex H H h h' :=
 ⟨fun b ob q _ _ _=>k b ob q,fun b ob q _ _ _=>⟨ob.slots,k b ob q⟩,fun _ _ _ n _=>n,fun b ob q _=>⟨ob,k b ob q⟩,fun _ _ q=>q,fun _ _ _ q=>q,fun _ ps q=>⟨#[],by rw[q];simp⟩⟩
theorem Un.refl:Un fs ex H H h h:=Un.kept fun _ _ q=>q
theorem Un.laid(k:∀b u,h.get? b=some u->h'.get? b=some u)(hp:h.objs.size<=a)(hn:H a=none):Un fs ex H (upd H a o) h h' where
 keep:=fun b u q _ _ _=>k b u q
 slot:=fun b u q _ _ _=>⟨u.slots,k b u q⟩
 free:=fun b u q n _=>by rw[Zi (bY (cR (aU q) hp))];exact n
 there:=fun b u q _=>⟨u,k b u q⟩
 mB:=fun b xs q=>by rw[Zi (Zo q hn)];exact q
 kB:=fun b u xs q=>by rw[Zi (Zo q hn)];exact q
 mz:=fun b ps q=>⟨#[],by rw[Zi (Zo q hn),q];simp⟩
theorem Un.write(mu:uv (H x))(he:e=x\/H e=some (.own x))(k:∀b u,b≠e->h.get? b=some u->h'.get? b=some u)(sQ:∃u,h'.get? e=some u):Un fs ex H (upd H x o) h h':=by
 have hx:∀b,H b=none->b≠x:=fun b n z=>by subst z;rw[n] at mu;exact mu
 have hb:∀b,H b=none->b≠e:=fun b n z=>by
  subst z;rcases he with r|r
  ·exact hx b n r
  ·rw[n] at r;cases r
 have hm:∀b u,H b=some u -> ¬ uv (some u)->b≠x:=fun b u q nm z=>by subst z;rw[q] at mu;exact nm mu
 refine⟨fun b u q n _ _=>k b u (hb b n) q,fun b u q n _ _=>⟨u.slots,k b u (hb b n) q⟩,fun b u q n _=>by rw[Zi (hx b n)];exact n,fun b u q _=>?_,
  fun b xs q=>by rw[Zi (hm b _ q fun z=>z)];exact q,fun b u xs q=>by rw[Zi (hm b _ q fun z=>z)];exact q,fun b ps q=>⟨#[],by rw[Zi (hm b _ q fun z=>z),q];simp⟩⟩
 by_cases qd:b=e
 ·subst qd;exact sQ
 ·exact⟨u,k b u qd q⟩
end
def AN(h:Heap)(H:Hp):List Addr:=(List.range h.objs.size).filter fun a=>(H a).isSome
def lT(h:Heap)(H:Hp):Heap:=PySem.W.hideAll h (AN h H)
theorem SO(h:Heap)(H:Hp):(lT h H).objs.size=h.objs.size:=PySem.W.hideAll_size _ _
theorem S'{h:Heap}{H:Hp}{b:Addr}{o:Obj}(e:h.get? b=some o)(n:H b=none):(lT h H).get? b=some o :=
 PySem.W.hideAll_get _ e fun hm=>by
  have q:(H b).isSome=true:=(List.mem_filter.mp hm).2;rw[n] at q;simp at q
theorem U5{h:Heap}{H:Hp}{b:Addr}{o:Obj}(e:(lT h H).get? b=some o):h.get? b=some o/\H b=none:=by
 have e':h.get? b=some o:=PySem.W.of_hideAll (AN h H) e;refine⟨e',?_⟩;cases q:H b with
 | none=>rfl
 | some x =>
  have hm:b∈AN h H:=List.mem_filter.mpr ⟨h_.mpr (aU e'),by simp[q]⟩;have z:(lT h H).get? b=none:=PySem.W.hideAll_none (AN h H) hm;rw[z] at e;cases e
structure Mod(K:PySem.W.Frag)(mg:Str->Option Value)(base:Heap):Prop where
 qy:K.In base
 glob:base.Ns mainGlobals mg
 blt:∃mb,base.Ns builtinsNs mb/\∀x:Str,x ≠ "__name__" -> mb x=bootBuiltins x
 nolimit:base.NoLimit
/-- jj context: a P5 body (or a Ih block) running. base: fixed through jj whole law;dk,qV: jj entry;outer: jj frames ZwW slots others may change (a P5 Zxf);stack: all frames AM run;
   ex: Zx0 AM ZwV made ahead of jj entry and are walked here (a Ih);fn: jj names ZwW cells ZwV made at jj entry (a def: all;a Ih block: its own);calm: not within an except Zyb;pn: pins AM Zxl state bears;xe: Zyi is wanted of an exception AM Zx3 jj code -/
structure Cx where
 prog:Program
 w:World
 K:PySem.W.Frag
 mg:Str->Option Value
 base:Heap
 A:Around
 N:List Str
 dk : Shared
 qV : Hp
 env:Env
 outer:List Env
 stack:List Env
 ex:List Addr
 fn:Str->Bool
 calm:Bool
 pn:List (Addr×Obj)
 xe:Value->Shared->Prop
def gX(l:List Env):List Addr:=l.filterMap (·.frame)
abbrev Cx.fs(X:Cx):List Addr:=gX X.outer
def Bs(sc:Scope)(x:Str):Prop:=sc.names.lookup x=some .local\/sc.names.lookup x=some .cell\/sc.names.lookup x=some .free
def Loc(sc:Scope)(x:Str):Prop:=sc.names.lookup x=some .local\/sc.names.lookup x=some .cell
def Look(env:Env)(h:Heap)(m:Str->Option Value)(x:Str)(u:Value):Prop :=
 (env.kindOf x=some .local/\m x=some u)\/((env.kindOf x=some .cell\/env.kindOf x=some .free)/\∃c,env.cells.lookup x=some c/\h.IsCell c (some u))
structure Cx.Ok(X:Cx):Prop where
 mod:Mod X.K X.mg X.base
 kind:X.env.scope.kind=.function
 glob:X.env.globals=mainGlobals
 blt:X.env.builtins=builtinsNs
 above:X.dk.heap.objs.size<=X.env.locals
 inj:∀x y c,X.env.cells.lookup x=some c->X.env.cells.lookup y=some c->x=y
 has:∀x,(X.env.kindOf x=some .cell\/X.env.kindOf x=some .free)->∃c,X.env.cells.lookup x=some c
 lU:∀x c,X.fn x=true->X.env.cells.lookup x=some c->X.dk.heap.objs.size<=c
 hd:X.calm=true->X.A.handled=none
 frames:X.A.frames=some X.stack
 ow:X.stack=X.outer\/(X.stack=X.env::X.outer/\X.env.frame=some X.env.locals)
 nv:∀b∈X.ex,b≠X.env.locals/\∀x c,X.env.cells.lookup x=some c->c≠b
 bs:∀b o,X.base.get? b=some o->X.dk.heap.get? b=some o/\X.qV b=none
 iB:X.base.objs.size<=X.dk.heap.objs.size
 mw:∀b o,X.base.get? b=some o->b∉X.ex
 lW:∀b∈X.ex,b∉X.fs
 fV:X.dk.heap.FunFrames X.base X.outer
 jO:∀b∈X.fs,X.qV b=none
structure Inv(X:Cx)(pins:List (Addr×Obj))(σ : List (Option V))(H:Hp)(s:Shared):Prop where
 ok:X.Ok
 os:s.os=X.dk.os
 bare:AllBare s.gens
 base:Un X.fs X.ex X.qV H X.dk.heap s.heap
 loc:∃m,s.heap.Ns X.env.locals m/\∀(i:Nat)(x:Str)(v:V),X.N[i]?= some x -> σ[i]?= some (some v)->Bs X.env.scope x->∃u,RelV v u/\Look X.env s.heap m x u
 cell:∀x c,X.env.cells.lookup x=some c->∃v,s.heap.IsCell c v
 free:H X.env.locals=none
 fU:∀x c,X.env.cells.lookup x=some c->H c=none
 pin:∀p∈X.pn++pins,s.heap.get? p.1=some p.2/\H p.1=none/\p.1≠X.env.locals/\p.1∉X.fs/\∀v,p.2.data ≠ .cell v
 aq:bF X.prog X.w H s.heap
 len : σ.length=X.N.length
section
variable{X:Cx}{pins:List (Addr×Obj)}{σ : List (Option V)}{H H':Hp}{s:Shared}{h':Heap}
theorem Cx.Ok.Zt1(ok:X.Ok){b:Addr}{o:Obj}(e:X.base.get? b=some o):b∉X.fs:=fun hb=>by
 have:=(ok.fV.mem hb).1;rw[e] at this;cases this
theorem Inv.bs(I:Inv X pins σ H s):∀b o,X.base.get? b=some o->s.heap.get? b=some o/\H b=none:=fun b o e =>
 ⟨I.base.keep b o (I.ok.bs b o e).1 (I.ok.bs b o e).2 (I.ok.Zt1 e) (I.ok.mw b o e),I.base.free b o (I.ok.bs b o e).1 (I.ok.bs b o e).2 (I.ok.mw b o e)⟩
theorem Inv.bk(I:Inv X pins σ H s):∀b o,X.base.get? b=some o->s.heap.get? b=some o:=fun b o e=>(I.bs b o e).1
theorem Inv.mod(I:Inv X pins σ H s):Mod X.K X.mg X.base:=I.ok.mod
theorem Inv.bI(I:Inv X pins σ H s):X.K.In s.heap:=I.ok.mod.qy.keeps I.bk
theorem Inv.lt(I:Inv X pins σ H s):X.env.locals<s.heap.objs.size:=let ⟨_,hn,_⟩:=I.loc;hn.lt
theorem Inv.sz(I:Inv X pins σ H s):X.dk.heap.objs.size<=s.heap.objs.size:=cZ I.ok.above (lh I.lt)
theorem Inv.Zt2(I:Inv X pins σ H s){a:Addr}(h:s.heap.objs.size<=a):a∉X.fs:=fun hb=>by
 obtain⟨_,o,ho,_⟩:=I.ok.fV.mem hb;exact absurd (cR (aU ho) (cZ I.sz h)) (gO _)
theorem Inv.jK(I:Inv X pins σ H s):∀x c,X.env.cells.lookup x=some c->c≠X.env.locals:=fun x c e z=>by
 obtain⟨v,o,ho,hd⟩:=I.cell x c e;obtain⟨m,⟨o',es,ep,cp,gh,_⟩,_⟩:=I.loc;rw[z,cp] at ho;cases ho;rw[gh] at hd;cases hd
theorem Inv.fV(I:Inv X pins σ H s):s.heap.FunFrames X.base X.outer:=by
 have all:∀(l:List Env),(∀b∈gX l,b∈X.fs)->X.dk.heap.FunFrames X.base l->s.heap.FunFrames X.base l:=by
  intro l
  induction l with
  | nil=>intro _ _;trivial
  | cons env r ih =>
   intro hs hl;obtain⟨hk,⟨L,o,hf,hn,ho,hd⟩,hr⟩:=hl;have hL:L∈X.fs:=hs L (by unfold gX;rw[List.filterMap_cons,hf];exact bb);obtain⟨sl,e⟩:=I.base.slot L o ho (I.ok.jO L hL) hL fun z=>I.ok.lW L z hL;exact⟨hk,⟨L,_,hf,hn,e,hd⟩,ih (fun b hb=>hs b (by unfold gX;rw[List.filterMap_cons,hf];exact aX _ hb)) hr⟩
 exact all X.outer (fun _ hb=>hb) I.ok.fV
theorem Inv.stack(I:Inv X pins σ H s):s.heap.FunFrames X.base X.stack:=by
 rcases I.ok.ow with e|⟨e,hf⟩
 ·rw[e];exact I.fV
 ·rw[e];obtain⟨m,hn,_⟩:=I.loc;refine .cons (by rw[I.ok.kind];decide) hf hn ?_ I.fV;exact Heap.get?_none_of_le (cZ I.ok.iB I.ok.above)
theorem Inv.Hi(I:Inv X pins σ H s):∀b∈gX X.stack,b∈X.env.locals::X.fs:=fun b hb=>by
 rcases I.ok.ow with e|⟨e,hf⟩
 ·rw[e] at hb;exact aX _ hb
 ·rw[e] at hb;unfold gX at hb;rw[List.filterMap_cons,hf] at hb;exact hb
theorem Inv.Hh(I:Inv X pins σ H s):∀b∈gX X.stack,H b=none:=fun b hb=>by
 rcases aH.mp (I.Hi b hb) with e|hb
 ·rw[e];exact I.free
 ·obtain⟨_,o,ho,_⟩:=I.ok.fV.mem hb;exact I.base.free b o ho (I.ok.jO b hb) fun z=>I.ok.lW b z hb
theorem Inv.step{g':Array GenState}{t':Nat}{d':Drawn}{ch:List Addr}(I:Inv X pins σ H s)
  (kF:∀b∈ch,(b∈X.ex\/X.dk.heap.objs.size<=b)/\b≠X.env.locals/\(∀x c,X.env.cells.lookup x=some c->c≠b)/\∀p∈X.pn++pins,p.1≠b)
  (keep:∀b o,b≠X.env.locals->b∉X.fs->b∉ch->s.heap.get? b=some o->H b=none->h'.get? b=some o)
  (slot:∀b o,b≠X.env.locals->b∈X.fs->b∉ch->s.heap.get? b=some o->H b=none->∃sl,h'.get? b=some { o with slots:=sl }) (free:∀b o,b∉ch->s.heap.get? b=some o->H b=none->H' b=none)
  (there:∀b o,b∉ch->s.heap.get? b=some o->∃o',h'.get? b=some o')
  (mB:∀b xs,H b=some (.tup xs)->H' b=some (.tup xs)) (kB:∀b o u,H b=some (.gy o u)->H' b=some (.gy o u)) (mz:∀b ps,H b=some (.oy ps)->∃more,H' b=some (.oy (ps++more)))
  (ns:∀m,s.heap.Ns X.env.locals m->h'.Ns X.env.locals m) (aq:bF X.prog X.w H' h') (hg:AllBare g') :
  Inv X pins σ H' { s with heap:=h',gens:=g',drawn:=d',toks:=t' }:=by
 have Pf:∀b o,X.dk.heap.get? b=some o->b≠X.env.locals:=fun b o e=>bY (cR (aU e) I.ok.above);have Ay:∀b o,X.dk.heap.get? b=some o->b∉X.ex->b∉ch:=fun b o e hx hb=>by
  rcases(kF b hb).1 with z|z
  ·exact hx z
  ·exact absurd (cR (aU e) z) (gO _)
 have cellK:∀x c,X.env.cells.lookup x=some c->∀v,s.heap.IsCell c v->h'.IsCell c v:=fun x c e v ⟨o,ho,hd⟩=>by
  have wG:c∉ch:=fun z=>(kF c z).2.2.1 x c e rfl;by_cases hc:c∈X.fs
  ·obtain⟨sl,q⟩:=slot c o (I.jK x c e) hc wG ho (I.fU x c e);exact⟨_,q,hd⟩
  ·exact⟨o,keep c o (I.jK x c e) hc wG ho (I.fU x c e),hd⟩
 refine⟨I.ok,I.os,hg,⟨fun b o e n hb hx=>?_,fun b o e n hb hx=>?_,fun b o e n hx=>?_,fun b o e hx=>?_,fun b xs e=>mB b xs (I.base.mB b xs e),fun b o xs e=>kB b o xs (I.base.kB b o xs e),fun b ps e=>?_⟩,?_,fun x c e=>?_,?_,fun x c e=>?_,fun p hp=>?_,aq,I.len⟩
 ·exact keep b o (Pf b o e) hb (Ay b o e hx) (I.base.keep b o e n hb hx) (I.base.free b o e n hx)
 ·obtain⟨sl,e1⟩:=I.base.slot b o e n hb hx;obtain⟨xC,e2⟩:=slot b _ (Pf b o e) hb (Ay b o e hx) e1 (I.base.free b o e n hx);exact⟨xC,e2⟩
 ·obtain⟨o',e1⟩:=I.base.there b o e hx;exact free b o' (Ay b o e hx) e1 (I.base.free b o e n hx)
 ·obtain⟨o',e1⟩:=I.base.there b o e hx;exact there b o' (Ay b o e hx) e1
 ·obtain⟨m1,e1⟩:=I.base.mz b ps e;obtain⟨m2,e2⟩:=mz b _ e1;exact⟨m1++m2,by rw[e2,Array.append_assoc]⟩
 ·obtain⟨m,hn,hl⟩:=I.loc;refine⟨m,ns m hn,fun i x v e1 e2 e3=>?_⟩;obtain⟨u,r,l⟩:=hl i x v e1 e2 e3;refine⟨u,r,?_⟩;rcases l with l|⟨k,c,e,z⟩
  ·exact .inl l
  ·exact .inr ⟨k,c,e,cellK x c e _ z⟩
 ·obtain⟨v,z⟩:=I.cell x c e;exact⟨v,cellK x c e v z⟩
 ·obtain⟨m,⟨o,_,_,ho,_⟩,_⟩:=I.loc;exact free _ o (fun z=>(kF _ z).2.1 rfl) ho I.free
 ·obtain⟨v,o,ho,hd⟩:=I.cell x c e;exact free c o (fun z=>(kF c z).2.2.1 x c e rfl) ho (I.fU x c e)
 ·obtain⟨e,n,ne,nf,d⟩:=I.pin p hp;have wG:p.1∉ch:=fun z=>(kF p.1 z).2.2.2 p hp rfl;exact⟨keep p.1 p.2 ne nf wG e n,free p.1 p.2 wG e n,ne,nf,d⟩
theorem Inv.un{t':Nat}(I:Inv X pins σ H s)(u:Un X.fs [] H H' s.heap h')(aq:bF X.prog X.w H' h'):Inv X pins σ H' { s with heap:=h',toks:=t' }:=by
 obtain⟨m,⟨o,es,ep,ho,r⟩,_⟩:=id I.loc;obtain⟨sl,hL⟩:=u.any ho I.free (by simp);exact I.step (g':=s.gens) (d':=s.drawn) (ch:=[]) (fun _ z=>nomatch z) (fun b o _ hb _ e n=>u.keep b o e n hb (by simp)) (fun b o _ hb _ e n=>u.slot b o e n hb (by simp)) (fun b o _ e n=>u.free b o e n (by simp)) (fun b o _ e=>u.there b o e (by simp)) u.mB u.kB u.mz (fun m' hm=>by
  obtain⟨o',c_,ly,cp,r'⟩:=hm;rw[ho] at cp;cases cp;exact⟨_,c_,ly,hL,r'⟩) aq I.bare
theorem Inv.call{g':Array GenState}{t':Nat}{d':Drawn}{ch:List Addr}(I:Inv X pins σ H s)(u:Un (gX X.stack) ch H H' s.heap h')(aq:bF X.prog X.w H' h')(hg:AllBare g')
  (kF:∀b∈ch,(b∈X.ex\/X.dk.heap.objs.size<=b)/\b≠X.env.locals/\(∀x c,X.env.cells.lookup x=some c->c≠b)/\∀p∈X.pn++pins,p.1≠b) :
  Inv X pins σ H' { s with heap:=h',gens:=g',drawn:=d',toks:=t' }:=by
 obtain⟨m,⟨o,es,ep,ho,r⟩,_⟩:=id I.loc;obtain⟨sl,hL⟩:=u.any ho I.free fun z=>(kF _ z).2.1 rfl;exact I.step (ch:=ch) kF (fun b o hL hb hc e n=>u.keep b o e n (fun z=>(aH.mp (I.Hi b z)).elim hL hb) hc) (fun b o _ _ hc e n=>u.any e n hc) (fun b o hc e n=>u.free b o e n hc) (fun b o hc e=>u.there b o e hc) u.mB u.kB u.mz (fun m' hm=>by
  obtain⟨o',c_,ly,cp,r'⟩:=hm;rw[ho] at cp;cases cp;exact⟨_,c_,ly,hL,r'⟩) aq hg
theorem Inv.turned{t':Nat}{it:Addr}(I:Inv X pins σ H s)(k:∀b o,b≠it->s.heap.get? b=some o->h'.get? b=some o)(hn:H it=none)(hL:it≠X.env.locals)
  (h1:it∈X.ex\/X.dk.heap.objs.size<=it) (h2:∀x c,X.env.cells.lookup x=some c->c≠it) (h3:∀p∈X.pn++pins,p.1≠it):Inv X pins σ H { s with heap:=h',toks:=t' }:=by
 have Pg:∀b u,H b=some u->b≠it:=fun b u e z=>by rw[z,hn] at e;cases e
 refine I.step (g':=s.gens) (d':=s.drawn) (ch:=[it]) (fun b hb=>?_) (fun b o _ _ hc e _=>k b o (fun z=>hc (by simp[z])) e) (fun b o _ _ hc e _=>⟨o.slots,k b o (fun z=>hc (by simp[z])) e⟩) (fun _ _ _ _ n=>n)
  (fun b o hc e=>⟨o,k b o (fun z=>hc (by simp[z])) e⟩) (fun _ _ e=>e) (fun _ _ _ e=>e) (fun b ps e=>⟨#[],by rw[e];simp⟩) (fun m hm=>?_) (fun b u e=>?_) I.bare
 ·have e:b=it:=by simpa using hb
  subst e;exact⟨h1,hL,h2,h3⟩
 ·obtain⟨o,es,ep,ho,r⟩:=hm;exact⟨o,es,ep,k _ o (fH hL) ho,r⟩
 ·refine(I.aq b u e).ou (fun c v hc q=>k c v ?_ q) (fun _ q=>q) fun _ _ q=>q;rcases hc with z|z
  ·rw[z];exact Pg b u e
  ·exact Pg c _ z
theorem Inv.tok(I:Inv X pins σ H s)(t:Nat):Inv X pins σ H { s with toks:=t }:=I.un (h':=s.heap) (t':=t) Un.refl I.aq
theorem Inv.kept{t':Nat}(I:Inv X pins σ H s)(k:∀b u,s.heap.get? b=some u->h'.get? b=some u):Inv X pins σ H { s with heap:=h',toks:=t' }:=I.un (Un.kept k) (I.aq.kept k)
theorem Inv.laid{a:Addr}{o:HO}{t':Nat}(I:Inv X pins σ H s)(k:∀b u,s.heap.get? b=some u->h'.get? b=some u)(hp:s.heap.objs.size<=a)(new:bM X.prog X.w (upd H a o) h' a o) :
  Inv X pins σ (upd H a o) { s with heap:=h',toks:=t' }:=I.un (Un.laid k hp (I.aq.fresh hp)) (I.aq.laid k hp new)
theorem Inv.write{x e:Addr}{o:HO}{t':Nat}(I:Inv X pins σ H s)(mu:uv (H x))(he:e=x\/H e=some (.own x))(k:∀b u,b≠e->s.heap.get? b=some u->h'.get? b=some u)(sQ:∃u,h'.get? e=some u)
  (new:bM X.prog X.w (upd H x o) h' x o):Inv X pins σ (upd H x o) { s with heap:=h',toks:=t' }:=I.un (Un.write mu he k sQ) (I.aq.write mu he k sQ new)
theorem Inv.AE{o9:List (Addr×Obj)}(I:Inv X pins σ H s)(h:∀p∈o9,s.heap.get? p.1=some p.2/\H p.1=none/\p.1≠X.env.locals/\p.1∉X.fs/\∀v,p.2.data ≠ .cell v):Inv X o9 σ H s :=
 ⟨I.ok,I.os,I.bare,I.base,I.loc,I.cell,I.free,I.fU,fun p hp=>(bL.mp hp).elim (fun z=>I.pin p (oG _ z)) (h p),I.aq,I.len⟩
theorem BU{N:List Str}(hN:N.Nodup){i j:Nat}{x:Str}(a:N[i]?= some x)(b:N[j]?= some x):i=j:=by
 obtain⟨h1,e1⟩:=cB.mp a;obtain⟨h2,e2⟩:=cB.mp b;exact(List.getElem_inj hN).mp (e1.trans e2.symm)
theorem J8{M:Model}{A:Around}{E:Value->Shared->Prop}{i:Nat}{x:Str}{v:V}{u:Value}{Q:Unit->Shared->Prop}(I:Inv X pins σ H s)(hN:X.N.Nodup)(hi:X.N[i]?= some x)(hx:Loc X.env.scope x)(r:RelV v u)
  (h:∀s',Inv X pins (σ.set i (some v)) H s'->(∃a,Heap.SameBut a s.heap s'.heap/\(a=X.env.locals\/X.env.cells.lookup x=some a))->Q () s') (hf:X.fn x=true\/X.env.scope.names.lookup x=some .local:=by first|exact .inl rfl|exact .inr rfl|assumption):wpAny M A (storeName X.env x u) Q E s:=by
 obtain⟨m,hn,hl⟩:=id I.loc;have zu:(X.env.scope.kind ==.class || (X.env.scope.kind ==.module&&X.env.locals != X.env.globals))=false:=by rw[I.ok.kind];rfl
 have Of : i < σ.length:=by rw[I.len];exact(cB.mp hi).1
 have jK:=I.jK;have tracked:∀{a:Addr}{h':Heap},(∃o,s.heap.get? a=some o/\H a=none)->Heap.SameBut a s.heap h'->bF X.prog X.w H h':=fun{a h'} ha hs b ob e=>by
  obtain⟨_,_,zA⟩:=ha;refine(I.aq b ob e).ou (fun c w' hc q=>(hs.2 c ?_).trans q) (fun _ q=>q) fun _ _ q=>q;rintro rfl;rcases hc with rfl|hc
  ·rw[zA] at e;cases e
  ·rw[zA] at hc;cases hc
 rcases hx with hk|hk
 ·refine wpAny_storeName_local hk hn (fun h' Be hs=>?_) zu;obtain⟨oL,_,_,qj,_⟩:=id hn;refine h _ ⟨I.ok,I.os,I.bare,⟨fun b o e n hb hx=>?_,fun b o e n hb hx=>?_,I.base.free,fun b o e hx=>?_,I.base.mB,I.base.kB,I.base.mz⟩,⟨_,Be,fun j y v' e1 e2 e3=>?_⟩,fun y c e=>?_,I.free,I.fU,fun p hp=>?_,tracked ⟨oL,qj,I.free⟩ hs,by simpa using I.len⟩ ⟨_,hs,.inl rfl⟩
  ·exact(hs.2 b (bY (cR (aU e) I.ok.above))).trans (I.base.keep b o e n hb hx)
  ·obtain⟨sl,e1⟩:=I.base.slot b o e n hb hx;exact⟨sl,(hs.2 b (bY (cR (aU e) I.ok.above))).trans e1⟩
  ·obtain⟨o',e1⟩:=I.base.there b o e hx;exact⟨o',(hs.2 b (bY (cR (aU e) I.ok.above))).trans e1⟩
  ·by_cases hj:j=i
   ·subst hj;rw[hi] at e1;cases e1;rw[List.getElem?_set_self Of] at e2;cases e2;exact⟨u,r,.inl ⟨hk,by simp⟩⟩
   ·rw[List.getElem?_set_ne (fH hj)] at e2;obtain⟨u',r',q⟩:=hl j y v' e1 e2 e3;refine⟨u',r',?_⟩;rcases q with⟨k,e⟩|⟨k,c,e,z⟩
    ·refine .inl ⟨k,?_⟩;have:y≠x:=fun e=>hj (BU hN e1 (e ▸ hi));simp[this,e]
    ·exact .inr ⟨k,c,e,z.sameBut hs (jK y c e)⟩
  ·obtain⟨w',z⟩:=I.cell y c e;exact⟨w',z.sameBut hs (jK y c e)⟩
  ·obtain⟨e,n,ne,nf,d⟩:=I.pin p hp;exact⟨(hs.2 p.1 ne).trans e,n,ne,nf,d⟩
 ·have FF:X.fn x=true:=by
   rcases hf with z|z
   ·exact z
   ·rw[z] at hk;cases hk
  obtain⟨c,hc⟩:=I.ok.has x (.inl hk);obtain⟨w',z⟩:=I.cell x c hc;refine wpAny_storeName_cell I.ok.kind hk hc z (fun h' qU hs=>?_);obtain⟨oc,OA,ZrK⟩:=id z;refine h { s with heap:=h' } ⟨I.ok,I.os,I.bare,⟨fun b o e n hb hx=>?_,fun b o e n hb hx=>?_,I.base.free,fun b o e hx=>?_,I.base.mB,I.base.kB,I.base.mz⟩,⟨m,hn.sameBut hs (fH (jK x c hc)),fun j y v' e1 e2 e3=>?_⟩,fun y c' e=>?_,I.free,I.fU,fun p hp=>?_,tracked ⟨oc,OA,I.fU x c hc⟩ hs,by simpa using I.len⟩ ⟨c,hs,.inr hc⟩
  ·exact(hs.2 b (bY (cR (aU e) (I.ok.lU x c FF hc)))).trans (I.base.keep b o e n hb hx)
  ·obtain⟨sl,e1⟩:=I.base.slot b o e n hb hx;exact⟨sl,(hs.2 b (bY (cR (aU e) (I.ok.lU x c FF hc)))).trans e1⟩
  ·obtain⟨o',e1⟩:=I.base.there b o e hx;exact⟨o',(hs.2 b (bY (cR (aU e) (I.ok.lU x c FF hc)))).trans e1⟩
  ·by_cases hj:j=i
   ·subst hj;rw[hi] at e1;cases e1;rw[List.getElem?_set_self Of] at e2;cases e2;exact⟨u,r,.inr ⟨.inl hk,c,hc,qU⟩⟩
   ·rw[List.getElem?_set_ne (fH hj)] at e2;obtain⟨u',r',q⟩:=hl j y v' e1 e2 e3;refine⟨u',r',?_⟩;rcases q with q|⟨k,c',e,z'⟩
    ·exact .inl q
    ·refine .inr ⟨k,c',e,z'.sameBut hs ?_⟩;rintro rfl;exact hj (BU hN e1 (I.ok.inj _ _ _ e hc ▸ hi))
  ·by_cases N3:c'=c
   ·subst N3;exact⟨_,qU⟩
   ·obtain⟨w2,z2⟩:=I.cell y c' e;exact⟨w2,z2.sameBut hs N3⟩
  ·obtain⟨e,n,ne,nf,d⟩:=I.pin p hp;refine⟨(hs.2 p.1 ?_).trans e,n,ne,nf,d⟩;intro q;rw[q,OA] at e;have q':oc=p.2:=dm e;exact d w' (by rw[<- q'];exact ZrK)
theorem B3{M:Model}{A:Around}{E:Value->Shared->Prop}{i:Nat}{x:Str}{v:V}{u:Value}{Q:Unit->Shared->Prop}(I:Inv X pins σ H s)(hN:X.N.Nodup)(hi:X.N[i]?= some x)(hx:Loc X.env.scope x)(r:RelV v u)
  (h:∀s',Inv X pins (σ.set i (some v)) H s'->Q () s') (hf:X.fn x=true\/X.env.scope.names.lookup x=some .local:=by first|exact .inl rfl|exact .inr rfl|assumption):wpAny M A (storeName X.env x u) Q E s :=
 J8 I hN hi hx r (fun s' I' _=>h s' I') hf
theorem Inv.A9{s':Shared}{ch:List Addr}(I:Inv X pins σ H s)(ho:s'.os=s.os)(u:Un (gX X.stack) ch H H' s.heap s'.heap)(aq:bF X.prog X.w H' s'.heap)(hg:AllBare s'.gens)
  (kF:∀b∈ch,(b∈X.ex\/X.dk.heap.objs.size<=b)/\b≠X.env.locals/\(∀x c,X.env.cells.lookup x=some c->c≠b)/\∀p∈X.pn++pins,p.1≠b):Inv X pins σ H' s':=by
 obtain⟨h',g',d',t',o'⟩:=s';have e:o'=s.os:=ho;subst e;exact I.call (g':=g') (t':=t') (d':=d') u aq hg kF
end
abbrev XK:=Value->Option Addr->Hp->Prop
abbrev St:=List (Option V)
abbrev VK:=V->Hp->Prop
abbrev TE:=St->Hp->VK->Prop
abbrev TT:=St->Hp->(Bool->Hp->Prop)->Prop
abbrev TA:=St->Hp->(List V->Hp->Prop)->Prop
structure Ends where
 nx:St->Hp->Prop
 rt:VK
 bk:St->Hp->Prop:=fun _ _=>False
 ct:St->Hp->Prop:=fun _ _=>False
abbrev TS:=Ends->St->Hp->Prop
def EP(X:Cx)(pins:List (Addr×Obj))(σ : St)(Q:VK)(u:Value)(s':Shared):Prop := ∃v H',Inv X pins σ H' s'/\RelV v u/\Q v H'
def TP(X:Cx)(pins:List (Addr×Obj))(σ : St)(Q:Bool->Hp->Prop)(b:Bool)(s':Shared):Prop := ∃H',Inv X pins σ H' s'/\Q b H'
def AP(X:Cx)(pins:List (Addr×Obj))(σ : St)(Q:List V->Hp->Prop)(us:List Value)(s':Shared):Prop := ∃vs H',Inv X pins σ H' s'/\Vals vs us/\Q vs H'
def SP(X:Cx)(pins:List (Addr×Obj))(D:Ends)(f:Flow)(s':Shared):Prop :=
 match f with
 | .next=>∃ ao H',Inv X pins ao H' s'/\D.nx ao H'
 | .brk=>∃ ao H',Inv X pins ao H' s'/\D.bk ao H'
 | .cont=>∃ ao H',Inv X pins ao H' s'/\D.ct ao H'
 | .ret u=>∃v ao H',Inv X pins ao H' s'/\RelV v u/\D.rt v H'
def PE(X:Cx)(e:Expr)(t:TE):Prop :=
 ∀(pins:List (Addr×Obj))(s:Shared)(σ : St)(H:Hp)(Q:VK),Inv X pins σ H s->t σ H Q->wpAny (model X.prog X.w) X.A (eval e X.env) (EP X pins σ Q) X.xe s
def PT(X:Cx)(e:Expr)(t:TT):Prop :=
 ∀(pins:List (Addr×Obj))(s:Shared)(σ : St)(H:Hp)(Q:Bool->Hp->Prop),Inv X pins σ H s->t σ H Q->wpAny (model X.prog X.w) X.A (isTrue e X.env (eval e X.env)) (TP X pins σ Q) X.xe s
def PW(X:Cx)(e:Expr)(t:TT):Prop :=
 ∀(whole:Sem Value)(pins:List (Addr×Obj))(s:Shared)(σ : St)(H:Hp)(Q:Bool->Hp->Prop),Inv X pins σ H s->t σ H Q->wpAny (model X.prog X.w) X.A (isTrue e X.env whole) (TP X pins σ Q) X.xe s
theorem PW.pt{X:Cx}{e:Expr}{t:TT}(h:PW X e t):PT X e t:=h _
def PA(X:Cx)(es:List Expr)(t:TA):Prop :=
 ∀(pos:Pos)(pins:List (Addr×Obj))(s:Shared)(σ : St)(H:Hp)(Q:List V->Hp->Prop),Inv X pins σ H s->t σ H Q->wpAny (model X.prog X.w) X.A (spliced (backTo pos (starEach es X.env))) (AP X pins σ Q) X.xe s
def PS(X:Cx)(st:Stmt)(t:TS):Prop :=
 ∀(pins:List (Addr×Obj))(s:Shared)(σ : St)(H:Hp)(D:Ends),Inv X pins σ H s->t D σ H->wpAny (model X.prog X.w) X.A (exec st X.env) (SP X pins D) X.xe s
def cK(X:Cx)(st:List Stmt)(t:TS):Prop :=
 ∀(pins:List (Addr×Obj))(s:Shared)(σ : St)(H:Hp)(D:Ends),Inv X pins σ H s->t D σ H->wpAny (model X.prog X.w) X.A (execs st X.env) (SP X pins D) X.xe s
theorem aw{α : Type}{t:Sem α}{Q Q' : α -> Shared->Prop}{M:Model}{A:Around}{E:Value->Shared->Prop}{s:Shared}(h:wpAny M A t Q E s)(hQ:∀a s,Q a s->Q' a s):wpAny M A t Q' E s:=eJ h hQ fun _ _ x=>x
section
variable{X:Cx}
def vi(i:Nat):TE:=fun σ H Q=>∃v,σ[i]?= some (some v)/\Q v H
def tC(v:V):TE:=fun _ H Q=>Q v H
theorem Vs{i:Nat}{x:Str}{pos:Pos}(hN:X.N[i]?= some x)(hv:Bs X.env.scope x)(hd:(x == ("__debug__" : Str))=false:=by decide) (cX:(x == ("__classdict__" : Str))=false:=by decide):PE X (.Name x pos) (vi i):=by
 intro pins s σ H Q I h;obtain⟨v,e,h⟩:=h;obtain⟨m,hn,hl⟩:=I.loc;obtain⟨u,r,l⟩:=hl i x v hN e hv;have fin:EP X pins σ Q u s:=⟨v,H,I,r,h⟩;rcases l with⟨hk,hm⟩|⟨hk,c,hc,nJ⟩
 ·exact wpAny_Name (wpAny_loadName_local I.ok.kind hk hn hm fin) hd
 ·rcases hk with hk|hk
  ·exact wpAny_Name (wpAny_loadName_cell I.ok.kind hk hc nJ fin) hd
  ·exact wpAny_Name (wpAny_loadName_free I.ok.kind hk hc nJ fin cX) hd
theorem Zg{i j pos}:PE X (.Constant (.int i) j pos) (tC (.int i)):=fun _ _ _ H _ I h=>wpAny_Constant_int ⟨.int i,H,I.tok _,⟨_,rfl⟩,h⟩
theorem ku{b j pos}:PE X (.Constant (.bool b) j pos) (tC (.bl b)):=fun _ _ _ H _ I h=>Constant_bool ⟨.bl b,H,I,rfl,h⟩
theorem gp{j pos}:PE X (.Constant .none j pos) (tC .aE):=fun _ _ _ H _ I h=>Constant_none ⟨.aE,H,I,rfl,h⟩
theorem Zm{x j pos}:PE X (.Constant (.str x) j pos) (tC (.str x)):=fun _ _ _ H _ I h=>Calls.Constant_str ⟨.str x,H,I.tok _,⟨_,rfl⟩,h⟩
def Gl(X:Cx)(x:Str):Prop:=X.env.kindOf x=some .globalImplicit
theorem uJ{E:Value->Shared->Prop}{pins:List (Addr×Obj)}{s:Shared}{σ : St}{H:Hp}{x:Str}{u:Value}{pos:Pos}{Q:Value->Shared->Prop}(I:Inv X pins σ H s)(hg:Gl X x)(hm:X.mg x=some u)(h:Q u s)
  (hd:(x == ("__debug__" : Str))=false:=by decide):wpAny (model X.prog X.w) X.A (eval (.Name x pos) X.env) Q E s :=
 Calls.Name_function_global I.ok.kind hg (Calls.loadGlobal_global (by rw[I.ok.glob];exact I.mod.glob.keeps I.bk) hm h) hd
theorem lR{E:Value->Shared->Prop}{pins:List (Addr×Obj)}{s:Shared}{σ : St}{H:Hp}{x:Str}{u:Value}{pos:Pos}{Q:Value->Shared->Prop}(I:Inv X pins σ H s)(hg:Gl X x)(hm:X.mg x=none)(hv:bootBuiltins x=some u)(h:Q u s)
  (hn:x ≠ "__name__" := by decide) (hd:(x == ("__debug__" : Str))=false:=by decide):wpAny (model X.prog X.w) X.A (eval (.Name x pos) X.env) Q E s:=by
 obtain⟨mb,h1,h2⟩:=I.mod.blt;exact Calls.Name_function_global I.ok.kind hg (Calls.loadGlobal_builtin (by rw[I.ok.glob];exact I.mod.glob.keeps I.bk) hm (by rw[I.ok.blt];exact h1.keeps I.bk) ((h2 x hn).trans hv) h) hd
theorem fv{x:Str}{v:V}{u:Value}{pos:Pos}(hg:Gl X x)(hm:X.mg x=some u)(r:RelV v u)(hd:(x == ("__debug__" : Str))=false:=by decide):PE X (.Name x pos) (tC v) :=
 fun _ _ _ H _ I h=>uJ I hg hm ⟨v,H,I,r,h⟩ hd
theorem U2{x:Str}{v:V}{u:Value}{pos:Pos}(hg:Gl X x)(hm:X.mg x=none)(hv:bootBuiltins x=some u)(r:RelV v u)(hn:x ≠ "__name__" := by decide) (hd:(x == ("__debug__" : Str))=false:=by decide):PE X (.Name x pos) (tC v) :=
 fun _ _ _ H _ I h=>lR I hg hm hv ⟨v,H,I,r,h⟩ hn hd
variable{a b:Expr}{ta tb:TE}{pos:Pos}
variable{tA xD:TT}{rest:List Expr}
def WD(t u:TT):TT:=fun σ H Q=>t σ H fun c H1=>if c=true then u σ H1 Q else Q false H1
def tOr(t u:TT):TT:=fun σ H Q=>t σ H fun c H1=>if c=true then Q true H1 else u σ H1 Q
def Wz(t:TT):TT:=fun σ H Q=>t σ H fun c H1=>Q (!c) H1
theorem kq(ha:PT X a tA):PW X (.BoolOp .And [a] pos) tA:=by
 intro wh pins s σ H Q I h;refine isTrue_and (aw (ha pins s σ H Q I h) fun c s1 e=>?_);cases c with
 | true=>exact isTrue_and_nil e
 | false=>exact e
theorem lO(ha:PT X a tA):PW X (.BoolOp .Or [a] pos) tA:=by
 intro wh pins s σ H Q I h;refine isTrue_or (aw (ha pins s σ H Q I h) fun c s1 e=>?_);cases c with
 | false=>exact isTrue_or_nil e
 | true=>exact e
theorem jx(ha:PT X a tA)(hb:PW X (.BoolOp .And (b::rest) pos) xD):PW X (.BoolOp .And (a::b::rest) pos) (WD tA xD):=by
 intro wh pins s σ H Q I h;refine isTrue_and (aw (ha pins s σ H _ I h) fun c s1 ⟨H1,I1,q1⟩=>?_);cases c with
 | true=>exact hb wh pins s1 σ H1 Q I1 q1
 | false=>exact⟨H1,I1,q1⟩
theorem jF(ha:PT X a tA)(hb:PW X (.BoolOp .Or (b::rest) pos) xD):PW X (.BoolOp .Or (a::b::rest) pos) (tOr tA xD):=by
 intro wh pins s σ H Q I h;refine isTrue_or (aw (ha pins s σ H _ I h) fun c s1 ⟨H1,I1,q1⟩=>?_);cases c with
 | true=>exact⟨H1,I1,q1⟩
 | false=>exact hb wh pins s1 σ H1 Q I1 q1
theorem jB(ha:PT X a tA):PT X (.UnaryOp .Not a pos) (Wz tA):=by
 intro pins s σ H Q I h;exact isTrue_not (ha pins s σ H (fun c H1=>Q (!c) H1) I h)
def VY(ta tb:TE):TE:=fun σ H Q=>ta σ H fun x H1=>∃c,x=.bl c/\if c=true then tb σ H1 Q else Q (.bl false) H1
def We(ta:TE):TE:=fun σ H Q=>ta σ H fun x H1=>∃c,x=.bl c/\Q (.bl (!c)) H1
theorem uR{op}{t:TE}(h:PE X a t):PE X (.BoolOp op [a] pos) t:=fun pins s σ H Q I hw=>BoolOp_one (h pins s σ H Q I hw)
theorem r6(ha:PE X a ta)(hb:PE X (.BoolOp .And (b::rest) pos) tb):PE X (.BoolOp .And (a::b::rest) pos) (VY ta tb):=by
 intro pins s σ H Q I h;refine BoolOp_and (aw (ha pins s σ H _ I h) fun v s1 ⟨x,H1,I1,r1,q1⟩=>?_);obtain⟨c,rfl,q1⟩:=q1;cases r1;refine mJ ?_;cases c with
 | true=>exact hb pins s1 σ H1 Q I1 q1
 | false=>exact⟨.bl false,H1,I1,rfl,q1⟩
theorem Vn(ha:PE X a ta):PE X (.UnaryOp .Not a pos) (We ta):=by
 intro pins s σ H Q I h;refine UnaryOp_ (aw (ha pins s σ H _ I h) fun v s1 ⟨x,H1,I1,r1,q1⟩=>?_);obtain⟨c,rfl,q1⟩:=q1;cases r1;exact not_of (mJ ⟨.bl (!c),H1,I1,rfl,q1⟩)
def tIf(t:TT)(ta tb:TE):TE:=fun σ H Q=>t σ H fun c H1=>if c=true then ta σ H1 Q else tb σ H1 Q
theorem TC{c:Expr}(hc:PT X c tA)(ha:PE X a ta)(hb:PE X b tb):PE X (.IfExp c a b pos) (tIf tA ta tb):=by
 intro pins s σ H Q I h;refine wpAny_IfExp (aw (hc pins s σ H _ I h) fun d s1 ⟨H1,I1,q1⟩=>?_);cases d with
 | true=>exact ha pins s1 σ H1 Q I1 q1
 | false=>exact hb pins s1 σ H1 Q I1 q1
end
def ak(K:PySem.W.Frag)(H:Hp)(a:Addr)(xs:List V):Prop :=
 Rd H a (.lst xs) \/
  ∃(o:Obj)(its:Array Value)(n:Nat),K.lookup a=some o/\o.cls=.type "list" /\ o.dict=none/\o.data=.seq its n/\its.size<=sizeLine/\Vals xs its.toList
def aM(K:PySem.W.Frag)(H:Hp)(a:Addr)(xs:List V):Prop :=
 Rd H a (.tup xs) \/
  ∃(o:Obj)(its:Array Value)(n:Nat),K.lookup a=some o/\o.cls=.type "tuple" /\ o.data=.seq its n/\its.size<=sizeLine/\Vals xs its.toList
def Wk:Value->Option V
 | .none=>some .aE
 | .bool b=>some (.bl b)
 | .int i _=>some (.int i)
 | .str x _=>some (.str x)
 | .bytes b _=>some (.gV b)
 | .float b _=>some (.pV b)
 | .ref a=>some (.ref a)
 | .type n=>some (.ty n)
 | _=>none
theorem RelV.abs{x:V}{u:Value}(r:RelV x u):Wk u=some x:=by
 cases x with
 | aE=>cases r;rfl
 | bl _=>cases r;rfl
 | int _=>obtain⟨t,rfl⟩:=r;rfl
 | str _=>obtain⟨t,rfl⟩:=r;rfl
 | gV _=>obtain⟨t,rfl⟩:=r;rfl
 | pV _=>obtain⟨t,rfl⟩:=r;rfl
 | ref _=>cases r;rfl
 | ty _=>cases r;rfl
theorem RelV.inj{x y:V}{u:Value}(r:RelV x u)(q:RelV y u):x=y:=dm (r.abs.symm.trans q.abs)
theorem Vals.inj:∀{xs ys:List V}{us:List Value},Vals xs us->Vals ys us->xs=ys
 | _,_,_,.nil,.nil=>rfl
 | _,_,_,.cons r t,.cons r' t'=>by rw[r.inj r',Vals.inj t t']
section
variable{X:Cx}{pins:List (Addr×Obj)}{σ : St}{H:Hp}{s:Shared}{a:Addr}{xs ys:List V}
theorem ak.of{K:PySem.W.Frag}(h:H a=some (.lst xs)):ak K H a xs:=.inl (.inl h)
theorem aM.of{K:PySem.W.Frag}(h:H a=some (.tup xs)):aM K H a xs:=.inl (.inl h)
theorem Inv.list(I:Inv X pins σ H s)(h:ak X.K H a xs):∃its:List Value,Vals xs its/\PlainL s.heap a its.toArray/\xs.length<=sizeLine:=by
 rcases h with h|⟨o,its,n,hk,hc,hd,hs,hz,r⟩
 ·obtain⟨z,its,n,r,e⟩:=h.ok I.aq;exact⟨its,r,⟨_,n,e,rfl,rfl,rfl⟩,z⟩
 ·refine⟨its.toList,r,⟨o,n,I.bI a o hk,hc,hd,by simpa using hs⟩,?_⟩;have e:=r.length;simp only[aB] at e;lia
theorem Inv.tuple(I:Inv X pins σ H s)(h:aM X.K H a xs):∃its:List Value,Vals xs its/\IsTup s.heap a its.toArray/\xs.length<=sizeLine:=by
 rcases h with h|⟨o,its,n,hk,hc,hs,hz,r⟩
 ·obtain⟨z,its,r,p⟩:=h.ok I.aq;exact⟨its,r,p,z⟩
 ·refine⟨its.toList,r,⟨o,I.bI a o hk,hc,n,by simpa using hs⟩,?_⟩;have e:=r.length;simp only[aB] at e;lia
theorem Inv.Zto(I:Inv X pins σ H s)(h:ak X.K H a xs)(h':ak X.K H a ys):xs=ys:=by
 obtain⟨its,r,⟨o,n,e,_,_,d⟩,_⟩:=I.list h;obtain⟨its',r',⟨o',n',e',_,_,d'⟩,_⟩:=I.list h';rw[e] at e';cases e';rw[d] at d';injection d' with d1 _;have:its=its':=by simpa using congrArg Array.toList d1
 subst this;exact r.inj r'
theorem Inv.Zwi(I:Inv X pins σ H s)(h:aM X.K H a xs)(h':aM X.K H a ys):xs=ys:=by
 obtain⟨its,r,⟨o,e,_,n,d⟩,_⟩:=I.tuple h;obtain⟨its',r',⟨o',e',_,n',d'⟩,_⟩:=I.tuple h';rw[e] at e';cases e';rw[d] at d';injection d' with d1 _;have:its=its':=by simpa using congrArg Array.toList d1
 subst this;exact r.inj r'
end
abbrev Cx.kW(X:Cx)(E:Value->Shared->Prop):Cx:={ X with xe:=E }
abbrev Cx.AA(X:Cx):Cx:=X.kW fun _ _=>False
theorem Cx.Ok.kW{X:Cx}(ok:X.Ok)(E:Value->Shared->Prop):(X.kW E).Ok :=
 ⟨ok.mod,ok.kind,ok.glob,ok.blt,ok.above,ok.inj,ok.has,ok.lU,ok.hd,ok.frames,ok.ow,ok.nv,ok.bs,ok.iB,ok.mw,ok.lW,ok.fV,ok.jO⟩
theorem Cx.Ok.oz{X:Cx}{E:Value->Shared->Prop}(ok:(X.kW E).Ok):X.Ok :=
 ⟨ok.mod,ok.kind,ok.glob,ok.blt,ok.above,ok.inj,ok.has,ok.lU,ok.hd,ok.frames,ok.ow,ok.nv,ok.bs,ok.iB,ok.mw,ok.lW,ok.fV,ok.jO⟩
section
variable{X:Cx}{pins:List (Addr×Obj)}{σ : St}{H:Hp}{s:Shared}{E:Value->Shared->Prop}
theorem Inv.kW(I:Inv X pins σ H s)(E:Value->Shared->Prop):Inv (X.kW E) pins σ H s:=⟨I.ok.kW E,I.os,I.bare,I.base,I.loc,I.cell,I.free,I.fU,I.pin,I.aq,I.len⟩
theorem Inv.oz(I:Inv (X.kW E) pins σ H s):Inv X pins σ H s:=⟨I.ok.oz,I.os,I.bare,I.base,I.loc,I.cell,I.free,I.fU,I.pin,I.aq,I.len⟩
theorem SP.oz{D:Ends}{f:Flow}{s':Shared}(h:SP (X.kW E) pins D f s'):SP X pins D f s':=by
 cases f with
 | next=>obtain⟨ao,H',I,q⟩:=h;exact⟨ao,H',I.oz,q⟩
 | brk=>obtain⟨ao,H',I,q⟩:=h;exact⟨ao,H',I.oz,q⟩
 | cont=>obtain⟨ao,H',I,q⟩:=h;exact⟨ao,H',I.oz,q⟩
 | ret u=>obtain⟨v,ao,H',I,r,q⟩:=h;exact⟨v,ao,H',I.oz,r,q⟩
theorem cK.AA{st:List Stmt}{t:TS}(h:cK X.AA st t):cK X st t:=fun pins s σ H D I hw =>
 eJ (h pins s σ H D (I.kW _) hw) (fun _ _ q=>q.oz) fun _ _ z=>False.elim z
end
section
variable{X:Cx}{st:Stmt}{rest:List Stmt}{t u:TS}{e:Expr}{te:TE}{pos:Pos}
def VX:TS:=fun D σ H=>D.nx σ H
def MC(t u:TS):TS:=fun D σ H=>t { D with nx:=u D } σ H
theorem ZC:cK X [] VX:=fun _ _ σ H _ I h=>wpAny_execs_nil ⟨σ,H,I,h⟩
theorem Ze(h1:PS X st t)(h2:cK X rest u):cK X (st::rest) (MC t u):=by
 intro pins s σ H D I h;refine wpAny_execs_cons (aw (h1 pins s σ H { D with nx:=u D } I h) fun f s1 q=>?_);cases f with
 | next =>
  obtain⟨ao,H',I',q⟩:=q;exact h2 pins s1 ao H' D I' q
 | ret v=>exact q
 | brk=>exact q
 | cont=>exact q
theorem Zf(h1:PS X st t):cK X [st] t:=by
 intro pins s σ H D I h;refine wpAny_execs_cons (aw (h1 pins s σ H D I h) fun f s1 q=>?_);cases f with
 | next=>exact wpAny_execs_nil q
 | ret v=>exact q
 | brk=>exact q
 | cont=>exact q
def V':TS:=fun D σ H=>D.ct σ H
theorem Jr:PS X (.Continue pos) V':=fun _ _ σ H _ I h=>wpAny_Continue ⟨σ,H,I,h⟩
theorem Inv.quiet{pins:List (Addr×Obj)}{σ : St}{H:Hp}{s:Shared}(I:Inv X pins σ H s):interactive X.env=false:=by simp[interactive,I.ok.kind]
def Wa(te:TE):TS:=fun D σ H=>te σ H fun _ H1=>D.nx σ H1
theorem Z7(he:PE X e te)(hs:swapsWith e none pos.line X.env=pure false:=by rfl):PS X (.Expr e pos) (Wa te):=by
 intro pins s σ H D I h;exact wpAny_Expr_any (aw (he pins s σ H _ I h) fun v s1 ⟨x,H1,I1,r1,q1⟩=>⟨σ,H1,I1,q1⟩) I.quiet hs
def C6(te:TE):TS:=fun D σ H=>te σ H D.rt
theorem Zz(he:PE X e te):PS X (.Return (some e) pos) (C6 te):=by
 intro pins s σ H D I h;exact wpAny_Return_some (aw (he pins s σ H _ I h) fun v s1 ⟨x,H1,I1,r1,q1⟩=>⟨x,σ,H1,I1,r1,q1⟩)
def WK(c:TT)(t u:TS):TS:=fun D σ H=>c σ H fun b H1=>if b=true then t D σ H1 else u D σ H1
theorem bu{c:Expr}{a b:List Stmt}{tc:TT}(hc:PT X c tc)(ha:cK X a t)(hb:cK X b u):PS X (.If c a b pos) (WK tc t u):=by
 intro pins s σ H D I h;refine wpAny_If (aw (hc pins s σ H _ I h) fun d s1 ⟨H1,I1,q1⟩=>?_);cases d with
 | true=>exact ha pins s1 σ H1 D I1 q1
 | false=>exact hb pins s1 σ H1 D I1 q1
end
abbrev TG:=V->St->Hp->(St->Hp->Prop)->Prop
abbrev mR:=List V->St->Hp->(St->Hp->Prop)->Prop
def PG(X:Cx)(target:Expr)(t:TG):Prop :=
 ∀(pins:List (Addr×Obj))(s:Shared)(σ : St)(H:Hp)(v:V)(u:Value)(Q:St->Hp->Prop),Inv X pins σ H s->RelV v u->t v σ H Q ->
  wpAny (model X.prog X.w) X.A (assign target X.env u) (fun _ s'=>∃ ao H',Inv X pins ao H' s'/\Q ao H') X.xe s
def uw(X:Cx)(ts:List Expr)(t:mR):Prop :=
 ∀(pins:List (Addr×Obj))(s:Shared)(σ : St)(H:Hp)(vs:List V)(us:List Value)(Q:St->Hp->Prop),Inv X pins σ H s->Vals vs us->t vs σ H Q ->
  wpAny (model X.prog X.w) X.A (assignInOrder ((assignEach ts X.env).map (·.2)) us) (fun _ s'=>∃ ao H',Inv X pins ao H' s'/\Q ao H') X.xe s
section
variable{X:Cx}{pos:Pos}
def yJ(i:Nat):TG:=fun v σ H Q=>Q (σ.set i (some v)) H
theorem dB{i:Nat}{x:Str}(hN:X.N.Nodup)(hi:X.N[i]?= some x)(hx:Loc X.env.scope x)(hf:X.fn x=true\/X.env.scope.names.lookup x=some .local:=by first|exact .inl rfl|exact .inr rfl|assumption):PG X (.Name x pos) (yJ i):=by
 intro pins s σ H v u Q I r h;exact wpAny_assign_Name (B3 I hN hi hx r (fun s' I'=>⟨_,H,I',h⟩) hf)
def Wo:mR:=fun vs σ H Q=>vs=[]/\Q σ H
def VJ(t:TG)(u:mR):mR:=fun vs σ H Q=>∃v r,vs=v::r/\t v σ H fun ao H'=>u r ao H' Q
theorem uL:uw X [] Wo:=by
 intro pins s σ H vs us Q I r h;obtain⟨e,h⟩:=h;subst e;cases r;exact assignInOrder_nil ⟨σ,H,I,h⟩
theorem i3{e:Expr}{es:List Expr}{t:TG}{u:mR}(h1:PG X e t)(h2:uw X es u)
  (hs:(assignEach (e::es) X.env).map (·.2)=assign e X.env::(assignEach es X.env).map (·.2):=by rfl):uw X (e::es) (VJ t u):=by
 intro pins s σ H vs us Q I r h;obtain⟨v,vr,e1,h⟩:=h;subst e1;cases r with
 | cons r rr =>
  rw[hs];refine assignInOrder_cons (aw (h1 pins s σ H _ _ _ I r h) fun _ s1 ⟨tM,H1,I1,q1⟩=>?_);exact h2 pins s1 tM H1 _ _ Q I1 rr q1
def MQ(K:PySem.W.Frag)(n:Nat)(t:mR):TG:=fun v σ H Q=>∃a xs,v=.ref a/\aM K H a xs/\xs.length=n/\t xs σ H Q
theorem uY{es:List Expr}{k:Nat}{t:mR}{n:Nat}(hc:X.calm=true)(h:uw X es t)
  (hn:(assignEach es X.env).length=n:=by rfl) (di:(assignEach es X.env).findIdx? (·.1)=none:=by rfl):PG X (.Tuple es k pos) (MQ X.K n t):=by
 intro pins s σ H v u Q I r hw;obtain⟨a,xs,e1,hq,hl,hw⟩:=hw;subst e1;cases r;obtain⟨its,rv,ht,hz⟩:=I.tuple hq;refine assign_Tuple_tuple (I.ok.hd hc) ht (by simp[hn,<- hl,rv.length]) di fun h' hx=>?_;have I1:Inv X pins σ H { s with heap:=h' }:=I.kept (t':=s.toks) fun b o e=>hx b o (bY (aU e)) e;exact h pins _ σ H xs _ Q I1 (by simpa using rv) hw
def C8(te:TE)(g:TG):TS:=fun D σ H=>te σ H fun x H1=>g x σ H1 D.nx
theorem Cz{tg e:Expr}{te:TE}{g:TG}(he:PE X e te)(hg:PG X tg g)(hs:swapsWithSole [tg] e pos.line X.env=pure false:=by rfl)(hw:swappedStores [tg] e X.env=pure none:=by rfl)
  (h1:(assignEach [tg] X.env).map (·.2)=[assign tg X.env]:=by rfl):PS X (.Assign [tg] e pos) (C8 te g):=by
 intro pins s σ H D I h;refine wpAny_Assign_stores (aw (he pins s σ H _ I h) fun v s1 ⟨x,H1,I1,r1,q1⟩=>?_) hs hw;rw[h1];exact aw (hg pins s1 σ H1 x v _ I1 r1 q1) fun _ s2 q=>q
theorem Zx{i:Nat}{x:Str}{e:Expr}{te:TE}{pos':Pos}(hN:X.N.Nodup)(hi:X.N[i]?= some x)(hx:Loc X.env.scope x)(he:PE X e te)(hs:swapsWith e (some (.Name x pos')) pos.line X.env=pure false:=by rfl)(hf:X.fn x=true\/X.env.scope.names.lookup x=some .local:=by first|exact .inl rfl|exact .inr rfl|assumption) :
  PS X (.Assign [.Name x pos'] e pos) (C8 te (yJ i)):=by
 intro pins s σ H D I h;refine wpAny_Assign_Name (aw (he pins s σ H _ I h) fun v s1 ⟨y,H1,I1,r1,q1⟩=>?_) hs;exact B3 I1 hN hi hx r1 (fun s2 I2=>⟨_,H1,I2,q1⟩) hf
def U_(c:TT)(tb:TS):TS:=fun D σ H=>∃W:Nat->St->Hp->Prop,(∃m,W m σ H)/\∀m σ H,W m σ H ->
 c σ H fun b H1=>if b=true then ∃N:St->Hp->Prop,(∀ ao H',N ao H'->∃m',m'<m/\W m' ao H')/\tb { D with nx:=N,ct:=N,bk:=D.nx } σ H1 else D.nx σ H1
theorem uG{c:Expr}{body:List Stmt}{tc:TT}{tb:TS}(hp:PassesOwn (model X.prog X.w) X.A X.env X.xe)(hc:PT X c tc)(hb:cK X body tb):PS X (.While c body [] pos) (U_ tc tb):=by
 intro pins s σ H D I h;obtain⟨W,⟨m0,w0⟩,turn⟩:=h;refine wpAny_While (codeAny_whileLoop (fun n s'=>∃ ao H',Inv X pins ao H' s'/\W n ao H') ?_ m0 ⟨σ,H,I,w0⟩);rintro n s1 ⟨tM,H1,I1,w1⟩;refine qS hp (aw (hc pins s1 tM H1 _ I1 (turn n tM H1 w1)) fun b s2 ⟨H2,I2,q2⟩=>?_);cases b with
 | true =>
  obtain⟨N,hN,q2⟩:=q2;rw[ah rfl];refine qS hp (aw (hb pins s2 tM H2 _ I2 q2) fun f s3 q3=>?_);cases f with
  | next =>
   obtain⟨dE,H3,I3,n3⟩:=q3;obtain⟨m',hm,w3⟩:=hN dE H3 n3;exact⟨m',hm,dE,H3,I3,w3⟩
  | cont =>
   obtain⟨dE,H3,I3,n3⟩:=q3;obtain⟨m',hm,w3⟩:=hN dE H3 n3;exact⟨m',hm,dE,H3,I3,w3⟩
  | brk=>exact q3
  | ret v=>exact q3
 | false =>
  rw[af bf];exact wpAny_execs_nil ⟨tM,H2,I2,q2⟩
end
structure It where
 go:Nat->Hp->Prop
 kX:Nat->Hp->V->Hp->Prop
 stop:Nat->Hp->Prop
def eO(X:Cx)(pins:List (Addr×Obj))(H:Hp)(b:Addr):Prop :=
 H b=none/\b≠X.env.locals/\b∉X.fs/\(b∈X.ex\/X.dk.heap.objs.size<=b)/\(∀x c,X.env.cells.lookup x=some c->c≠b)/\∀p∈X.pn++pins,p.1≠b
theorem Inv.ny{X:Cx}{pins:List (Addr×Obj)}{σ : St}{H H':Hp}{s:Shared}{b:Addr}(I:Inv X pins σ H s)(hb:s.heap.objs.size<=b)(hn:H' b=none):eO X pins H' b:=by
 refine⟨hn,qR (cR I.lt hb),I.Zt2 hb,.inr (cZ I.sz hb),fun x c e z=>?_,fun p hp z=>?_⟩
 ·obtain⟨v,q⟩:=I.cell x c e;exact absurd (cR q.lt (by rw[z];exact hb)) (gO _)
 ·exact absurd (cR (aU (I.pin p hp).1) (by rw[z];exact hb)) (gO _)
structure Turn(P:Program)(w:World)(K:PySem.W.Frag)(tg:Expr)(J:It)(fp:List Addr)(it:Addr)(tn:Nat->Heap->Prop):Prop where
 mem:it∈fp
 obj:∀i h,tn i h->∀b∈fp,∃o,h.get? b=some o/\∀v,o.data ≠ .cell v
 keep:∀i h h',tn i h->(∀b∈fp,∀o,h.get? b=some o->h'.get? b=some o)->tn i h'
 item:∀(X:Cx),X.prog=P->X.w=w->X.K=K->X.calm=true->∀(i:Nat)(pins:List (Addr×Obj))(s:Shared)(σ : St)(H:Hp)(E:Value->Shared->Prop),Inv X pins σ H s->(∀b∈fp,eO X pins H b)->tn i s.heap->J.go i H ->
  wpAny (model P w) X.A (pyNext (.ref it)) (fun r s1=>∃u,r=some u /\
   wpAny (model P w) X.A (letOwnedTupleGo tg (.ref it) u) (fun _ s2=>∃x H',Inv X pins σ H' s2/\RelV x u/\J.kX i H x H'/\tn (i+1) s2.heap/\∀b∈fp,H' b=none) E s1) E s
 done:∀(X:Cx),X.prog=P->X.w=w->X.K=K->X.calm=true->∀(i:Nat)(pins:List (Addr×Obj))(s:Shared)(σ : St)(H:Hp)(E:Value->Shared->Prop),Inv X pins σ H s->(∀b∈fp,eO X pins H b)->tn i s.heap->J.stop i H ->
  wpAny (model P w) X.A (pyNext (.ref it)) (fun r s1=>r=none/\Inv X pins σ H s1) E s
 self:∀(A:Around)(i:Nat)(s:Shared)(Q:Value->Shared->Prop)(E:Value->Shared->Prop),tn i s.heap->Q (.ref it) s->wpAny (model P w) A (pyIter (.ref it)) Q E s
abbrev TI:=St->Hp->(It->Hp->Prop)->Prop
def IV(X:Cx)(pins:List (Addr×Obj))(σ : St)(tg:Expr)(R:It->Hp->Prop)(Gv:Value)(s2:Shared):Prop :=
 ∃(it:Addr)(fp:List Addr)(tn:Nat->Heap->Prop)(J:It)(H':Hp),Gv=.ref it/\Inv X pins σ H' s2/\Turn X.prog X.w X.K tg J fp it tn/\tn 0 s2.heap/\(∀b∈fp,eO X pins H' b)/\R J H'
def PI(X:Cx)(tg iter:Expr)(wi:TI):Prop :=
 ∀(pins:List (Addr×Obj))(s:Shared)(σ : St)(H:Hp)(R:It->Hp->Prop),Inv X pins σ H s->wi σ H R ->
  wpAny (model X.prog X.w) X.A (eval iter X.env) (fun v s1=>wpAny (model X.prog X.w) X.A (pyIter v) (IV X pins σ tg R) X.xe s1) X.xe s
theorem vd{M:Model}{A:Around}{E:Value->Shared->Prop}{s:Shared}{tg:Expr}{it:Addr}{u:Value}{o:Obj}{n:String}{vs:Array Value}{Q:Unit->Shared->Prop}(ho:s.heap.get? it=some o)(hc:o.cls=.type n)(hd:o.data=.fields vs)
    (hn:["enumerate","zip","dict_itemiterator","dict_reverseitemiterator","odict_iterator","itertools.zip_longest","itertools.pairwise"].contains n=false) (hQ:Q () s):wpAny M A (letOwnedTupleGo tg (.ref it) u) Q E s:=by
  unfold letOwnedTupleGo;cases tg <;> first
    | exact ai hQ
    | (cases u <;> first
        | exact ai hQ
        | (refine ae (wpAny_load ho ?_)
           rw[hc,hd];show wpAny M A (if(["enumerate","zip","dict_itemiterator","dict_reverseitemiterator","odict_iterator","itertools.zip_longest","itertools.pairwise"].contains n&&vs[0]? == some (rawInt _))=true then _ else _) Q E s
           rw[af (by intro h;rw[hn,qJ] at h;cases h)];exact ai hQ))
def mQ(K:PySem.W.Frag)(a:Addr):It :=
 ⟨fun i H=>∃xs x,ak K H a xs/\xs[i]?= some x,fun i H x H'=>H'=H/\∀xs,ak K H a xs->xs[i]?= some x,fun i H=>∃xs,ak K H a xs/\xs.length<=i⟩
def ur(K:PySem.W.Frag)(a:Addr):It :=
 ⟨fun i H=>∃xs x,aM K H a xs/\xs[i]?= some x,fun i H x H'=>H'=H/\∀xs,aM K H a xs->xs[i]?= some x,fun i H=>∃xs,aM K H a xs/\xs.length<=i⟩
def qW(lo:Int)(n:Nat):It:=⟨fun i _=>i<n,fun i H x H'=>H'=H/\x=.int (lo+i),fun i _=>n<=i⟩
theorem Sw{P:Program}{w:World}{K:PySem.W.Frag}{tg:Expr}(a it:Addr):Turn P w K tg (mQ K a) [it] it (fun i h=>h.IsListIter it a i) where
 mem:=by simp
 obj:=fun i h st b hb=>by
  have e:b=it:=by simpa using hb
  subst e;obtain⟨o,e,c,d⟩:=st;exact⟨o,e,fun v z=>by rw[d] at z;cases z⟩
 keep:=fun i h h' st k=>st.at fun o e=>k it (by simp) o e
 item:=by
  intro X hP hw hK hc i pins s σ H E I hf st hg;subst hP hw hK;obtain⟨xs,x,hq,hx⟩:=hg;obtain⟨its,rv,p,hz⟩:=I.list hq;obtain⟨u,hu,ru⟩:=rv.get hx;obtain⟨f0,f1,f2,f3,f4,f5⟩:=hf it (by simp);refine wpAny_pyNext_list_item st p.isList (x:=u) (by simpa using hu) fun h' ag sb=>?_;have I1:Inv X pins σ H { s with heap:=h' }:=I.turned (t':=s.toks) (fun b o hb e=>(sb.2 b hb).trans e) f0 f1 f3 f4 f5;obtain⟨o,e,c,d⟩:=id ag;exact⟨u,rfl,vd (s:={ s with heap:=h' }) e c d (by decide) ⟨x,H,I1,ru,⟨rfl,fun ys hy=>by rw[I.Zto hy hq];exact hx⟩,ag,fun b hb=>(hf b hb).1⟩⟩
 done:=by
  intro X hP hw hK hc i pins s σ H E I hf st hg;subst hP hw hK;obtain⟨xs,hq,hx⟩:=hg;obtain⟨its,rv,p,hz⟩:=I.list hq;obtain⟨f0,f1,f2,f3,f4,f5⟩:=hf it (by simp);have hl:=rv.length;exact wpAny_pyNext_list_end (I.ok.hd hc) st p.isList (by simp;lia) fun h' eb=>⟨rfl,I.turned (t':=s.toks) (fun b o hb e=>eb b o hb e) f0 f1 f3 f4 f5⟩
 self:=fun _ _ _ _ _ st h=>wpAny_pyIter_listiter st h
theorem RH{P:Program}{w:World}{K:PySem.W.Frag}{tg:Expr}(a it:Addr):Turn P w K tg (ur K a) [it] it (fun i h=>h.IsTupleIter it a i) where
 mem:=by simp
 obj:=fun i h st b hb=>by
  have e:b=it:=by simpa using hb
  subst e;obtain⟨o,e,c,d⟩:=st;exact⟨o,e,fun v z=>by rw[d] at z;cases z⟩
 keep:=fun i h h' st k=>st.at fun o e=>k it (by simp) o e
 item:=by
  intro X hP hw hK hc i pins s σ H E I hf st hg;subst hP hw hK;obtain⟨xs,x,hq,hx⟩:=hg;obtain⟨its,rv,p,hz⟩:=I.tuple hq;obtain⟨u,hu,ru⟩:=rv.get hx;obtain⟨f0,f1,f2,f3,f4,f5⟩:=hf it (by simp);refine wpAny_pyNext_tuple_item st (show s.heap.IsTuple a its.toArray from p) (x:=u) (by simpa using hu) fun h' ag sb=>?_;have I1:Inv X pins σ H { s with heap:=h' }:=I.turned (t':=s.toks) (fun b o hb e=>(sb.2 b hb).trans e) f0 f1 f3 f4 f5;obtain⟨o,e,c,d⟩:=id ag;exact⟨u,rfl,vd (s:={ s with heap:=h' }) e c d (by decide) ⟨x,H,I1,ru,⟨rfl,fun ys hy=>by rw[I.Zwi hy hq];exact hx⟩,ag,fun b hb=>(hf b hb).1⟩⟩
 done:=by
  intro X hP hw hK hc i pins s σ H E I hf st hg;subst hP hw hK;obtain⟨xs,hq,hx⟩:=hg;obtain⟨its,rv,p,hz⟩:=I.tuple hq;obtain⟨f0,f1,f2,f3,f4,f5⟩:=hf it (by simp);have hl:=rv.length;exact wpAny_pyNext_tuple_end (I.ok.hd hc) st (show s.heap.IsTuple a its.toArray from p) (by simp;lia) fun h' eb=>⟨rfl,I.turned (t':=s.toks) (fun b o hb e=>eb b o hb e) f0 f1 f3 f4 f5⟩
 self:=fun _ _ _ _ _ st h=>wpAny_pyIter_tupleiter st h
theorem Se{P:Program}{w:World}{K:PySem.W.Frag}{tg:Expr}(it:Addr)(lo:Int)(n:Nat):Turn P w K tg (qW lo n) [it] it (fun i h=>IsRangeIter h it (lo+(i:Nat)*1) ((n:Int)-(i:Nat)) 1) where
 mem:=by simp
 obj:=fun i h st b hb=>by
  have e:b=it:=by simpa using hb
  subst e;exact⟨_,st,fun v z=>by
   have z':Data.fields _=Data.cell v:=z;cases z'⟩
 keep:=fun i h h' st k=>k it (by simp) _ st
 item:=by
  intro X hP hw hK hc i pins s σ H E I hf st hg;subst hP hw hK;obtain⟨f0,f1,f2,f3,f4,f5⟩:=hf it (by simp);have W:=Walks.range (prog:=X.prog) (w:=X.w) (I.ok.hd hc) it lo 1 n;refine W.item i s _ _ hg st fun v h' tk hv ag kk=>?_;obtain⟨t,rfl⟩:=hv;have I1:Inv X pins σ H { s with heap:=h',toks:=tk }:=I.turned (fun b o hb e=>kk b o (by simpa using hb) e) f0 f1 f3 f4 f5;refine⟨_,rfl,vd (s:={ s with heap:=h',toks:=tk }) (n := "range_iterator") ag rfl rfl (by decide) ⟨.int (lo+i),H,I1,⟨t,?_⟩,⟨rfl,rfl⟩,ag,fun b hb=>(hf b hb).1⟩⟩;rw[Int.mul_one]
 done:=by
  intro X hP hw hK hc i pins s σ H E I hf st hg;subst hP hw hK;obtain⟨f0,f1,f2,f3,f4,f5⟩:=hf it (by simp);exact wpAny_pyNext_range_end (I.ok.hd hc) st (by have:n<=i:=hg;lia) fun h' eb=>⟨rfl,I.turned (t':=s.toks) (fun b o hb e=>eb b o hb e) f0 f1 f3 f4 f5⟩
 self:=fun _ _ _ _ _ st h=>wpAny_pyIter_rangeiter st h
section
variable{X:Cx}{tg:Expr}
def VU(K:PySem.W.Frag)(tl:TE):TI:=fun σ H R=>tl σ H fun x H1=>∃a,x=.ref a/\(∃xs,ak K H1 a xs)/\R (mQ K a) H1
def WB(K:PySem.W.Frag)(tl:TE):TI:=fun σ H R=>tl σ H fun x H1=>∃a,x=.ref a/\(∃xs,aM K H1 a xs)/\R (ur K a) H1
theorem uO{l:Expr}{tl:TE}(hl:PE X l tl):PI X tg l (VU X.K tl):=by
 intro pins s σ H R I h;refine aw (hl pins s σ H _ I h) fun v s1 ⟨x,H1,I1,r1,q1⟩=>?_;obtain⟨a,e,⟨xs,hq⟩,q⟩:=q1;subst e;cases r1;obtain⟨its,rv,p,hz⟩:=I1.list hq;refine wpAny_pyIter_list p.isList ?_;refine⟨s1.heap.objs.size,[s1.heap.objs.size],_,_,H1,rfl,I1.kept (t':=s1.toks) fun b o e=>aK _ e,Sw a _,⟨_,cf _ rfl,rfl,rfl⟩,fun b hb=>?_,q⟩;have e:b=s1.heap.objs.size:=by simpa using hb
 subst e;exact I1.ny (az _) (I1.aq.fresh (az _))
theorem Vf{l:Expr}{tl:TE}(hl:PE X l tl):PI X tg l (WB X.K tl):=by
 intro pins s σ H R I h;refine aw (hl pins s σ H _ I h) fun v s1 ⟨x,H1,I1,r1,q1⟩=>?_;obtain⟨a,e,⟨xs,hq⟩,q⟩:=q1;subst e;cases r1;obtain⟨its,rv,p,hz⟩:=I1.tuple hq;refine wpAny_pyIter_tuple (show s1.heap.IsTuple a its.toArray from p) ?_;refine⟨s1.heap.objs.size,[s1.heap.objs.size],_,_,H1,rfl,I1.kept (t':=s1.toks) fun b o e=>aK _ e,RH a _,⟨_,cf _ rfl,rfl,rfl⟩,fun b hb=>?_,q⟩;have e:b=s1.heap.objs.size:=by simpa using hb
 subst e;exact I1.ny (az _) (I1.aq.fresh (az _))
theorem TF{pins:List (Addr×Obj)}{σ : St}{H:Hp}{s:Shared}{R:It->Hp->Prop}{E:Value->Shared->Prop}{lo hi:Int}{t u v:Tok}{tk:Nat}(I:Inv X pins σ H s)(h1 : -(2 ^ 62)<=lo)(h2:lo<2 ^ 62)(h3 : -(2 ^ 62)<=hi)(h4:hi<2 ^ 62)
  (q:R (qW lo (hi-lo).toNat) H):wpAny (model X.prog X.w) X.A (pyIter (.ref s.heap.objs.size)) (IV X pins σ tg R) E { s with heap:=s.heap.push { cls:=.type "range",data:=.fields #[.int lo t,.int hi u,.int 1 v] },toks:=tk }:=by
 refine wpAny_pyIter_range (IsRange.new ..) (small_one h1 h2 h3 h4) ?_;have I1:Inv X pins σ H { s with heap:=s.heap.push { cls:=.type "range",data:=.fields #[.int lo t,.int hi u,.int 1 v] },toks:=tk }:=I.kept fun b o e=>aK _ e;refine⟨(s.heap.push { cls:=.type "range",data:=.fields #[.int lo t,.int hi u,.int 1 v] }).objs.size,[(s.heap.push { cls:=.type "range",data:=.fields #[.int lo t,.int hi u,.int 1 v] }).objs.size],_,_,H,rfl,
  I1.kept (t':=tk) fun b o e=>aK _ e,Se _ lo (hi-lo).toNat,?_,fun b hb=>?_,q⟩
 ·have e1:lo+((0:Nat):Int)*1=lo:=by simp
  have e2:(((hi-lo).toNat:Nat):Int)-((0:Nat):Int)=Builtin.Range.rangeSize lo hi 1:=by rw[rangeSize_one];split <;> lia
  show IsRangeIter _ _ (lo+((0:Nat):Int)*1) ((((hi-lo).toNat:Nat):Int)-((0:Nat):Int)) 1;rw[e1,e2];exact cf _ rfl
 ·have e:b=(s.heap.push { cls:=.type "range",data:=.fields #[.int lo t,.int hi u,.int 1 v] }).objs.size:=by simpa using hb
  subst e;exact I1.ny (az _) (I1.aq.fresh (az _))
def V_(ta:TA):TI:=fun σ H R=>ta σ H fun vs H1=>∃j:Int,vs=[.int j] /\ -(2 ^ 62)<=j/\j<2 ^ 62/\R (qW 0 j.toNat) H1
theorem xT{a:Expr}{ta:TA}{p pos:Pos}(hg:Gl X "range") (hm:X.mg "range" = none) (ha:PA X [a] ta) (hs:starEach [a] X.env=[(false,eval a X.env)]:=by rfl):PI X tg (.Call (.Name "range" p) [a] [] pos) (V_ ta):=by
 intro pins s σ H R I h;refine Call_ (lR I hg hm boot_range (t6 (aw (ha pos pins s σ H _ I h) fun us s1 ⟨vs,H1,I1,r1,q1⟩=>?_) hs rfl));obtain⟨j,e,q1,q2,q⟩:=q1;subst e;cases r1 with
 | cons r rr =>
  cases rr;obtain⟨t,rfl⟩:=r;exact call_range_1 (TF I1 (by lia) (by lia) q1 q2 (by simpa using q))
def WI(wi:TI)(g:TG)(tb:TS):TS:=fun D σ H=>wi σ H fun J H1=>∃W:Nat->Nat->St->Hp->Prop,(∃m,W 0 m σ H1)/\∀i m σ H,W i m σ H ->
 (J.stop i H/\D.nx σ H)\/(J.go i H/\∃N:St->Hp->Prop,(∀ ao H',N ao H'->∃m',m'<m/\W (i+1) m' ao H')/\∀x H',J.kX i H x H'->g x σ H' fun dW H2=>tb { D with nx:=N,ct:=N,bk:=D.nx } dW H2)
def yr(fp:List Addr)(h:Heap):List (Addr×Obj):=fp.filterMap fun b=>(h.get? b).map fun o=>(b,o)
theorem xJ{fp:List Addr}{h:Heap}{b:Addr}{o:Obj}(hb:b∈fp)(e:h.get? b=some o):(b,o)∈yr fp h:=List.mem_filterMap.mpr ⟨b,hb,by rw[e];rfl⟩
theorem RY{fp:List Addr}{h:Heap}{p:Addr×Obj}(hp:p∈yr fp h):p.1∈fp/\h.get? p.1=some p.2:=by
 obtain⟨b,hb,e⟩:=List.mem_filterMap.mp hp;cases q:h.get? b with
 | none=>rw[q] at e;cases e
 | some o =>
  rw[q] at e;have e':(b,o)=p:=dm e;subst e';exact⟨hb,q⟩
theorem Inv.pinned{pins:List (Addr×Obj)}{σ : St}{H:Hp}{s:Shared}{fp:List Addr}(I:Inv X pins σ H s)(hf:∀b∈fp,eO X pins H b)(ho:∀b∈fp,∃o,s.heap.get? b=some o/\∀v,o.data ≠ .cell v):Inv X (pins++yr fp s.heap) σ H s :=
 I.AE fun p hp=>(bL.mp hp).elim (fun z=>I.pin p (fu _ z)) fun z=>by
  obtain⟨hb,e⟩:=RY z;obtain⟨f0,f1,f2,_⟩:=hf p.1 hb;obtain⟨o,e',d⟩:=ho p.1 hb;rw[e] at e';cases e';exact⟨e,f0,f1,f2,d⟩
theorem Inv.AQ{pins pl:List (Addr×Obj)}{σ : St}{H:Hp}{s:Shared}(I:Inv X (pins++pl) σ H s):Inv X pins σ H s:=I.AE fun p hp=>I.pin p (fu _ (oG _ hp))
theorem jy{iter:Expr}{body:List Stmt}{wi:TI}{g:TG}{tb:TS}{pos:Pos}(hp:PassesOwn (model X.prog X.w) X.A X.env X.xe)(hc:X.calm=true)(hi:PI X tg iter wi)(hg:PG X tg g)(hb:cK X body tb)
  (hs:∀x,foldedSetIterable iter X.env x=pure x:=by intro _;rfl):PS X (.For tg iter body [] pos) (WI wi g tb):=by
 intro pins s σ H D I h;refine wpAny_For (aw (hi pins s σ H _ I h) fun v s1 h1=>aw h1 fun Gv s2 h2=>?_) hs;obtain⟨it,fp,tn,J,H2,e,I2,T,aG,f2,W,⟨m0,w0⟩,turn⟩:=h2;subst e;have qH:∀{H':Hp},(∀b∈fp,H' b=none)->∀b∈fp,eO X pins H' b:=fun hn b hb=>⟨hn b hb,(f2 b hb).2⟩;refine codeAny_forLoop_any (fun n s'=>∃i ao H',Inv X pins ao H' s'/\tn i s'.heap/\(∀b∈fp,H' b=none)/\W i n ao H') ?_ m0 ⟨0,σ,H2,I2,aG,fun b hb=>(f2 b hb).1,w0⟩;rintro n s3 ⟨i,dE,H3,I3,aT,NJ,w3⟩;rcases turn i n dE H3 w3 with⟨stop,qn⟩|⟨go,N,hN,step⟩
 ·refine qS hp (aw (T.done X rfl rfl rfl hc i pins s3 dE H3 X.xe I3 (qH NJ) aT stop) fun r s4 ⟨hr,I4⟩=>?_);subst hr;exact wpAny_execs_nil ⟨dE,H3,I4,qn⟩
 ·refine qS hp (aw (T.item X rfl rfl rfl hc i pins s3 dE H3 X.xe I3 (qH NJ) aT go) fun r s4 ⟨u,hr,h4⟩=>?_);subst hr;refine qS hp (aw h4 fun _ s5 ⟨x,H5,I5,r5,y5,cO,zd⟩=>?_);have P0:=I5.pinned (qH zd) (T.obj _ _ cO);refine qS hp (aw (hg _ s5 dE H5 x u _ P0 r5 (step x H5 y5)) fun _ s6 ⟨AR,H6,I6,q6⟩=>?_);refine qS hp (aw (hb _ s6 AR H6 _ I6 q6) fun f s7 q7=>?_);have again:∀{jZ:St}{H7:Hp},Inv X (pins++yr fp s5.heap) jZ H7 s7->N jZ H7->∃m,m<n/\∃i ao H',Inv X pins ao H' s7/\tn i s7.heap/\(∀b∈fp,H' b=none)/\W i m ao H':=fun{jZ H7} I7 n7=>by
   obtain⟨m',hm,w7⟩:=hN jZ H7 n7;refine⟨m',hm,i+1,jZ,H7,I7.AQ,T.keep _ _ _ cO fun b hb o e=>(I7.pin (b,o) (fu _ (fu _ (xJ hb e)))).1,fun b hb=>?_,w7⟩;obtain⟨o,e,d⟩:=T.obj _ _ cO b hb;exact(I7.pin (b,o) (fu _ (fu _ (xJ hb e)))).2.1
  cases f with
  | next=>obtain⟨jZ,H7,I7,n7⟩:=q7;exact again I7 n7
  | cont=>obtain⟨jZ,H7,I7,n7⟩:=q7;exact again I7 n7
  | brk=>obtain⟨jZ,H7,I7,q7⟩:=q7;exact⟨jZ,H7,I7.AQ,q7⟩
  | ret v=>obtain⟨x7,jZ,H7,I7,r7,q7⟩:=q7;exact⟨x7,jZ,H7,I7.AQ,r7,q7⟩
end
theorem B6{K:PySem.W.Frag}{a:Addr}{xs:List V}{g:TG}{tb:TS}{D:Ends}{σ : St}{H:Hp}(Pv:Nat->St->Hp->Prop)(h0:Pv 0 σ H)(hl:∀i σ H,i<=xs.length->Pv i σ H->ak K H a xs)
  (hs:∀i x σ H,xs[i]?= some x->Pv i σ H->g x σ H fun dW H2=>tb { D with nx:=Pv (i+1),ct:=Pv (i+1),bk:=D.nx } dW H2) (hd:∀ σ H,Pv xs.length σ H->D.nx σ H) :
  ∃W:Nat->Nat->St->Hp->Prop,(∃m,W 0 m σ H)/\∀i m σ H,W i m σ H ->
   ((mQ K a).stop i H/\D.nx σ H)\/((mQ K a).go i H/\∃N:St->Hp->Prop,(∀ ao H',N ao H'->∃m',m'<m/\W (i+1) m' ao H')/\∀x H',(mQ K a).kX i H x H'->g x σ H' fun dW H2=>tb { D with nx:=N,ct:=N,bk:=D.nx } dW H2):=by
 refine⟨fun i m σ H=>m=xs.length-i/\i<=xs.length/\Pv i σ H,⟨xs.length,by simp,bj _,h0⟩,?_⟩;rintro i m σ H ⟨rfl,hi,p⟩;have q:=hl i σ H hi p;by_cases aD:i<xs.length
 ·refine .inr ⟨⟨xs,xs[i],q,by simp[aD]⟩,Pv (i+1),fun ao H' p'=>⟨xs.length-(i+1),by lia,rfl,aD,p'⟩,fun x H' y=>?_⟩;obtain⟨e,y⟩:=y;subst e;exact hs i x σ _ (y xs q) p
 ·have e:i=xs.length:=by lia
  subst e;exact .inl ⟨⟨xs,q,az _⟩,hd σ H p⟩
theorem TV{K:PySem.W.Frag}{a:Addr}{xs:List V}{g:TG}{tb:TS}{D:Ends}{σ : St}{H:Hp}(Pv:Nat->St->Hp->Prop)(h0:Pv 0 σ H)(hl:∀i σ H,i<=xs.length->Pv i σ H->aM K H a xs)
  (hs:∀i x σ H,xs[i]?= some x->Pv i σ H->g x σ H fun dW H2=>tb { D with nx:=Pv (i+1),ct:=Pv (i+1),bk:=D.nx } dW H2) (hd:∀ σ H,Pv xs.length σ H->D.nx σ H) :
  ∃W:Nat->Nat->St->Hp->Prop,(∃m,W 0 m σ H)/\∀i m σ H,W i m σ H ->
   ((ur K a).stop i H/\D.nx σ H)\/((ur K a).go i H/\∃N:St->Hp->Prop,(∀ ao H',N ao H'->∃m',m'<m/\W (i+1) m' ao H')/\∀x H',(ur K a).kX i H x H'->g x σ H' fun dW H2=>tb { D with nx:=N,ct:=N,bk:=D.nx } dW H2):=by
 refine⟨fun i m σ H=>m=xs.length-i/\i<=xs.length/\Pv i σ H,⟨xs.length,by simp,bj _,h0⟩,?_⟩;rintro i m σ H ⟨rfl,hi,p⟩;have q:=hl i σ H hi p;by_cases aD:i<xs.length
 ·refine .inr ⟨⟨xs,xs[i],q,by simp[aD]⟩,Pv (i+1),fun ao H' p'=>⟨xs.length-(i+1),by lia,rfl,aD,p'⟩,fun x H' y=>?_⟩;obtain⟨e,y⟩:=y;subst e;exact hs i x σ _ (y xs q) p
 ·have e:i=xs.length:=by lia
  subst e;exact .inl ⟨⟨xs,q,az _⟩,hd σ H p⟩
theorem xU{lo:Int}{n:Nat}{g:TG}{tb:TS}{D:Ends}{σ : St}{H:Hp}(Pv:Nat->St->Hp->Prop)(h0:Pv 0 σ H)
  (hs:∀i σ H,i<n->Pv i σ H->g (.int (lo+i)) σ H fun dW H2=>tb { D with nx:=Pv (i+1),ct:=Pv (i+1),bk:=D.nx } dW H2) (hd:∀ σ H,Pv n σ H->D.nx σ H) :
  ∃W:Nat->Nat->St->Hp->Prop,(∃m,W 0 m σ H)/\∀i m σ H,W i m σ H ->
   ((qW lo n).stop i H/\D.nx σ H)\/((qW lo n).go i H/\∃N:St->Hp->Prop,(∀ ao H',N ao H'->∃m',m'<m/\W (i+1) m' ao H')/\∀x H',(qW lo n).kX i H x H'->g x σ H' fun dW H2=>tb { D with nx:=N,ct:=N,bk:=D.nx } dW H2):=by
 refine⟨fun i m σ H=>m=n-i/\i<=n/\Pv i σ H,⟨n,by simp,bj _,h0⟩,?_⟩;rintro i m σ H ⟨rfl,hi,p⟩;by_cases aD:i<n
 ·refine .inr ⟨aD,Pv (i+1),fun ao H' p'=>⟨n-(i+1),by lia,rfl,aD,p'⟩,fun x H' y=>?_⟩;obtain⟨e,y⟩:=y;subst e y;exact hs i σ _ aD p
 ·have e:i=n:=by lia
  subst e;exact .inl ⟨az _,hd σ H p⟩
abbrev R2:=V->V->Hp->VK->Prop
def bC(X:Cx)(f:Value->Value->Sem Value)(r:R2):Prop :=
 ∀(pins:List (Addr×Obj))(s:Shared)(σ : St)(H:Hp)(x y:V)(v u:Value)(Q:VK),Inv X pins σ H s->RelV x v->RelV y u->r x y H Q ->
  wpAny (model X.prog X.w) X.A (f v u) (EP X pins σ Q) X.xe s
def Br(X:Cx)(f:Value->Sem Value)(r:V->Hp->VK->Prop):Prop :=
 ∀(pins:List (Addr×Obj))(s:Shared)(σ : St)(H:Hp)(x:V)(v:Value)(Q:VK),Inv X pins σ H s->RelV x v->r x H Q ->
  wpAny (model X.prog X.w) X.A (f v) (EP X pins σ Q) X.xe s
def fP(X:Cx)(f:Value)(r:List V->Hp->VK->Prop):Prop :=
 ∀(pins:List (Addr×Obj))(s:Shared)(σ : St)(H:Hp)(xs:List V)(us:List Value)(Q:VK),Inv X pins σ H s->Vals xs us->r xs H Q ->
  wpAny (model X.prog X.w) X.A (call f us) (EP X pins σ Q) X.xe s
def WA(X:Cx)(r:V->Hp->(Bool->Hp->Prop)->Prop):Prop :=
 ∀(pins:List (Addr×Obj))(s:Shared)(σ : St)(H:Hp)(x:V)(v:Value)(Q:Bool->Hp->Prop),Inv X pins σ H s->RelV x v->r x H Q ->
  wpAny (model X.prog X.w) X.A (truthy v) (TP X pins σ Q) X.xe s
def wN(r:R2)(ta tb:TE):TE:=fun σ H Q=>ta σ H fun x H1=>tb σ H1 fun y H2=>r x y H2 Q
def tUn(r:V->Hp->VK->Prop)(ta:TE):TE:=fun σ H Q=>ta σ H fun x H1=>r x H1 Q
def rI(C:Int->Int->Prop)(g:Int->Int->V):R2:=fun x y H Q=>∃i j,x=.int i/\y=.int j/\C i j/\Q (g i j) H
def oo(g:Int->Int->V):R2:=fun x y H Q=>∃i j,x=.int i/\y=.int j/\Q (g i j) H
def rU(g:Int->V):V->Hp->VK->Prop:=fun x H Q=>∃i,x=.int i/\Q (g i) H
section
variable{X:Cx}{a b c:Expr}{ta tb tc:TE}{pos:Pos}
theorem Dc(ha:PE X a ta)(hb:PE X b tb){pins:List (Addr×Obj)}{s:Shared}{σ : St}{H:Hp}{R:V->V->Hp->Prop}(I:Inv X pins σ H s)
  (h:ta σ H fun x H1=>tb σ H1 fun y H2=>R x y H2) {Q:Value->Shared->Prop} {f:Value->Value->Sem Value}
  (hf:∀v u s2 x y H2,Inv X pins σ H2 s2->RelV x v->RelV y u->R x y H2->wpAny (model X.prog X.w) X.A (f v u) Q X.xe s2) :
  wpAny (model X.prog X.w) X.A (eval a X.env) (fun v ba=>wpAny (model X.prog X.w) X.A (eval b X.env) (fun u jY=>wpAny (model X.prog X.w) X.A (f v u) Q X.xe jY) X.xe ba) X.xe s:=by
 refine aw (ha pins s σ H _ I h) fun v s1 ⟨x,H1,I1,r1,q1⟩=>?_;refine aw (hb pins s1 σ H1 _ I1 q1) fun u s2 ⟨y,H2,I2,r2,q2⟩=>?_;exact hf v u s2 x y H2 I2 r1 r2 q2
theorem Zv{op:Operator}{r:R2}(ho:bC X (binaryOp op) r)(ha:PE X a ta)(hb:PE X b tb):PE X (.BinOp a op b pos) (wN r ta tb):=by
 intro pins s σ H Q I h;exact wpAny_BinOp (Dc ha hb I h fun v u s2 x y H2 I2 rx ry q=>ho pins s2 σ H2 x y v u Q I2 rx ry q)
theorem jG{op:UnaryOp}{r:V->Hp->VK->Prop}(ho:Br X (unaryOp op) r)(ha:PE X a ta):PE X (.UnaryOp op a pos) (tUn r ta):=by
 intro pins s σ H Q I h;exact UnaryOp_ (aw (ha pins s σ H _ I h) fun v s1 ⟨x,H1,I1,r1,q1⟩=>ho pins s1 σ H1 x v Q I1 r1 q1)
theorem G9{f:Value->Value->Sem Value}{C:Int->Int->Prop}{g:Int->Int->Int}
  (rule:∀(i j:Int)(t u:Tok)(s:Shared)(Q:Value->Shared->Prop)(E:Value->Shared->Prop),C i j->Q (.int (g i j) s.toks) { s with toks:=s.toks+1 }->wpAny (model X.prog X.w) X.A (f (.int i t) (.int j u)) Q E s) :
  bC X f (rI C fun i j=>.int (g i j)):=by
 intro pins s σ H x y v u Q I rx ry h;obtain⟨i,j,rfl,rfl,hc,q⟩:=h;obtain⟨t,rfl⟩:=rx;obtain⟨t',rfl⟩:=ry;exact rule i j t t' s _ _ hc ⟨.int (g i j),H,I.tok _,⟨_,rfl⟩,q⟩
theorem MM{f:Value->Value->Sem Value}{g:Int->Int->Int}
  (rule:∀(i j:Int)(t u:Tok)(s:Shared)(Q:Value->Shared->Prop)(E:Value->Shared->Prop),Q (.int (g i j) s.toks) { s with toks:=s.toks+1 }->wpAny (model X.prog X.w) X.A (f (.int i t) (.int j u)) Q E s) :
  bC X f (oo fun i j=>.int (g i j)):=by
 intro pins s σ H x y v u Q I rx ry h;obtain⟨i,j,rfl,rfl,q⟩:=h;obtain⟨t,rfl⟩:=rx;obtain⟨t',rfl⟩:=ry;exact rule i j t t' s _ _ ⟨.int (g i j),H,I.tok _,⟨_,rfl⟩,q⟩
theorem yO{f:Value->Value->Sem Value}{g:Int->Int->Bool}
  (rule:∀(i j:Int)(t u:Tok)(s:Shared)(Q:Value->Shared->Prop)(E:Value->Shared->Prop),Q (.bool (g i j)) s->wpAny (model X.prog X.w) X.A (f (.int i t) (.int j u)) Q E s) :
  bC X f (oo fun i j=>.bl (g i j)):=by
 intro pins s σ H x y v u Q I rx ry h;obtain⟨i,j,rfl,rfl,q⟩:=h;obtain⟨t,rfl⟩:=rx;obtain⟨t',rfl⟩:=ry;exact rule i j t t' s _ _ ⟨.bl (g i j),H,I,rfl,q⟩
def Wr(i j:Int):Prop:=0<j/\j<1073741824
def C'(i j:Int):Prop:=(-(2 ^ 64)<i/\i<2 ^ 64)\/(-(2 ^ 64)<j/\j<2 ^ 64)
theorem C'.ok{i j:Int}(h:C' i j):IntMulOk i j:=by
 rcases h with⟨h1,h2⟩|⟨h1,h2⟩
 ·exact .of_left (intBits_le_64 h1 h2)
 ·exact .of_right (intBits_le_64 h1 h2)
theorem gn:bC X (binaryOp .Add) (oo fun i j=>.int (i+j)):=MM fun _ _ _ _ _ _ _ q=>add_int q
theorem yt:bC X (binaryOp .Sub) (oo fun i j=>.int (i-j)):=MM fun _ _ _ _ _ _ _ q=>sub_int q
theorem uV:bC X (binaryOp .Mult) (rI C' fun i j=>.int (i*j)):=G9 fun _ _ _ _ _ _ _ hc q=>mul_int q hc.ok
theorem fK:bC X (binaryOp .FloorDiv) (rI Wr fun i j=>.int (i / j)):=G9 fun i j _ _ _ _ _ hc q=>by
 have h1:(0:Int)<j:=hc.1;have h2:j<1073741824:=hc.2;exact floordiv_int (by lia) (by rw[Int.fdiv_eq_ediv_of_nonneg i (by lia)];exact q) (.inl (PyProof.noPylong_small (by lia)))
theorem dq:bC X (binaryOp .Mod) (rI (fun _ j=>0<j) fun i j=>.int (i % j)):=G9 fun i j _ _ _ _ _ hc q=>by
 have h1:(0:Int)<j:=hc;exact mod_int' (by lia) (by rw[Int.fmod_eq_emod_of_nonneg i (by lia)];exact q)
theorem unI{f:Value->Sem Value}{g:Int->Int}
  (rule:∀(i:Int)(t:Tok)(s:Shared)(Q:Value->Shared->Prop)(E:Value->Shared->Prop),Q (.int (g i) s.toks) { s with toks:=s.toks+1 }->wpAny (model X.prog X.w) X.A (f (.int i t)) Q E s) :
  Br X f (rU fun i=>.int (g i)):=by
 intro pins s σ H x v Q I rx h;obtain⟨i,rfl,q⟩:=h;obtain⟨t,rfl⟩:=rx;exact rule i t s _ _ ⟨.int (g i),H,I.tok _,⟨_,rfl⟩,q⟩
theorem jA:Br X (unaryOp .USub) (rU fun i=>.int (-i)):=unI fun _ _ _ _ _ q=>neg_int q
end
def MR:V->V->Bool
 | .aE,.aE=>true | .aE,.int _=>true | .int _,.aE=>true | .aE,.bl _=>true | .bl _,.aE=>true | .aE,.str _=>true | .str _,.aE=>true
 | .int _,.int _=>true | .bl _,.bl _=>true | .str _,.str _=>true | .gV _,.gV _=>true
 | .int _,.str _=>true | .str _,.int _=>true | .bl _,.str _=>true | .str _,.bl _=>true
 | _,_=>false
def rEq:R2:=fun x y H Q=>MR x y=true/\Q (.bl (decide (x=y))) H
def rNe:R2:=fun x y H Q=>MR x y=true/\Q (.bl (!decide (x=y))) H
theorem Li{i j:Int}:decide (V.int i=V.int j)=(i == j):=by
 rw[jm];simp
theorem LQ{i j:Bool}:decide (V.bl i=V.bl j)=(i == j):=by
 rw[jm];simp
theorem LB{i j:Str}:decide (V.str i=V.str j)=(i == j):=by
 rw[jm];simp
theorem K'{i j:Array UInt8}:decide (V.gV i=V.gV j)=(i.toList == j.toList):=by
 rw[jm];cases i;cases j;simp
section
variable{X:Cx}{a b c:Expr}{ta tb tc:TE}{pos:Pos}
theorem Z5{pins:List (Addr×Obj)}{σ : St}{H:Hp}{s:Shared}{Q:VK}{k k':Bool}(I:Inv X pins σ H s)(q:Q (.bl k) H)(e:k=k'):EP X pins σ Q (.bool k') s:=by
 subst e;exact⟨.bl k,H,I,rfl,q⟩
theorem fw:bC X (compareOp .Eq) rEq:=by
 intro pins s σ H x y v u Q I rx ry h;obtain⟨hs,q⟩:=h;cases x with
 | aE =>
  cases rx;cases y with
  | aE=>cases ry;exact PySem.EqNone.eq_none_none (Z5 I q (by simp))
  | bl j=>cases ry;exact PySem.EqNone.eq_none_bool (Z5 I q (by simp))
  | int j=>obtain⟨t',rfl⟩:=ry;exact PySem.EqNone.eq_none_int (Z5 I q (by simp))
  | str j=>obtain⟨t',rfl⟩:=ry;exact PySem.EqNone.eq_none_str (Z5 I q (by simp))
  | _=>exact absurd (show false=true from hs) bf
 | bl i =>
  cases rx;cases y with
  | aE=>cases ry;exact PySem.EqNone.eq_bool_none (Z5 I q (by simp))
  | bl j=>cases ry;exact eq_bool (Z5 I q LQ)
  | str j=>obtain⟨t',rfl⟩:=ry;exact PySem.EqMixed.eq_bool_str (Z5 I q (by simp))
  | _=>exact absurd (show false=true from hs) bf
 | int i =>
  obtain⟨t,rfl⟩:=rx;cases y with
  | aE=>cases ry;exact PySem.EqNone.eq_int_none (Z5 I q (by simp))
  | int j=>obtain⟨t',rfl⟩:=ry;exact eq_int (Z5 I q Li)
  | str j=>obtain⟨t',rfl⟩:=ry;exact PySem.EqMixed.eq_int_str (Z5 I q (by simp))
  | _=>exact absurd (show false=true from hs) bf
 | str i =>
  obtain⟨t,rfl⟩:=rx;cases y with
  | aE=>cases ry;exact PySem.EqNone.eq_str_none (Z5 I q (by simp))
  | bl j=>cases ry;exact PySem.EqMixed.eq_str_bool (Z5 I q (by simp))
  | int j=>obtain⟨t',rfl⟩:=ry;exact PySem.EqMixed.eq_str_int (Z5 I q (by simp))
  | str j=>obtain⟨t',rfl⟩:=ry;exact eq_str (Z5 I q LB)
  | _=>exact absurd (show false=true from hs) bf
 | gV i =>
  obtain⟨t,rfl⟩:=rx;cases y with
  | gV j=>obtain⟨t',rfl⟩:=ry;exact PySem.W.eq_bytes (Z5 I q K')
  | _=>exact absurd (show false=true from hs) bf
 | _=>cases y <;> exact absurd (show false=true from hs) bf
theorem pO:bC X (compareOp .NotEq) rNe:=by
 intro pins s σ H x y v u Q I rx ry h;obtain⟨hs,q⟩:=h;cases x with
 | aE =>
  cases rx;cases y with
  | aE=>cases ry;exact PySem.EqNone.ne_none_none (Z5 I q (by simp))
  | bl j=>cases ry;exact PySem.EqNone.ne_none_bool (Z5 I q (by simp))
  | int j=>obtain⟨t',rfl⟩:=ry;exact PySem.EqNone.ne_none_int (Z5 I q (by simp))
  | str j=>obtain⟨t',rfl⟩:=ry;exact PySem.EqNone.ne_none_str (Z5 I q (by simp))
  | _=>exact absurd (show false=true from hs) bf
 | bl i =>
  cases rx;cases y with
  | aE=>cases ry;exact PySem.EqNone.ne_bool_none (Z5 I q (by simp))
  | bl j=>cases ry;exact ne_bool (Z5 I q (congrArg not LQ))
  | str j=>obtain⟨t',rfl⟩:=ry;exact PySem.EqMixed.ne_bool_str (Z5 I q (by simp))
  | _=>exact absurd (show false=true from hs) bf
 | int i =>
  obtain⟨t,rfl⟩:=rx;cases y with
  | aE=>cases ry;exact PySem.EqNone.ne_int_none (Z5 I q (by simp))
  | int j=>obtain⟨t',rfl⟩:=ry;exact ne_int (Z5 I q (congrArg not Li))
  | str j=>obtain⟨t',rfl⟩:=ry;exact PySem.EqMixed.ne_int_str (Z5 I q (by simp))
  | _=>exact absurd (show false=true from hs) bf
 | str i =>
  obtain⟨t,rfl⟩:=rx;cases y with
  | aE=>cases ry;exact PySem.EqNone.ne_str_none (Z5 I q (by simp))
  | bl j=>cases ry;exact PySem.EqMixed.ne_str_bool (Z5 I q (by simp))
  | int j=>obtain⟨t',rfl⟩:=ry;exact PySem.EqMixed.ne_str_int (Z5 I q (by simp))
  | str j=>obtain⟨t',rfl⟩:=ry;exact ne_str (Z5 I q (congrArg not LB))
  | _=>exact absurd (show false=true from hs) bf
 | gV i =>
  obtain⟨t,rfl⟩:=rx;cases y with
  | gV j=>obtain⟨t',rfl⟩:=ry;exact PySem.W.ne_bytes (Z5 I q (congrArg not K'))
  | _=>exact absurd (show false=true from hs) bf
 | _=>cases y <;> exact absurd (show false=true from hs) bf
theorem sj:bC X (compareOp .Lt) (oo fun i j=>.bl (decide (i<j))):=yO fun _ _ _ _ _ _ _ q=>lt_int q
theorem sk:bC X (compareOp .LtE) (oo fun i j=>.bl (decide (i<=j))):=yO fun _ _ _ _ _ _ _ q=>le_int q
theorem Wd:bC X (compareOp .Gt) (oo fun i j=>.bl (decide (j<i))):=yO fun _ _ _ _ _ _ _ q=>gt_int q
theorem Wf:bC X (compareOp .GtE) (oo fun i j=>.bl (decide (j<=i))):=yO fun _ _ _ _ _ _ _ q=>ge_int q
theorem Sh:bC X (compareOp .In) (fun x y H Q=>∃i j,x=.str i/\y=.str j/\Q (.bl (!(Builtin.Str.occurrences j i 0 j.length 1).isEmpty)) H):=by
 intro pins s σ H x y v u Q I rx ry h;obtain⟨i,j,rfl,rfl,q⟩:=h;obtain⟨t,rfl⟩:=rx;obtain⟨t',rfl⟩:=ry;exact in_str (Z5 I q rfl)
theorem Cy:bC X (compareOp .Is) (fun x y H Q=>y=.aE/\Q (.bl (decide (x=.aE))) H):=by
 intro pins s σ H x y v u Q I rx ry h;obtain⟨rfl,q⟩:=h;cases ry;refine is_none_gen (Z5 I q ?_);cases x <;> first
  | (cases rx;rfl)
  | (obtain⟨t,rfl⟩:=rx;rfl)
theorem K6:bC X (compareOp .IsNot) (fun x y H Q=>y=.aE/\Q (.bl (!decide (x=.aE))) H):=by
 intro pins s σ H x y v u Q I rx ry h;obtain⟨rfl,q⟩:=h;cases ry;refine isnot_none_gen (Z5 I q ?_);cases x <;> first
  | (cases rx;rfl)
  | (obtain⟨t,rfl⟩:=rx;rfl)
theorem ZK(b:Expr){op:CmpOp}(h:op ≠ .In:=by decide)(h2:op ≠ .NotIn:=by decide):behindInMarks op b=false:=by
 have e1:(op == CmpOp.In)=false:=by cases op <;> first|rfl|exact absurd rfl h
 have e2:(op == CmpOp.NotIn)=false:=by cases op <;> first|rfl|exact absurd rfl h2
 cases b <;> simp[behindInMarks,e1,e2]
theorem ye{op:CmpOp}{r:R2}(ho:bC X (compareOp op) r)(ha:PE X a ta)(hb:PE X b tb)(hm:behindInMarks op b=false):PE X (.Compare a [op] [b] pos) (wN r ta tb):=by
 intro pins s σ H Q I h;exact wpAny_Compare1 (Dc ha hb I h fun v u s2 x y H2 I2 rx ry q=>ho pins s2 σ H2 x y v u Q I2 rx ry q) hm
def Mx(t:TE):TT:=fun σ H Q=>t σ H fun x H'=>∃k,x=.bl k/\Q k H'
theorem Zr{op:CmpOp}{r:R2}(ho:bC X (compareOp op) r)(ha:PE X a ta)(hb:PE X b tb)(hm:behindInMarks op b=false):PT X (.Compare a [op] [b] pos) (Mx (wN r ta tb)):=by
 intro pins s σ H Q I h;refine wpAny_isTrue_Compare1 (aw (ha pins s σ H _ I h) fun v s1 ⟨x,H1,I1,r1,q1⟩=>aw (hb pins s1 σ H1 _ I1 q1) fun u s2 ⟨y,H2,I2,r2,q2⟩ =>
  aw (ho pins s2 σ H2 x y v u _ I2 r1 r2 q2) fun c s3 ⟨z,H3,I3,r3,k,e,q3⟩=>?_) hm
 subst e;cases r3;exact mJ ⟨H3,I3,q3⟩
def L_(r r':R2)(ta tb tc:TE):TE:=fun σ H Q=>ta σ H fun x H1=>tb σ H1 fun y H2=>r x y H2 fun z H3=>∃k,z=.bl k /\
 (if k=true then tc σ H3 fun w' H4=>r' y w' H4 Q else Q (.bl false) H3)
theorem Kq{op o8:CmpOp}{r r':R2}(ho:bC X (compareOp op) r)(cp:bC X (compareOp o8) r')(ha:PE X a ta)(hb:PE X b tb)(hc:PE X c tc)
  (hm:lastMarks [op,o8] [b,c]=false:=by with_unfolding_all rfl):PE X (.Compare a [op,o8] [b,c] pos) (L_ r r' ta tb tc):=by
 intro pins s σ H Q I h;refine Compare_chain (aw (ha pins s σ H _ I h) fun v s1 ⟨x,H1,I1,r1,q1⟩=>chain_link (aw (hb pins s1 σ H1 _ I1 q1) fun u s2 ⟨y,H2,I2,r2,q2⟩ =>
  aw (ho pins s2 σ H2 x y v u _ I2 r1 r2 q2) fun d s3 ⟨z,H3,I3,r3,k,e,q3⟩=>?_)) hm
 subst e;cases r3;refine mJ ?_;cases k with
 | false=>exact ite_ff ⟨.bl false,H3,I3,rfl,q3⟩
 | true=>exact ite_tt (chain_last (aw (hc pins s3 σ H3 _ I3 q3) fun w' s4 ⟨z',H4,I4,r4,q4⟩=>cp pins s4 σ H4 y z' u w' Q I4 r2 r4 q4))
theorem BW{op o8:CmpOp}{r r':R2}(ho:bC X (compareOp op) r)(cp:bC X (compareOp o8) r')(ha:PE X a ta)(hb:PE X b tb)(hc:PE X c tc)
  (hm:lastMarks [op,o8] [b,c]=false:=by with_unfolding_all rfl):PT X (.Compare a [op,o8] [b,c] pos) (Mx (L_ r r' ta tb tc)):=by
 intro pins s σ H Q I h;refine isTrue_chain (aw (ha pins s σ H _ I h) fun v s1 ⟨x,H1,I1,r1,q1⟩=>test_link (aw (hb pins s1 σ H1 _ I1 q1) fun u s2 ⟨y,H2,I2,r2,q2⟩ =>
  aw (ho pins s2 σ H2 x y v u _ I2 r1 r2 q2) fun d s3 ⟨z,H3,I3,r3,k,e,q3⟩=>?_)) hm
 subst e;cases r3;refine mJ ?_;cases k with
 | false =>
  obtain⟨k',e',q'⟩:=q3;cases e';exact ite_ff ⟨H3,I3,q'⟩
 | true =>
  refine ite_tt (test_last (aw (hc pins s3 σ H3 _ I3 q3) fun w' s4 ⟨z',H4,I4,r4,q4⟩=>aw (cp pins s4 σ H4 y z' u w' _ I4 r2 r4 q4) fun d' s5 ⟨z2,H5,I5,r5,k2,e2,q5⟩=>?_));subst e2;cases r5;exact mJ ⟨H5,I5,q5⟩
def MB(K:PySem.W.Frag)(x:V)(H:Hp)(k:Bool):Prop :=
 match x with
 | .aE=>k=false
 | .bl b=>k=b
 | .int i=>k=(i != 0)
 | .str y=>y.length<=sizeLine/\k=((y.length:Int) != 0)
 | .gV y=>y.size<=sizeLine/\k=((y.size:Int) != 0)
 | .ref p=>(∃xs,ak K H p xs/\k= !xs.isEmpty)\/(∃xs,aM K H p xs/\k= !xs.isEmpty)\/∃aj,H p=some (.dK aj)/\k= !aj.isEmpty
 | _=>False
theorem RE{κ : Type}{aj:List (κ × V)}{vs:List (κ × Value)}(r:KV aj vs):(!vs.isEmpty)= !aj.isEmpty:=by
 cases r <;> rfl
theorem JO{xs:List V}{its:List Value}(r:Vals xs its):(!its.toArray.isEmpty)= !xs.isEmpty:=by
 cases r <;> simp
theorem sd:(sizeLine:Nat)<2 ^ 63:=by rw[fI];decide
theorem VD:WA X (fun x H Q=>∃k,MB X.K x H k/\Q k H):=by
 intro pins s σ H x v Q I rx h;obtain⟨k,e,q⟩:=h;have hl:=sd;have hs:sizeLine=16777216:=fI;cases x with
 | aE =>
  cases rx;have e':k=false:=e;subst e';exact truthy_none ⟨H,I,q⟩
 | bl b =>
  cases rx;have e':k=b:=e;subst e';exact mJ ⟨H,I,q⟩
 | int i =>
  obtain⟨t,rfl⟩:=rx;have e':k=(i != 0):=e;subst e';exact PySem.P.truthy_int ⟨H,I,q⟩
 | str y =>
  obtain⟨t,rfl⟩:=rx;obtain⟨hy,e'⟩:y.length<=sizeLine/\k=((y.length:Int) != 0):=e;subst e';exact PySem.P.truthy_str (by lia) ⟨H,I.tok _,q⟩
 | gV y =>
  obtain⟨t,rfl⟩:=rx;obtain⟨hy,e'⟩:y.size<=sizeLine/\k=((y.size:Int) != 0):=e;subst e';exact PySem.W.truthy_bytes (by lia) ⟨H,I.tok _,q⟩
 | ref p =>
  cases rx;have e':(∃xs,ak X.K H p xs/\k= !xs.isEmpty)\/(∃xs,aM X.K H p xs/\k= !xs.isEmpty)\/∃aj,H p=some (.dK aj)/\k= !aj.isEmpty:=e;rcases e' with⟨xs,hx,e'⟩|⟨xs,hx,e'⟩|⟨aj,hx,e'⟩
  ·subst e';obtain⟨its,r,pl,hz⟩:=I.list hx;have hlen:=r.length;exact wpAny_truthy_list pl.isList (by simp only[bX];lia) ⟨H,I.tok _,by rw[JO r];exact q⟩
  ·subst e';obtain⟨its,r,pl,hz⟩:=I.tuple hx;have hlen:=r.length;exact truthy_tuple pl (by simp only[bX];lia) ⟨H,I.tok _,by rw[JO r];exact q⟩
  ·subst e';obtain⟨hz,hS,vs,r,m⟩:aj.length<=sizeLine/\(p == sysModules)=false/\∃vs,KV aj vs/\s.heap.DictOf (Z9 X.prog X.w) p vs:=I.aq p _ hx;have hlen:aj.length=vs.length:=gb r;exact wpAny_truthy_dict hS m (by lia) ⟨H,I.tok _,by rw[RE r];exact q⟩
 | _=>exact(show False from e).elim
theorem ZZ(ha:PE X a ta)(he:∀whole,isTrue a X.env whole=(do let v <- whole;standAt a.pos;holding [v] (truthy v))) :
  PT X a (fun σ H Q=>ta σ H fun x H'=>∃k,MB X.K x H' k/\Q k H'):=by
 intro pins s σ H Q I h;exact isTrue_plain (aw (ha pins s σ H _ I h) fun v s1 ⟨x,H1,I1,r1,q1⟩=>VD pins s1 σ H1 x v Q I1 r1 q1) (he _)
theorem Zy:bC X (binaryOp .Add) (fun x y H Q=>∃i j,x=.str i/\y=.str j/\i.length+j.length<=sizeLine/\Q (.str (i++j)) H):=by
 intro pins s σ H x y v u Q I rx ry h;obtain⟨i,j,rfl,rfl,hz,q⟩:=h;obtain⟨t,rfl⟩:=rx;obtain⟨t',rfl⟩:=ry;exact add_str (fun t' tk=>⟨.str (i++j),H,I.tok _,⟨_,rfl⟩,q⟩) hz
theorem vals1{x:V}{us:List Value}(r:Vals [x] us):∃u,us=[u]/\RelV x u:=by
 cases r with
 | cons r1 r2=>cases r2;exact⟨_,rfl,r1⟩
theorem vals2{x y:V}{us:List Value}(r:Vals [x,y] us):∃u w',us=[u,w']/\RelV x u/\RelV y w':=by
 cases r with
 | cons r1 r2 =>
  cases r2 with
  | cons r3 r4=>cases r4;exact⟨_,_,rfl,r1,r3⟩
theorem SG(hc:X.calm=true):fP X (.builtin "max") (fun xs H Q=>∃i j,xs=[.int i,.int j]/\Q (.int (if j > i then j else i)) H):=by
 intro pins s σ H xs us Q I r h;obtain⟨i,j,rfl,q⟩:=h;obtain⟨u,w',rfl,⟨t,rfl⟩,⟨t',rfl⟩⟩:=vals2 r;refine max_two_ints (I.ok.hd hc) fun h' tk k=>⟨_,H,I.kept k,?_,q⟩;by_cases hj:j > i
 ·rw[ah hj,ah hj];exact⟨_,rfl⟩
 ·rw[af hj,af hj];exact⟨_,rfl⟩
theorem RS(hc:X.calm=true):fP X (.builtin "min") (fun xs H Q=>∃i j,xs=[.int i,.int j]/\Q (.int (if j<i then j else i)) H):=by
 intro pins s σ H xs us Q I r h;obtain⟨i,j,rfl,q⟩:=h;obtain⟨u,w',rfl,⟨t,rfl⟩,⟨t',rfl⟩⟩:=vals2 r;refine min_two_ints (I.ok.hd hc) fun h' tk k=>⟨_,H,I.kept k,?_,q⟩;by_cases hj:j<i
 ·rw[ah hj,ah hj];exact⟨_,rfl⟩
 ·rw[af hj,af hj];exact⟨_,rfl⟩
end
structure pd(h:Heap)(x dx C:Addr)(mA:Str->Option Value):Prop where
 obj:h.get? x=some (PySem.W.instObj C dx)
 ns:h.Ns1 dx mA
 ne:dx≠x
theorem Sl{h:Heap}{dx:Addr}{mA:Str->Option Value}(n:h.Ns1 dx mA):∃od,h.get? dx=some od/\∀name,PySem.W.lookIn name od=some (mA name):=by
 obtain⟨o,es,ep,ho,hd,hk,_,hm⟩:=n;refine⟨o,ho,fun name=>?_⟩;have e:=hm name;unfold nsFind findBy at e;rw[<- Array.find?_toList] at e;unfold PySem.W.lookIn;rw[hd];dsimp only
 split
 ·rename_i y q
  rw[q] at e;exact congrArg some e
 ·rename_i q
  rw[q] at e;have a:es.toList.any (·.refKey)=false:=by
   rw[List.any_eq_false];intro y hy;obtain⟨z,t,jd⟩:=hk y (Array.mem_toList_iff.mp hy);simp[DictEntry.refKey,jd]
  have a' : ¬ es.toList.any (·.refKey)=true:=by rw[a];exact bf
  rw[af a'];exact congrArg some e
theorem pd.look{h:Heap}{x dx C:Addr}{mA:Str->Option Value}(I:pd h x dx C mA):∃od,PySem.W.InstAt h x (PySem.W.instObj C dx) C (some od)/\∀name,PySem.W.lookIn name od=some (mA name) :=
 let ⟨od,ho,hl⟩:=Sl I.ns
 ⟨od,⟨I.obj,rfl,rfl,ho⟩,hl⟩
section
variable{prog:Program}{w:World}{A:Around}{E:Value->Shared->Prop}{s:Shared}{K:PySem.W.Frag}{x dx C f:Addr}{mA:Str->Option Value}{name:Str}{v:Value}
theorem Ui{expr:Bool}{Q:Value->Shared->Prop}(X:K.In s.heap)(I:pd s.heap x dx C mA)(hg:PySem.W.plainGet K C name=true)(hh:PySem.W.hasDictIn K C=true)
  (ha:PySem.W.findIn K (.ref C) name=some none) (hv:mA name=some v) (uj:PySem.W.handedIn v=true) (h:Q v { s with toks:=s.toks+1 }) :
  wpAny (model prog w) A (getAttr (.ref x) name expr) Q E s:=by
 obtain⟨od,J,hl⟩:=I.look;exact PySem.W.get_value X J (PySem.W.plainGet_of hg).1 (PySem.W.findObj_own hh ha rfl (by rw[hl,hv])) uj h
theorem S8{pl:Sem Bool}{Q:Value×List Value->Shared->Prop}(X:K.In s.heap)(I:pd s.heap x dx C mA)(hg:PySem.W.plainGet K C name=true)
  (hf:PySem.W.findIn K (.ref C) name=some (some (.ref f))) (ht:PySem.W.isFn K (.ref f)=true) (hv:mA name=none) (h:Q (.ref f,[.ref x]) s) :
  wpAny (model prog w) A (getMethod (.ref x) name pl) Q E s:=by
 obtain⟨od,J,hl⟩:=I.look;exact PySem.W.method_fn X J (PySem.W.plainGet_of hg).1 (PySem.W.plainGet_of hg).2 hf (j9.mp ht) (by show(PySem.W.lookIn name od).map (·.isSome)=some false;rw[hl,hv];rfl) h
theorem UT{ns:List Str}{Q:Unit->Shared->Prop}(X:K.In s.heap)(I:pd s.heap x dx C mA)
  (hs:PySem.W.findIn K (.ref C) "__setattr__" = some (some (.builtin "object.__setattr__"))) (hp:PySem.W.plainOver K C=true) (ht:PySem.W.takerIn K C name=some none) (hh:PySem.W.hasDictIn K C=true)
  (hw:PySem.Within mA ns) (hsz:ns.length<=sizeLine)
  (h:∀h',pd h' x dx C (fun y=>if y=name then some v else mA y)->Heap.SameBut dx s.heap h'->Q () { s with heap:=h',toks:=s.toks+2 }) :
  wpAny (model prog w) A (setAttr (.ref x) name v) Q E s:=by
 obtain⟨od,J,hl⟩:=I.look;refine PySem.W.set_plain X J hs (PySem.W.osa_open (s:={ s with toks:=s.toks+1 }) (r:=none) X J hp ht fun b=>?_);obtain⟨cd,hc,gh⟩:=PySem.W.any_some hh;have hx:s.heap.get? x=some ⟨.ref C,some dx,.plain,#[]⟩:=I.obj;refine ae (ai (ae (ae (wpAny_loadPart hx (ae (PySem.W.Looks.here (s:={ s with toks:=s.toks+1 }) (PySem.W.looks_clsIn X hc) ?_))))));rw[gh];refine ai (a:=some dx) (ae (ai (ae ?_)));refine wpAny_nsSet1 (s:={ s with toks:=s.toks+1 }) I.ns fun h' mh sZ=>?_;obtain⟨oD,esD,epD,hoD,hdD,hcD⟩:=mh.count (PySem.Within.cons name v hw);refine ae (wpAny_lookBehind hoD (by rw[hdD];exact pastItsLine_dict (cZ hcD (by rw[aO];lia))) ?_);exact ai (h _ ⟨(sZ.2 _ (fH I.ne)).trans I.obj,mh,I.ne⟩ sZ)
theorem Tv{R:Result->Shared->Prop}{vs:List Value}{kw:List (Str×Value)}(X:K.In s.heap)(hm:PySem.W.makesIn K C=true)
  (hi:PySem.W.findIn K (.ref C) "__init__" = some (some (.ref f))) (hf:PySem.W.typeIn K (.ref f)=some (.type "function"))
  (h:codeAny (model prog w) (A.under (.builtin "type.__call__" ⟨.ref C::vs,kw⟩)) (.call (.ref f) ⟨.ref (s.heap.objs.size+1)::vs,kw⟩) (PySem.W.InitBack (s.heap.objs.size+1) R)
   { s with heap:=(s.heap.push PySem.W.emptyDict).push (PySem.W.instObj C s.heap.objs.size) }) :
  codeAny (model prog w) A (.call (.ref C) ⟨vs,kw⟩) R s:=by
 obtain⟨hh,g,d,t,os⟩:=s;exact PySem.W.make_core (PySem.W.makes_of X hm) (PySem.W.looks_findIn X hi) (fun self=>PySem.W.bind_fn X self hf) (.inl rfl) h
end
def fz(f:Str)(v:V):List (Str×V)->List (Str×V)
 | []=>[(f,v)]
 | (g,x)::r=>if g=f then(g,v)::r else(g,x)::fz f v r
theorem Jx(f g:Str)(v:V):∀fs:List (Str×V),(fz f v fs).lookup g=if g=f then some v else fs.lookup g
 | []=>by
  show List.lookup g [(f,v)]=_;by_cases h:g=f
  ·have hb:(g == f)=true:=j9.mpr h;simp only[List.lookup,hb,ah h]
  ·have hb:(g == f)=false:=xt.mpr h;simp only[List.lookup,hb,af h]
 | (k,x)::r=>by
  have ih:=Jx f g v r;rw[show fz f v ((k,x)::r)=(if k=f then(k,v)::r else(k,x)::fz f v r) from rfl]
  by_cases hk:k=f
  ·rw[ah hk];by_cases h:g=k
   ·have hb:(g == k)=true:=j9.mpr h;simp only[List.lookup,hb,ah (h.trans hk)]
   ·have hb:(g == k)=false:=xt.mpr h;simp only[List.lookup,hb,af (fun e:g=f=>h (e.trans hk.symm))]
  ·rw[af hk];by_cases h:g=k
   ·have hb:(g == k)=true:=j9.mpr h;simp only[List.lookup,hb,af (fun e:g=f=>hk (h.symm.trans e))]
   ·have hb:(g == k)=false:=xt.mpr h;simp only[List.lookup,hb];exact ih
theorem BA(f:Str)(v:V):∀fs:List (Str×V),f∈(fz f v fs).map (·.1)/\∀g,g∈fs.map (·.1)->g∈(fz f v fs).map (·.1)
 | []=>⟨by simp[fz],fun g h=>by simp at h⟩
 | (k,x)::r=>by
  obtain⟨i1,i2⟩:=BA f v r;rw[show fz f v ((k,x)::r)=(if k=f then(k,v)::r else(k,x)::fz f v r) from rfl]
  by_cases hk:k=f
  ·rw[ah hk];subst hk;exact⟨by simp,fun g h=>by simpa using h⟩
  ·rw[af hk];refine⟨?_,fun g h=>?_⟩
   ·rw[bt];exact aX _ i1
   ·rw[bt] at h ⊢;rcases aH.mp h with e|e
    ·exact aH.mpr (.inl e)
    ·exact aX _ (i2 g e)
theorem Jv(f:Str)(v:V):∀fs:List (Str×V),(fz f v fs).length<=fs.length+1
 | []=>by simp[fz]
 | (k,x)::r=>by
  have ih:=Jv f v r;rw[show fz f v ((k,x)::r)=(if k=f then(k,v)::r else(k,x)::fz f v r) from rfl]
  by_cases hk:k=f
  ·rw[ah hk,aO,aO];lia
  ·rw[af hk,aO,aO];lia
theorem fS.some_of{v:V}{o:Option Value}(r:fS (some v) o):∃u,o=some u/\RelV v u:=by
 cases o with
 | none=>exact(show False from r).elim
 | some u=>exact⟨u,rfl,r⟩
theorem fS.none_of{o:Option Value}(r:fS none o):o=none:=by
 cases o with
 | none=>rfl
 | some u=>exact(show False from r).elim
theorem Sv{v:V}{u:Value}(r:RelV v u):PySem.W.handedIn u=true:=by
 cases v with
 | aE=>cases (show u=Value.none from r);rfl
 | bl b=>cases (show u=Value.bool b from r);rfl
 | int i=>obtain⟨t,e⟩:=(show ∃t,u=Value.int i t from r);cases e;rfl
 | str x=>obtain⟨t,e⟩:=(show ∃t,u=Value.str x t from r);cases e;rfl
 | gV b=>obtain⟨t,e⟩:=(show ∃t,u=Value.bytes b t from r);cases e;rfl
 | pV b=>obtain⟨t,e⟩:=(show ∃t,u=Value.float b t from r);cases e;rfl
 | ref a=>cases (show u=Value.ref a from r);rfl
 | ty n=>cases (show u=Value.type n from r);rfl
section
variable{P:Program}{w:World}{H H':Hp}{h h':Heap}{a C dx:Addr}{fs mN:List (Str×V)}
theorem pF(aq:bF P w H h)(e:H a=some (.ins C dx fs)):∃mA,pd h a dx C mA/\(∀f,fS (fs.lookup f) (mA f))/\PySem.Within mA (fs.map (·.1))/\fs.length<=1000/\H dx=some (.own a):=by
 obtain⟨d,z,ne,ob,mA,n,r,q⟩:=(show bM P w H h a (.ins C dx fs) from aq a _ e);exact⟨mA,⟨ob,n,ne⟩,r,q,z,d⟩
end
structure gT(K:PySem.W.Frag)(C:Addr):Prop where
 pg:PySem.W.plainGet K C Str.empty=true
 hd:PySem.W.hasDictIn K C=true
 po:PySem.W.plainOver K C=true
 sa:PySem.W.findIn K (.ref C) "__setattr__" = some (some (.builtin "object.__setattr__"))
theorem gT.get{K:PySem.W.Frag}{C:Addr}(c:gT K C)(f:Str):PySem.W.plainGet K C f=true:=c.pg
def lQ(K:PySem.W.Frag)(C:Addr)(f:Str):Prop:=PySem.W.findIn K (.ref C) f=some none
theorem lQ.Zwe{K:PySem.W.Frag}{C:Addr}{f:Str}(n:lQ K C f):PySem.W.takerIn K C f=some none:=by
 unfold PySem.W.takerIn;rw[show PySem.W.findIn K (.ref C) f=some none from n];rfl
structure Meth(K:PySem.W.Frag)(C:Addr)(m:Str)(f:Addr):Prop where
 at_:PySem.W.findIn K (.ref C) m=some (some (.ref f))
 fn:PySem.W.isFn K (.ref f)=true
 kp:PySem.W.keepIn K (.ref f)=true
section
variable{X:Cx}{pins:List (Addr×Obj)}{σ : St}{H:Hp}{s:Shared}{a C dx:Addr}{fs:List (Str×V)}{f:Str}{v:V}{A:Around}{E:Value->Shared->Prop}
theorem JL{b:Bool}{Q:Value->Shared->Prop}(I:Inv X pins σ H s)(e:H a=some (.ins C dx fs))(c:gT X.K C)(n:lQ X.K C f)(l:fs.lookup f=some v)
  (h:∀u s',Inv X pins σ H s'->RelV v u->Q u s'):wpAny (model X.prog X.w) A (getAttr (.ref a) f b) Q E s:=by
 obtain⟨mA,O,r,_,_,_⟩:=pF I.aq e;obtain⟨u,hu,ru⟩:=fS.some_of (v:=v) (o:=mA f) (by rw[<- l];exact r f);exact Ui I.bI O (c.get f) c.hd n hu (Sv ru) (h u _ (I.tok _) ru)
theorem JA{m:Str}{g:Addr}{pl:Sem Bool}{Q:Value×List Value->Shared->Prop}(I:Inv X pins σ H s)(e:H a=some (.ins C dx fs))(c:gT X.K C)(k:Meth X.K C m g)(l:fs.lookup m=none)
  (h:Q (.ref g,[.ref a]) s):wpAny (model X.prog X.w) A (getMethod (.ref a) m pl) Q E s:=by
 obtain⟨mA,O,r,_,_,_⟩:=pF I.aq e;have hn:mA m=none:=fS.none_of (by rw[<- l];exact r m);exact S8 I.bI O (c.get m) k.at_ k.fn hn h
theorem JH{y:V}{u:Value}{Q:Unit->Shared->Prop}(I:Inv X pins σ H s)(e:H a=some (.ins C dx fs))(c:gT X.K C)(n:lQ X.K C f)(hl:fs.length<1000)(ry:RelV y u)
  (h:∀s',Inv X pins σ (upd H a (.ins C dx (fz f y fs))) s'->Q () s'):wpAny (model X.prog X.w) A (setAttr (.ref a) f u) Q E s:=by
 obtain⟨mA,O,r,wi,_,ho⟩:=pF I.aq e;have hz:(fs.map (·.1)).length<=sizeLine:=by rw[aW,fI];lia
 refine UT I.bI O c.sa c.po n.Zwe c.hd wi hz fun h' O' sb=>h _ ?_;have hd:∃o,h'.get? dx=some o:=let ⟨o,_,_,e',_⟩:=O'.ns;⟨o,e'⟩;refine I.write (x:=a) (e:=dx) (by rw[e];exact True.intro) (.inr ho) (fun b q hb z=>(sb.2 b hb).trans z) hd ?_;refine⟨by rw[Zi O.ne];exact ho,?_,O.ne,O'.obj,_,O'.ns,fun g=>?_,fun g hg=>?_⟩
 ·have:=Jv f y fs;lia
 ·show fS ((fz f y fs).lookup g) (if g=f then some u else mA g)
  rw[Jx];by_cases q:g=f
  ·rw[ah q,ah q];exact ry
  ·rw[af q,af q];exact r g
 ·by_cases q:g=f
  ·rw[q];exact(BA f y fs).1
  ·refine(BA f y fs).2 g (wi g fun z=>hg ?_);show(if g=f then some u else mA g)=none
   rw[af q];exact z
theorem Inv.made(I:Inv X pins σ H s):Inv X pins σ (upd (upd H s.heap.objs.size (.own (s.heap.objs.size+1))) (s.heap.objs.size+1) (.ins C s.heap.objs.size []))
  { s with heap:=(s.heap.push PySem.W.emptyDict).push (PySem.W.instObj C s.heap.objs.size) }:=by
 have e1:(s.heap.push PySem.W.emptyDict).get? s.heap.objs.size=some PySem.W.emptyDict:=cf s.heap rfl;have e2:((s.heap.push PySem.W.emptyDict).push (PySem.W.instObj C s.heap.objs.size)).get? (s.heap.objs.size+1)=some (PySem.W.instObj C s.heap.objs.size):=by
  have:=cf (s.heap.push PySem.W.emptyDict) (o:=PySem.W.instObj C s.heap.objs.size) rfl
  rwa [iO] at this
 have e3:(s.heap.push PySem.W.emptyDict).Ns s.heap.objs.size (fun _=>none):=⟨PySem.W.emptyDict,#[],_,e1,rfl,(fun e he=>absurd he (by simp)),fun _=>rfl⟩;have I1:=I.laid (a:=s.heap.objs.size) (o:=.own (s.heap.objs.size+1)) (h':=s.heap.push PySem.W.emptyDict) (t':=s.toks) (fun b u q=>aK _ q) (az _) ⟨_,e1⟩;refine I1.laid (a:=s.heap.objs.size+1) (o:=.ins C s.heap.objs.size []) (t':=s.toks) (fun b u q=>aK _ q) (Nat.le_of_eq (iO _ _)) ?_;have ne:s.heap.objs.size≠s.heap.objs.size+1:=bY (gP _);refine⟨by rw[Zi ne,Zc],bj _,ne,e2,fun _=>none,(Heap.Ns1.of_empty e3).at fun o q=>aK _ q,fun _=>True.intro,fun y hy=>absurd rfl hy⟩
theorem Uo{prog:Program}{w:World}{env:Env}{e:Expr}{f:Str}{pos:Pos}{s:Shared}{Q:Value->Shared->Prop}(hb:attributeBase e f env (eval e env)=eval e env)
  (h:wpAny (model prog w) A (eval e env) (fun o ba=>wpAny (model prog w) A (getAttr o f true) Q E ba) E s):wpAny (model prog w) A (eval (.Attribute e f pos) env) Q E s :=
 Attribute_any_ h (by rw[arm_eval_Attribute,hb])
end
def C_(K:PySem.W.Frag)(ta:TE)(f:Str):TE:=fun σ H Q=>ta σ H fun x H1=>∃a C dx fs v,x=.ref a/\H1 a=some (.ins C dx fs)/\gT K C/\lQ K C f/\fs.lookup f=some v/\Q v H1
def Wu(K:PySem.W.Frag)(ta tv:TE)(f:Str):TS:=fun D σ H=>tv σ H fun y H1=>ta σ H1 fun x H2=>∃a C dx fs,x=.ref a/\H2 a=some (.ins C dx fs)/\gT K C/\lQ K C f/\fs.length<1000 /\
 D.nx σ (upd H2 a (.ins C dx (fz f y fs)))
def MH(X:Cx)(op:Operator)(rd:V->V->Hp->VK->Prop):Prop :=
 ∀(pins:List (Addr×Obj))(s:Shared)(σ : St)(H:Hp)(x y:V)(u v:Value)(Q:VK),Inv X pins σ H s->RelV x u->RelV y v->rd x y H Q->wpAny (model X.prog X.w) X.A (inplaceOp op u v) (EP X pins σ Q) X.xe s
def Ux(K:PySem.W.Frag)(ta tv:TE)(rd:V->V->Hp->VK->Prop)(f:Str):TS:=fun D σ H=>ta σ H fun x H1=>∃a C dx fs v,x=.ref a/\H1 a=some (.ins C dx fs)/\gT K C/\lQ K C f/\fs.lookup f=some v /\
 tv σ H1 fun y H2=>rd v y H2 fun z H3=>∃A_ mN,H3 a=some (.ins C A_ mN)/\mN.length<1000/\D.nx σ (upd H3 a (.ins C A_ (fz f z mN)))
section
variable{X:Cx}{o e value:Expr}{f:Str}{pos pos' PQ:Pos}{ta tv:TE}
theorem i8(he:PE X e ta)(hb:attributeBase e f X.env (eval e X.env)=eval e X.env):PE X (.Attribute e f pos) (C_ X.K ta f):=by
 intro pins s σ H Q I h;refine Uo hb (aw (he pins s σ H _ I h) fun u s1 ⟨x,H1,I1,rx,a,C,dx,fs,v,ex,ea,c,n,l,q⟩=>?_);subst ex;obtain rfl:u=Value.ref a:=rx;exact JL I1 ea c n l fun u' s2 I2 ru=>⟨v,H1,I2,ru,q⟩
theorem LY(ha:PE X o ta)(hv:PE X value tv)(hs:swapsWith value (some (.Attribute o f pos')) pos.line X.env=pure false):PS X (.Assign [.Attribute o f pos'] value pos) (Wu X.K ta tv f):=by
 intro pins s σ H D I h;refine plainObj_wpAny_Assign_Attribute (aw (hv pins s σ H _ I h) fun u s1 ⟨y,H1,I1,ry,q⟩=>aw (ha pins s1 σ H1 _ I1 q) fun ov s2 ⟨x,H2,I2,rx,a,C,dx,fs,ex,ea,c,n,l,q2⟩=>?_) hs;subst ex;obtain rfl:ov=Value.ref a:=rx;exact JH I2 ea c n l ry fun s3 I3=>⟨σ,_,I3,q2⟩
theorem J0{op:Operator}{rd:V->V->Hp->VK->Prop}(ha:PE X o ta)(hv:PE X value tv)(hop:MH X op rd):PS X (.AugAssign (.Attribute o f PQ) op value pos) (Ux X.K ta tv rd f):=by
 intro pins s σ H D I h;refine wpAny_AugAssign_AttributeAny (aw (ha pins s σ H _ I h) fun ov s1 ⟨x,H1,I1,rx,a,C,dx,fs,v,ex,ea,c,n,l,q⟩=>?_);subst ex;obtain rfl:ov=Value.ref a:=rx;refine JL I1 ea c n l fun u s2 I2 ru=>aw (hv pins s2 σ H1 _ I2 q) fun w3 s3 ⟨y,H2,I3,ry,q3⟩=>aw (hop pins s3 σ H2 v y u w3 _ I3 ru ry q3) fun w4 s4 ⟨z,H3,I4,rz,A_,mN,P6,l',q4⟩=>?_;exact JH I4 P6 c n l' rz fun s5 I5=>⟨σ,_,I5,q4⟩
def WM:V->V->Hp->VK->Prop:=fun x y H Q=>∃i j,x=.int i/\y=.int j/\Q (.int (i+j)) H
theorem Mc:MH X .Add WM:=by
 rintro pins s σ H x y u v Q I rx ry ⟨i,j,rfl,rfl,q⟩;obtain⟨t,rfl⟩:=(show ∃t,u=Value.int i t from rx);obtain⟨t',rfl⟩:=(show ∃t',v=Value.int j t' from ry);exact PyProof.Rows.iadd_int ⟨.int (i+j),H,I.tok _,⟨_,rfl⟩,q⟩
end
section
variable{X:Cx}{pins:List (Addr×Obj)}{σ : St}{H:Hp}{s:Shared}{A:Around}{E:Value->Shared->Prop}{Q:Value->Shared->Prop}{c:Value}{b:Bool}
inductive io(K:PySem.W.Frag)(H:Hp):V->Value->Prop where
 | aE:io K H .aE (.type "NoneType")
 | bl (x:Bool):io K H (.bl x) (.type "bool")
 | int (i:Int):io K H (.int i) (.type "int")
 | str (x:Str):io K H (.str x) (.type "str")
 | pV (x:UInt64):io K H (.pV x) (.type "float")
 | lst {a:Addr} {xs:List V} (e:H a=some (.lst xs)):io K H (.ref a) (.type "list")
 | gy {a:Addr} {o:Obj} {xs:List V} (e:H a=some (.gy o (.lst xs))):io K H (.ref a) (.type "list")
 | tup {a:Addr} {xs:List V} (e:H a=some (.tup xs)):io K H (.ref a) (.type "tuple")
 | dK {a:Addr} {aj:List (Key×V)} (e:H a=some (.dK aj)):io K H (.ref a) (.type "dict")
 | dT {a:Addr} {aj:List (List Key×V)} (e:H a=some (.dT aj)):io K H (.ref a) (.type "dict")
 | ins {a C dx:Addr} {fs:List (Str×V)} (e:H a=some (.ins C dx fs)) (cl:gT K C) (ha:PySem.W.findIn K (.ref C) "__class__" = some (some (.builtin "object.__class__")))
   (hn:PySem.W.specialIn K (.builtin "object.__class__") "__get__" = some (some (.builtin "getset_descriptor.__get__"))) (OQ:PySem.W.takesIn K (.builtin "object.__class__")=some true)
   (hm:PySem.W.mroIn K C (.type "object")=some true):io K H (.ref a) (.ref C)
theorem Su{x:V}{u t:Value}(I:Inv X pins σ H s)(rx:RelV x u)(ty:io X.K H x t)(e:PySem.W.kitOne X.K t c=some b)(h:∀tk,Q (.bool b) { s with toks:=tk }) :
  wpAny (model X.prog X.w) A (call (.builtin "isinstance") [u,c]) Q E s:=by
 cases ty with
 | aE=>cases (show u=Value.none from rx);exact j8 PySem.W.kitx_none I.bI True.intro e (fun z=>nomatch z) h
 | bl y=>cases (show u=Value.bool y from rx);exact j8 PySem.W.kitx_bool I.bI True.intro e (fun z=>nomatch z) h
 | int i=>obtain⟨t,q⟩:=(show ∃t,u=Value.int i t from rx);cases q;exact j8 PySem.W.kitx_int I.bI True.intro e (fun z=>nomatch z) h
 | str y=>obtain⟨t,q⟩:=(show ∃t,u=Value.str y t from rx);cases q;exact j8 PySem.W.kitx_str I.bI True.intro e (fun z=>nomatch z) h
 | pV y=>obtain⟨t,q⟩:=(show ∃t,u=Value.float y t from rx);cases q;exact j8 PySem.W.kitx_float I.bI True.intro e (fun z=>nomatch z) h
 | @lst a xs ea =>
  cases (show u=Value.ref a from rx);obtain⟨_,_,n,_,h1⟩:=(show bM X.prog X.w H s.heap a (.lst xs) from I.aq a _ ea);exact j8 PySem.W.kitx_list I.bI ⟨_,h1,rfl⟩ e (fun z=>nomatch z) h
 | @gy a ob xs ea =>
  cases (show u=Value.ref a from rx);obtain⟨_,_,_,n,_,h1⟩:=(show bM X.prog X.w H s.heap a (.gy ob (.lst xs)) from I.aq a _ ea);exact j8 PySem.W.kitx_list I.bI ⟨_,h1,rfl⟩ e (fun z=>nomatch z) h
 | @tup a xs ea =>
  cases (show u=Value.ref a from rx);obtain⟨_,_,_,p⟩:=(show bM X.prog X.w H s.heap a (.tup xs) from I.aq a _ ea);obtain⟨o,h1,h2,_⟩:=p;exact j8 PySem.W.kitx_tuple I.bI ⟨o,h1,h2⟩ e (fun z=>nomatch z) h
 | @dK a aj ea =>
  cases (show u=Value.ref a from rx);obtain⟨_,_,vs,_,p⟩:=(show bM X.prog X.w H s.heap a (.dK aj) from I.aq a _ ea);obtain⟨o,es,ep,h1,h2,_⟩:=p;exact j8 PySem.W.kitx_dict I.bI ⟨o,h1,h2.1⟩ e (fun z=>nomatch z) h
 | @dT a aj ea =>
  cases (show u=Value.ref a from rx);obtain⟨_,_,xs,_,o,es,ep,h1,h2,_⟩:=(show bM X.prog X.w H s.heap a (.dT aj) from I.aq a _ ea);exact j8 PySem.W.kitx_dict I.bI ⟨o,h1,h2.1⟩ e (fun z=>nomatch z) h
 | @ins a C dx fs ea cl ha hn OQ hm =>
  cases (show u=Value.ref a from rx);obtain⟨mA,O,_⟩:=pF I.aq ea;obtain⟨od,J,_⟩:=O.look;exact j8 (PySem.W.kitx_own (cl.get _) cl.hd ha hn OQ hm) I.bI J e (fun z=>nomatch z) h
end
structure ck(k:Nat)(A:Around):Prop where
 hd:A.handled=none
 dp:A.depth+2*k+5<recursionLimit
 un:A.units+16*k+200<cLine
 gd:A.guards=some []
theorem ck.mono{j k:Nat}{A:Around}(r:ck k A)(h:j<=k):ck j A:=⟨r.hd,by have:=r.dp;lia,by have:=r.un;lia,r.gd⟩
theorem ck.deeper{k:Nat}{A:Around}(r:ck (k+1) A)(env:Env):ck k (A.deeper env) :=
 ⟨r.hd,by have:=r.dp;show A.depth+1+2*k+5<_;lia,by have:=r.un;show A.units+3+16*k+200<_;lia,r.gd⟩
theorem RC{A:Around}{C:Addr}{us:List Value}{kw:List (Str×Value)}:(A.under (.builtin "type.__call__" ⟨.ref C::us,kw⟩)).depth=A.depth+1:=by
 first|rfl|simp[Around.under,Code.weight,Code.isCreation,Code.isGuard,Code.isCaller,Code.frames,Code.isFrame,guardIds]
theorem R'{A:Around}{C:Addr}{us:List Value}{kw:List (Str×Value)}:(A.under (.builtin "type.__call__" ⟨.ref C::us,kw⟩)).units=A.units+1:=by
 first|rfl|simp[Around.under,Code.cUnits,Code.frames,Code.isFrame]
theorem Ri{A:Around}{C:Addr}{us:List Value}{kw:List (Str×Value)}:(A.under (.builtin "type.__call__" ⟨.ref C::us,kw⟩)).guards=A.guards:=by
 have h:(Code.builtin "type.__call__" ⟨.ref C::us,kw⟩).guards=[]:=by first|rfl|simp[Code.guards,Code.isGuard,guardIds]
 unfold Around.under;dsimp only;rw[h];cases A.guards <;> rfl
theorem ck.make{k:Nat}{A:Around}(r:ck (k+1) A)(C:Addr)(us:List Value)(kw:List (Str×Value)):ck k (A.under (.builtin "type.__call__" ⟨.ref C::us,kw⟩)) :=
 ⟨r.hd,by have:=r.dp;rw[RC];lia,by have:=r.un;rw[R'];lia,by rw[Ri];exact r.gd⟩
theorem ck.depth{k:Nat}{A:Around}(r:ck k A):A.depth<recursionLimit:=by have:=r.dp;lia
def sv:TA:=fun _ H Q=>Q [] H
def va(ta:TE)(tr:TA):TA:=fun σ H Q=>ta σ H fun x H1=>tr σ H1 fun xs H2=>Q (x::xs) H2
section
variable{X:Cx}{e:Expr}{es:List Expr}{te:TE}{t:TA}{pos:Pos}
theorem Zb:PA X [] sv:=fun _ _ _ _ H Q I h=>Calls.spliced_nil ⟨[],H,I,.nil,h⟩
theorem Za(ha:PE X e te)(hr:PA X es t)(hs:starEach (e::es) X.env=(false,eval e X.env)::starEach es X.env:=by rfl):PA X (e::es) (va te t):=by
 intro pos pins s σ H Q I h;rw[hs];show wpAny _ _ (spliced ((false,eval e X.env)::backTo pos (starEach es X.env))) _ _ s;refine Calls.spliced_cons (aw (ha pins s σ H _ I h) fun u s1 ⟨x,H1,I1,r1,q1⟩=>?_);exact aw (hr pos pins s1 σ H1 _ I1 q1) fun us s2 ⟨xs,H2,I2,r2,q2⟩=>⟨x::xs,H2,I2,.cons r1 r2,q2⟩
def WL(t:TA):TE:=fun σ H Q=>t σ H fun xs H1=>xs.length<=sizeLine/\∀p,H1 p=none->Q (.ref p) (upd H1 p (.tup xs))
def MG(t:TA):TE:=fun σ H Q=>t σ H fun xs H1=>xs.length<=sizeLine/\∀p,H1 p=none->Q (.ref p) (upd H1 p (.lst xs))
theorem cT{x1}(h:PA X es t):PE X (.Tuple es x1 pos) (WL t):=by
 intro pins s σ H Q I hq;refine wpAny_Tuple_spliced (aw (h pos pins s σ H _ I hq) fun us s1 ⟨xs,H1,I1,r,z,q⟩=>⟨by rw[<- r.length];exact z,?_⟩);have hf:H1 s1.heap.objs.size=none:=I1.aq.fresh (az _);refine⟨.ref s1.heap.objs.size,upd H1 s1.heap.objs.size (.tup xs),I1.laid (t':=s1.toks) (fun b u e=>aK _ e) (az _) ?_,rfl,q _ hf⟩;exact⟨z,us,r,⟨_,cf _ rfl,rfl,_,rfl⟩⟩
theorem dA(h:PA X es t):PE X (.List es pos) (MG t):=by
 intro pins s σ H Q I hq;refine wpAny_List_spliced (aw (h pos pins s σ H _ I hq) fun us s1 ⟨xs,H1,I1,r,z,q⟩=>⟨by rw[<- r.length];exact z,?_⟩);have hf:H1 s1.heap.objs.size=none:=I1.aq.fresh (az _);refine⟨.ref s1.heap.objs.size,upd H1 s1.heap.objs.size (.lst xs),I1.laid (t':=s1.toks) (fun b u e=>aK _ e) (az _) ?_,rfl,q _ hf⟩;exact⟨z,us,0,r,cf _ rfl⟩
end
abbrev Sp:=List V->Hp->VK->XK->Prop
abbrev ij:=List Env->Hp->Shared->XK->Value->Shared->Prop
structure o_(P:Program)(w:World)(K:PySem.W.Frag)(mg:Str->Option Value)(base:Heap)(A:Around)(outer:List Env)(s:Shared)(H:Hp):Prop where
 frames:A.frames=some outer
 mod:Mod K mg base
 bs:∀b o,base.get? b=some o->s.heap.get? b=some o/\H b=none
 iB:base.objs.size<=s.heap.objs.size
 fV:s.heap.FunFrames base outer
 jO:∀b∈gX outer,H b=none
 aq:bF P w H s.heap
 bare:AllBare s.gens
def CE(outer:List Env)(P:Program)(w:World)(H:Hp)(s:Shared)(Q:VK)(u:Value)(s':Shared):Prop :=
 ∃v H',s'.os=s.os/\AllBare s'.gens/\Un (gX outer) [] H H' s.heap s'.heap/\bF P w H' s'.heap/\RelV v u/\Q v H'
def CR(CX:ij)(outer:List Env)(P:Program)(w:World)(H:Hp)(s:Shared)(Q:VK)(E:XK)(r:Result)(s':Shared):Prop :=
 match r with
 | .ok (.ret u)=>CE outer P w H s Q u s'
 | .ok _=>False
 | .error e=>CX outer H s E e s'
structure aY(P:Program)(w:World)(K:PySem.W.Frag)(mg:Str->Option Value)(base:Heap)(CX:ij)(k:Nat)(f:Addr)(fd:FuncData)(ps:List Str)(sp:Sp):Prop where
 len:∀vs H Q E,sp vs H Q E->vs.length=ps.length
 run:∀(A:Around)(outer:List Env)(s:Shared)(H:Hp)(args:Args)(us:List Value)(vs:List V)(Q:VK)(E:XK),ck k A->o_ P w K mg base A outer s H->BindsTo s fd args (ps.zip us)->Vals vs us->sp vs H Q E ->
  codeAny (model P w) A (.call (.ref f) args) (CR CX outer P w H s Q E) s
theorem o_.make{P:Program}{w:World}{K:PySem.W.Frag}{mg:Str->Option Value}{base:Heap}{A:Around}{outer:List Env}{s:Shared}{H:Hp}(e:o_ P w K mg base A outer s H)(C:Addr)(us:List Value)(kw:List (Str×Value)) :
  o_ P w K mg base (A.under (.builtin "type.__call__" ⟨.ref C::us,kw⟩)) outer s H:=⟨by first|exact e.frames|(simpa[Around.under,Code.envs,Code.isFrame,pushEnvs] using e.frames),e.mod,e.bs,e.iB,e.fV,e.jO,e.aq,e.bare⟩
section
variable{X:Cx}{pins:List (Addr×Obj)}{σ : St}{H:Hp}{s s':Shared}
theorem Inv.EX(I:Inv X pins σ H s):o_ X.prog X.w X.K X.mg X.base X.A X.stack s H :=
 ⟨I.ok.frames,I.ok.mod,I.bs,cZ I.ok.iB I.sz,I.stack,I.Hh,I.aq,I.bare⟩
theorem Inv.after{Q:VK}{u:Value}(I:Inv X pins σ H s)(h:CE X.stack X.prog X.w H s Q u s'):EP X pins σ Q u s':=by
 obtain⟨v,H',os,bare,un,aq,r,q⟩:=h;obtain⟨hh,g,d,t,gj⟩:=s';obtain rfl:gj=s.os:=os;exact⟨v,H',I.call (h':=hh) (g':=g) (d':=d) (t':=t) (ch:=[]) un aq bare (fun b z=>absurd z (by simp)),r,q⟩
end
def MJ(sp:Sp)(dR:List V)(E:XK)(t:TA):TE:=fun σ H Q=>t σ H fun vs H1=>sp (vs++dR) H1 Q E
def yG(C:Addr)(m:Str)(sp:Sp)(dR:List V)(E:XK)(ta:TE)(t:TA):TE:=fun σ H Q=>ta σ H fun x H1=>∃a dx fs,x=.ref a/\H1 a=some (.ins C dx fs)/\fs.lookup m=none /\
 t σ H1 fun vs H2=>sp (x::(vs++dR)) H2 Q E
def Ml(C:Addr)(sp:Sp)(dR:List V)(E:XK)(t:TA):TE:=fun σ H Q=>t σ H fun vs H1=>∀x dx,H1 x=none->H1 dx=none->dx≠x ->
 sp (.ref x::(vs++dR)) (upd (upd H1 dx (.own x)) x (.ins C dx [])) (fun v H2=>v=.aE/\Q (.ref x) H2) E
def Binds(K:PySem.W.Frag)(fd:FuncData)(ps:List Str)(ds:List Value):Prop :=
 ∀(s:Shared)(us:List Value),K.In s.heap->(us++ds).length=ps.length->BindsTo s fd ⟨us,[]⟩ (ps.zip (us++ds))
theorem Binds.all{K:PySem.W.Frag}{fd:FuncData}{ps:List Str}(h:∀us:List Value,us.length=ps.length->bindArgs fd ⟨us,[]⟩=pure (ps.zip us)):Binds K fd ps []:=fun s us _ hl=>by
 rw[iP] at hl ⊢;exact .of_eq (h us hl)
def pJ(CX:ij)(X:Cx)(E:XK):Prop := ∀(pins:List (Addr×Obj))(σ : St)(H:Hp)(s:Shared)(e:Value)(s':Shared),Inv X pins σ H s->CX X.stack H s E e s'->X.xe e s'
section
variable{X:Cx}{CX:ij}{k:Nat}{f C:Addr}{fd:FuncData}{ps:List Str}{sp:Sp}{dR:List V}{ds:List Value}{E:XK}{x m:Str}{p pos apos:Pos}{e o:Expr}{es:List Expr}{ta:TE}{t:TA}
theorem CI{pins:List (Addr×Obj)}{σ : St}{H:Hp}{s:Shared}{Q:VK}{us:List Value}{vs:List V}(F:aY X.prog X.w X.K X.mg X.base CX k f fd ps sp)(hr:ck k X.A)(hb:Binds X.K fd ps ds)(hd:Vals dR ds)(hx:pJ CX X E)
  (I:Inv X pins σ H s) (r:Vals vs us) (h:sp (vs++dR) H Q E):wpAny (model X.prog X.w) X.A (call (.ref f) us) (EP X pins σ Q) X.xe s:=by
 have r2:Vals (vs++dR) (us++ds):=r.append hd;have hl:(us++ds).length=ps.length:=by rw[<- r2.length];exact F.len _ _ _ _ h
 refine wpAny_call (oP (F.run X.A X.stack s H ⟨us,[]⟩ (us++ds) (vs++dR) Q E hr I.EX (hb s us I.bI hl) r2 h) fun r s' hq=>?_);cases r with
 | error e=>exact hx pins σ H s e s' I hq
 | ok fl =>
  cases fl with
  | ret u=>exact I.after hq
  | next=>exact False.elim hq
  | brk=>exact False.elim hq
  | cont=>exact False.elim hq
theorem UQ(F:aY X.prog X.w X.K X.mg X.base CX k f fd ps sp)(hr:ck k X.A)(hg:Gl X x)(hm:X.mg x=some (.ref f))(hk:PySem.W.keepIn X.K (.ref f)=true)(hb:Binds X.K fd ps ds)(hd:Vals dR ds)(hx:pJ CX X E)
  (ha:PA X (e::es) t) (gC:(x == ("__debug__" : Str))=false:=by decide) (he:starEach (e::es) X.env=(false,eval e X.env)::starEach es X.env:=by rfl) (aS:(backTo pos (starEach es X.env)).any (·.1)=false:=by rfl) :
  PE X (.Call (.Name x p) (e::es) [] pos) (MJ sp dR E t):=by
 intro pins s σ H Q I h;refine ll (uJ I hg hm ?_ gC);refine xp (h₀ := X.base) I.ok.mod.qy hk (aw (ha pos pins s σ H _ I h) fun us s1 ⟨vs,H1,I1,r,q⟩=>⟨I1.bI,?_⟩) he aS;exact CI F hr hb hd hx I1 r q
theorem UI{pl:Sem Bool}(he:PE X o ta)(c:gT X.K C)(hm:Meth X.K C m f)(F:aY X.prog X.w X.K X.mg X.base CX k f fd ps sp)(hr:ck k X.A)(hb:Binds X.K fd ps ds)(hd:Vals dR ds)(hx:pJ CX X E)(ha:PA X (e::es) t)
  (di:starEach (e::es) X.env=(false,eval e X.env)::starEach es X.env:=by rfl) (aS:(backTo pos (starEach es X.env)).any (·.1)=false:=by rfl)
  (ht:eval (.Call (.Attribute o m apos) (e::es) [] pos) X.env=(do
   let ov <- eval o X.env
   standAt apos.atName
   let (f,first) <- holding [ov] (getMethod ov m pl)
   callWith pos f first (backTo pos (starEach (e::es) X.env)) (backToKw pos (keywordEach [] X.env))):=by rfl) :
  PE X (.Call (.Attribute o m apos) (e::es) [] pos) (yG C m sp dR E ta t):=by
 intro pins s σ H Q I h;refine PySem.W.methodCall_KW (pl:=pl) (aw (he pins s σ H _ I h) fun u s1 ⟨x,H1,I1,rx,a,dx,fs,ex,ea,l,q⟩=>?_) ht;subst ex;obtain rfl:u=Value.ref a:=rx;refine JA I1 ea c hm l ?_;refine xp (first:=[.ref a]) (h₀ := X.base) I.ok.mod.qy hm.kp (aw (ha pos pins s1 σ H1 _ I1 q) fun us s2 ⟨vs,H2,I2,r,q2⟩=>⟨I2.bI,?_⟩) di aS
 exact CI (us:=.ref a::us) (vs:=.ref a::vs) F hr hb hd hx I2 (.cons rfl r) q2
theorem SR{pl:Sem Bool}(he:PE X o ta)(c:gT X.K C)(hm:Meth X.K C m f)(F:aY X.prog X.w X.K X.mg X.base CX k f fd ps sp)(hr:ck k X.A)(hb:Binds X.K fd ps ds)(hd:Vals dR ds)(hx:pJ CX X E)
  (ht:eval (.Call (.Attribute o m apos) [] [] pos) X.env=(do
   let ov <- eval o X.env
   standAt apos.atName
   let (f,first) <- holding [ov] (getMethod ov m pl)
   callWith pos f first (backTo pos (starEach [] X.env)) (backToKw pos (keywordEach [] X.env))):=by rfl) :
  PE X (.Call (.Attribute o m apos) [] [] pos) (yG C m sp dR E ta sv):=by
 intro pins s σ H Q I h;refine PySem.W.methodCall_KW (pl:=pl) (aw (he pins s σ H _ I h) fun u s1 ⟨x,H1,I1,rx,a,dx,fs,ex,ea,l,q⟩=>?_) ht;subst ex;obtain rfl:u=Value.ref a:=rx;refine JA I1 ea c hm l ?_;exact PySem.W.callWith_K0 (first:=[.ref a]) I1.bI hm.kp (CI (us:=[.ref a]) (vs:=[.ref a]) F hr hb hd hx I1 (.cons rfl .nil) q)
structure Mk(K:PySem.W.Frag)(C f:Addr):Prop where
 makes:PySem.W.makesIn K C=true
 init:PySem.W.findIn K (.ref C) "__init__" = some (some (.ref f))
 fn:PySem.W.isFn K (.ref f)=true
 kp:PySem.W.keepIn K (.ref C)=true
theorem TL{pins:List (Addr×Obj)}{σ : St}{H:Hp}{s:Shared}{Q:VK}{us:List Value}{vs:List V}(M:Mk X.K C f)(F:aY X.prog X.w X.K X.mg X.base CX k f fd ps sp)(hr:ck (k+1) X.A)(hb:Binds X.K fd ps ds)(hd:Vals dR ds)
  (hx:pJ CX X E) (I:Inv X pins σ H s) (r:Vals vs us)
  (h:∀x dx,H x=none->H dx=none->dx≠x->sp (.ref x::(vs++dR)) (upd (upd H dx (.own x)) x (.ins C dx [])) (fun v H2=>v=.aE/\Q (.ref x) H2) E) :
  wpAny (model X.prog X.w) X.A (call (.ref C) us) (EP X pins σ Q) X.xe s:=by
 have hq:=h (s.heap.objs.size+1) s.heap.objs.size (I.aq.fresh (ic _)) (I.aq.fresh (az _)) (bY (gP _));have I2:=Inv.made (C:=C) I;have r2:Vals (V.ref (s.heap.objs.size+1)::(vs++dR)) (Value.ref (s.heap.objs.size+1)::(us++ds)):=.cons rfl (r.append hd);have hl:(Value.ref (s.heap.objs.size+1)::us++ds).length=ps.length:=by
  have e:=r2.length;rw[F.len _ _ _ _ hq] at e;exact e.symm
 refine wpAny_call (Tv (f:=f) I.bI M.makes M.init (j9.mp M.fn) (oP (F.run _ X.stack _ _ ⟨Value.ref (s.heap.objs.size+1)::us,[]⟩ (Value.ref (s.heap.objs.size+1)::(us++ds)) _ _ E (hr.make C us [])
  (I2.EX.make C us []) (hb _ (Value.ref (s.heap.objs.size+1)::us) I2.bI hl) r2 hq) fun r s' lD=>?_))
 cases r with
 | error e=>exact hx pins σ _ _ e s' I2 lD
 | ok fl =>
  cases fl with
  | ret u =>
   obtain⟨v,H',I3,rv,ev,q3⟩:=I2.after lD;subst ev;exact⟨rv,⟨V.ref (s.heap.objs.size+1),H',I3,rfl,q3⟩⟩
  | next=>exact False.elim lD
  | brk=>exact False.elim lD
  | cont=>exact False.elim lD
theorem UW(M:Mk X.K C f)(F:aY X.prog X.w X.K X.mg X.base CX k f fd ps sp)(hr:ck (k+1) X.A)(hg:Gl X x)(hm:X.mg x=some (.ref C))(hb:Binds X.K fd ps ds)(hd:Vals dR ds)(hx:pJ CX X E)
  (ha:PA X (e::es) t) (gC:(x == ("__debug__" : Str))=false:=by decide) (he:starEach (e::es) X.env=(false,eval e X.env)::starEach es X.env:=by rfl) (aS:(backTo pos (starEach es X.env)).any (·.1)=false:=by rfl) :
  PE X (.Call (.Name x p) (e::es) [] pos) (Ml C sp dR E t):=by
 intro pins s σ H Q I h;refine ll (uJ I hg hm ?_ gC);refine xp (h₀ := X.base) I.ok.mod.qy M.kp (aw (ha pos pins s σ H _ I h) fun us s1 ⟨vs,H1,I1,r,q⟩=>⟨I1.bI,?_⟩) he aS;exact TL M F hr hb hd hx I1 r q
end
structure bZ(N P:List Str)(sc:Scope):Prop where
 kind:sc.kind=.function
 co:sc.isCoroutine=false
 gen:sc.isGenerator=false
 nd:N.Nodup
 pre:N.take P.length=P
 Pq:∀x∈P,sc.names.lookup x=some .local\/sc.names.lookup x=some .cell
 Cv:∀y∈sc.names,y.2 ≠ .free
theorem Kc{kindOf:Str->Option NameKind}{x:Str}:∀{binds:List (Str×Value)}{m:Str->Option Value},(∀v,(x,v)∉binds)->bindL kindOf binds m x=m x
 | [],_,_=>rfl
 | (n,v)::r,m,h=>by
  unfold bindL;rw[Kc fun w hw=>h w (aX _ hw)]
  split
  ·have:x≠n:=by rintro rfl;exact h v bb
   simp[this]
  ·rfl
theorem J2{kindOf:Str->Option NameKind}{x:Str}:∀{binds:List (Str×Value)}{m:Str->Option Value},(∀v,(x,v)∉binds)->bindC kindOf binds m x=m x
 | [],_,_=>rfl
 | (n,v)::r,m,h=>by
  unfold bindC;rw[J2 fun w hw=>h w (aX _ hw)]
  split
  ·rfl
  ·have:x≠n:=by rintro rfl;exact h v bb
   simp[this]
theorem Kb{kindOf:Str->Option NameKind}{x:Str}{v:Value}:∀{P:List Str}{vs:List Value}{i:Nat}{m:Str->Option Value},P.Nodup->P[i]?= some x->vs[i]?= some v->kindOf x=some .local ->
  bindL kindOf (P.zip vs) m x=some v
 | [],_,_,_,_,h,_,_=>by simp at h
 | _::_,[],_,_,_,_,h,_=>by simp at h
 | p::P,w::vs,0,m,nd,h1,h2,hk=>by
  simp at h1 h2;subst h1;subst h2;show bindL kindOf ((p,w)::P.zip vs) m p=_;unfold bindL;rw[Kc fun v hv=>(dO.mp nd).1 (List.of_mem_zip hv).1,ah hk];simp
 | p::P,w::vs,i+1,m,nd,h1,h2,hk=>by
  show bindL kindOf ((p,w)::P.zip vs) m x=_;unfold bindL;exact Kb (i:=i) (dO.mp nd).2 (by simpa using h1) (by simpa using h2) hk
theorem J3{kindOf:Str->Option NameKind}{x:Str}{v:Value}:∀{P:List Str}{vs:List Value}{i:Nat}{m:Str->Option Value},P.Nodup->P[i]?= some x->vs[i]?= some v->kindOf x≠some .local ->
  bindC kindOf (P.zip vs) m x=some v
 | [],_,_,_,_,h,_,_=>by simp at h
 | _::_,[],_,_,_,_,h,_=>by simp at h
 | p::P,w::vs,0,m,nd,h1,h2,hk=>by
  simp at h1 h2;subst h1;subst h2;show bindC kindOf ((p,w)::P.zip vs) m p=_;unfold bindC;rw[J2 fun v hv=>(dO.mp nd).1 (List.of_mem_zip hv).1,af hk];simp
 | p::P,w::vs,i+1,m,nd,h1,h2,hk=>by
  show bindC kindOf ((p,w)::P.zip vs) m x=_;unfold bindC;exact J3 (i:=i) (dO.mp nd).2 (by simpa using h1) (by simpa using h2) hk
def start(N:List Str)(vs:List V):St:=vs.map some++List.replicate (N.length-vs.length) none
def lS(CX:ij)(P:Program)(w:World)(K:PySem.W.Frag)(mg:Str->Option Value)(base:Heap)(N:List Str)(qual:Str)(scope:Scope)(f:Addr)(cd:Value)(A:Around)(outer:List Env)(s:Shared)(H:Hp)(E:XK):Cx where
 prog:=P
 w:=w
 K:=K
 mg:=mg
 base:=base
 A:=A.deeper (envOfC qual scope s.heap.objs.size f cd)
 N:=N
 dk := s
 qV := H
 env:=envOfC qual scope s.heap.objs.size f cd
 outer:=outer
 stack:=envOfC qual scope s.heap.objs.size f cd::outer
 ex:=[]
 calm:=true
 fn:=fun _=>true
 pn:=[]
 xe:=fun e s'=>wpAny (model P w) (A.deeper (envOfC qual scope s.heap.objs.size f cd)) (leaving (envOfC qual scope s.heap.objs.size f cd) e) (fun _ Bh=>CX outer H s E e Bh) (fun e' Bh=>CX outer H s E e' Bh) s'
theorem KI{sc:Scope}{n:Nat}{x:Str}(h:sc.names.lookup x=some .cell):∃c,(cellsFrom n sc.names []).lookup x=some c:=by
 have q:=PySem.W.cellsFrom_some sc.names n [] (.inl h);exact Option.isSome_iff_exists.mp q
theorem Sx{CX:ij}{P:Program}{w:World}{K:PySem.W.Frag}{mg:Str->Option Value}{base:Heap}{N ps:List Str}{qual:Str}{scope:Scope}{f:Addr}{cd:Value}{A:Around}{outer:List Env}{s s1:Shared}{H:Hp}{E:XK}{us:List Value}{vs:List V}
  (S:bZ N ps scope) (hd:A.handled=none) (e0:o_ P w K mg base A outer s H) (hl:vs.length=ps.length) (r:Vals vs us)
  (x:InCallC s s.heap.objs.size (bindL (envOfC qual scope s.heap.objs.size f cd).kindOf (ps.zip us) fun _=>none) (cellsFrom (s.heap.objs.size+1) scope.names []) (bindC (envOfC qual scope s.heap.objs.size f cd).kindOf (ps.zip us) fun _=>none) s1) :
  Inv (lS CX P w K mg base N qual scope f cd A outer s H E) [] (start N vs) H s1:=by
 have aS:ps.length<=N.length:=by have:=congrArg List.length S.pre;rw[dN] at this;lia
 obtain⟨h1,tk,rfl,hk⟩:=x.done;have wH:∀b:Addr,b∉(lS CX P w K mg base N qual scope f cd A outer s H E).ex:=fun b z=>absurd (show b∈([]:List Addr) from z) (by simp);refine⟨⟨e0.mod,S.kind,rfl,rfl,az _,fun y z c h1 h2=>?_,fun y hy=>?_,fun y c _ h=>?_,fun _=>hd,Around.frames_deeper e0.frames,.inr ⟨rfl,rfl⟩,fun b z=>absurd z (wH b),e0.bs,e0.iB,fun b _ _=>wH b,fun b z=>absurd z (wH b),e0.fV,e0.jO⟩,
  rfl,e0.bare,Un.kept hk,⟨_,x.toInCall.ns,fun i y v h1 h2 h3=>?_⟩,fun y c h=>⟨_,x.cell y c h⟩,e0.aq.fresh (az _),fun y c h=>?_,fun p hp=>absurd (show p∈([]:List (Addr×Obj)) from hp) (by simp),e0.aq.kept hk,?_⟩
 ·exact name_of_addr x.apart (xr h1) (xr h2)
 ·have hy:scope.names.lookup y=some .cell\/scope.names.lookup y=some .free:=hy;rcases hy with hy|hy
  ·exact KI hy
  ·exact absurd rfl (S.Cv _ (xr hy))
 ·exact lh (x.above y c (xr h))
 ·have hi:i<vs.length:=by
   unfold start at h2;by_cases hi:i<vs.length
   ·exact hi
   ·rw[mF (by simpa using hi)] at h2;rw[List.getElem?_replicate] at h2
    split at h2 <;> cases h2
  have ha:vs[i]?= some v:=by
   unfold start at h2;rw[oF (by simpa using hi),f_] at h2;cases e:vs[i]? with
   | none=>rw[e] at h2;cases h2
   | some a=>rw[e] at h2;cases h2;rfl
  obtain⟨u,hu,rv⟩:=r.get ha;have hp:ps[i]?= some y:=by
   rw[<- S.pre,qP (by lia)];exact h1
  have Pe:ps.Nodup:=by rw[<- S.pre];exact S.nd.sublist (xi _ _)
  refine⟨u,rv,?_⟩;rcases S.Pq y (cQ hp) with k|k
  ·exact .inl ⟨k,Kb Pe hp hu k⟩
  ·obtain⟨c,e⟩:=KI (n:=s.heap.objs.size+1) k;refine .inr ⟨.inl k,c,e,?_⟩;have q:=x.cell y c e;rw[J3 Pe hp hu (by show scope.names.lookup y≠_;rw[k];decide)] at q;exact q
 ·exact e0.aq.fresh (lh (x.above y c (xr h)))
 ·unfold start;show _=N.length;rw[bw,aW,xb];lia
theorem Mi{CX:ij}{P:Program}{w:World}{K:PySem.W.Frag}{mg:Str->Option Value}{base:Heap}{k:Nat}{f:Addr}{name qual:Str}{params:Arguments}{body:List Stmt}{scope:Scope}{dV kV doc pm aL ct oc:Value}{an od:Option Addr}
  {mx:Array (Option Value)} {N ps:List Str} {sp:Sp} (lk:K.lookup f=some ⟨oc,od,.func (PySem.W.fnOf name qual params body scope dV kV doc pm an aL ct),mx⟩) (cX:PySem.W.codeIn K aL qual=true) (S:bZ N ps scope)
  (len:∀vs H Q E,sp vs H Q E->vs.length=ps.length)
  (vK:∀(A:Around)(outer:List Env)(s:Shared)(H:Hp)(vs:List V)(Q:VK)(E:XK),ck k (A.deeper (envOfC qual scope s.heap.objs.size f aL))->sp vs H Q E ->
   ∃t,cK (lS CX P w K mg base N qual scope f aL A outer s H E) body t/\t { nx:=fun _ H'=>Q .aE H',rt:=Q } (start N vs) H) :
  aY P w K mg base CX (k+1) f (PySem.W.fnOf name qual params body scope dV kV doc pm an aL ct) ps sp:=by
 refine⟨len,fun A outer s H args us vs Q E hr e0 hb r jf=>?_⟩;have hl:=len _ _ _ _ jf;have KX:K.In s.heap:=e0.mod.qy.keeps fun b o e=>(e0.bs b o e).1;have lim:s.heap.NoLimit:=e0.mod.nolimit.keeps fun b o e=>(e0.bs b o e).1;have Zry:∀y∈ps.zip us,scope.names.lookup y.1=some .local\/(scope.names.lookup y.1=some .cell/\((cellsFrom (s.heap.objs.size+1) scope.names []).lookup y.1).isSome=true):=fun⟨n,v⟩ hy=>by
  rcases S.Pq n (List.of_mem_zip hy).1 with q|q
  ·exact .inl q
  ·exact .inr ⟨q,PySem.W.cellsFrom_some _ _ _ (.inl q)⟩
 refine codeAny_call_function hr.depth (KX _ _ lk) rfl S.co S.gen rfl (PySem.W.codeRec_of KX cX) (hb _ _ _ _ ?_);refine wpAny_newFunctionEnv_cells S.kind Zry fun env he s1 x=>?_;subst he;refine⟨lim.keeps x.toInCall.keep,codeAny_func ?_⟩;obtain⟨t,ht,hq⟩:=vK A outer s H vs Q E (hr.deeper _) jf;have I:Inv (lS CX P w K mg base N qual scope f aL A outer s H E) [] (start N vs) H s1:=Sx S hr.hd e0 hl r x;refine eJ (ht [] s1 (start N vs) H _ I hq) (fun fl s' hs=>?_) fun e s' hs=>hs;have fin:∀{ao:St}{H':Hp}{v:V}{u:Value},Inv (lS CX P w K mg base N qual scope f aL A outer s H E) [] ao H' s'->RelV v u->Q v H'->CE outer P w H s Q u s' :=
  fun{ao H' v u} J rv q=>⟨v,H',J.os,J.bare,J.base,J.aq,rv,q⟩
 cases fl with
 | ret u =>
  obtain⟨v,ao,H',J,rv,q⟩:=hs;exact fin J rv q
 | next =>
  obtain⟨ao,H',J,q⟩:=hs;exact fin (v:=V.aE) (u:=Value.none) J rfl q
 | brk =>
  obtain⟨_,_,_,q⟩:=hs;exact False.elim q
 | cont =>
  obtain⟨_,_,_,q⟩:=hs;exact False.elim q
section
variable{X:Cx}{x:Str}{p pos:Pos}{e:Expr}{es:List Expr}{t:TA}{id T:String}{r:List V->Hp->VK->Prop}
def PK(r:List V->Hp->VK->Prop)(t:TA):TE:=fun σ H Q=>t σ H fun vs H1=>r vs H1 Q
theorem ZF(hc:fP X (.builtin id) r)(hg:Gl X x)(hm:X.mg x=none)(hv:bootBuiltins x=some (.builtin id))(ha:PA X (e::es) t)(hn:x ≠ "__name__" := by decide) (gC:(x == ("__debug__" : Str))=false:=by decide)
  (he:starEach (e::es) X.env=(false,eval e X.env)::starEach es X.env:=by rfl) (aS:(backTo pos (starEach es X.env)).any (·.1)=false:=by rfl):PE X (.Call (.Name x p) (e::es) [] pos) (PK r t):=by
 intro pins s σ H Q I h;refine ll (lR I hg hm hv ?_ hn gC);exact PyProof.Rows.callWith_builtin1 (aw (ha pos pins s σ H _ I h) fun us s1 ⟨vs,H1,I1,r1,q1⟩=>hc pins s1 σ H1 vs us Q I1 r1 q1) he aS
theorem ZX(hc:fP X (.type T) r)(hg:Gl X x)(hm:X.mg x=none)(hv:bootBuiltins x=some (.type T))(ha:PA X (e::es) t)(hn:x ≠ "__name__" := by decide) (gC:(x == ("__debug__" : Str))=false:=by decide)
  (he:starEach (e::es) X.env=(false,eval e X.env)::starEach es X.env:=by rfl) (aS:(backTo pos (starEach es X.env)).any (·.1)=false:=by rfl):PE X (.Call (.Name x p) (e::es) [] pos) (PK r t):=by
 intro pins s σ H Q I h;refine ll (lR I hg hm hv ?_ hn gC);exact t6 (aw (ha pos pins s σ H _ I h) fun us s1 ⟨vs,H1,I1,r1,q1⟩=>hc pins s1 σ H1 vs us Q I1 r1 q1) he aS
end
end L2
namespace HT
open PySem PyProof.Rows
section
variable{prog:Program}{w:World}{A:Around}{E:Value->Shared->Prop}{s:Shared}
def aQ(n d:Nat):Option Int->Nat
 | none=>d
 | some v=>if v<0 then(v+(n:Int)).toNat else min v.toNat n
theorem Kw(n d:Nat):aQ n d none=d:=rfl
theorem yf(n d k:Nat):aQ n d (some (k:Int))=min k n:=by
 show(if(k:Int)<0 then((k:Int)+(n:Int)).toNat else min (k:Int).toNat n)=min k n
 rw[af (by lia),tQ]
theorem VG(n d:Nat)(hd:d<=n)(o:Option Int):aQ n d o<=n:=by
 cases o with
 | none=>exact hd
 | some v =>
  show(if v<0 then(v+(n:Int)).toNat else min v.toNat n)<=n
  by_cases hv:v<0
  ·rw[ah hv];lia
  ·rw[af hv];exact Nat.min_le_right _ _
theorem Lh(v:Int)(n d:Nat):(if v<0 then max (v+(n:Int)) 0 else min v (n:Int))=((aQ n d (some v):Nat):Int):=by
 show(if v<0 then max (v+(n:Int)) 0 else min v (n:Int))=(((if v<0 then(v+(n:Int)).toNat else min v.toNat n):Nat):Int)
 by_cases hv:v<0
 ·simp only[ah hv];lia
 ·simp only[af hv];lia
theorem Rn(lo hi:Option Int)(n:Nat):Builtin.Slice.sliceAdjust lo hi 1 (n:Int)=(((aQ n 0 lo:Nat):Int),((aQ n n hi:Nat):Int)):=by
 have h1 : ¬ ((1:Int)<0):=by lia
 unfold Builtin.Slice.sliceAdjust;simp only[h1,ig];refine Prod.ext ?_ ?_
 ·cases lo with
  | none=>rfl
  | some v=>exact Lh v n 0
 ·cases hi with
  | none=>rfl
  | some v=>exact Lh v n n
theorem R8(i j:Nat):Builtin.Slice.slicePlaces (i:Int) (j:Int) 1=j-i:=by
 unfold Builtin.Slice.slicePlaces;have h1:(1:Int) > 0:=by lia
 simp only[h1,gR,Int.ediv_one]
 split <;> lia
theorem JE{v:Value}{o:Option Int}{Q:Option Int->Shared->Prop}(p:IsPart v o)(h:Q o s):wpAny (model prog w) A (Builtin.Slice.slicePartIndex v) Q E s:=by
 cases p with
 | none=>exact slicePart_none h
 | int i t=>exact slicePart_int h
theorem IZ{sl:Addr}{vl vu:Value}{lo hi:Option Int}{n:Nat}{Q:Int×Int×Nat->Shared->Prop}(hs:s.heap.IsSliceOf sl vl vu .none)(pl:IsPart vl lo)(pu:IsPart vu hi)
  (h:Q (((aQ n 0 lo:Nat):Int),1,aQ n n hi-aQ n 0 lo) s):wpAny (model prog w) A (Builtin.Slice.sliceApplied (.ref sl) (pure (n:Int))) Q E s:=by
 obtain⟨os,mj,vN,vR⟩:=id hs;unfold Builtin.Slice.sliceApplied Builtin.Slice.sliceFields;refine ae (ae (lq mj vR (x:=vl) rfl (ae (lq mj vR (x:=vu) rfl (ae (lq mj vR (x:=.none) rfl (ai ?_)))))));refine ae (slicePart_none ?_);show wpAny _ _ (if((1:Int) == 0)=true then _ else _) _ _ s
 rw[af (by decide)];refine ae (JE pl (ae (JE pu (ae (ai ?_)))));show wpAny _ _ (match Builtin.Slice.sliceAdjust lo hi 1 (n:Int) with|(lo,hi)=>pure (lo,(1:Int),Builtin.Slice.slicePlaces lo hi 1)) _ _ s
 rw[Rn lo hi n];show wpAny _ _ (pure (((aQ n 0 lo:Nat):Int),(1:Int),Builtin.Slice.slicePlaces ((aQ n 0 lo:Nat):Int) ((aQ n n hi:Nat):Int) 1)) _ _ s;rw[R8];exact ai h
theorem T'(xs:Array Value)(i k:Nat):((List.range k).filterMap fun(m:Nat)=>xs[((i:Int)+(m:Int)*1).toNat]?).toArray=((xs.toList.drop i).take k).toArray:=by
 have e:(fun(m:Nat)=>xs[((i:Int)+(m:Int)*1).toNat]?)=fun m=>xs[i+m]? := by
  funext m
  have:((i:Int)+(m:Int)*1).toNat=i+m:=by lia
  rw[this]
 rw[e];have:=pick_run xs i k;rw[List.filterMap_map] at this;have e2:((fun x=>xs[x]?) ∘ fun x=>i+x)=fun m=>xs[i+m]? := rfl;rw[e2] at this;rw[this]
theorem Qw{t sl:Addr}{items:Array Value}{vl vu:Value}{lo hi:Option Int}{Q:Value->Shared->Prop}(ht:IsTup s.heap t items)(hs:s.heap.IsSliceOf sl vl vu .none)(pl:IsPart vl lo)(pu:IsPart vu hi)
  (hw : ¬ (aQ items.size 0 lo=0/\aQ items.size items.size hi=items.size))
  (h:Q (.ref s.heap.objs.size) { s with heap:=s.heap.push { cls:=.type "tuple",data:=.seq ((items.toList.drop (aQ items.size 0 lo)).take (aQ items.size items.size hi-aQ items.size 0 lo)).toArray } })
  (hsz:items.size<=sizeLine):wpAny (model prog w) A (getItem (.ref t) (.ref sl)) Q E s:=by
 have zZ:sizeOk (.seq ((items.toList.drop (aQ items.size 0 lo)).take (aQ items.size items.size hi-aQ items.size 0 lo)).toArray):=by
  show((items.toList.drop (aQ items.size 0 lo)).take (aQ items.size items.size hi-aQ items.size 0 lo)).toArray.size<=sizeLine;rw[bX,dN,dF,aB];lia
 have hj:aQ items.size items.size hi<=items.size:=VG _ _ (az _) hi;obtain⟨os,mj,vN,vR⟩:=id hs;have iE:s.TypeIs (.ref sl) "slice" := ⟨os,mj,vN⟩;unfold getItem
 try with_reducible refine iS ?_
 first|refine ae (ai ?_)|skip
 refine ae (wpAny_sequenceKey ht.typeIs (by decide) ?_);refine ae (ud (name:=Str.ofString "__getitem__") ht.typeIs t7
  (lm t7 ht.typeIs entry_tuple_getitem ?_ (args_tuple_getitem _ _)))
 show wpAny _ _ (Builtin.Tuple.tupleItemsOf (.ref t) >>= _) _ _ s;refine ae (tupleItemsOf_ ht ?_);refine ae (qT iE ?_);rw[ah (by decide)];refine ae (IZ hs pl pu ?_);have fj : ¬ ((((aQ items.size 0 lo:Nat):Int) == 0&&(1:Int) == 1&&(aQ items.size items.size hi-aQ items.size 0 lo) == items.size)=true):=by
  intro q;rw[cP,cP] at q;have q1:((aQ items.size 0 lo:Nat):Int)=0:=eq_of_beq q.1.1;have q2:aQ items.size items.size hi-aQ items.size 0 lo=items.size:=eq_of_beq q.2;exact hw ⟨by lia,by lia⟩
 show wpAny _ _ (if(((aQ items.size 0 lo:Nat):Int) == 0&&(1:Int) == 1&&(aQ items.size items.size hi-aQ items.size 0 lo) == items.size)=true then _ else _) _ _ s
 rw[af fj,T']
 first
  | exact ae (m:=Builtin.Tuple.tupleExact _) (iT (ai ⟨_,rfl,ai h⟩) zZ)
  | exact ae (m:=Builtin.Tuple.tupleExact _) (iT (ae (ai (ai ⟨_,rfl,ai h⟩))) zZ)
  | exact ae (ae (m:=Builtin.Tuple.tupleExact _) (iT (ai (ai ⟨_,rfl,ai h⟩)) zZ))
  | exact ae (ae (m:=Builtin.Tuple.tupleExact _) (iT (ai ⟨_,rfl,ai h⟩) zZ))
end
end HT
namespace L2
open PySem PySem.Spec PyProof.Rows
abbrev TO:=St->Hp->(Option Int->Hp->Prop)->Prop
def PO(X:Cx)(e:Option Expr)(t:TO):Prop :=
 ∀(pins:List (Addr×Obj))(s:Shared)(σ : St)(H:Hp)(Q:Option Int->Hp->Prop),Inv X pins σ H s->t σ H Q ->
  wpAny (model X.prog X.w) X.A (evalPart e X.env) (fun u s'=>∃o H',Inv X pins σ H' s'/\IsPart u o/\Q o H') X.xe s
def UM:TO:=fun _ H Q=>Q none H
def CN(t:TE):TO:=fun σ H Q=>t σ H fun x H1=>∃i,x=.int i/\Q (some i) H1
section
variable{X:Cx}{e:Expr}{te:TE}{lo hi:Option Expr}{tl th:TO}{pos p2:Pos}
theorem ip:PO X none UM:=by
 intro pins s σ H Q I h;rw[evalPart_none];exact ai ⟨none,H,I,.none,h⟩
theorem eM(h:PE X e te):PO X (some e) (CN te):=by
 intro pins s σ H Q I hw;rw[evalPart_some];refine aw (h pins s σ H _ I hw) fun u s1 ⟨x,H1,I1,r1,q1⟩=>?_;obtain⟨i,rfl,q⟩:=q1;obtain⟨t,rfl⟩:=r1;exact⟨some i,H1,I1,.int i t,q⟩
def rf(X:Cx)(r:V->Option Int->Option Int->Hp->VK->Prop):Prop :=
 ∀(pins:List (Addr×Obj))(s:Shared)(σ : St)(H:Hp)(x:V)(v vl vu:Value)(lo hi:Option Int)(sl:Addr)(Q:VK),Inv X pins σ H s->RelV x v->s.heap.IsSliceOf sl vl vu .none->IsPart vl lo->IsPart vu hi->r x lo hi H Q ->
  ∃T id,typeLookup (.type T) "__getitem__" = pure (some (.builtin id))/\s.TypeIs v T/\wpAny (model X.prog X.w) X.A (getItem v (.ref sl)) (EP X pins σ Q) X.xe s
def PL(r:V->Option Int->Option Int->Hp->VK->Prop)(te:TE)(tl th:TO):TE:=fun σ H Q=>te σ H fun x H1=>tl σ H1 fun l H2=>th σ H2 fun u H3=>r x l u H3 Q
theorem fM{r:V->Option Int->Option Int->Hp->VK->Prop}(hr:rf X r)(he:PE X e te)(hl:PO X lo tl)(hu:PO X hi th):PE X (.Subscript e (.Slice lo hi none p2) pos) (PL r te tl th):=by
 intro pins s σ H Q I h;refine Subscript_ (aw (he pins s σ H _ I h) fun v s1 ⟨x,H1,I1,r1,q1⟩=>?_);refine wpAny_Slice (aw (hl pins s1 σ H1 _ I1 q1) fun vl s2 ⟨l,H2,I2,pl,q2⟩=>aw (hu pins s2 σ H2 _ I2 q2) fun vu s3 ⟨u,H3,I3,pu,q3⟩=>?_);rw[evalPart_none];refine ai ?_;have I4:Inv X pins σ H3 { s3 with heap:=s3.heap.push { cls:=.type "slice",data:=.fields #[vl,vu,.none] } }:=I3.kept (t':=s3.toks) fun b ob q=>aK _ q;obtain⟨T,id,hT,ht,hg⟩:=hr pins { s3 with heap:=s3.heap.push { cls:=.type "slice",data:=.fields #[vl,vu,.none] } } σ H3 x v vl vu l u s3.heap.objs.size Q I4 r1 (Heap.IsSliceOf.new ..) pl pu q3;show wpAny (model X.prog X.w) X.A (subscriptTail e (.Slice lo hi none p2) v (.ref s3.heap.objs.size)) (EP X pins σ Q) X.xe { s3 with heap:=s3.heap.push { cls:=.type "slice",data:=.fields #[vl,vu,.none] } };exact tail_any (ops:=[.ref s3.heap.objs.size,v]) ht hT hg (by with_unfolding_all rfl)
def dJ(xs:List V)(lo hi:Option Int):List V:=(xs.drop (HT.aQ xs.length 0 lo)).take (HT.aQ xs.length xs.length hi-HT.aQ xs.length 0 lo)
theorem Jl(xs:List V)(lo hi:Option Int):(dJ xs lo hi).length<=xs.length:=by
 unfold dJ;rw[dN,dF];lia
def WC(K:PySem.W.Frag):V->Option Int->Option Int->Hp->VK->Prop:=fun x lo hi H Q=>∃a xs,x=.ref a/\aM K H a xs /\
 ¬ (HT.aQ xs.length 0 lo=0/\HT.aQ xs.length xs.length hi=xs.length)/\∀p,H p=none->Q (.ref p) (upd H p (.tup (dJ xs lo hi)))
theorem Va:rf X (WC X.K):=by
 intro pins s σ H x v vl vu lo hi sl Q I rx hs pl pu h;obtain⟨a,xs,rfl,hx,hw,q⟩:=h;cases rx;obtain⟨its,r,ht,hz⟩:=I.tuple hx;have hlen:its.toArray.size=xs.length:=by rw[bX];exact r.length.symm
 refine⟨"tuple",_,t7.lookup,ht.typeIs,?_⟩;refine HT.Qw ht hs pl pu (by rw[hlen];exact hw) ?_ (by rw[hlen];exact hz);rw[hlen];refine⟨.ref s.heap.objs.size,_,I.laid (t':=s.toks) (o:=.tup (dJ xs lo hi)) (fun b ob q=>aK _ q) (az _) ?_,rfl,q _ (I.aq.fresh (az _))⟩;exact⟨cZ (Jl xs lo hi) hz,_,(r.drop (HT.aQ xs.length 0 lo)).take (HT.aQ xs.length xs.length hi-HT.aQ xs.length 0 lo),IsTup.new _ _⟩
end
def og(n:Nat)(i:Int):Option Nat:=if 0<=i then(if i<n then some i.toNat else none) else if -(n:Int)<=i then some (i+n).toNat else none
def dP{α : Type}(xs:List α)(i:Int):Option α := (og xs.length i).bind fun j=>xs[j]?
theorem UL{n:Nat}{i:Int}{j:Nat}(h:og n i=some j):seqIndex? i n=some j/\j<n /\ -(n:Int)<=i/\i<n:=by
 unfold og at h;by_cases h0:0<=i
 ·rw[ah h0] at h;by_cases h1:i<n
  ·rw[ah h1] at h;have e:i.toNat=j:=dm h;exact⟨by rw[seqIndex_of h0 h1,e],by lia,by lia,h1⟩
  ·rw[af h1] at h;cases h
 ·rw[af h0] at h;by_cases h1 : -(n:Int)<=i
  ·rw[ah h1] at h;have e:(i+n).toNat=j:=dm h;exact⟨by rw[seqIndex_neg (by lia) h1,e],by lia,h1,by lia⟩
  ·rw[af h1] at h;cases h
theorem Cf{α : Type}{xs:List α}{i:Int}{v : α}(h:dP xs i=some v):∃j,seqIndex? i xs.length=some j/\xs[j]?= some v/\j<xs.length /\ -(xs.length:Int)<=i/\i<xs.length:=by
 unfold dP at h;cases e:og xs.length i with
 | none=>rw[e] at h;cases h
 | some j =>
  rw[e] at h;obtain⟨h1,h2,h3,h4⟩:=UL e;exact⟨j,h1,h,h2,h3,h4⟩
theorem i9{α : Type}{xs:List α}{j:Nat}{v : α}(h:xs[j]?= some v):dP xs (j:Int)=some v:=by
 have hj:j<xs.length:=(cB.mp h).1;have e:og xs.length (j:Int)=some j:=by
  unfold og;rw[ah (by lia),ah (by lia)];simp
 unfold dP;rw[e];exact h
theorem jw{α : Type}(xs:List α)(v : α):dP (xs ++ [v]) (-1)=some v:=by
 have hl:(xs ++ [v]).length=xs.length+1:=by simp
 have e:og (xs ++ [v]).length (-1)=some xs.length:=by
  unfold og;rw[hl,af (by decide),ah (by lia)]
  congr 1
  lia
 unfold dP;rw[e];show(xs ++ [v])[xs.length]?= some v;simp
def K4(b:Expr):Prop := ∀o i,subscripted b false o i=operate [o,i] (getItem o i)
def qX(X:Cx)(r:R2):Prop :=
 ∀(value slice:Expr)(pins:List (Addr×Obj))(s:Shared)(σ : St)(H:Hp)(x y:V)(v u:Value)(Q:VK),Inv X pins σ H s->RelV x v->RelV y u->r x y H Q ->
  subscripted slice false v u=operate [v,u] (getItem v u)->wpAny (model X.prog X.w) X.A (subscriptTail value slice v u) (EP X pins σ Q) X.xe s
def Bn(X:Cx)(id:String)(r:V->List V->Hp->VK->Prop):Prop :=
 ∀(pins:List (Addr×Obj))(s:Shared)(σ : St)(H:Hp)(x:V)(xs:List V)(v:Value)(us:List Value)(Q:VK),Inv X pins σ H s->RelV x v->Vals xs us->r x xs H Q ->
  wpAny (model X.prog X.w) X.A (call (.builtin id) (v::us)) (EP X pins σ Q) X.xe s
section
variable{X:Cx}{a b:Expr}{ta tb:TE}{pos:Pos}
theorem bp{r:R2}(hr:qX X r)(ha:PE X a ta)(hb:PE X b tb)(hs:K4 b):PE X (.Subscript a b pos) (wN r ta tb):=by
 intro pins s σ H Q I h;exact Subscript_ (Dc ha hb I h fun v u s2 x y H2 I2 rx ry q=>hr a b pins s2 σ H2 x y v u Q I2 rx ry q (hs _ _))
def WG(K:PySem.W.Frag):R2:=fun x y H Q=>∃p xs i v,x=.ref p/\y=.int i/\ak K H p xs/\dP xs i=some v/\Q v H
def ME(K:PySem.W.Frag):R2:=fun x y H Q=>∃p xs i v,x=.ref p/\y=.int i/\aM K H p xs/\dP xs i=some v/\Q v H
def Wm:R2:=fun x y H Q=>∃z i c,x=.str z/\y=.int i/\z.length<=sizeLine/\dP z.cps.toList i=some c/\Q (.str ⟨#[c]⟩) H
theorem Z6:qX X (WG X.K):=by
 intro value slice pins s σ H x y v u Q I rx ry h hs;obtain⟨p,xs,i,z,rfl,rfl,hq,he,q⟩:=h;cases rx;obtain⟨t,rfl⟩:=ry;obtain⟨its,r,pl,hz⟩:=I.list hq;obtain⟨j,h1,h2,h3,h4,h5⟩:=Cf he;obtain⟨w,ew,lE⟩:=r.get h2;have hl:=r.length;have hn:=sd;have fin:EP X pins σ Q w s:=⟨z,H,I,lE,q⟩;by_cases h0:0<=i
 ·have hj:i.toNat=j:=by
   rw[seqIndex_of h0 h5] at h1;exact dm h1
  exact item_listR pl.isList h0 (by lia) (by rw[hj];simpa using ew) fin hs
 ·have hj:(i+(its.toArray.size:Int)).toNat=j:=by
   rw[seqIndex_neg (by lia) h4] at h1;rw[bX,<- hl];exact dm h1
  exact subscriptTail_builtinR (x:=w) pl.isList.typeIs slot_list_getitem.lookup
   (wpAny_getItem_list_neg (Q:=fun r s'=>r=w/\EP X pins σ Q r s') pl.isList (by lia) (by rw[bX] <;> lia) (by lia) (by rw[hj];simpa using ew) ⟨rfl,fin⟩) hs
theorem lP:qX X (ME X.K):=by
 intro value slice pins s σ H x y v u Q I rx ry h hs;obtain⟨p,xs,i,z,rfl,rfl,hq,he,q⟩:=h;cases rx;obtain⟨t,rfl⟩:=ry;obtain⟨its,r,pl,hz⟩:=I.tuple hq;obtain⟨j,h1,h2,h3,h4,h5⟩:=Cf he;obtain⟨w,ew,lE⟩:=r.get h2;have hl:=r.length;have hn:=sd;have fin:EP X pins σ Q w s:=⟨z,H,I,lE,q⟩;exact subscriptTail_builtinR (x:=w) pl.typeIs slot_tuple_getitem.lookup
  (getItem_tuple (j:=j) (Q:=fun r s'=>r=w/\EP X pins σ Q r s') pl (by lia) (by lia) (by rw[bX,<- hl];exact h1) (by simpa using ew) ⟨rfl,fin⟩) hs
theorem jz:qX X Wm:=by
 intro value slice pins s σ H x y v u Q I rx ry h hs;obtain⟨z,i,c,rfl,rfl,hz,he,q⟩:=h;obtain⟨t,rfl⟩:=rx;obtain⟨t',rfl⟩:=ry;obtain⟨j,h1,h2,h3,h4,h5⟩:=Cf he;have hl:z.cps.toList.length=z.length:=by simp[Str.length]
 rw[hl] at h1 h4 h5;have hn:=sd;exact tail_any (oQ s z t) slot_str_getitem.lookup (getItem_str (c:=c) (by
  have e1:decide (i < -(2 ^ 63:Int))=false:=a_ (by lia);have e2:decide (i>=2 ^ 63)=false:=a_ (by lia);rw[e1,e2,Bool.or_false]) (by rw[h1];simpa using h2) ⟨.str ⟨#[c]⟩,H,I.tok _,⟨_,rfl⟩,q⟩) hs
theorem QY(lo hi:Option Int)(n:Nat):(sliceBounds lo hi none n).1=((HT.aQ n 0 lo:Nat):Int)/\(sliceBounds lo hi none n).2.1=((HT.aQ n n hi:Nat):Int)/\(sliceBounds lo hi none n).2.2=1:=by
 refine⟨?_,?_,rfl⟩
 ·cases lo with
  | none=>simp[sliceBounds,HT.aQ]
  | some i =>
   simp only[sliceBounds,HT.aQ,Option.getD_none,show(1:Int) > 0 by decide,gR];by_cases h:i<0
   ·simp only[h,gR] <;> lia
   ·simp only[h,ig] <;> lia
 ·cases hi with
  | none=>simp[sliceBounds,HT.aQ]
  | some i =>
   simp only[sliceBounds,HT.aQ,Option.getD_none,show(1:Int) > 0 by decide,gR];by_cases h:i<0
   ·simp only[h,gR] <;> lia
   ·simp only[h,ig] <;> lia
theorem QJ(its:List Value)(lo hi:Option Int):slicePick its.toArray lo hi none=((its.drop (HT.aQ its.length 0 lo)).take (HT.aQ its.length its.length hi-HT.aQ its.length 0 lo)).toArray:=by
 obtain⟨h1,h2,h3⟩:=QY lo hi its.toArray.size;unfold slicePick;rw[h1,h2,h3];simp only[sliceRange_one,pick_run,bX] <;> rfl
def Wn(K:PySem.W.Frag):V->Option Int->Option Int->Hp->VK->Prop:=fun x lo hi H Q=>∃a xs,x=.ref a/\ak K H a xs/\∀p,H p=none->Q (.ref p) (upd H p (.lst (dJ xs lo hi)))
theorem yk:rf X (Wn X.K):=by
 intro pins s σ H x v vl vu lo hi sl Q I rx hs pl pu h;obtain⟨a,xs,rfl,hx,q⟩:=h;cases rx;obtain⟨its,r,ht,hz⟩:=I.list hx;have hlen:=r.length;refine⟨"list",_,slot_list_getitem.lookup,ht.isList.typeIs,?_⟩;refine wpAny_getItem_list_slice ht.isList hs pl pu .none (by simp) ?_ (by rw[bX] <;> lia)
 rw[QJ,<- hlen];refine⟨.ref s.heap.objs.size,_,I.laid (t':=s.toks) (o:=.lst (dJ xs lo hi)) (fun b ob q=>aK _ q) (az _) ?_,rfl,q _ (I.aq.fresh (az _))⟩;exact⟨cZ (Jl xs lo hi) hz,_,0,(r.drop (HT.aQ xs.length 0 lo)).take (HT.aQ xs.length xs.length hi-HT.aQ xs.length 0 lo),cf _ rfl⟩
def ng:V->Bool
 | .aE=>true
 | .bl _=>true
 | .int _=>true
 | .str _=>true
 | _=>false
def nr:V->V->Bool
 | .aE,.aE=>true
 | .bl a,.bl b=>a == b
 | .bl a,.int b=>(if a then 1 else 0) == b
 | .int a,.bl b=>a == (if b then 1 else 0)
 | .int a,.int b=>a == b
 | .str a,.str b=>a == b
 | _,_=>false
theorem Vz{A:Around}{s:Shared}{y x:V}{u v:Value}(ry:RelV y u)(rx:RelV x v)(fy:ng y=true)(fx:ng x=true):SeqAt.EqAt A s u v (nr y x):=by
 cases y with
 | aE =>
  cases ry;cases x with
  | aE=>cases rx;exact SeqAt.EqAt.same _
  | bl b=>cases rx;exact SeqAt.EqAt.none_bool b
  | int b=>obtain⟨t,rfl⟩:=rx;exact SeqAt.EqAt.none_int b t
  | str b=>obtain⟨t,rfl⟩:=rx;exact SeqAt.EqAt.none_str b t
  | _=>exact absurd (show false=true from fx) bf
 | bl a =>
  cases ry;cases x with
  | aE=>cases rx;exact SeqAt.EqAt.bool_none a
  | bl b=>cases rx;exact SeqAt.EqAt.bool_bool a b
  | int b=>obtain⟨t,rfl⟩:=rx;exact SeqAt.EqAt.bool_int a b t
  | str b=>obtain⟨t,rfl⟩:=rx;exact SeqAt.EqAt.bool_str a b t
  | _=>exact absurd (show false=true from fx) bf
 | int a =>
  obtain⟨t',rfl⟩:=ry;cases x with
  | aE=>cases rx;exact SeqAt.EqAt.int_none a t'
  | bl b=>cases rx;exact SeqAt.EqAt.int_bool a t' b
  | int b=>obtain⟨t,rfl⟩:=rx;exact SeqAt.EqAt.int_int a t' b t
  | str b=>obtain⟨t,rfl⟩:=rx;exact SeqAt.EqAt.int_str a t' b t
  | _=>exact absurd (show false=true from fx) bf
 | str a =>
  obtain⟨t',rfl⟩:=ry;cases x with
  | aE=>cases rx;exact SeqAt.EqAt.str_none a t'
  | bl b=>cases rx;exact SeqAt.EqAt.str_bool a t' b
  | int b=>obtain⟨t,rfl⟩:=rx;exact SeqAt.EqAt.str_int a t' b t
  | str b=>obtain⟨t,rfl⟩:=rx;exact SeqAt.EqAt.str_str a t' b t
  | _=>exact absurd (show false=true from fx) bf
 | _=>exact absurd (show false=true from fy) bf
def gx(x:V)(u:Value):Bool:=match u with
 | .none=>nr .aE x
 | .bool b=>nr (.bl b) x
 | .int i _=>nr (.int i) x
 | .str z _=>nr (.str z) x
 | _=>false
theorem Mf{x y:V}{u:Value}(r:RelV y u)(f:ng y=true):gx x u=nr y x:=by
 cases y with
 | aE=>cases r;rfl
 | bl b=>cases r;rfl
 | int i=>obtain⟨t,rfl⟩:=r;rfl
 | str z=>obtain⟨t,rfl⟩:=r;rfl
 | _=>exact absurd (show false=true from f) bf
theorem uN{x:V}:∀{xs:List V}{us:List Value},Vals xs us->xs.all ng=true->us.any (gx x)=xs.any fun y=>nr y x
 | _,_,.nil,_=>rfl
 | y::xs,u::us,.cons r t,f=>by
  rw[List.all_cons,cP] at f;rw[oC,oC,Mf r f.1,uN t f.2]
theorem uF{A:Around}{s:Shared}{x:V}{v:Value}(rx:RelV x v)(fx:ng x=true):∀{xs:List V}{us:List Value},Vals xs us->xs.all ng=true->∀u∈us,SeqAt.EqAt A s u v (gx x u)
 | _,_,.nil,_=>fun u hu=>by cases hu
 | y::xs,u::us,.cons r t,f=>fun u' hu=>by
  rw[List.all_cons,cP] at f;rcases aH.mp hu with rfl|hu
  ·rw[Mf r f.1];exact Vz r rx f.1 fx
  ·exact uF rx fx t f.2 u' hu
def jW(x:V)(xs:List V):Bool:=xs.any fun y=>nr y x
def Pu(K:PySem.W.Frag)(neg:Bool):R2:=fun x y H Q=>∃p xs,y=.ref p/\(ak K H p xs\/aM K H p xs)/\ng x=true/\xs.all ng=true/\Q (.bl (if neg then !jW x xs else jW x xs)) H
theorem RX:bC X (compareOp .In) (Pu X.K false):=by
 intro pins s σ H x y v u Q I rx ry h;obtain⟨p,xs,rfl,hq,fx,fs,q⟩:=h;cases ry;rcases hq with hq|hq
 ·obtain⟨its,r,pl,hz⟩:=I.list hq;refine SeqAt.in_listAt (gx x) pl.isList (fun w hw=>uF rx fx r fs w (by simpa using hw)) ⟨.bl _,H,I,rfl,?_⟩;rw[show its.toArray.any (gx x)=its.any (gx x) by simp,uN r fs];exact q
 ·obtain⟨its,r,pl,hz⟩:=I.tuple hq;refine SeqAt.in_tupleAt (gx x) pl (fun w hw=>uF rx fx r fs w (by simpa using hw)) ⟨.bl _,H,I,rfl,?_⟩;rw[show its.toArray.any (gx x)=its.any (gx x) by simp,uN r fs];exact q
theorem Q3:bC X (compareOp .NotIn) (Pu X.K true):=by
 intro pins s σ H x y v u Q I rx ry h;obtain⟨p,xs,rfl,hq,fx,fs,q⟩:=h;cases ry;rcases hq with hq|hq
 ·obtain⟨its,r,pl,hz⟩:=I.list hq;refine SeqAt.notIn_listAt (gx x) pl.isList (fun w hw=>uF rx fx r fs w (by simpa using hw)) ⟨.bl _,H,I,rfl,?_⟩;rw[show its.toArray.any (gx x)=its.any (gx x) by simp,uN r fs];exact q
 ·obtain⟨its,r,pl,hz⟩:=I.tuple hq;refine SeqAt.notIn_tupleAt (gx x) pl (fun w hw=>uF rx fx r fs w (by simpa using hw)) ⟨.bl _,H,I,rfl,?_⟩;rw[show its.toArray.any (gx x)=its.any (gx x) by simp,uN r fs];exact q
theorem Bu:bC X (compareOp .NotIn) (fun x y H Q=>∃i j,x=.str i/\y=.str j/\Q (.bl (!(!(Builtin.Str.occurrences j i 0 j.length 1).isEmpty))) H):=by
 intro pins s σ H x y v u Q I rx ry h;obtain⟨i,j,rfl,rfl,q⟩:=h;obtain⟨t,rfl⟩:=rx;obtain⟨t',rfl⟩:=ry;exact notIn_str ⟨.bl _,H,I,rfl,q⟩
theorem lI:fP X (.builtin "len") (fun xs H Q=>∃p ys,xs=[.ref p]/\(ak X.K H p ys\/aM X.K H p ys)/\Q (.int ys.length) H):=by
 intro pins s σ H xs us Q I r h;obtain⟨p,ys,rfl,hq,q⟩:=h;obtain⟨u,rfl,rx⟩:=vals1 r;cases rx;have hn:=sd;rcases hq with hq|hq
 ·obtain⟨its,r',pl,hz⟩:=I.list hq;have hlen:=r'.length;exact Calls.call_len_list pl.isList (by simp only[bX] <;> lia) ⟨.int ys.length,H,I.tok _,⟨s.toks+1,by rw[bX,hlen]⟩,q⟩
 ·obtain⟨its,r',pl,hz⟩:=I.tuple hq;have hlen:=r'.length;exact len_tuple pl (by simp only[bX] <;> lia) ⟨.int ys.length,H,I.tok _,⟨s.toks+1,by rw[bX,hlen]⟩,q⟩
theorem pz:fP X (.builtin "len") (fun xs H Q=>∃z,xs=[.str z]/\z.length<=sizeLine/\Q (.int z.length) H):=by
 intro pins s σ H xs us Q I r h;obtain⟨z,rfl,hz,q⟩:=h;obtain⟨u,rfl,t,rfl⟩:=vals1 r;have hn:=sd;exact len_str (by lia) ⟨.int z.length,H,I.tok _,⟨_,rfl⟩,q⟩
theorem Z0:fP X (.type "tuple") (fun xs H Q=>∃p ys,xs=[.ref p]/\((ak X.K H p ys/\∀l,H l=none->Q (.ref l) (upd H l (.tup ys)))\/(aM X.K H p ys/\Q (.ref p) H))):=by
 intro pins s σ H xs us Q I r h;obtain⟨p,ys,rfl,h⟩:=h;obtain⟨u,rfl,rx⟩:=vals1 r;cases rx;rcases h with⟨hq,q⟩|⟨hq,q⟩
 ·obtain⟨its,r',pl,hz⟩:=I.list hq;have hlen:=r'.length;refine call_tuple_list pl.isList (fun h' kp=>?_) (by simp only[bX] <;> lia)
  have I1:Inv X pins σ H { s with heap:=h' }:=I.kept (t':=s.toks) kp;have I2:Inv X pins σ (upd H h'.objs.size (.tup ys)) { s with heap:=h'.push { cls:=.type "tuple",data:=.seq its.toArray } } :=
   I1.laid (t':=s.toks) (fun b o e=>aK _ e) (az _) (show bM X.prog X.w _ _ _ (.tup ys) from⟨hz,its,r',IsTup.new _ _⟩)
  exact⟨.ref h'.objs.size,_,I2,rfl,q _ (I1.aq.fresh (az _))⟩
 ·obtain⟨its,r',pl,hz⟩:=I.tuple hq;exact call_tuple_same pl ⟨.ref p,H,I,rfl,q⟩
def Hl(K:PySem.W.Frag)(T:String)(x:V)(H:Hp):Prop:=match x with
 | .str _=>T= "str"
 | .int _=>T= "int"
 | .ref p=>(T= "list" /\ ∃xs,ak K H p xs)\/(T= "tuple" /\ ∃o,K.lookup p=some o/\o.cls=.type "tuple" /\ o.dict=none) \/
   (T= "dict" /\ ((∃aj,H p=some (.dK aj))\/∃aj,H p=some (.dT aj)))\/(T= "set" /\ ∃S n,H p=some (.set S n))
 | _=>False
theorem L9{pins:List (Addr×Obj)}{σ : St}{H:Hp}{s:Shared}{T:String}{x:V}{v:Value}(I:Inv X pins σ H s)(r:RelV x v)(ty:Hl X.K T x H) :
  s.TypeIs v T/\∀a,v=.ref a->∃ob,s.heap.get? a=some ob/\ob.dict=none:=by
 cases x with
 | str z =>
  obtain⟨t,rfl⟩:=r;cases (show T= "str" from ty);exact⟨oQ s z t,fun _ e=>nomatch e⟩
 | int i =>
  obtain⟨t,rfl⟩:=r;cases (show T= "int" from ty);exact⟨typeIs_int s i t,fun _ e=>nomatch e⟩
 | ref p =>
  cases r;rcases ty with⟨rfl,xs,hq⟩|⟨rfl,o,hk,hc,hd⟩|⟨rfl,hk⟩|⟨rfl,S,n,hk⟩
  ·obtain⟨its,_,pl,_⟩:=I.list hq;refine⟨pl.isList.typeIs,fun a e=>?_⟩;cases e;obtain⟨o,n,e,c,hd,_⟩:=pl;exact⟨o,e,hd⟩
  ·refine⟨⟨o,I.bI p o hk,hc⟩,fun a e=>?_⟩;cases e;exact⟨o,I.bI _ o hk,hd⟩
  ·have z:∃o,s.heap.get? p=some o/\o.ExactDict:=by
    rcases hk with⟨aj,hk⟩|⟨aj,hk⟩
    ·obtain⟨_,_,_,_,o,_,_,e,ex,_⟩:=I.aq p _ hk;exact⟨o,e,ex⟩
    ·obtain⟨_,_,_,_,o,_,_,e,ex,_⟩:=I.aq p _ hk;exact⟨o,e,ex⟩
   obtain⟨o,e,ex⟩:=z;refine⟨⟨o,e,ex.1⟩,fun a e2=>?_⟩;cases e2;exact⟨o,e,ex.2.1⟩
  ·obtain⟨o,_,_,_,e,ex,_⟩:=I.aq p _ hk;refine⟨⟨o,e,ex.1⟩,fun a e2=>?_⟩;cases e2;exact⟨o,e,ex.2.1⟩
 | _=>exact False.elim ty
def Wq(K:PySem.W.Frag)(T:String)(r:V->List V->Hp->VK->Prop)(to:TE):TE:=fun σ H Q=>to σ H fun x H1=>Hl K T x H1/\r x [] H1 Q
def tBM(K:PySem.W.Frag)(T:String)(r:V->List V->Hp->VK->Prop)(to:TE)(t:TA):TE:=fun σ H Q=>to σ H fun x H1=>Hl K T x H1/\t σ H1 fun xs H2=>r x xs H2 Q
variable{o e:Expr}{es:List Expr}{to:TE}{t:TA}{name:Str}{apos gW:Pos}{T id:String}{r:V->List V->Hp->VK->Prop}
theorem m_(pa:PlainAttrs T)(slot:Slot T name id)(kM:typeOf (.builtin id)=pure (.type "method_descriptor")) (hm:Bn X id r) (ho:PE X o to)
  (FA:attributeBase o name X.env (eval o X.env)=eval o X.env:=by rfl) (zK:(apos.endLine == gW.line)=true:=by rfl):PE X (.Call (.Attribute o name apos) [] [] gW) (Wq X.K T r to):=by
 intro pins s σ H Q I h;refine wpAny_Call_method0_late FA zK (aw (ho pins s σ H _ I h) fun v s1 ⟨x,H1,I1,r1,ty,q1⟩=>?_);obtain⟨h1,h2⟩:=L9 I1 r1 ty;exact⟨T,id,pa,slot,kM,h1,h2,Calls.callWith_builtin rfl (PySem.evalArgs_none (hm pins s1 σ H1 x [] v [] Q I1 r1 .nil q1))⟩
theorem cw(pa:PlainAttrs T)(slot:Slot T name id)(kM:typeOf (.builtin id)=pure (.type "method_descriptor")) (hm:Bn X id r) (ho:PE X o to) (ha:PA X (e::es) t)
  (FA:attributeBase o name X.env (eval o X.env)=eval o X.env:=by rfl)
  (Zrg:((backTo gW (starEach (e::es) X.env)).all (fun x=>!x.1)&&(backToKw gW (keywordEach [] X.env)).all (fun x=>x.1.isSome)
   && decide ((e::es).length+([]:List Keyword).length+(if([]:List Keyword).isEmpty then 0 else 1)<30))=true:=by rfl)
  (zK:(apos.endLine == gW.line)=true:=by rfl) (hs:starEach (e::es) X.env=(false,eval e X.env)::starEach es X.env:=by rfl) (ZrR:(backTo gW (starEach es X.env)).any (·.1)=false:=by rfl) :
  PE X (.Call (.Attribute o name apos) (e::es) [] gW) (tBM X.K T r to t):=by
 intro pins s σ H Q I h;refine wpAny_Call_method_late FA Zrg zK rfl (aw (ho pins s σ H _ I h) fun v s1 ⟨x,H1,I1,r1,ty,q1⟩=>?_);obtain⟨h1,h2⟩:=L9 I1 r1 ty;refine⟨T,id,pa,slot,kM,h1,h2,?_⟩;have hA:=ha gW pins s1 σ H1 _ I1 q1;rw[hs] at hA ⊢;refine Calls.callWith_builtin (by show(false || (backTo gW (starEach es X.env)).any (·.1))=false;rw[ZrR] <;> rfl) (Calls.evalArgs_plain ?_)
 exact aw hA fun us s2 ⟨vs,H2,I2,r2,q2⟩=>hm pins s2 σ H2 x vs v us Q I2 r1 r2 q2
/- xs.append(e),list.index on a Zw4 tuple .. are Bn facts of 06m -/
end
def qY(X:Cx)(id:String)(r:V->List V->Hp->VK->Prop):Prop :=
 ∀(pins:List (Addr×Obj))(s:Shared)(σ : St)(H:Hp)(x:V)(xs:List V)(v:Value)(us:List Value)(Q:VK),Inv X pins σ H s->RelV x v->Vals xs us->r x xs H Q ->
  wpAny (model X.prog X.w) X.A (call (.builtin id) (v::us)) (EP X pins σ Q) X.xe s
theorem Vals.one:∀{x:V}{us:List Value},Vals [x] us->∃u,us=[u]/\RelV x u
 | _,_,.cons r .nil=>⟨_,rfl,r⟩
theorem Vals.two:∀{x y:V}{us:List Value},Vals [x,y] us->∃u v,us=[u,v]/\RelV x u/\RelV y v
 | _,_,_,.cons r (.cons q .nil)=>⟨_,_,rfl,r,q⟩
theorem Vals.zero:∀{us:List Value},Vals [] us->us=[]
 | _,.nil=>rfl
theorem Vals.dropLast{xs:List V}{us:List Value}(h:Vals xs us):Vals xs.dropLast us.dropLast:=by
 induction h with
 | nil=>exact .nil
 | cons r t ih =>
  cases t with
  | nil=>exact .nil
  | cons q t'=>exact .cons r ih
theorem Vals.reverse{xs:List V}{us:List Value}(h:Vals xs us):Vals xs.reverse us.reverse:=by
 induction h with
 | nil=>exact .nil
 | cons r t ih=>rw[gN,gN];exact Vals.append ih (.cons r .nil)
theorem R7{α : Type}(l:List α):l.eraseIdx (l.length-1)=l.dropLast:=by
 induction l with
 | nil=>rfl
 | cons a r ih =>
  cases r with
  | nil=>rfl
  | cons b r =>
   have e:(a::b::r).length-1=((b::r).length-1)+1:=by
    have h1:(a::b::r).length=r.length+2:=rfl;have h2:(b::r).length=r.length+1:=rfl;lia
   rw[e,List.eraseIdx_cons_succ,ih]
   all_goals rfl
section
variable{X:Cx}{pins:List (Addr×Obj)}{σ : St}{H:Hp}{s:Shared}{l b:Addr}{xs ys zs:List V}
theorem Inv.O9{its its':List Value}{n:Nat}{f:Array Value->Array Value}{t':Nat}(I:Inv X pins σ H s)(hH:H l=some (.lst xs))
  (e:s.heap.get? l=some { cls:=.type "list",data:=.seq its.toArray n }) (hf:f its.toArray=its'.toArray) (hv:Vals ys its') (hz:ys.length<=sizeLine) :
  Inv X pins σ (upd H l (.lst ys)) { s with heap:=s.heap.update l (Obj.mapSeq f),toks:=t' }:=by
 have q:=PySem.IsL.update e f;rw[hf] at q;refine I.write (x:=l) (e:=l) (by rw[hH];exact trivial) (.inl rfl) (fun b' u hb hu=>(hX s.heap (Obj.mapSeq f) (fH hb)).trans hu) ⟨_,q⟩ ?_;exact⟨hz,its',_,hv,q⟩
theorem Inv.O6{its:List Value}{t':Nat}(I:Inv X pins σ H s)(hv:Vals ys its)(hz:ys.length<=sizeLine) :
  Inv X pins σ (upd H s.heap.objs.size (.lst ys)) { s with heap:=s.heap.push { cls:=.type "list",data:=.seq its.toArray },toks:=t' } :=
 I.laid (fun _ _ q=>aK _ q) (az _) ⟨hz,its,0,hv,cf _ rfl⟩
theorem Inv.fresh(I:Inv X pins σ H s):H s.heap.objs.size=none:=I.aq.fresh (az _)
theorem Inv.Aw(I:Inv X pins σ H s)(hH:H l=some (.lst xs)):xs.length<=sizeLine/\∃(its:List Value)(n:Nat),Vals xs its/\xs.length=its.length/\s.heap.get? l=some { cls:=.type "list",data:=.seq its.toArray n }:=by
 obtain⟨z,its,n,r,e⟩:=I.aq l _ hH;exact⟨z,its,n,r,r.length,e⟩
end
section
variable{X:Cx}
def US:V->List V->Hp->VK->Prop:=fun x vs H Q=>∃l xs y,x=.ref l/\vs=[y]/\H l=some (.lst xs)/\xs.length<sizeLine/\Q .aE (upd H l (.lst (xs ++ [y])))
theorem ZL:qY X "list.append" US:=by
 intro pins s σ H x vs v us Q I rx rv h;obtain⟨l,xs,y,rfl,rfl,hH,hz,q⟩:=h;cases rx;obtain⟨u,rfl,ru⟩:=rv.one;obtain⟨z,its,n,r,hl,e⟩:=I.Aw hH;refine call_meets F.slot_list_append ⟨_,e,rfl⟩ F.entry_list_append (F.args_list_append_2 _ _) (PySem.list_append l its.toArray n u (by rw[bX];lia)) ⟨e,?_⟩;refine⟨.aE,_,I.O9 (its':=its ++ [u]) hH e (by simp) (r.append (.cons ru .nil)) ?_,rfl,q⟩;rw[bw,List.length_singleton];lia
def Wy:V->List V->Hp->VK->Prop:=fun x vs H Q=>∃l xs y,x=.ref l/\vs=[]/\H l=some (.lst xs)/\xs[xs.length-1]?= some y/\Q y (upd H l (.lst xs.dropLast))
theorem nc:qY X "list.pop" Wy:=by
 intro pins s σ H x vs v us Q I rx rv h;obtain⟨l,xs,y,rfl,rfl,hH,hy,q⟩:=h;cases rx;have hus:=rv.zero;subst hus;obtain⟨z,its,n,r,hl,e⟩:=I.Aw hH;obtain⟨u,hu,ru⟩:=r.get hy;have Qb:its.toArray[its.toArray.size-1]?= some u:=by
  show its.toArray[its.length-1]?= some u;rw[<- bE,<- hl];exact hu
 refine call_meets F.slot_list_pop ⟨_,e,rfl⟩ F.entry_list_pop (F.args_list_pop_1 _) (MeetsSeq.list_pop_last l its.toArray n u Qb (by rw[bX];lia)) ⟨e,?_⟩;refine⟨y,_,I.O9 (its':=its.dropLast) hH e ?_ r.dropLast ?_,ru,q⟩
 ·show its.toArray.eraseIdxIfInBounds (its.toArray.size-1)=its.dropLast.toArray;rw[bX,List.eraseIdxIfInBounds_toArray,R7]
 ·rw[List.length_dropLast];lia
def Ww:R2:=fun x y H Q=>∃l b xs zs,x=.ref l/\y=.ref b/\H l=some (.lst xs)/\H b=some (.lst zs)/\xs.length+zs.length<=sizeLine/\∀p,H p=none->Q (.ref p) (upd H p (.lst (xs++zs)))
theorem L8:bC X (binaryOp .Add) Ww:=by
 intro pins s σ H x y v u Q I rx ry h;obtain⟨l,b,xs,zs,rfl,rfl,hH,hB,hz,q⟩:=h;cases rx;cases ry;obtain⟨z,its,n,r,hl,e⟩:=I.Aw hH;obtain⟨z2,mv,n2,r2,gD,e2⟩:=I.Aw hB;refine PySem.P.add_list e e2 ?_ (by rw[bX,bX];lia);have ea:its.toArray++mv.toArray=(its++mv).toArray:=by simp
 rw[ea];exact⟨.ref _,_,I.O6 (t':=s.toks) (r.append r2) (by rw[bw];lia),rfl,q _ I.fresh⟩
end
end L2
namespace Iu
open PySem PySem.W PySem.Calls PyProof.Rows
theorem QB{P:Params}{h:Heap}:∀(ns:List Int)(vs:List Value),WellAll P h vs (ns.map WData.int)->IntsAre vs ns:=by
 intro ns
 induction ns with
 | nil =>
  intro vs w;rw[List.map_nil] at w;cases w;exact .nil
 | cons n ns ih =>
  intro vs w;rw[bt] at w;cases w with
  | cons a b =>
   cases a;exact .cons _ _ (ih _ b)
theorem RO{l:OpenLaw}{n:Nat}(hn:l.most=some n){P:Params}{h:Heap}{args:List WData}{vals:List Value}
  (sY:l.row.toRowW.claim.pre args=true) (mq:WellAll P h vals args) :
  ∃a vs ns,vals=[Value.ref a]/\args=[WData.list (ns.map WData.int)]/\h.get? a=some { cls:=.type "list",data:=.seq vs.toArray }/\IntsAre vs ns/\ns.length<=n:=by
 have hsh:WShape.hasAll [] args [.list .int]=true:=(pre_splitW sY).1;have hc:l.pre.holds [] { args:=args }=true:=(pre_splitW sY).2;obtain⟨d,r,rfl,h1,h2⟩:=hasAllW_cons hsh;obtain rfl:=hasAllW_nil h2;obtain⟨xs,rfl,h3⟩:=hasW_list h1;obtain⟨ns,rfl⟩:=items_int h3;have hlen:ns.length<=n:=by
  unfold OpenLaw.pre at hc;have h4:(WTm.not (.lt (.lit (.int (n:Int))) (.len (.arg 0)))).holds [] { args:=[.list (ns.map .int)] }=true:=by
   have h4:=(holds_andW hc).1;rw[hn] at h4;exact h4
  have h5:=condW_of h4 (w_not (w_lt w_lit (w_len_list (w_arg rfl))));rw[aW] at h5;refine Nat.le_of_not_lt fun q=>?_;have q':(n:Int)<((ns.length:Nat):Int):=by lia
  first
   | (rw[aR q'] at h5;exact absurd h5 (by decide))
   | (simp at h5;lia)
 cases mq with
 | cons w1 w2 =>
  cases w2;cases w1 with
  | list ho cy=>exact⟨_,_,ns,rfl,rfl,ho,QB ns _ cy,hlen⟩
theorem Sg(l:OpenLaw)(args:List WData):l.row.toRowW.claim.post args (.bool true) args=true :=
 postW_of (r:=l.row.toRowW) (X:=(true == true))
  (show WShape.has [] (.bool true) .bool=true by first|rfl|decide|simp[WShape.has,WShape.arms,WShape.armsAll])
  (show(WTm.eq .res (.lit (.bool true))).value [] { args:=args,res:=some (.bool true),after:=args }=some (.bool (true == true)) from w_eq_bool (w_res rfl) w_lit) rfl
theorem Rh{l:OpenLaw}{n:Nat}{q:Program}{loose:List Str}{XP:(Str->Option Value)->Heap->Prop}{YP:World->Heap->Prop}{d:DefRec}
  (hn:l.most=some n) (vP:d.params.defaults=[])
  (call:∀(w:World)(dk ba : Shared)(mg mb:Str->Option Value)(fa:Addr)(o:Obj)(pm cd doc:Value)(a:Addr)(vs:List Value)(ns:List Int),
   Ground q loose [] XP w dk mg mb ba.heap->YP w ba.heap ->
   ba.heap.get? fa=some o->o.data=.func (docDef d.name d.params d.body d.scope pm cd doc)->ba.heap.CodeRec cd d.name->mg d.name=some (.ref fa) ->
   ba.heap.get? a=some { cls:=.type "list",data:=.seq vs.toArray }->IntsAre vs ns->ns.length<=n->ba.gens=#[] ->
   codeAny (model l.prog w) callerA (.call (.ref fa) ⟨[.ref a],[]⟩) (fun r s'=>r=.ok (.ret (.bool true))/\OldK ba.heap s'.heap/\s'.os=ba.os/\AllBare s'.gens) ba) :
  WalkO q loose XP YP l.row.toRowW d [] (fun f vs=>PySem.call f vs):=by
 intro w dk ba mg mb G Y fa o pm cd doc dV kV ho hd cX hD qi hg args vals as sY ZxC hrd mq kJ;obtain rfl:dV=.none:=Dflts.none hD vP;obtain rfl:kV=.none:=Dflts.noKw hD;obtain⟨a,vs,ns,rfl,rfl,FY,hints,hlen⟩:=RO hn sY mq;refine enter_call (oP (call w dk ba mg mb fa o pm cd doc a vs ns G Y ho (fd_plain hd) cX qi FY hints hlen hg) fun r s' hq=>?_);obtain⟨rfl,h2,h3,h4⟩:=hq;exact⟨.inl ⟨.bool true,.bool true,[],rfl,fun _=>rfl,.bool true,Sg l _,fun _=>⟨List.Pairwise.nil,fun _ hm=>(nomatch hm)⟩⟩,h2,h3,h4⟩
end Iu
namespace L2
open PySem PySem.Spec PyProof.Rows
theorem J4:∀{vs:List Value}{ns:List Int},IntsAre vs ns->Vals (ns.map V.int) vs
 | _,_,.nil=>.nil
 | _,_,.cons n t h=>.cons ⟨t,rfl⟩ (J4 h)
def Bo(H:Hp):Prop := ∀b,H b=none\/∃o xs,H b=some (.gy o (.lst xs))
theorem T_{P:Program}{w:World}{K:PySem.W.Frag}{mg mb:Str->Option Value}{CX:ij}{k:Nat}{fa a:Addr}{fd:FuncData}{x:Str}{sp:Sp}{ba : Shared}{vs:List Value}{ns:List Int}
  (KX:K.In ba.heap) (sW:ba.heap.Ns mainGlobals mg) (hb:ba.heap.Ns builtinsNs mb) (kE:∀x:Str,x ≠ "__name__" -> mb x=bootBuiltins x) (ZrD:ba.heap.NoLimit) (hg:ba.gens=#[])
  (ha:ba.heap.get? a=some { cls:=.type "list",data:=.seq vs.toArray }) (hi:IntsAre vs ns) (hl:ns.length<=sizeLine) (hr:ck k callerA)
  (F:∀base:Heap,K.In base->base.Ns mainGlobals mg->aY P w K mg base CX k fa fd [x] sp) (ZqY:∀(s:Shared)(u:Value),BindsTo s fd ⟨[u],[]⟩ [(x,u)])
  (jf:∀H:Hp,Bo H->ak K H a (ns.map V.int)->sp [.ref a] H (fun v _=>v=.bl true) fun _ _ _=>False)
  (Fq:∀H e s',CX [] H ba (fun _ _ _=>False) e s'->False) :
  codeAny (model P w) callerA (.call (.ref fa) ⟨[.ref a],[]⟩) (fun r s'=>r=.ok (.ret (.bool true))/\OldK ba.heap s'.heap/\s'.os=ba.os/\AllBare s'.gens) ba := by
 have rv:=J4 hi;have Ztm:=hi.length;have core:∀H:Hp,Bo H->ak K H a (ns.map V.int)->bF P w H ba.heap->(∀b,H b≠none->b=a)->(H a≠none->K.lookup a=none) ->
   codeAny (model P w) callerA (.call (.ref fa) ⟨[.ref a],[]⟩) (fun r s'=>r=.ok (.ret (.bool true))/\OldK ba.heap s'.heap/\s'.os=ba.os/\AllBare s'.gens) ba := by
  intro H hO hS aq hA hK;have MX:∀{b:Addr}{o:Obj},ba.heap.get? b=some o->H b=none->(lT ba.heap H).get? b=some o:=fun e n=>S' e n;have wH:∀{b:Addr}{o:Obj}{es:Array DictEntry}{ep:Nat},ba.heap.get? b=some o->o.data=.dict es ep->H b=none:=fun{b o es ep} e d=>by
   cases q:H b with
   | none=>rfl
   | some u =>
    have e':b=a:=hA b (by rw[q];simp);subst e';rw[ha] at e;cases e;have d':Data.seq vs.toArray _=Data.dict es ep:=d;cases d'
  have AB:∀{b:Addr}{m:Str->Option Value},ba.heap.Ns b m->(lT ba.heap H).Ns b m:=fun{b m} ⟨o,es,ep,e,d,r⟩=>⟨o,es,ep,MX e (wH e d),d,r⟩;have NW:K.In (lT ba.heap H):=fun b o e=>MX (KX b o e) (by
   cases q:H b with
   | none=>rfl
   | some u =>
    have e':b=a:=hA b (by rw[q];simp);subst e';rw[hK (by rw[q];simp)] at e;cases e)
  have hM:Mod K mg (lT ba.heap H):=⟨NW,AB sW,⟨mb,AB hb,kE⟩,let ⟨mc,h1,h2⟩:=ZrD;⟨mc,AB h1,h2⟩⟩;have e0:o_ P w K mg (lT ba.heap H) callerA [] ba H:=⟨rfl,hM,fun b o e=>U5 e,Nat.le_of_eq (SO _ _),trivial,fun b hb=>absurd (show b∈([]:List Addr) from hb) (by simp),aq,.of_eq hg⟩;refine oP ((F _ NW (AB sW)).run callerA [] ba H ⟨[.ref a],[]⟩ [.ref a] [.ref a] _ _ hr e0 (ZqY ba (.ref a)) (.cons rfl .nil) (jf H hO hS)) fun r s' h=>?_;cases r with
  | error e=>exact(Fq H e s' h).elim
  | ok fl =>
   cases fl with
   | next=>exact False.elim h
   | brk=>exact False.elim h
   | cont=>exact False.elim h
   | ret u =>
    obtain⟨v,H',os,bare,un,P',r',q⟩:=h;have q':v=.bl true:=q;subst q';obtain rfl:u=Value.bool true:=r';refine⟨rfl,OldK.of_keep fun b o e=>?_,os,bare⟩;cases q:H b with
    | none=>exact un.keep b o e q (by intro z;exact absurd (show b∈([]:List Addr) from z) (by simp)) (by simp)
    | some u =>
     rcases hO b with z|⟨ob,xs,z⟩
     ·rw[q] at z;cases z
     ·have z2:=un.kB b ob _ z;obtain⟨e1,_⟩:=aq b _ z;obtain⟨e2,_⟩:=P' b _ z2;rw[e] at e1;cases e1;exact e2
 cases hk:K.lookup a with
 | some o =>
  have e:=KX a o hk;rw[ha] at e;cases e;refine core (fun _=>none) (fun _=>.inl rfl) (.inr ⟨_,vs.toArray,_,hk,rfl,rfl,rfl,by rw[bX,Ztm];exact hl,by simpa using rv⟩) (fun b u z=>by have z':(none:Option HO)=some u:=z;cases z') (fun b z=>absurd rfl z) fun z=>absurd rfl z
 | none =>
  refine core (fun b=>if b=a then some (.gy { cls:=.type "list",data:=.seq vs.toArray } (.lst (ns.map V.int))) else none) (fun b=>?_) (.inl (.inr ⟨{ cls:=.type "list",data:=.seq vs.toArray },ah rfl⟩)) (fun b u z=>?_) (fun b z=>?_) fun _=>hk
  ·by_cases hb:b=a
   ·exact .inr ⟨_,_,ah hb⟩
   ·exact .inl (af hb)
  ·by_cases hb:b=a
   ·have z':=(ah hb).symm.trans z;cases z';subst hb;exact⟨ha,by rw[aW];exact hl,vs,_,rv,ha⟩
   ·have z':=(af hb).symm.trans z;cases z'
  ·by_cases hb:b=a
   ·exact hb
   ·exact absurd (af hb) z
theorem Lk{l:PySem.W.OpenLaw}{n k:Nat}{q:Program}{loose:List Str}{XP:(Str->Option Value)->Heap->Prop}{YP:World->Heap->Prop}{d:DefRec}{K:Params->PySem.W.Frag}{CX:World->ij}{sp:World->Sp}{x:Str}
  (hn:l.most=some n) (mh:n<=sizeLine) (vP:d.params.defaults=[]) (hr:ck k callerA)
  (hY:∀(w:World)(h:Heap),YP w h->(K w.params).In h)
  (F:∀(w:World)(mg:Str->Option Value)(fa:Addr)(h:Heap),(K w.params).In h->h.Ns mainGlobals mg->mg d.name=some (.ref fa) ->
   ∃fd:FuncData,(∀(s:Shared)(u:Value),BindsTo s fd ⟨[u],[]⟩ [(x,u)]) /\
    ∀base:Heap,(K w.params).In base->base.Ns mainGlobals mg->aY l.prog w (K w.params) mg base (CX w) k fa fd [x] (sp w))
  (jf:∀(w:World)(H:Hp)(a:Addr)(ns:List Int),ns.length<=n->Bo H->ak (K w.params) H a (ns.map V.int)->sp w [.ref a] H (fun v _=>v=.bl true) fun _ _ _=>False)
  (Fq:∀(w:World)(H:Hp)(s:Shared)(e:Value)(s':Shared),CX w [] H s (fun _ _ _=>False) e s'->False) :
  PySem.W.WalkO q loose XP YP l.row.toRowW d [] (fun f vs=>PySem.call f vs):=by
 refine Iu.Rh hn vP fun w dk ba mg mb fa o pm cd doc a vs ns G Y ho hd cX qi FY hints hlen hg=>?_;have KX:=hY w _ Y;obtain⟨fd,hb,hF⟩:=F w mg fa _ KX G.T.g qi;exact T_ KX G.T.g G.T.b G.T.builtins G.T.nolimit hg FY hints (cZ hlen mh) hr hF hb (fun H hO hS=>jf w H a ns hlen hO hS) fun H e s'=>Fq w H ba e s'
end L2
/- THE Zw9 Zxc (shape;LID,My.* are Zyk):
   My.Adr: a structure of jj addresses AM Zyj Zx2 names (classes,Zxm);My.Txt K t: a structure (Prop) of jj equations over K;
   My.Zwj:{K} {implicit addresses ..} (e1:nsIn K mainGlobals "law" = some (some (.ref f))) (e2:K.lookup f=some ⟨oc,od,.func (fnOf "law" "law" params body scope dV kV doc pm an aL ct),sl⟩) (e3:codeIn K aL "law" = true) .. : ∃t,My.Txt K t
set_option maxRecDepth 100000 in
set_option maxHeartbeats 0 in
theorem PySem.Challenge.cw_LID_holds : PySem.Challenge.rw_LID.Holds := by
 w_on;o_law;k_head;(case hw=>w_witness2)
 k_fill
 refine L2.Lk (l:=PySem.Challenge.rw_LID) (n:=63) (k:=40) (x := "script") (CX:=fun w=>..) (sp:=fun _=>My.Zya) rfl (by decide) rfl ⟨rfl,by decide,by decide⟩ (fun w h Y=>PySem.W.kIn_of Y) ?F ?S ?C
 case F =>
  intro w mg fa h KX G qi;have T:∃t,My.Txt (L2.Qn KX) t:=by
   dsimp only[L2.Qn]                          -- K Zx4 ot as «<heap const> w.params» for k_is
   refine' My.Zwj ?e1 ?e2 ?e3 ..
   (case e1=>PySem.W.k_is)                    -- in jj order: a name->its address->its object->its parts
   (case e2=>PySem.W.k_is)
   ..
  obtain⟨t,T⟩:=T;have e0:=qi.symm.trans (bx KX G T.law);cases e0                                       -- fa is jj Zw3 own address
  exact⟨_,fun s u=>.of_eq rfl,fun base kb nb=>My.Ztk T kb nb⟩     -- if «.of_eq rfl» comes too early: refine' ⟨_,?b,fun base kb nb=>My.Ztk T kb nb⟩;exact fun s u=>.of_eq rfl
 case S=>exact fun w H a ns hl hO hS=>..
 case C=>exact ..
(jj tactic k_is has no namespace: write k_is) -/
namespace L2
open PySem PySem.Spec PyProof.Rows
def inClass(s:Stmt)(j:Nat):Stmt:=match s with
 | .ClassDef _ _ _ body _ _ _ _ _ _ _=>body.getD j (.Pass ⟨0,0,0,0⟩)
 | _=>.Pass ⟨0,0,0,0⟩
def ZM(s:Stmt):Arguments:=match s with
 | .FunctionDef _ a _ _ _ _ _ _ _ _=>a
 | _=>{ posonlyargs:=[],args:=[],vararg:=none,kwonlyargs:=[],kw_defaults:=[],kwarg:=none,defaults:=[] }
def Zd(s:Stmt):List Stmt:=match s with
 | .FunctionDef _ _ b _ _ _ _ _ _ _=>b
 | _=>[]
def Zh(s:Stmt):Scope:=match s with
 | .FunctionDef _ _ _ _ _ _ sc _ _ _=>sc
 | _=>{ kind:=.function,names:=[],isGenerator:=false,isCoroutine:=false }
abbrev cq:ij:=fun _ _ _ _ _ _=>False
abbrev E0:XK:=fun _ _ _=>False
theorem yM{X:Cx}:pJ cq X E0:=fun _ _ _ _ _ _ _ h=>h.elim
structure bP(K:PySem.W.Frag)(x qual:Str)(st:Stmt)(f:Addr)(fd:FuncData):Prop where
 ex:∃(oc:Value)(od:Option Addr)(kV doc pm:Value)(an:Option Addr)(aL ct:Value)(mx:Array (Option Value)),
  fd=PySem.W.fnOf x qual (ZM st) (Zd st) (Zh st) .none kV doc pm an aL ct/\K.lookup f=some ⟨oc,od,.func fd,mx⟩/\PySem.W.codeIn K aL qual=true
 kp:PySem.W.keepIn K (.ref f)=true
section
variable{P:Program}{w:World}{K:PySem.W.Frag}{mg:Str->Option Value}{base:Heap}
theorem bP.ok{x qual:Str}{st:Stmt}{f:Addr}{fd:FuncData}{N ps:List Str}{k:Nat}{sp:Sp}(F:bP K x qual st f fd)(S:bZ N ps (Zh st))(len:∀vs H Q E,sp vs H Q E->vs.length=ps.length)
  (vK:∀(aL:Value)(A:Around)(outer:List Env)(s:Shared)(H:Hp)(vs:List V)(Q:VK)(E:XK),ck k (A.deeper (envOfC qual (Zh st) s.heap.objs.size f aL))->sp vs H Q E ->
   ∃t,cK (lS cq P w K mg base N qual (Zh st) f aL A outer s H E).AA (Zd st) t/\t { nx:=fun _ H'=>Q .aE H',rt:=Q } (start N vs) H):aY P w K mg base cq (k+1) f fd ps sp:=by
 obtain⟨oc,od,kV,doc,pm,an,aL,ct,mx,rfl,lk,cX⟩:=F.ex;refine Mi lk cX S len fun A outer s H vs Q E hr jf=>?_;obtain⟨t,h,q⟩:=vK aL A outer s H vs Q E hr jf;exact⟨t,h.AA,q⟩
theorem bP.binds{x qual:Str}{st:Stmt}{f:Addr}{fd:FuncData}{ps:List Str}(F:bP K x qual st f fd)
  (h:∀(kV doc pm:Value)(an:Option Addr)(aL ct:Value)(us:List Value),us.length=ps.length->bindArgs (PySem.W.fnOf x qual (ZM st) (Zd st) (Zh st) .none kV doc pm an aL ct) ⟨us,[]⟩=pure (ps.zip us)):Binds K fd ps []:=by
 obtain⟨oc,od,kV,doc,pm,an,aL,ct,mx,rfl,lk,cX⟩:=F.ex;exact .all (h kV doc pm an aL ct)
theorem cM{x qual:Str}{st:Stmt}{f:Addr}{oc:Value}{od an:Option Addr}{mx:Array (Option Value)}{kV doc pm aL ct:Value}(l:K.lookup f=some ⟨oc,od,.func (PySem.W.fnOf x qual (ZM st) (Zd st) (Zh st) .none kV doc pm an aL ct),mx⟩)
  (c:PySem.W.codeIn K aL qual=true) (k:PySem.W.keepIn K (.ref f)=true):bP K x qual st f (PySem.W.fnOf x qual (ZM st) (Zd st) (Zh st) .none kV doc pm an aL ct):=⟨⟨oc,od,kV,doc,pm,an,aL,ct,mx,rfl,l,c⟩,k⟩
end
section
variable{X:Cx}
theorem pv(i:Nat){x:Str}{pos:Pos}(hN:X.N[i]?= some x:=by rfl)(hv:Bs X.env.scope x:=by first|exact Or.inl rfl|exact Or.inr (Or.inl rfl)|exact Or.inr (Or.inr rfl))(hd:(x == ("__debug__" : Str))=false:=by decide)
  (cX:(x == ("__classdict__" : Str))=false:=by decide):PE X (.Name x pos) (vi i):=Vs hN hv hd cX
end
theorem aF{A B:Prop}(h:B):if false=true then A else B:=by
 rw[af bf];exact h
theorem aI{A B:Prop}(h:A):if true=true then A else B:=by
 rw[ah rfl];exact h
theorem dD{c A B:Prop}[Decidable c](h1:c->A)(h2 : ¬ c->B):if c then A else B:=by
 by_cases h:c
 ·rw[ah h];exact h1 h
 ·rw[af h];exact h2 h
def ZD(H H':Hp):Prop := ∀b o,H b=some o->H' b=some o
theorem ZD.refl(H:Hp):ZD H H:=fun _ _ h=>h
theorem ZD.trans{H H1 H2:Hp}(a:ZD H H1)(b:ZD H1 H2):ZD H H2:=fun c o h=>b c o (a c o h)
theorem ZD.free{H H':Hp}(e:ZD H H'){l:Addr}(h:H' l=Option.none):H l=Option.none:=by
 cases q:H l with
 | none=>rfl
 | some o =>
  rw[e l o q] at h;cases h
theorem ZD.seq{K:PySem.W.Frag}{H H':Hp}{a:Addr}{xs:List V}(e:ZD H H')(h:ak K H a xs):ak K H' a xs:=by
 rcases h with(h|⟨o,h⟩)|h
 ·exact .inl (.inl (e _ _ h))
 ·exact .inl (.inr ⟨o,e _ _ h⟩)
 ·exact .inr h
theorem LF:bootBuiltins "list" = some (.type "list"):=by decide +kernel
theorem iZ:bootBuiltins "tuple" = some (.type "tuple"):=by decide +kernel
theorem LP:bootBuiltins "str" = some (.type "str"):=by decide +kernel
theorem m9:bootBuiltins "int" = some (.type "int"):=by decide +kernel
theorem UB:bootBuiltins "bool" = some (.type "bool"):=by decide +kernel
theorem Vm:bootBuiltins "max" = some (.builtin "max"):=by decide +kernel
theorem Vo:bootBuiltins "min" = some (.builtin "min"):=by decide +kernel
theorem mV:bootBuiltins "isinstance" = some (.builtin "isinstance"):=by decide +kernel
section
variable{X:Cx}
theorem pP{x:Str}{n:String}{pos:Pos}(hg:Gl X x)(hm:X.mg x=none)(hv:bootBuiltins x=some (.type n))(hn:x ≠ "__name__" := by decide) (hd:(x == ("__debug__" : Str))=false:=by decide):PE X (.Name x pos) (tC (.ty n)) :=
 U2 (v:=.ty n) hg hm hv rfl hn hd
theorem rn:fP X (.builtin "isinstance") (fun xs H Q=>∃x n t b,xs=[x,.ty n]/\io X.K H x t/\PySem.W.kitOne X.K t (.type n)=some b/\Q (.bl b) H):=by
 intro pins s σ H xs us Q I r h;obtain⟨x,n,t,b,rfl,ty,e,q⟩:=h;obtain⟨u,v,rfl,rx,ry⟩:=Vals.two r;obtain rfl:v=Value.type n:=ry;exact Su I rx ty e fun tk=>⟨.bl b,H,I.tok tk,rfl,q⟩
end
structure bG(P:Program)(w:World)(K:PySem.W.Frag)(mg:Str->Option Value)(base:Heap)(x:Str)(ps:List Str)(k:Nat)(sp:Sp):Prop where
 ex:∃(f:Addr)(fd:FuncData),aY P w K mg base cq k f fd ps sp/\Binds K fd ps []/\PySem.W.keepIn K (.ref f)=true/\mg x=some (.ref f)
section
variable{X:Cx}{x:Str}{ps:List Str}{j k:Nat}{sp:Sp}{e:Expr}{es:List Expr}{t:TA}{p pos:Pos}
theorem aY.room{P:Program}{w:World}{K:PySem.W.Frag}{mg:Str->Option Value}{base:Heap}{CX:ij}{f:Addr}{fd:FuncData}(F:aY P w K mg base CX j f fd ps sp)(h:j<=k):aY P w K mg base CX k f fd ps sp :=
 ⟨F.len,fun A outer s H args us vs Q E hr=>F.run A outer s H args us vs Q E (hr.mono h)⟩
theorem de(G:bG X.prog X.w X.K X.mg X.base x ps j sp)(hr:ck k X.A)(hg:Gl X x)(ha:PA X (e::es) t)(hk:j<=k:=by decide)(gC:(x == ("__debug__" : Str))=false:=by decide)
  (he:starEach (e::es) X.env=(false,eval e X.env)::starEach es X.env:=by rfl) (aS:(backTo pos (starEach es X.env)).any (·.1)=false:=by rfl) :
  PE X (.Call (.Name x p) (e::es) [] pos) (MJ sp [] E0 t):=by
 obtain⟨f,fd,F,b,kp,m⟩:=G.ex;exact UQ (F.room hk) hr hg m kp b .nil yM ha gC he aS
end
section
variable{X:Cx}
def fQ(z:Str)(n:Nat):Str:=⟨(List.replicate n z.cps).foldl (· ++ ·) #[]⟩
theorem SJ(z:Str):fQ z 0=Str.empty:=rfl
theorem JW{α : Type}:∀(l:List (Array α))(a:Array α),(l.foldl (· ++ ·) a).toList=a.toList++l.flatMap (·.toList)
 | [],a=>by simp
 | x::l,a=>by rw[List.foldl_cons,JW l];simp
theorem KR(z:Str)(n:Nat):(fQ z n).cps.toList=(List.replicate n z.cps.toList).flatten:=by
 unfold fQ;rw[JW]
 induction n with
 | zero=>rfl
 | succ n ih =>
  rw[List.replicate_succ,List.replicate_succ,List.flatMap_cons,List.flatten_cons];simp at ih ⊢;exact ih
theorem SW(z:Str):fQ z 1=z:=by
 cases z with
 | mk c=>unfold fQ;simp
theorem x8(z:Str)(n:Nat):(fQ z n).length=n*z.length:=by
 show(fQ z n).cps.size=n*z.cps.size;rw[<- aB,KR];simp
theorem Sf:bC X (binaryOp .Mult) (fun x y H Q=>∃z k,x=.str z/\y=.int k /\ -(2 ^ 63)<=k/\k<2 ^ 63/\k.toNat*z.length<=sizeLine/\Q (.str (fQ z k.toNat)) H):=by
 intro pins s σ H x y v u Q I rx ry h;obtain⟨z,k,rfl,rfl,h1,h2,hz,q⟩:=h;obtain⟨t,rfl⟩:=rx;obtain⟨t',rfl⟩:=ry;have zK:=fI;refine PySem.P.mul_str ?_ (fun hk hc=>?_) (fun hk hc=>?_) ?_
 ·rw[a_ (by lia),a_ (by lia)];rfl
 ·intro nM;have Gq:(z.length:Int)*k<=(2 ^ 63-1):=by
   have:((k.toNat*z.length:Nat):Int)<=sizeLine:=by exact_mod_cast hz
   rw[Int.natCast_mul,show((k.toNat:Nat):Int)=k by lia,Int.mul_comm] at this;lia
  have:=(Int.le_ediv_iff_mul_le (by lia:0<k)).mpr Gq;lia
 ·unfold Builtin.Str.tooLong;refine a_ ?_;rw[Nat.mul_comm];lia
 ·by_cases c1:k<1
  ·rw[ah c1];have e:k.toNat=0:=by lia
   rw[e,SJ] at q;exact⟨by decide,.str Str.empty,H,I.tok _,⟨_,rfl⟩,q⟩
  ·rw[af c1];by_cases c2:(k == 1 || z.length == 0)=true
   ·rw[ah c2];have e:fQ z k.toNat=z:=by
     rw[qL] at c2;rcases c2 with c2|c2
     ·have:k=1:=eq_of_beq c2;subst this;exact SW z
     ·have kQ:z.length=0:=eq_of_beq c2;have a:(fQ z k.toNat).cps.toList=z.cps.toList:=by
       have l1:(fQ z k.toNat).cps.toList.length=0:=by
        rw[aB];have:=x8 z k.toNat;rw[kQ,Nat.mul_zero] at this;exact this
       have l2:z.cps.toList.length=0:=by
        rw[aB];exact kQ
       rw[lb l1,lb l2]
      cases z with
      | mk c =>
       have b:(fQ ⟨c⟩ k.toNat).cps=c:=Array.toList_inj.mp a;cases hr:fQ ⟨c⟩ k.toNat with
       | mk d=>rw[hr] at b;exact congrArg Str.mk b
    rw[e] at q;exact⟨.str z,H,I,⟨_,rfl⟩,q⟩
   ·rw[af c2];refine⟨?_,.str (fQ z k.toNat),H,I.tok _,⟨_,rfl⟩,q⟩;have:=x8 z k.toNat;show(fQ z k.toNat).length<=sizeLine;rw[this];exact hz
end
end L2
namespace HT
open PySem PyProof.Rows
section
variable{prog:Program}{w:World}{A:Around}{E:Value->Shared->Prop}{s:Shared}
theorem Qx{t sl:Addr}{items:Array Value}{vl vu:Value}{lo hi:Option Int}{Q:Value->Shared->Prop}(ht:IsTup s.heap t items)(hs:s.heap.IsSliceOf sl vl vu .none)(pl:IsPart vl lo)(pu:IsPart vu hi)
  (h1:aQ items.size 0 lo=0) (h2:aQ items.size items.size hi=items.size) (h:Q (.ref t) s):wpAny (model prog w) A (getItem (.ref t) (.ref sl)) Q E s:=by
 obtain⟨os,mj,vN,vR⟩:=id hs;have iE:s.TypeIs (.ref sl) "slice" := ⟨os,mj,vN⟩;unfold getItem
 try with_reducible refine iS ?_
 first|refine ae (ai ?_)|skip
 refine ae (wpAny_sequenceKey ht.typeIs (by decide) ?_);refine ae (ud (name:=Str.ofString "__getitem__") ht.typeIs t7
  (lm t7 ht.typeIs entry_tuple_getitem ?_ (args_tuple_getitem _ _)))
 show wpAny _ _ (Builtin.Tuple.tupleItemsOf (.ref t) >>= _) _ _ s;refine ae (tupleItemsOf_ ht ?_);refine ae (qT iE ?_);rw[ah (by decide)];refine ae (IZ hs pl pu ?_);rw[h1,h2];have ZsB:((((0:Nat):Int) == 0&&(1:Int) == 1&&(items.size-0) == items.size)=true):=by simp
 show wpAny _ _ (if(((0:Nat):Int) == 0&&(1:Int) == 1&&(items.size-0) == items.size)=true then _ else _) _ _ s
 rw[ah ZsB];refine ae (m:=Builtin.Tuple.tupleIsExact (.ref t)) ?_;unfold Builtin.Tuple.tupleIsExact;refine ae (qT ht.typeIs (ai ?_));show wpAny _ _ (if((Value.type "tuple") ==.type "tuple")=true then _ else _) _ _ s
 rw[ah (by decide)];refine ae (mI ?_)
 first
  | exact ai ⟨_,rfl,ai h⟩
  | exact ae (ai (ai ⟨_,rfl,ai h⟩))
end
end HT
namespace L2
open PySem PySem.Spec PyProof.Rows
mutual
inductive Dp(K:PySem.W.Frag)(H:Hp):V->PyData->Prop
 | aE:Dp K H .aE .none
 | bl (b:Bool):Dp K H (.bl b) (.bool b)
 | int (i:Int):Dp K H (.int i) (.int i)
 | str (x:Str):Dp K H (.str x) (.str x)
 | lst {a:Addr} {xs:List V} {ds:List PyData}:ak K H a xs->js K H xs ds->Dp K H (.ref a) (.list ds)
 | tup {a:Addr} {xs:List V} {ds:List PyData}:aM K H a xs->js K H xs ds->Dp K H (.ref a) (.tuple ds)
inductive js(K:PySem.W.Frag)(H:Hp):List V->List PyData->Prop
 | nil:js K H [] []
 | cons {v:V} {vs:List V} {d:PyData} {ds:List PyData}:Dp K H v d->js K H vs ds->js K H (v::vs) (d::ds)
end
section
variable{X:Cx}{pins:List (Addr×Obj)}{σ : St}{H:Hp}{s:Shared}
mutual
theorem Dp.reads(I:Inv X pins σ H s):∀{v:V}{d:PyData}{u:Value},Dp X.K H v d->RelV v u->∃as,Reads s.heap u d as
 | _,_,u,.aE,r=>by
  obtain rfl:u=Value.none:=r;exact⟨_,.none⟩
 | _,_,u,.bl b,r=>by
  obtain rfl:u=Value.bool b:=r;exact⟨_,.bool b⟩
 | _,_,_,.int i,⟨t,e⟩=>by
  subst e;exact⟨_,.int i t⟩
 | _,_,_,.str x,⟨t,e⟩=>by
  subst e;exact⟨_,.str x t⟩
 | _,_,u,@Dp.lst _ _ a xs ds hq cy,r=>by
  obtain rfl:u=Value.ref a:=r;obtain⟨its,rv,⟨o,n,e,hc,_,hd⟩,_⟩:=I.list hq;obtain⟨as,ha⟩:=js.reads I cy rv;exact⟨_,.list e hc hd (by simpa using ha)⟩
 | _,_,u,@Dp.tup _ _ a xs ds hq cy,r=>by
  obtain rfl:u=Value.ref a:=r;obtain⟨its,rv,⟨o,e,hc,n,hd⟩,_⟩:=I.tuple hq;obtain⟨as,ha⟩:=js.reads I cy rv;exact⟨_,.tuple e hc hd (by simpa using ha)⟩
theorem js.reads(I:Inv X pins σ H s):∀{vs:List V}{ds:List PyData}{us:List Value},js X.K H vs ds->Vals vs us->∃as,ReadsAll s.heap us ds as
 | _,_,_,.nil,.nil=>⟨_,.nil⟩
 | _,_,_,.cons h t,.cons r rs=>by
  obtain⟨as,ha⟩:=Dp.reads I h r;obtain⟨bs,hb⟩:=js.reads I t rs;exact⟨_,.cons ha hb⟩
end
end
section
variable{X:Cx}
def MP(K:PySem.W.Frag)(neg:Bool):R2:=fun x y H Q=>∃d e,Dp K H x d/\Dp K H y e/\d.canLay0=true/\e.canLay0=true/\min d.depth e.depth<=200/\Q (.bl (if neg then !PyData.eqv d e else PyData.eqv d e)) H
theorem VA(hu:X.A.units+200<cLine):bC X (compareOp .Eq) (MP X.K false):=by
 intro pins s σ H x y v u Q I rx ry h;obtain⟨d,e,hx,hy,h1,h2,hd,q⟩:=h;obtain⟨as,ra⟩:=hx.reads I rx;obtain⟨bs,rb⟩:=hy.reads I ry;exact PySem.SeqAt.compareEq_reads ra rb h1 h2 (by lia) ⟨.bl _,H,I,rfl,q⟩
theorem LV(hu:X.A.units+200<cLine):bC X (compareOp .NotEq) (MP X.K true):=by
 intro pins s σ H x y v u Q I rx ry h;obtain⟨d,e,hx,hy,h1,h2,hd,q⟩:=h;obtain⟨as,ra⟩:=hx.reads I rx;obtain⟨bs,rb⟩:=hy.reads I ry;exact PySem.SeqAt.compareNe_reads ra rb h1 h2 (by lia) ⟨.bl _,H,I,rfl,q⟩
theorem pG{A:Around}{k:Nat}(hr:ck k A):A.units+200<cLine:=by
 have:=hr.un;lia
end
section
variable{X:Cx}{e:Expr}{te:TE}{pos p2 p3 p4:Pos}{j:Nat}
def VH(K:PySem.W.Frag):V->Option Int->Option Int->Hp->VK->Prop:=fun x lo hi H Q=>∃a xs,x=.ref a/\aM K H a xs /\
 ((HT.aQ xs.length 0 lo=0/\HT.aQ xs.length xs.length hi=xs.length)->Q (.ref a) H)/\∀p,H p=none->Q (.ref p) (upd H p (.tup (dJ xs lo hi)))
theorem UX:rf X (VH X.K):=by
 intro pins s σ H x v vl vu lo hi sl Q I rx hs pl pu h;obtain⟨a,xs,rfl,hx,q1,q2⟩:=h;by_cases c:HT.aQ xs.length 0 lo=0/\HT.aQ xs.length xs.length hi=xs.length
 ·cases rx;obtain⟨its,r,ht,hz⟩:=I.tuple hx;have hlen:its.toArray.size=xs.length:=by rw[bX];exact r.length.symm
  refine⟨"tuple",_,t7.lookup,ht.typeIs,?_⟩;exact HT.Qx ht hs pl pu (by rw[hlen];exact c.1) (by rw[hlen];exact c.2) ⟨.ref a,H,I,rfl,q1 c⟩
 ·exact Va pins s σ H (.ref a) v vl vu lo hi sl Q I rx hs pl pu ⟨a,xs,rfl,hx,c,q2⟩
end
def TK(H H':Hp):Prop := ∀b xs,H b=some (.tup xs)->H' b=some (.tup xs)
theorem TK.trans{H H1 H2:Hp}(a:TK H H1)(b:TK H1 H2):TK H H2:=fun c xs h=>b c xs (a c xs h)
theorem TK.new{H:Hp}{p:Addr}{o:HO}(h:H p=none):TK H (upd H p o):=fun b xs q=>by
 rw[Zi (Zo q h)];exact q
theorem TK.lst{H:Hp}{p:Addr}{xs:List V}{o:HO}(h:H p=some (.lst xs)):TK H (upd H p o):=fun b ys q=>by
 by_cases e:b=p
 ·subst e;rw[h] at q;cases q
 ·rw[Zi e];exact q
theorem ZD.tk{H H':Hp}(h:ZD H H'):TK H H':=fun b xs q=>h b _ q
theorem ZD.new{H:Hp}{p:Addr}{o:HO}(h:H p=none):ZD H (upd H p o):=fun b u q=>by
 rw[Zi (Zo q h)];exact q
theorem ZD.eW{H H':Hp}{p:Addr}{o:HO}(h:ZD H H')(hp:H p=none):ZD H (upd H' p o):=fun b u q=>by
 rw[Zi (Zo q hp)];exact h b u q
theorem Z1{H:Hp}{p b:Addr}{o:HO}(h:upd H p o b=none):b≠p/\H b=none:=by
 by_cases e:b=p
 ·subst e;rw[Zc] at h;cases h
 ·rw[Zi e] at h;exact⟨e,h⟩
section
variable{X:Cx}
def VO:V->Option Int->Option Int->Hp->VK->Prop:=fun x lo hi H Q=>∃a xs,x=.ref a/\H a=some (.tup xs)/\∀p H',ZD H H'->H' p=some (.tup (dJ xs lo hi))->Q (.ref p) H'
theorem Lz:rf X VO:=by
 intro pins s σ H x v vl vu lo hi sl Q I rx hs pl pu h;obtain⟨a,xs,rfl,hx,q⟩:=h;refine UX pins s σ H (.ref a) v vl vu lo hi sl Q I rx hs pl pu ⟨a,xs,rfl,aM.of hx,fun c=>q a H (ZD.refl H) ?_,fun p hp=>q p _ (ZD.new hp) Zc⟩;rw[hx];unfold dJ;rw[c.1,c.2,qO,Nat.sub_zero,oI]
end
theorem Paired.app{α β : Type}{F : α -> β -> Prop}:∀{oj O1 : List α}{qA O2 : List β},Paired F oj qA -> Paired F O1 O2 -> Paired F (oj ++ O1) (qA ++ O2)
 | _,_,_,_,.nil,s=>s
 | _,_,_,_,.cons r t,s=>.cons r (Paired.app t s)
theorem mS{α : Type}(l:List α)(a : α):(l ++ [a])[(l ++ [a]).length-1]?= some a:=by
 simp
theorem mX{α : Type}(l:List α)(a : α):(l ++ [a]).dropLast=l:=by
 simp
end L2
namespace Fg
open PySem L2 jt
def pR(t:Str):Prop:=t.cps.toList ≠ []/\∀c∈t.cps.toList,97<=c/\c<=122
def jI(t:Str):Prop := ∀c∈t.cps.toList,97<=c/\c<=122
theorem Ca(x y:Str):(x++y).cps.toList=x.cps.toList++y.cps.toList:=by
 show(x.cps++y.cps).toList=_;simp
theorem KS{x y:Str}(hx:jI x)(hy:jI y):jI (x++y):=fun c hc=>by
 rw[Ca] at hc;exact(bL.mp hc).elim (hx c) (hy c)
theorem S0{x:Str}(hx:jI x)(n:Nat):jI (fQ x n):=fun c hc=>by
 rw[KR] at hc;obtain⟨l,hl,hc⟩:=List.mem_flatten.mp hc;rw[(List.mem_replicate.mp hl).2] at hc;exact hx c hc
theorem pR.Ztn{t:Str}(h:pR t):jI t:=h.2
theorem V9{x y:Str}(hx:pR x)(hy:jI y):pR (x++y):=⟨by rw[Ca];intro z;exact hx.1 (List.append_eq_nil_iff.mp z).1,KS hx.2 hy⟩
theorem Ky{c:Nat}(h1:97<=c)(h2:c<=122):pR ⟨#[c]⟩:=⟨by simp,fun d hd=>by simp at hd;lia⟩
def kg:Str := "abcdefghijklmnopqrstuvwxyz"
theorem U4:∀n:_root_.Fin 26,97<=kg.cps.toList.getD n.val 0/\kg.cps.toList.getD n.val 0<=122/\n.val<kg.cps.toList.length:=by decide
theorem LR{i:Int}(h0:0<=i)(h1:i<26):∃c,dP kg.cps.toList i=some c/\97<=c/\c<=122:=by
 obtain⟨n,rfl⟩:=Int.eq_ofNat_of_zero_le h0;obtain⟨a,b,c⟩:=U4 ⟨n,by lia⟩;refine⟨_,i9 (cI c),?_,?_⟩
 ·rw[List.getD_eq_getElem?_getD,cI c] at a;exact a
 ·rw[List.getD_eq_getElem?_getD,cI c] at b;exact b
theorem Lu{ns:List Int}{k:Int}(h0:0<=k)(h:k<(ns.length:Int)):∃v:Int,dP (ns.map V.int) k=some (.int v):=by
 obtain⟨n,rfl⟩:=Int.eq_ofNat_of_zero_le h0;have hn:n<ns.length:=by lia
 exact⟨ns[n],i9 (by rw[f_,cI hn];rfl)⟩
theorem K8{ws:List Str}{n:Nat}(h:n<ws.length):dP (ws.map V.str) ((n:Nat):Int)=some (.str ws[n]):=i9 (by rw[f_,cI h];rfl)
def yy(K:PySem.W.Frag):Sp:=fun vs H Q _=>∃(a:Addr)(ns:List Int)(k:Int),vs=[.ref a,.int k]/\ak K H a (ns.map V.int)/\ns.length<=63/\0<=k/\∀v:Int,Q (.int v) H
def yK(K:PySem.W.Frag):Sp:=fun vs H Q _=>∃(a:Addr)(ns:List Int),vs=[.ref a]/\ak K H a (ns.map V.int)/\ns.length<=63/\∀H',Q (.bl true) H'
theorem Zk{n:Nat}(h:n<=100000):n<=sizeLine:=cZ h (by decide)
theorem ZW{n:Nat}(h:n<=100000):n<sizeLine:=xl h (by decide)
theorem ZG(x y:Str):(x++y).length=x.length+y.length:=by
 show(x.cps++y.cps).size=_;rw[Array.size_append];rfl
theorem Ll(j:Int):(0:Int)<if j > 1 then j else 1:=by
 split
 ·rename_i h
  exact Int.lt_trans (by decide) h
 ·decide
theorem KC(xs:List V)(n:Nat):dJ xs (some (n:Int)) none=xs.drop n:=by
 unfold dJ;rw[HT.yf,HT.Kw];rw[j7 (by rw[dF];exact az _)];by_cases h:n<=xs.length
 ·rw[Nat.min_eq_left h]
 ·rw[Nat.min_eq_right (by lia),List.drop_length,w_ (by lia)]
theorem Tb(xs:List V)(n:Nat):dJ xs none (some (n:Int))=xs.take n:=by
 unfold dJ;rw[HT.yf,HT.Kw,qO,Nat.sub_zero];by_cases h:n<=xs.length
 ·rw[Nat.min_eq_left h]
 ·rw[Nat.min_eq_right (by lia),oI,j7 (by lia)]
end Fg
namespace L2
open PySem PySem.Spec PyProof.Rows
theorem Jz:∀{ys:List Str}{us:List Value},Vals (ys.map V.str) us->StrsAre us ys
 | [],_,.nil=>.nil
 | y::ys,_,.cons r t=>by
  obtain⟨tk,e⟩:=r;subst e;exact .cons y tk (Jz t)
section
variable{X:Cx}
def rJoin(K:PySem.W.Frag):V->List V->Hp->VK->Prop:=fun x vs H Q=>∃z a ys,x=.str z/\vs=[.ref a]/\ak K H a (ys.map V.str)/\(ys.map (·.length)).sum+ys.length*z.length<=16777216/\Q (.str (Txt.join z ys)) H
theorem rY:qY X "str.join" (rJoin X.K):=by
 intro pins s σ H x vs v us Q I rx rv h;obtain⟨z,a,ys,rfl,rfl,hS,hz,q⟩:=h;obtain⟨t,rfl⟩:=rx;obtain⟨u,rfl,ru⟩:=rv.one;cases ru;obtain⟨its,r,pl,_⟩:=I.list hS;exact join_list pl.isList (by simpa using Jz r) hz fun t' k=>⟨.str _,H,I.tok _,⟨_,rfl⟩,q⟩
theorem SD(hu:X.A.units+200<cLine):bC X (compareOp .NotEq) (fun x y H Q=>∃a b xs,x=.ref a/\y=.ref b/\ak X.K H a xs/\ak X.K H b []/\Q (.bl (!xs.isEmpty)) H):=by
 intro pins s σ H x y v u Q I rx ry h;obtain⟨a,b,xs,rfl,rfl,ha,hb,q⟩:=h;cases xs with
 | nil=>exact LV hu pins s σ H _ _ v u Q I rx ry ⟨.list [],.list [],.lst ha .nil,.lst hb .nil,rfl,rfl,by decide,q⟩
 | cons x xs =>
  cases rx;cases ry;obtain⟨its,r,pl,_⟩:=I.list ha;obtain⟨mv,r2,Ha,_⟩:=I.list hb;have l1:=r.length;have l2:=r2.length;refine PySem.SeqAt.RcNeAt.lists_lengths pl.isList Ha.isList ?_ (by lia) X.prog X.w X.xe _ ⟨.bl _,H,I,rfl,q⟩;rw[bX,bX,<- l1,<- l2];rfl
theorem BF(hu:X.A.units+200<cLine):bC X (compareOp .Eq) (fun x y H Q=>∃a b xs,x=.ref a/\y=.ref b/\ak X.K H a xs/\ak X.K H b []/\Q (.bl xs.isEmpty) H):=by
 intro pins s σ H x y v u Q I rx ry h;obtain⟨a,b,xs,rfl,rfl,ha,hb,q⟩:=h;cases xs with
 | nil=>exact VA hu pins s σ H _ _ v u Q I rx ry ⟨.list [],.list [],.lst ha .nil,.lst hb .nil,rfl,rfl,by decide,q⟩
 | cons x xs =>
  cases rx;cases ry;obtain⟨its,r,pl,_⟩:=I.list ha;obtain⟨mv,r2,Ha,_⟩:=I.list hb;have l1:=r.length;have l2:=r2.length;refine PySem.SeqAt.RcAt.lists_lengths pl.isList Ha.isList ?_ (by lia) X.prog X.w X.xe _ ⟨.bl _,H,I,rfl,q⟩;rw[bX,bX,<- l1,<- l2];rfl
end
end L2
namespace Fg
open PySem L2 jt
def cs(x:Str):List Nat:=x.cps.toList
theorem jC{x y:Str}(h:cs x=cs y):x=y:=by
 cases x with
 | mk a =>
  cases y with
  | mk b=>exact congrArg Str.mk (Array.toList_inj.mp h)
theorem Z2(x y:Str):cs (x++y)=cs x++cs y:=Ca x y
def jn(sep:Str):List Str->List Nat
 | []=>[]
 | [x]=>cs x
 | x::y::r=>cs x++(cs sep++jn sep (y::r))
theorem JK(sep:Str):∀ys:List Str,cs (Str.join sep ys)=jn sep ys
 | []=>rfl
 | [x]=>rfl
 | x::y::r=>by
  show cs (x++sep++Str.join sep (y::r))=_;rw[Z2,Z2,JK sep (y::r),bT];rfl
theorem rV(sep:Str)(ys:List Str):cs (Txt.join sep ys)=jn sep ys:=by
 have e:Txt.join sep ys=Str.join sep ys:=PySem.StrLaws.glued_eq_join sep ys;rw[e,JK]
end Fg
namespace L2
open PySem PySem.Spec PyProof.Rows
section
variable{P:Program}{w:World}{H:Hp}{h h':Heap}{a:Addr}{o:HO}
theorem bM.there(x:bM P w H h a o):∃ob,h.get? a=some ob:=by
 cases o with
 | lst xs=>obtain⟨_,_,_,_,e⟩:=x;exact⟨_,e⟩
 | tup xs=>obtain⟨_,_,_,ob,e,_⟩:=x;exact⟨_,e⟩
 | dK aj=>obtain⟨_,_,_,_,ob,_,_,e,_⟩:=x;exact⟨_,e⟩
 | dT aj=>obtain⟨_,_,_,_,ob,_,_,e,_⟩:=x;exact⟨_,e⟩
 | set S n=>obtain⟨ob,_,_,_,e,_⟩:=x;exact⟨_,e⟩
 | ins C dx fs=>obtain⟨_,_,_,e,_⟩:=x;exact⟨_,e⟩
 | own y=>obtain⟨_,e⟩:=x;exact⟨_,e⟩
 | xd fs=>obtain⟨_,⟨_,_,_,e,_⟩,_⟩:=x;exact⟨_,e⟩
 | AF lo hi=>obtain⟨_,_,_,e⟩:=x;exact⟨_,e⟩
 | gy ob u=>obtain⟨e,_⟩:=x;exact⟨_,e⟩
 | oy ps=>exact⟨_,(show h.get? a=some _ from x)⟩
 | met f y=>exact⟨_,(show h.get? a=some _ from x)⟩
 | ext φ=>obtain⟨_,⟨_,e⟩,_⟩:=x;exact⟨_,e⟩
theorem bF.NK(x:bF P w H h)(e:h.get? a=none):H a=none:=by
 cases q:H a with
 | none=>rfl
 | some u =>
  obtain⟨ob,e'⟩:=(x a u q).there;rw[e] at e';cases e'
end
section
variable{X:Cx}{pins:List (Addr×Obj)}{σ : St}{H:Hp}{s:Shared}{h':Heap}
theorem Inv.Zti{a:Addr}{o:HO}{t':Nat}(I:Inv X pins σ H s)(k:∀b u,s.heap.get? b=some u->h'.get? b=some u)(hp:s.heap.get? a=none)(new:bM X.prog X.w (upd H a o) h' a o) :
  Inv X pins σ (upd H a o) { s with heap:=h',toks:=t' }:=by
 have hn:=I.aq.NK hp;have ne:∀b u,s.heap.get? b=some u->b≠a:=fun b u e z=>by
  rw[z,hp] at e;cases e
 refine I.un ⟨fun b u q _ _ _=>k b u q,fun b u q _ _ _=>⟨u.slots,k b u q⟩,fun b u q n _=>by rw[Zi (ne b u q)];exact n,fun b u q _=>⟨u,k b u q⟩,
  fun b xs q=>by rw[Zi (Zo q hn)];exact q,fun b u xs q=>by rw[Zi (Zo q hn)];exact q,fun b ps q=>⟨#[],by rw[Zi (Zo q hn),q];simp⟩⟩ fun b u e=>?_
 by_cases hb:b=a
 ·subst hb;rw[Zc] at e;cases e;exact new
 ·rw[Zi hb] at e;exact(I.aq b u e).ou (fun c v _ q=>k c v q) (fun c q=>by rw[Zi (Zo q hn)];exact q) fun c xs q=>by rw[Zi (Zo q hn)];exact q
end
def uq(z:Str):It:=⟨fun i _=>i<z.cps.size,fun i H x H'=>H'=H/\∃c,z.cps[i]?= some c/\x=.str ⟨#[c]⟩,fun i _=>z.cps.size<=i⟩
def Bi(z:Str):Prop:=z.cps.all (· < 128)=true
theorem Tr{P:Program}{w:World}{K:PySem.W.Frag}{tg:Expr}(z:Str)(t:Tok)(it:Addr):Turn P w K tg (uq z) [it] it (fun i h=>h.IsStrIter it "str_ascii_iterator" z t i) where
 mem:=by simp
 obj:=fun i h st b hb=>by
  have e:b=it:=by simpa using hb
  subst e;obtain⟨o,e,c,d⟩:=st;exact⟨o,e,fun v y=>by rw[d] at y;cases y⟩
 keep:=fun i h h' st k=>by
  obtain⟨o,e,r⟩:=st;exact⟨o,k it (by simp) o e,r⟩
 item:=by
  intro X hP hw hK hc i pins s σ H E I hf st hg;subst hP hw hK;have gi:i<z.cps.size:=hg;obtain⟨f0,f1,f2,f3,f4,f5⟩:=hf it (by simp);have hx:z.cps[i]?= some z.cps[i]:=eY gi;refine wpAny_pyNext_ascii_item st hx fun h' ag sb=>?_;have I1:Inv X pins σ H { s with heap:=h',toks:=s.toks+1 }:=I.turned (t':=s.toks+1) (fun b o hb e=>(sb.2 b hb).trans e) f0 f1 f3 f4 f5;obtain⟨o,e,c,d⟩:=id ag;exact⟨_,rfl,vd (s:={ s with heap:=h',toks:=s.toks+1 }) e c d (by decide) ⟨.str _,H,I1,⟨_,rfl⟩,⟨rfl,_,hx,rfl⟩,ag,fun b hb=>(hf b hb).1⟩⟩
 done:=by
  intro X hP hw hK hc i pins s σ H E I hf st hg;subst hP hw hK;have gi:z.cps.size<=i:=hg;obtain⟨f0,f1,f2,f3,f4,f5⟩:=hf it (by simp);exact wpAny_pyNext_ascii_end (I.ok.hd hc) st (tN gi) fun h' eb=>⟨rfl,I.turned (t':=s.toks) (fun b o hb e=>eb b o hb e) f0 f1 f3 f4 f5⟩
 self:=fun _ _ _ _ _ st h=>wpAny_pyIter_striter_ascii st h
section
variable{X:Cx}{tg:Expr}
def Wt(tl:TE):TI:=fun σ H R=>tl σ H fun x H1=>∃z,x=.str z/\Bi z/\R (uq z) H1
theorem L6{l:Expr}{tl:TE}(hl:PE X l tl):PI X tg l (Wt tl):=by
 intro pins s σ H R I h;refine aw (hl pins s σ H _ I h) fun v s1 ⟨x,H1,I1,r1,q1⟩=>?_;obtain⟨z,e,ha,q⟩:=q1;subst e;obtain⟨t,rfl⟩:=r1;refine wpAny_pyIter_ascii ha ⟨s1.heap.objs.size,[s1.heap.objs.size],_,_,H1,rfl,I1.kept (t':=s1.toks) fun b o e=>aK _ e,Tr z t _,⟨_,cf _ rfl,rfl,rfl⟩,fun b hb=>?_,q⟩;have e:b=s1.heap.objs.size:=by simpa using hb
 subst e;exact I1.ny (az _) (I1.aq.fresh (az _))
end
theorem Lg{z:Str}{g:TG}{tb:TS}{D:Ends}{σ : St}{H:Hp}(Pv:Nat->St->Hp->Prop)(h0:Pv 0 σ H)
  (hs:∀i c σ H,z.cps.toList[i]?= some c->Pv i σ H->g (.str ⟨#[c]⟩) σ H fun dW H2=>tb { D with nx:=Pv (i+1),ct:=Pv (i+1),bk:=D.nx } dW H2) (hd:∀ σ H,Pv z.cps.toList.length σ H->D.nx σ H) :
  ∃W:Nat->Nat->St->Hp->Prop,(∃m,W 0 m σ H)/\∀i m σ H,W i m σ H ->
   ((uq z).stop i H/\D.nx σ H)\/((uq z).go i H/\∃N:St->Hp->Prop,(∀ ao H',N ao H'->∃m',m'<m/\W (i+1) m' ao H')/\∀x H',(uq z).kX i H x H'->g x σ H' fun dW H2=>tb { D with nx:=N,ct:=N,bk:=D.nx } dW H2):=by
 have hlen:z.cps.toList.length=z.cps.size:=aB;refine⟨fun i m σ H=>m=z.cps.size-i/\i<=z.cps.size/\Pv i σ H,⟨z.cps.size,by simp,bj _,h0⟩,?_⟩;rintro i m σ H ⟨rfl,hi,p⟩;by_cases aD:i<z.cps.size
 ·refine .inr ⟨aD,Pv (i+1),fun ao H' p'=>⟨z.cps.size-(i+1),by lia,rfl,aD,p'⟩,fun x H' y=>?_⟩;obtain⟨e,c,hc,hx⟩:=y;subst e hx;exact hs i c σ _ (by rw[bE];exact hc) p
 ·have e:i=z.cps.size:=by lia
  subst e;refine .inl ⟨az _,hd σ H ?_⟩;rw[hlen];exact p
section
variable{X:Cx}
theorem Kh:∀{bs:List Bool}{us:List Value},Vals (bs.map V.bl) us->∀(i:Nat)(v:Value),us[i]?= some v->∃b,bs[i]?= some b/\v=.bool b
 | [],_,.nil,i,v,e=>by simp at e
 | b::bs,_,.cons r t,0,v,e=>by
  obtain rfl:_=Value.bool b:=r;simp at e;exact⟨b,rfl,e.symm⟩
 | b::bs,_,.cons r t,i+1,v,e=>by
  obtain⟨c,h1,h2⟩:=Kh t i v (by simpa using e);exact⟨c,by simpa using h1,h2⟩
theorem all_range:∀(bs:List Bool),((List.range bs.length).all fun i=>(bs[i]?).getD true)=bs.all id:=by
 intro bs;rw[jm,e_,e_];constructor
 ·intro h b hb;obtain⟨i,hi,rfl⟩:=List.getElem_of_mem hb;have:=h i (h_.mpr hi);rw[cI hi] at this;exact this
 ·intro h i hi;have cn:=h_.mp hi;rw[cI cn];exact h _ (xa cn)
theorem TM(hc:X.calm=true):fP X (.builtin "all") (fun xs H Q=>∃(p:Addr)(bs:List Bool),xs=[.ref p]/\ak X.K H p (bs.map V.bl)/\Q (.bl (bs.all id)) H):=by
 intro pins s σ H xs us Q I r h;obtain⟨p,bs,rfl,hS,q⟩:=h;obtain⟨u,rfl,ru⟩:=Vals.one r;cases ru;obtain⟨its,rv,pl,hz⟩:=I.list hS;have hl:=pl.isList;have hlen:bs.length=its.length:=by
  have:=rv.length;rw[aW] at this;exact this
 refine call_all_walk (wpAny_pyIter_list hl ⟨s.heap.objs.size,[s.heap.objs.size,p],[s.heap.objs.size],its.toArray.size,_,_,fun i=>(bs[i]?).getD true,rfl,
  Walks.list (A:=X.A.in1) (I.ok.hd hc) _ p (bY pl.lt) its.toArray,⟨⟨_,cf _ rfl,rfl,rfl⟩,hl.push _⟩,fun i v s' Q' E' hP hQ=>?_,fun h' tk hk=>?_⟩)
 ·obtain⟨b,e,e2⟩:=Kh rv i v (by simpa using hP);subst e2;simp only[e,Option.getD_some] at hQ;exact mJ hQ
 ·rw[bX,<- hlen,all_range];refine⟨.bl _,H,I.kept (t':=tk) fun b o e=>hk b o (fun hm=>?_) (aK _ e),rfl,q⟩;rw[bi.mp hm] at e;exact gO _ (aU e)
theorem kr:rf X (fun x lo hi H Q=>∃z,x=.str z/\z.length<=sizeLine/\Q (.str (PySem.StrLaws.sliceText z lo hi)) H):=by
 intro pins s σ H x v vl vu lo hi sl Q I rx hs pl pu h;obtain⟨z,rfl,hz,q⟩:=h;obtain⟨t,rfl⟩:=rx;refine⟨"str",_,F.slot_str_getitem.lookup,oQ s z t,?_⟩;have key:∀l u:Option (Int×Tok),s.heap.IsSlice sl l u none->l.map (·.1)=lo->u.map (·.1)=hi->wpAny (model X.prog X.w) X.A (getItem (.str z t) (.ref sl)) (EP X pins σ Q) X.xe s:=by
  intro l u hsl el eu;refine wpAny_getItem_str_slice hsl rfl ?_;unfold sliceMade slicePicked;rw[el,eu];unfold PySem.StrLaws.sliceText at q;by_cases c:((1:Int) == 1&&(Builtin.Str.strSliceIndices lo hi 1 z.length).length == z.length)=true
  ·rw[ah c] at q;rw[ah (show((((none:Option (Int×Tok)).map (·.1)).getD 1 == 1)&&(Builtin.Str.strSliceIndices lo hi (((none:Option (Int×Tok)).map (·.1)).getD 1) z.length).length == z.length)=true from c)];exact⟨.str z,H,I,⟨_,rfl⟩,q⟩
  ·rw[af c] at q;rw[af (show ¬ ((((none:Option (Int×Tok)).map (·.1)).getD 1 == 1)&&(Builtin.Str.strSliceIndices lo hi (((none:Option (Int×Tok)).map (·.1)).getD 1) z.length).length == z.length)=true from c)];refine⟨?_,.str _,H,I.tok _,⟨_,rfl⟩,q⟩;show(((Builtin.Str.strSliceIndices lo hi 1 z.length).filterMap (z.cps[·]?)).toArray).size<=sizeLine;rw[bX];refine cZ (List.length_filterMap_le _ _) (cZ ?_ hz);refine sliceRange_length_le _ _ _ _ (fun _=>?_) (fun z=>absurd (by decide) z);cases lo with
   | none =>
    cases hi with
    | none=>exact⟨Int.le_refl 0,Int.le_refl _⟩
    | some j=>exact⟨Int.le_refl 0,by simp only[show(1:Int) > 0 by decide,gR];lia⟩
   | some i =>
    cases hi with
    | none=>exact⟨by simp only[show(1:Int) > 0 by decide,gR];lia,Int.le_refl _⟩
    | some j=>exact⟨by simp only[show(1:Int) > 0 by decide,gR];lia,by simp only[show(1:Int) > 0 by decide,gR];lia⟩
 cases pl with
 | none =>
  cases pu with
  | none=>exact key none none hs rfl rfl
  | int j tj=>exact key none (some (j,tj)) hs rfl rfl
 | int i ti =>
  cases pu with
  | none=>exact key (some (i,ti)) none hs rfl rfl
  | int j tj=>exact key (some (i,ti)) (some (j,tj)) hs rfl rfl
end
def dv(c:Nat):Bool:=decide (97<=c)&&decide (c<=122)
theorem Mb(a b:Nat):decide (([a]:List Nat) < [b])=decide (a<b):=by
 have h:(([a]:List Nat) < [b])↔a<b:=by
  constructor
  ·intro h;cases h with
   | rel h=>exact h
   | cons h=>cases h
  ·intro h;exact List.Lex.rel h
 exact j_.mpr h
section
variable{prog:Program}{w:World}{A:Around}{E:Value->Shared->Prop}{s:Shared}
theorem CU{x y:Str}{t u:Tok}{Q:Value->Shared->Prop}(h:Q (.bool (!decide (y.cps.toList<x.cps.toList))) s):wpAny (model prog w) A (compareOp .LtE (.str x t) (.str y u)) Q E s:=PySem.P.le_str h
theorem VW{jY : Shared}{C:Addr}{m:Str->Option Value}{sc:Scope}{env:Env}{n:Str}{pos:Pos}{v:Value}{Q:Value->Shared->Prop}(x:InComp jY C m s)(hk:sc.kind=.function)(hl:sc.names.lookup n=some .local)
  (hv:m n=some v) (hd:(n == ("__debug__" : Str))=false) (h:Q v s):wpAny (model prog w) A (eval (.Name n pos) (compEnv sc C env)) Q E s:=PySem.ldK x hk hl hv h hd
theorem V8{scope:Scope}{C:Addr}{env:Env}{m:Str->Option Value}{x:Str}{c:Nat}{u:Tok}{j j2:Nat}{p1 p2 p3 pos:Pos}(hk:scope.kind=.function)(hx:scope.names.lookup x=some .local)(hd:(x == ("__debug__" : Str))=false)
  (hn:s.heap.Ns C m) (hm:m x=some (.str ⟨#[c]⟩ u)) :
  wpAny (model prog w) A (eval (.Compare (.Constant (.str "a") j p1) [.LtE,.LtE] [.Name x p2,.Constant (.str "z") j2 p3] pos) (compEnv scope C env)) (fun r s'=>r=.bool (dv c)/\Keeps s s') E s:=by
 have I0:=(InComp.start hn).tok (s.toks+1);have ea:("a" : Str).cps.toList=[97]:=by decide +kernel
 have ez:("z" : Str).cps.toList=[122]:=by decide +kernel
 have e1:decide (([c]:List Nat) < [97])=decide (c<97):=Mb c 97;have e2:decide (([122]:List Nat) < [c])=decide (122<c):=Mb 122 c;refine Compare_chain (Calls.Constant_str ?_);refine chain_link ?_;refine VW I0 hk hx hm hd ?_;refine CU ?_;rw[ea];show wpAny (model prog w) A (truthy (.bool (!decide (([c]:List Nat) < [97])))) _ _ _;rw[e1];refine mJ ?_;by_cases h1:c<97
 ·rw[aR h1];refine ite_ff ⟨?_,I0.done⟩;unfold dv;rw[a_ (by lia : ¬ 97<=c)];rfl
 ·rw[a_ h1];refine ite_tt ?_;refine chain_last ?_;refine Calls.Constant_str ?_;refine CU ?_;rw[ez];refine⟨?_,(I0.tok _).done⟩;show Value.bool (!decide (([122]:List Nat) < [c]))=_;rw[e2];unfold dv;rw[aR (by lia:97<=c)];by_cases h2:c<=122
  ·rw[aR h2,a_ (by lia)];rfl
  ·rw[a_ h2,aR (by lia)];rfl
end
theorem LO:∀{cs:List Nat}{vs us:List Value},(∀(j:Nat)(v:Value),vs[j]?= some v->∃(c:Nat)(u:Tok),cs[j]?= some c/\v=Value.str ⟨#[c]⟩ u)->vs.length=cs.length->Paired (fun v r=>∃c u,v=Value.str ⟨#[c]⟩ u/\r=Value.bool (dv c)) vs us ->
  Vals (cs.map fun c=>.bl (dv c)) us
 | [],[],_,_,_,.nil=>.nil
 | [],v::vs,_,_,h,_=>by simp at h
 | c::cs,[],_,_,h,_=>by simp at h
 | c::cs,v::vs,_,hP,hl,.cons hr t=>by
  obtain⟨c',u',e1,e2⟩:=hP 0 v rfl;obtain⟨c2,u2,e3,e4⟩:=hr;simp at e1;subst e1;rw[e2] at e3;injection e3 with e5 _;injection e5 with e6;simp at e6;subst e6;refine .cons e4 (LO (fun j v hv=>?_) (by simpa using hl) t);obtain⟨c3,u3,f1,f2⟩:=hP (j+1) v (by simpa using hv);exact⟨c3,u3,by simpa using f1,f2⟩
section
variable{X:Cx}{iter:Expr}{te:TE}{scope:Scope}{x:Str}{px p1 p2 p3 p4 pos:Pos}{j j2:Nat}
theorem Sd(hi:PE X iter te)(hc:X.calm=true)(zA:∀y∈scope.names,y.2 ≠ .free)(nJ:∀y∈scope.names,y.2 ≠ .cell)(hk:scope.kind=.function)
  (FV:∀y∈scope.names,y.2=.local->scope.names.lookup y.1=some .local) (hx:scope.names.lookup x=some .local) (hd:(x == ("__debug__" : Str))=false) (hs:∀v,foldedSetIterable iter X.env v=pure v) :
  PE X (.ListComp (.Compare (.Constant (.str "a") j p1) [.LtE,.LtE] [.Name x p2,.Constant (.str "z") j2 p3] p4) [⟨.Name x px,iter,[],0⟩] scope pos)
   (fun σ H Q=>te σ H fun v H1=>∃z,v=.str z/\z.length<=sizeLine/\∀p,H1 p=none->Q (.ref p) (upd H1 p (.lst (z.cps.toList.map fun c=>.bl (dv c))))):=by
 intro pins s σ H Q I h;refine wpAny_ListComp_walk (fun _=>true) (fun v r=>∃c u,v=Value.str ⟨#[c]⟩ u/\r=Value.bool (dv c)) zA nJ hk FV hx (aw (hi pins s σ H _ I h) fun v s1 ⟨xv,H1,I1,r1,q1⟩=>?_) hs;obtain⟨z,rfl,hz,q⟩:=q1;obtain⟨t,rfl⟩:=r1;refine wpAny_pyIter_str fun o St W di=>⟨s1.heap.objs.size,[s1.heap.objs.size],[s1.heap.objs.size],z.cps.size,SignAt z,St,rfl,W X.A (I1.ok.hd hc),hz,di,fun b hb=>?_,⟨?_,?_⟩,?_⟩
 ·show b<(s1.heap.push o).objs.size;rw[iO,bi.mp hb];exact gP _
 ·intro C i v s3 m3 E' hP hn hm _ _;exact ai ⟨rfl,(InComp.start hn).done⟩
 ·intro C i v s3 m3 E' hP hp hn hm _ _;obtain⟨c,u,_,e⟩:=hP;subst e;exact eJ (V8 hk hx hd hn hm) (fun r s4 h4=>⟨⟨c,u,rfl,h4.1⟩,h4.2⟩) fun _ _ e=>e
 ·intro D h' tk ys vs nV hlD ZrQ hlen hP hF sT;have P9:Paired (fun v r=>∃c u,v=Value.str ⟨#[c]⟩ u/\r=Value.bool (dv c)) vs ys.toList:=by
   rw[List.filter_eq_self.mpr (fun _ _=>rfl)] at hF;exact hF
  have hV:=LO (cs:=z.cps.toList) (fun j v hv=>by
   obtain⟨c,u,e1,e2⟩:=hP j v hv;exact⟨c,u,by rw[bE];exact e1,e2⟩) (by rw[hlen,aB]) P9
  have up:∀b ob,s1.heap.get? b=some ob->h'.get? b=some ob:=fun b ob e=>sT b ob (fun hm=>by
   rw[bi.mp hm] at e;exact gO _ (aU e)) (aK _ e)
  have hD:s1.heap.get? D=none:=by
   cases e:s1.heap.get? D with
   | none=>rfl
   | some ob =>
    rw[aK _ e] at nV;cases nV
  obtain⟨nD,eD⟩:=ZrQ;refine⟨.ref D,_,I1.Zti (a:=D) (o:=.lst (z.cps.toList.map fun c=>.bl (dv c))) (t':=tk) up hD ⟨?_,ys.toList,nD,hV,by rw[Array.toArray_toList];exact eD⟩,rfl,q D (I1.aq.NK hD)⟩;rw[aW,aB];exact hz
end
end L2
namespace L2
open PySem
theorem Vy:bootBuiltins "all" = some (.builtin "all"):=by decide +kernel
end L2
namespace Fg
open PySem L2 jt
def gv(z:Str):Bool:=decide (1<=z.length)&&decide (z.length<=8)&&z.cps.toList.all dv
def Cn:Sp:=fun vs H Q _=>∃z:Str,vs=[.str z]/\z.length<=100000/\∀H',ZD H H'->Q (.bl (gv z)) H'
def iy(z:Str):Prop := ∀c∈z.cps.toList,c<128
theorem iy.asc{z:Str}(h:iy z):Bi z:=by
 unfold Bi;rw[Array.all_eq_true_iff_forall_mem];intro c hc;exact aR (h c (by simpa using hc))
theorem Sy:∀c:_root_.Fin 128,(Builtin.Str.occurrences kg ⟨#[c.val]⟩ 0 kg.length 1).isEmpty= !dv c.val:=by decide +kernel
theorem T3{c:Nat}(h:c<128):(Builtin.Str.occurrences kg ⟨#[c]⟩ 0 kg.length 1).isEmpty= !dv c:=Sy ⟨c,h⟩
theorem QH{l:List Nat}{i c:Nat}(h:l[i]?= some c):(l.take (i+1)).all dv=((l.take i).all dv&&dv c):=by
 obtain⟨hi,e⟩:=cB.mp h;rw[A4 hi,List.all_append,e];simp
end Fg
namespace L2
open PySem PySem.Spec PyProof.Rows
section
variable{prog:Program}{w:World}{A:Around}{s:Shared}{R:Result->Shared->Prop}
abbrev om:Value->Shared->Prop:=fun _ _=>False
theorem Rv{elt target iter:Expr}{scope:Scope}{pos:Pos}{it acc:Value}{env:Env}(I:Nat->Shared->Prop)
  (turn:∀n s,I n s->wpAny (model prog w) A (pyNext it) (fun r s1=>match r with
   | none=>R (.ok .next) s1
   | some v=>wpAny (model prog w) A (letOwnedTupleGo target it v) (fun _ s2=>wpAny (model prog w) A (assign target env v) (fun _ s3=>wpAny (model prog w) A (eval elt env) (fun x s4 =>
     wpAny (model prog w) A (call (.builtin "list.append") [acc,x]) (fun _ s5=>∃m,m<n/\I m s5) om s4) om s3) om s2) om s1) om s)
  (n:Nat) (h:I n s):codeAny (model prog w) A (.compLoop (.ListComp elt [⟨target,iter,[],0⟩] scope pos) 0 it acc env) R s:=by
 refine codeAny_loop rfl I (fun n s hI=>?_) n h;show wpAny _ _ ((compTurn (.ListComp elt [⟨target,iter,[],0⟩] scope pos) 0 it acc env).onRaise (fun x=>do noteFrame x env;theTreesLotGoes x)) _ _ s;refine wpAny_noted ?_;rw[compTurn_list1];refine ae (wpAny_standAt (ae (eJ (turn n s hI) (fun r s1 h1=>?_) fun _ _ h'=>h'.elim)));cases r with
 | none=>exact ai h1
 | some v =>
  refine ae (eJ h1 (fun _ s2 h2=>?_) fun _ _ h'=>h'.elim);refine ae (eJ h2 (fun _ s3 h3=>?_) fun _ _ h'=>h'.elim);refine ae (ae (eJ h3 (fun x s4 h4=>?_) fun _ _ h'=>h'.elim));exact ae (eJ h4 (fun _ s5 h5=>ai (ai ⟨rfl,h5⟩)) fun _ _ h'=>h'.elim)
end
def jD(X:Cx)(N:List Str)(scope:Scope)(cl:List (Str×Addr))(C:Addr)(fp:List Addr)(s:Shared)(H:Hp):Cx where
 prog:=X.prog
 w:=X.w
 K:=X.K
 mg:=X.mg
 base:=X.base
 A:=X.A
 N:=N
 dk := s
 qV := H
 env:=compEnvC scope cl C X.env
 outer:=X.stack
 stack:=X.stack
 ex:=fp
 fn:=fun _=>false
 calm:=X.calm
 pn:=[]
 xe:=om
section
variable{X:Cx}{pins:List (Addr×Obj)}{σ : St}{H:Hp}{s:Shared}
theorem Ts{N:List Str}{scope:Scope}{cl:List (Str×Addr)}{C:Addr}{fp:List Addr}(I:Inv X pins σ H s)(hk:scope.kind=.function)(hC:s.heap.objs.size<=C)(bN:∀x c,cl.lookup x=some c->X.env.cells.lookup x=some c)
  (kH:∀x,((compEnvC scope cl C X.env).kindOf x=some .cell\/(compEnvC scope cl C X.env).kindOf x=some .free)->∃c,cl.lookup x=some c)
  (hf:∀b∈fp,eO X pins H b) (aD:∀b∈fp,b<s.heap.objs.size):(jD X N scope cl C fp s H).Ok where
 mod:=I.ok.mod
 kind:=hk
 glob:=I.ok.glob
 blt:=I.ok.blt
 above:=hC
 inj:=fun x y c e1 e2=>I.ok.inj x y c (bN x c e1) (bN y c e2)
 has:=kH
 lU:=fun x c e=>by cases e
 hd:=I.ok.hd
 frames:=I.ok.frames
 ow:=.inl rfl
 nv:=fun b hb=>⟨fun z=>absurd (cR (aD b hb) hC) (by rw[show b=C from z];exact gO _),fun x c e=>(hf b hb).2.2.2.2.1 x c (bN x c e)⟩
 bs:=fun b o e=>⟨(I.bs b o e).1,(I.bs b o e).2⟩
 iB:=cZ I.ok.iB I.sz
 mw:=fun b o e hb=>by
  rcases(hf b hb).2.2.2.1 with z|z
  ·exact I.ok.mw b o e z
  ·exact absurd (cR (aU e) (cZ I.ok.iB z)) (gO _)
 lW:=fun b hb hm=>by
  rcases aH.mp (I.Hi b hm) with z|z
  ·exact(hf b hb).2.1 z
  ·exact(hf b hb).2.2.1 z
 fV:=I.stack
 jO:=I.Hh
def vm(σ : St)(k:Nat)(cV:List (Str×Nat)):St:=List.replicate k none++cV.map fun p=>(σ[p.2]?).getD none
theorem QU{scope:Scope}{cl:List (Str×Addr)}{fp:List Addr}{tn:List Str}{cV:List (Str×Nat)}{h1:Heap}(I:Inv X pins σ H s)(hk:scope.kind=.function)(bN:∀x c,cl.lookup x=some c->X.env.cells.lookup x=some c)
  (kH:∀x,((compEnvC scope cl s.heap.objs.size X.env).kindOf x=some .cell\/(compEnvC scope cl s.heap.objs.size X.env).kindOf x=some .free)->∃c,cl.lookup x=some c)
  (hf:∀b∈fp,eO X pins H b) (aD:∀b∈fp,b<s.heap.objs.size)
  (vM:∀p∈cV,X.N[p.2]?= some p.1/\X.env.scope.names.lookup p.1=some .cell/\((compEnvC scope cl s.heap.objs.size X.env).kindOf p.1=some .cell\/(compEnvC scope cl s.heap.objs.size X.env).kindOf p.1=some .free))
  (sW:h1.Ns s.heap.objs.size (fun _=>none)) (sT:∀b o,s.heap.get? b=some o->h1.get? b=some o) :
  Inv (jD X (tn++cV.map (·.1)) scope cl s.heap.objs.size fp s H) [] (vm σ tn.length cV) H { s with heap:=h1 } where
 ok:=Ts I hk (az _) bN kH hf aD
 os:=rfl
 bare:=I.bare
 base:=Un.kept sT
 loc:=by
  refine⟨fun _=>none,sW,fun i x v e1 e2 hv=>?_⟩;unfold vm at e2;by_cases hi:i<tn.length
  ·rw[oF (by rw[xb];exact hi),List.getElem?_replicate,ah hi] at e2;cases e2
  ·have hN:(cV.map (·.1))[i-tn.length]?= some x:=by
    have:(tn++cV.map (·.1))[i]?= some x:=e1;rw[mF (by lia)] at this;exact this
   rw[mF (by rw[xb];lia),xb,f_] at e2;rw[f_] at hN;cases hp:cV[i-tn.length]? with
   | none=>rw[hp] at hN;cases hN
   | some p =>
    rw[hp] at hN e2;have hx:p.1=x:=dm hN;have he:(σ[p.2]?).getD none=some v:=dm e2;obtain⟨c1,c2,c3⟩:=vM p (cQ hp);subst hx;have hs : σ[p.2]?= some (some v):=by
     cases q : σ[p.2]? with
     | none=>rw[q] at he;cases he
     | some z=>rw[q] at he;rw[show z=some v from he]
    obtain⟨m,hn,hl⟩:=I.loc;obtain⟨u,r,l⟩:=hl p.2 p.1 v c1 hs (.inr (.inl c2));refine⟨u,r,.inr ⟨c3,?_⟩⟩;obtain⟨c,hc⟩:=kH p.1 c3;refine⟨c,hc,?_⟩;rcases l with⟨l1,_⟩|⟨_,c',l2,o,ho,hd⟩
    ·have:X.env.kindOf p.1=some .cell:=c2;rw[this] at l1;cases l1
    ·have:c=c':=dm ((bN p.1 c hc).symm.trans l2);subst this;exact⟨o,sT _ _ ho,hd⟩
 cell:=fun x c e=>by
  obtain⟨v,o,ho,hd⟩:=I.cell x c (bN x c e);exact⟨v,o,sT _ _ ho,hd⟩
 free:=I.aq.fresh (az _)
 fU:=fun x c e=>I.fU x c (bN x c e)
 pin:=fun p hp=>by cases hp
 aq:=I.aq.kept sT
 len:=by
  unfold vm;show _=(tn++cV.map (·.1)).length;rw[bw,bw,xb,aW,aW]
end
def VP(wi:TI)(k:Nat)(cV:List (Str×Nat))(g:TG)(te:TE):TE:=fun σ H Q=>wi σ H fun J H1=>∀p,H1 p=none->∃W:Nat->Nat->List V->St->Hp->Prop,(∃m,W 0 m [] (vm σ k cV) (upd H1 p (.lst []))) /\
 ∀i m ys oB H2,W i m ys oB H2->H2 p=some (.lst ys)/\((J.stop i H2/\Q (.ref p) H2)\/(J.go i H2/\∀x H3,J.kX i H2 x H3->g x oB H3 fun dE H4=>te dE H4 fun v H5 =>
  H5 p=some (.lst ys)/\ys.length<sizeLine/\∃m',m'<m/\W (i+1) m' (ys ++ [v]) dE (upd H5 p (.lst (ys ++ [v])))))
section
variable{X:Cx}{elt iter tg:Expr}{scope:Scope}{pos:Pos}{wi:TI}{g:TG}{te:TE}{cl:List (Str×Addr)}
theorem Rz{pins:List (Addr×Obj)}{σ : St}{H2:Hp}{s2:Shared}{it:Addr}{fp:List Addr}{wQ:Nat->Heap->Prop}{J:It}{R:Addr->Hp->Prop}{use:Option (Value->Sem Unit)}{Qp:Value->Shared->Prop}(tn:List Str)(cV:List (Str×Nat))(hg:∀C fp s H,PG (jD X (tn++cV.map (·.1)) scope cl C fp s H) tg g)(he:∀C fp s H,PE (jD X (tn++cV.map (·.1)) scope cl C fp s H) elt te)(hc:X.calm=true)(nJ:∀y∈scope.names,y.2 ≠ .cell)(hk:scope.kind=.function)(bN:∀x c,cl.lookup x=some c->X.env.cells.lookup x=some c)(kH:∀C x,((compEnvC scope cl C X.env).kindOf x=some .cell\/(compEnvC scope cl C X.env).kindOf x=some .free)->∃c,cl.lookup x=some c)(vM:∀C,∀p∈cV,X.N[p.2]?= some p.1/\X.env.scope.names.lookup p.1=some .cell/\((compEnvC scope cl C X.env).kindOf p.1=some .cell\/(compEnvC scope cl C X.env).kindOf p.1=some .free))
  (I2:Inv X pins σ H2 s2) (T:Turn X.prog X.w X.K tg J fp it wQ) (aG:wQ 0 s2.heap) (f2:∀b∈fp,eO X pins H2 b) (q2:∀p,H2 p=none->∃W:Nat->Nat->List V->St->Hp->Prop,(∃m,W 0 m [] (vm σ tn.length cV) (upd H2 p (.lst []))) /\
 ∀i m ys oB H2,W i m ys oB H2->H2 p=some (.lst ys)/\((J.stop i H2/\R p H2)\/(J.go i H2/\∀x H3,J.kX i H2 x H3->g x oB H3 fun dE H4=>te dE H4 fun v H5=>H5 p=some (.lst ys)/\ys.length<sizeLine/\∃m',m'<m/\W (i+1) m' (ys ++ [v]) dE (upd H5 p (.lst (ys ++ [v]))))))
  (qe:∀(s3:Shared)(H3:Hp),Inv X pins σ H3 s3->(∀b∈fp,eO X pins H3 b)->∀(acc:Addr)(AR:St)(H6:Hp)(s6:Shared),Inv (jD X (tn++cV.map (·.1)) scope cl s3.heap.objs.size fp s3 H3) [] AR H6 s6->R acc H6->compPost (model X.prog X.w) X.A X.xe use Qp (.ref acc) s3.heap.objs.size (.ok .next) s6) :
  wpAny (model X.prog X.w) X.A (newList []) (fun acc AL=>wpAny (model X.prog X.w) X.A (newFunctionEnv scope X.env.globals cl [] X.env.qual none Value.none (some X.env)) (fun Nt Zv8=>codeAny (model X.prog X.w) X.A (Code.compStart (.ListComp elt [⟨tg,iter,[],0⟩] scope pos) 0 (Value.ref it) acc { Nt with scope:=relabel scope X.env }) (compPost (model X.prog X.w) X.A X.xe use Qp acc Nt.locals) Zv8) X.xe AL) X.xe s2:=by
 have fresh:H2 s2.heap.objs.size=none:=I2.fresh;obtain⟨W,⟨m0,w0⟩,turn⟩:=q2 s2.heap.objs.size fresh;have qz:∀b∈fp,b<s2.heap.objs.size:=fun b hb=>by
  obtain⟨o,ho,_⟩:=T.obj _ _ aG b hb;exact aU ho
 have I3:Inv X pins σ (upd H2 s2.heap.objs.size (.lst [])) { s2 with heap:=s2.heap.push { cls:=.type "list",data:=.seq ([]:List Value).toArray } }:=I2.O6 (its:=[]) (t':=s2.toks) .nil (bj _);refine iT (wpAny_newFunctionEnv nJ (by intro y hy;simp at hy) (fun h1 FX F_=>?_) hk);dsimp only at FX F_ ⊢;generalize zp:({ s2 with heap:=s2.heap.push { cls:=.type "list",dict:=none,data:=.seq ([]:List Value).toArray } }:Shared)=s3 at I3;have FL:s2.heap.push { cls:=.type "list",dict:=none,data:=.seq ([]:List Value).toArray }=s3.heap:=by rw[<- zp]
 rw[FL] at FX F_ ⊢;have sz3:s3.heap.objs.size=s2.heap.objs.size+1:=by rw[<- FL,iO]
 have lt3:∀b∈fp,b<s3.heap.objs.size:=fun b hb=>cR (qz b hb) (by rw[sz3];exact ic _);have f3:∀b∈fp,eO X pins (upd H2 s2.heap.objs.size (.lst [])) b:=fun b hb=>⟨by rw[Zi (bY (qz b hb))];exact(f2 b hb).1,(f2 b hb).2⟩;have O0:∀b o,s3.heap.get? b=some o->h1.get? b=some o:=fun b o q=>F_.extBut b o (bY (aU q)) (aK _ q);have aT:wQ 0 h1:=T.keep _ _ _ aG fun b hb o q=>O0 b o (by rw[<- FL];exact aK _ q);have I4:=(QU (tn:=tn) I3 hk bN (kH _) f3 lt3 (vM _) FX O0).tok (s2.toks+([]:List (Str×Value)).length);have loop:codeAny (model X.prog X.w) X.A (.compLoop (.ListComp elt [⟨tg,iter,[],0⟩] scope pos) 0 (.ref it) (.ref s2.heap.objs.size) (compEnvC scope cl s3.heap.objs.size X.env))
   (compPost (model X.prog X.w) X.A X.xe use Qp (.ref s2.heap.objs.size) s3.heap.objs.size) { s3 with heap:=h1,toks:=s2.toks+([]:List (Str×Value)).length }:=by
  refine Rv (fun n s'=>∃i ys ao H',Inv (jD X (tn++cV.map (·.1)) scope cl s3.heap.objs.size fp s3 (upd H2 s2.heap.objs.size (.lst []))) [] ao H' s'/\wQ i s'.heap/\(∀b∈fp,H' b=none)/\W i n ys ao H') ?_ m0
   ⟨0,[],_,_,I4,aT,fun b hb=>(f3 b hb).1,w0⟩
  rintro n s5 ⟨i,ys,wX,H5,I5,cO,zd,w5⟩;obtain⟨hD,alt⟩:=turn i n ys wX H5 w5;have qH:∀{H':Hp},(∀b∈fp,H' b=none)->∀b∈fp,eO (jD X (tn++cV.map (·.1)) scope cl s3.heap.objs.size fp s3 (upd H2 s2.heap.objs.size (.lst []))) [] H' b :=
   fun hn b hb=>⟨hn b hb,(I4.ok.nv b hb).1,I4.ok.lW b hb,.inl hb,(I4.ok.nv b hb).2,fun p hp=>by cases hp⟩
  rcases alt with⟨stop,qn⟩|⟨go,step⟩
  ·refine aw (T.done (jD X (tn++cV.map (·.1)) scope cl s3.heap.objs.size fp s3 (upd H2 s2.heap.objs.size (.lst []))) rfl rfl rfl hc i [] s5 wX H5 om I5 (qH zd) cO stop) fun r s6 ⟨hr,I6⟩=>?_;subst hr;exact qe s3 _ I3 f3 _ wX H5 s6 I6 qn
  ·refine aw (T.item (jD X (tn++cV.map (·.1)) scope cl s3.heap.objs.size fp s3 (upd H2 s2.heap.objs.size (.lst []))) rfl rfl rfl hc i [] s5 wX H5 om I5 (qH zd) cO go) fun r s6 ⟨u,hr,h6⟩=>?_;subst hr;refine aw h6 fun _ s7 ⟨x,H7,I7,r7,y7,gK,fr7⟩=>?_;have P1:=I7.pinned (qH fr7) (T.obj _ _ gK);refine aw (hg _ _ _ _ _ s7 wX H7 x u _ P1 r7 (step x H7 y7)) fun _ s8 ⟨Ie,H8,I8,q8⟩=>?_;refine aw (he _ _ _ _ _ s8 Ie H8 _ I8 q8) fun xv s9 ⟨v9,H9,I9,r9,q9⟩=>?_;obtain⟨hD9,Ol,m',ui,w9⟩:=q9;refine aw (ZL _ s9 Ie H9 (.ref s2.heap.objs.size) [v9] (.ref s2.heap.objs.size) [xv] (fun z H'=>z=.aE/\H'=upd H9 s2.heap.objs.size (.lst (ys ++ [v9]))) I9 rfl (.cons r9 .nil)
    ⟨s2.heap.objs.size,ys,v9,rfl,rfl,hD9,Ol,rfl,rfl⟩) fun z qF ⟨zv,mP,Bl,_,_,eH⟩=>?_
   subst eH;refine⟨m',ui,i+1,ys ++ [v9],Ie,_,Bl.AQ,T.keep _ _ _ gK fun b hb o q=>(Bl.pin (b,o) (fu _ (fu _ (xJ hb q)))).1,fun b hb=>?_,w9⟩;obtain⟨o,q,d⟩:=T.obj _ _ gK b hb;exact(Bl.pin (b,o) (fu _ (fu _ (xJ hb q)))).2.1
 subst zp;exact codeAny_compStart_list loop (T.self X.A 0 _ _ _ aT loop)
end
end L2
namespace L2
open PySem PySem.Spec PyProof.Rows PySem.SeqAt
theorem Rc:bootBuiltins "reversed" = some (.type "reversed"):=by decide +kernel
theorem S5:typeLookup (.type "list_reverseiterator") "__len__" = pure none:=by rw[typeLookup_type,builtinLookup_eq_fast];kernel_rfl
theorem UZ:typeLookup (.type "list_reverseiterator") "__length_hint__" = pure (some (.builtin "list_reverseiterator.__length_hint__")):=by rw[typeLookup_type,builtinLookup_eq_fast];kernel_rfl
section
variable{prog:Program}{w:World}{A:Around}{E:Value->Shared->Prop}{s:Shared}
theorem TR{I:Addr}{Q:Bool->Shared->Prop}(hT:s.TypeIs (.ref I) "list_reverseiterator") (h:Q false s):wpAny (model prog w) A (Builtin.List.listLengthHint (.ref I)) Q E s:=by
 unfold Builtin.List.listLengthHint;refine ae (wpAny_specialOf hT S5 ?_);show wpAny _ A (specialOf (Value.ref I) (Str.ofString "__length_hint__") >>= _) Q E s;refine ae (wpAny_specialOf hT UZ ?_);generalize vS:("list_reverseiterator.__length_hint__" : String)=Gu
 wp_delta
 rw[show splitId Gu=some ("list_reverseiterator","__length_hint__") from by subst vS;decide +kernel];subst vS;refine ae (xu (b:=true) hT (by rw[isSubtype_type];kernel_rfl) ?_);exact ai h
theorem UH{I l:Addr}{items:Array Value}{Q:Value->Shared->Prop}(hh:A.handled=none)(bQ:l≠I)(hit:s.heap.IsRevIter I l ((items.size:Int)-1))(hl:s.heap.IsList l items)(hn:items.size<=sizeLine)
  (hQ:∀h' tk c',(∀b o,b≠I->s.heap.get? b=some o->h'.get? b=some o)->h'.get? s.heap.objs.size=some { cls:=.type "list",dict:=none,data:=.seq items.toList.reverse.toArray c',slots :=#[] }->Q (.ref s.heap.objs.size) { s with heap:=h',toks:=tk }) :
  wpAny (model prog w) A (call (.type "list") [.ref I]) Q E s:=by
 have aD:I<s.heap.objs.size:=let ⟨_,ho,_⟩:=hit;aU ho;have zL:l<s.heap.objs.size:=let ⟨_,ho,_⟩:=hl;aU ho;have Ax:s.heap.objs.size≠I:=qR aD;have nSl:s.heap.objs.size≠l:=qR zL;have nf:s.heap.objs.size ∉ [I,l]:=by simp only[aH,xg,or_false,not_or];exact⟨Ax,nSl⟩
 refine callType_codes (xG := fun z ba=>z=.ref s.heap.objs.size/\ba = { s with heap:=s.heap.push { cls:=.type "list",data:=.seq #[] } }) PySem.F.called_list (PySem.F.typeCall_list_1 _) PySem.F.entry_list_init (code_list_new _ ⟨rfl,rfl⟩) fun z ba hz=>?_;obtain⟨rfl,rfl⟩:=hz;have e0:(s.heap.push { cls:=.type "list",data:=.seq #[] }).get? s.heap.objs.size=some { cls:=.type "list",data:=.seq #[] }:=cf _ rfl;refine⟨⟨_,e0,rfl⟩,PySem.F.args_list_init_2 _ _,?_⟩;show wpAny _ _ (do let old <- Builtin.List.listItems (.ref s.heap.objs.size);Builtin.List.listUpdate (.ref s.heap.objs.size) (fun _=>#[]);letGo old.toList.reverse;Builtin.List.listExtendWith (.ref s.heap.objs.size) (.ref I) .none) _ _ _;refine ae ?_;unfold Builtin.List.listItems;refine ae (wpAny_seqItems e0 rfl (ai ?_));show wpAny _ _ (updateSeq s.heap.objs.size (fun _=>#[]) >>= fun _=>letGo (#[]:Array Value).toList.reverse >>= fun _=>Builtin.List.listExtendWith (.ref s.heap.objs.size) (.ref I) .none) _ _ _;refine ae (wpAny_updateSeq e0 rfl ?_);have e1:=qM (Obj.mapSeq (fun _=>(#[]:Array Value))) e0 rfl;have ke:∀b o,s.heap.get? b=some o->((s.heap.push { cls:=.type "list",data:=.seq #[] }).update s.heap.objs.size (Obj.mapSeq (fun _=>(#[]:Array Value)))).get? b=some o:=fun b o e=>(hX _ _ (qR (aU e))).trans (aK _ e);refine ae (wpAny_letGo ?_);have FO:=hit.at (h':=((s.heap.push { cls:=.type "list",data:=.seq #[] }).update s.heap.objs.size (Obj.mapSeq (fun _=>(#[]:Array Value))))) fun o e=>ke _ o e;have dh:=hl.at (h':=((s.heap.push { cls:=.type "list",data:=.seq #[] }).update s.heap.objs.size (Obj.mapSeq (fun _=>(#[]:Array Value))))) fun o e=>ke _ o e;have hT:Shared.TypeIs { s with heap:=((s.heap.push { cls:=.type "list",data:=.seq #[] }).update s.heap.objs.size (Obj.mapSeq (fun _=>(#[]:Array Value)))) } (.ref I) "list_reverseiterator" := Heap.IsRevIter.typeIs (s:={ s with heap:=_ }) FO;unfold Builtin.List.listExtendWith;refine ae (qT hT ?_);have z1:Builtin.List.listSameRef (.ref s.heap.objs.size) (.ref I)=false:=by simp[Builtin.List.listSameRef,Ax]
 rw[af (by rw[z1];decide)];refine ae (wpAny_pyIter_revIter FO ?_);refine ae (iS (TR hT ?_));rw[af (by decide)];have W:=(Walks.listRev (prog:=prog) (w:=w) (A:=A.in1.in1) hh I l bQ items).toS;refine ai ⟨plainId_quiet PySem.F.plain_extend_loop _,codeAny_extend_loopS W hn _ nf _ items.size 0 _ _ _ rfl (bj _) ⟨bj _,by simpa using FO,dh⟩ e1 (ItemsOf.nil _) fun s' oU c' hm xx nG=>?_⟩;rw[Moved.eq_with hm];have ea:oU=items.toList.reverse.toArray:=by
  apply Array.ext
  ·simp[nG.1]
  ·intro j h1 h2;have this:items[items.size-1-j]?= some oU[j]:=nG.2 j oU[j] (eY h1);have hj:j<items.size:=by rw[<- nG.1];exact h1
   rw[eY (by lia)] at this;simp only[List.getElem_toArray,List.getElem_reverse,Array.getElem_toList,aB];exact(dm this).symm
 rw[ea] at xx;refine⟨rfl,hQ s'.heap s'.toks c' (fun b o hb e=>hm.heap b o (fun fZ=>?_) (ke b o e)) xx⟩;rcases aH.mp fZ with e'|fZ
 ·exact absurd (aU e) (by rw[e'];exact gO _)
 ·exact hb (bi.mp fZ)
end
section
variable{X:Cx}{e:Expr}{te:TE}{p p' pos pos':Pos}
def Kx(K:PySem.W.Frag)(v:V)(H:Hp)(Q:VK):Prop := ∃l ys,v=.ref l/\ak K H l ys/\∀r,H r=none->Q (.ref r) (upd H r (.lst ys.reverse))
theorem Q9(hc:X.calm=true)(hg:Gl X "list") (hm:X.mg "list" = none) (gi:Gl X "reversed") (ui:X.mg "reversed" = none) (pa:PA X [e] (va te sv))
  (hs:starEach [e] X.env=[(false,eval e X.env)]:=by rfl) (o6:starEach [.Call (.Name "reversed" p') [e] [] pos'] X.env=[(false,eval (.Call (.Name "reversed" p') [e] [] pos') X.env)]:=by rfl) :
  PE X (.Call (.Name "list" p) [.Call (.Name "reversed" p') [e] [] pos'] [] pos) (fun σ H Q=>te σ H fun v H1=>Kx X.K v H1 Q):=by
 intro pins s σ H Q I h;refine ll (lR I hg hm LF ?_);refine t6 ?_ o6 rfl;rw[o6];refine Calls.spliced_cons ?_;refine ll (lR I gi ui Rc ?_);refine t6 (aw (pa pos' pins s σ H (fun vs H1=>match vs with | [v]=>Kx X.K v H1 Q|_=>False) I h) fun us s1 ⟨vs,H1,I1,r,q⟩=>?_) hs rfl
 match vs,r,q with
 | [v],r,q =>
  obtain⟨u,rfl,ru⟩:=r.one;obtain⟨l,ys,rfl,hq,q⟩:=q;cases ru;obtain⟨its,rv,pl,hz⟩:=I1.list hq;refine call_reversed_list pl.isList ?_;refine Calls.spliced_nil ?_;have hlen:=rv.length;have e1:(s1.heap.push (revObj l ((its.toArray.size:Int)-1))).get? s1.heap.objs.size=some (revObj l ((its.toArray.size:Int)-1)):=cf _ rfl;have zL:l<s1.heap.objs.size:=let ⟨_,ho,_⟩:=pl.isList;aU ho;refine UH (items:=its.toArray) (I1.ok.hd hc) (bY zL) ⟨_,e1,rfl,rfl⟩ (pl.isList.at fun o e=>aK _ e) (by rw[bX];lia) fun h' tk c' kp e=>?_;have sz:(s1.heap.push (revObj l ((its.toArray.size:Int)-1))).objs.size=s1.heap.objs.size+1:=iO ..;have le:s1.heap.objs.size<=(s1.heap.push (revObj l ((its.toArray.size:Int)-1))).objs.size:=by rw[sz];exact ic _
  have rr:=Vals.reverse rv;have jh:ys.reverse.length<=sizeLine:=by rw[tY];exact hz
  exact⟨.ref _,_,I1.laid (t':=tk) (fun b o eb=>kp b o (bY (aU eb)) (aK _ eb)) le (show bM X.prog X.w _ h' _ (.lst ys.reverse) from⟨jh,its.reverse,c',rr,e⟩),rfl,q _ (I1.aq.fresh le)⟩
end
end L2
namespace L2
open PySem PySem.Spec PyProof.Rows
def CW(n:Nat)(Pv:Nat->List V->St->Hp->Prop):Nat->Nat->List V->St->Hp->Prop:=fun i m ys σ H=>m=n-i/\i<=n/\Pv i ys σ H
theorem CW.next{n i:Nat}{Pv:Nat->List V->St->Hp->Prop}{ys:List V}{σ : St}{H:Hp}(hi:i<n)(h:Pv (i+1) ys σ H):∃m',m'<n-i/\CW n Pv (i+1) m' ys σ H:=⟨_,by lia,rfl,hi,h⟩
theorem nd1{x:Str}:[x].Nodup:=by simp
theorem JX{K:PySem.W.Frag}{a p:Addr}{xs:List V}{g:TG}{te:TE}{R:Hp->Prop}{PZ:St}{H0:Hp}(Pv:Nat->List V->St->Hp->Prop)(h0:Pv 0 [] PZ H0)
  (hl:∀i ys σ H,i<=xs.length->Pv i ys σ H->ak K H a xs/\H p=some (.lst ys))
  (hs:∀i ys x σ H,i<xs.length->xs[i]?= some x->Pv i ys σ H->g x σ H fun dE H4=>te dE H4 fun v H5=>H5 p=some (.lst ys)/\ys.length<sizeLine/\∃m',m'<xs.length-i/\CW xs.length Pv (i+1) m' (ys ++ [v]) dE (upd H5 p (.lst (ys ++ [v]))))
  (hd:∀ys σ H,Pv xs.length ys σ H->R H) :
  ∃W:Nat->Nat->List V->St->Hp->Prop,(∃m,W 0 m [] PZ H0)/\∀i m ys oB H2,W i m ys oB H2->H2 p=some (.lst ys)/\(((mQ K a).stop i H2/\R H2)\/((mQ K a).go i H2/\∀x H3,(mQ K a).kX i H2 x H3->g x oB H3 fun dE H4=>te dE H4 fun v H5 =>
   H5 p=some (.lst ys)/\ys.length<sizeLine/\∃m',m'<m/\W (i+1) m' (ys ++ [v]) dE (upd H5 p (.lst (ys ++ [v]))))):=by
 refine⟨CW xs.length Pv,⟨_,rfl,bj _,h0⟩,?_⟩;rintro i m ys σ H ⟨rfl,hi,hp⟩;obtain⟨h1,h2⟩:=hl i ys σ H hi hp;refine⟨h2,?_⟩;by_cases aD:i<xs.length
 ·refine .inr ⟨⟨xs,xs[i],h1,cI aD⟩,?_⟩;rintro x H3 ⟨rfl,hx⟩;exact hs i ys x σ _ aD (hx xs h1) hp
 ·refine .inl ⟨⟨xs,h1,by lia⟩,hd ys σ H ?_⟩;have e:i=xs.length:=by lia
  rw[<- e];exact hp
theorem Cv{scope:Scope}{env:Env}(h:∀y∈scope.names,y.2 ≠ .cell/\y.2 ≠ .free){cl:List (Str×Addr)}:∀(C:Addr)(x:Str),((compEnvC scope cl C env).kindOf x=some .cell\/(compEnvC scope cl C env).kindOf x=some .free)->∃c,cl.lookup x=some c:=by
 have key:∀(l:List (Str×NameKind))(x:Str),(∀y∈l,y.2 ≠ .cell/\y.2 ≠ .free)->∀k,(l.map fun(n,k)=>if(k ==.free&&env.scope.kind ==.function&&env.kindOf n == some .cell) then(n,.cell) else(n,k)).lookup x=some k->k ≠ .cell/\k ≠ .free:=by
  intro l
  induction l with
  | nil=>intro x _ k e;simp at e
  | cons y l ih =>
   intro x hy k e;obtain⟨n,kd⟩:=y;have hk:=hy _ (bb ..);have e0:(kd == NameKind.free&&env.scope.kind ==.function&&env.kindOf n == some .cell)=false:=by
    have:(kd == NameKind.free)=false:=by
     cases kd <;> first|rfl|exact absurd rfl hk.2
    rw[this];rfl
   simp only[bt,e0,qK,ig,List.lookup_cons] at e;cases hx:x == n with
   | true =>
    rw[hx] at e;cases e;exact hk
   | false =>
    rw[hx] at e;exact ih x (fun y hm=>hy y (aX _ hm)) k e
 intro C x hx;rcases hx with e|e
 ·exact absurd rfl (key _ x h _ e).1
 ·exact absurd rfl (key _ x h _ e).2
section
variable{X:Cx}{elt iter tg:Expr}{scope:Scope}{pos:Pos}{wi:TI}{g:TG}{te:TE}{cl:List (Str×Addr)}
theorem Jp{y:Str}{py PD:Pos}{n0:Nat}(hN:X.N.Nodup)(sR:X.N[n0]?= some y)(hx:Loc X.env.scope y)(tn:List Str)(cV:List (Str×Nat))(hi:PI X tg iter wi)(hg:∀C fp s H,PG (jD X (tn++cV.map (·.1)) scope cl C fp s H) tg g)(he:∀C fp s H,PE (jD X (tn++cV.map (·.1)) scope cl C fp s H) elt te)
  (hc:X.calm=true) (Zq4:closureFor scope X.env=pure cl) (nJ:∀y∈scope.names,y.2 ≠ .cell) (hk:scope.kind=.function) (FV:∀y∈scope.names,y.2=.local->scope.names.lookup y.1=some .local)
  (bN:∀x c,cl.lookup x=some c->X.env.cells.lookup x=some c)
  (kH:∀C x,((compEnvC scope cl C X.env).kindOf x=some .cell\/(compEnvC scope cl C X.env).kindOf x=some .free)->∃c,cl.lookup x=some c)
  (vM:∀C,∀p∈cV,X.N[p.2]?= some p.1/\X.env.scope.names.lookup p.1=some .cell/\((compEnvC scope cl C X.env).kindOf p.1=some .cell\/(compEnvC scope cl C X.env).kindOf p.1=some .free))
  (hs:∀v,foldedSetIterable iter X.env v=pure v) (OL:swapsWith (.ListComp elt [⟨tg,iter,[],0⟩] scope pos) (some (.Name y py)) PD.line X.env=pure true) (hf:X.fn y=true\/X.env.scope.names.lookup y=some .local:=by first|exact .inl rfl|exact .inr rfl|assumption) :
  PS X (.Assign [.Name y py] (.ListComp elt [⟨tg,iter,[],0⟩] scope pos) PD) (C8 (VP wi tn.length cV g te) (yJ n0)):=by
 intro pins s σ H D I h;rw[exec_Assign_Name_used _ _ _ _ OL];refine ae (wpAny_standAt (ae ?_));show wpAny _ X.A (do let _ <- comprehension (.ListComp elt [⟨tg,iter,[],0⟩] scope pos) scope X.env _ (newList []) false (eval iter X.env) (some (assign (.Name y py) X.env))) _ _ s;refine ae (eJ (wpAny_comprehension_free (use:=some (assign (.Name y py) X.env)) (Q:=fun _ s'=>SP X pins D .next s') rfl hs Zq4 hk FV (aw (hi pins s σ H _ I h) fun v s1 h1=>aw h1 fun Gv s2 h2=>?_)) (fun _ s' hq=>ai (ai hq)) fun _ _ e=>e)
 obtain⟨it,fp,wQ,J,H2,e,I2,T,aG,f2,q2⟩:=h2;subst e;refine Rz (R:=fun p H6=>yJ n0 (.ref p) σ H6 (fun ao H'=>D.nx ao H')) tn cV hg he hc nJ hk bN kH vM I2 T aG f2 q2 fun s3 H3 I3 f3 acc AR H6 s6 I6 q6=>?_;obtain⟨m,hn,_⟩:=I6.loc;have I':Inv X pins σ H6 s6:=I3.A9 (ch:=fp) I6.os I6.base I6.aq I6.bare fun b hb=>⟨(f3 b hb).2.2.2.1,(f3 b hb).2.1,(f3 b hb).2.2.2.2.1,(f3 b hb).2.2.2.2.2⟩;have fC:eO X pins H6 s3.heap.objs.size:=I3.ny (az _) I6.free;show wpAny _ X.A (assign (.Name y py) X.env (.ref acc)) _ _ s6;refine wpAny_assign_Name (J8 (v:=.ref acc) I' hN sR hx rfl (fun s7 I7 ⟨a,sb,ha⟩=>?_) hf);have nCa:s3.heap.objs.size≠a:=by
  rcases ha with z|z
  ·rw[z];exact fC.2.1
  ·exact(fC.2.2.2.2.1 _ _ z).symm
 exact⟨m,hn.sameBut sb nCa,fun h' xB=>⟨_,H6,I7.turned (t':=s7.toks) (fun b o hb e=>(xB.2 b hb).trans e) fC.1 fC.2.1 fC.2.2.2.1 fC.2.2.2.2.1 fC.2.2.2.2.2,q6⟩⟩
end
section
variable{κ : Type}[DecidableEq κ]
def gw(aj:List (κ × V))(k : κ):Option V:=(aj.find? fun kv=>decide (kv.1=k)).map (·.2)
def putK(aj:List (κ × V))(k : κ)(v:V):List (κ × V) :=
 if(aj.any fun kv=>decide (kv.1=k))=true then aj.map (fun kv=>if kv.1=k then(kv.1,v) else kv) else aj ++ [(k,v)]
theorem xN{p : κ × V}{r:List (κ × V)}{k : κ}(e:p.1=k):gw (p::r) k=some p.2:=by simp[gw,tV,e]
theorem x6{p : κ × V}{r:List (κ × V)}{k : κ}(e : ¬ p.1=k):gw (p::r) k=gw r k:=by simp[gw,tV,e]
theorem Kg(k : κ):∀aj:List (κ × V),(aj.any fun kv=>decide (kv.1=k))=(gw aj k).isSome
 | []=>rfl
 | p::r=>by
  rw[oC];by_cases e:p.1=k
  ·simp only[xN e,aR e,Bool.true_or,Option.isSome_some]
  ·rw[x6 e,a_ e,Bool.false_or];exact Kg k r
theorem Jo(aj:List (κ × V))(k : κ)(v:V):(putK aj k v).length<=aj.length+1:=by
 unfold putK
 split
 ·rw[aW];lia
 ·rw[bw,aO,tW];lia
theorem fS.ZsJ{o:Option V}{u:Option Value}(r:fS o u):o.isSome=u.isSome:=by
 cases o with
 | none=>cases u with
  | none=>rfl
  | some _=>exact(show False from r).elim
 | some _=>cases u with
  | none=>exact(show False from r).elim
  | some _=>rfl
theorem KV.val{aj:List (κ × V)}{vs:List (κ × Value)}(r:KV aj vs)(k : κ):fS (gw aj k) (valueAt vs k):=by
 unfold KV at r
 induction r with
 | nil=>exact True.intro
 | @cons p q ps qs h t ih =>
  obtain⟨h1,h2⟩:=h;by_cases e:p.1=k
  ·have e':q.1=k:=h1.symm.trans e;have b:valueAt (q::qs) k=some q.2:=by simp[valueAt,tV,e']
   rw[xN e,b];exact h2
  ·have e' : ¬ q.1=k:=fun z=>e (h1.trans z);have b:valueAt (q::qs) k=valueAt qs k:=by simp[valueAt,tV,e']
   rw[x6 e,b];exact ih
theorem KV.any{aj:List (κ × V)}{vs:List (κ × Value)}(r:KV aj vs)(k : κ):(aj.any fun kv=>decide (kv.1=k))=vs.any fun kv=>decide (kv.1=k):=by
 unfold KV at r
 induction r with
 | nil=>rfl
 | cons h t ih=>rw[oC,oC,ih,h.1]
theorem KV.Hb{aj:List (κ × V)}{vs:List (κ × Value)}(r:KV aj vs)(k : κ){y:V}{u:Value}(ry:RelV y u) :
  KV (aj.map fun kv=>if kv.1=k then(kv.1,y) else kv) (vs.map fun kv=>if kv.1=k then(kv.1,u) else kv):=by
 unfold KV at r ⊢
 induction r with
 | nil=>exact .nil
 | @cons p q ps qs h t ih =>
  rw[bt,bt];refine .cons ?_ ih;obtain⟨h1,h2⟩:=h;by_cases e:p.1=k
  ·rw[ah e,ah (h1.symm.trans e)];exact⟨h1,ry⟩
  ·rw[af e,af (fun z=>e (h1.trans z))];exact⟨h1,h2⟩
theorem KV.put{aj:List (κ × V)}{vs:List (κ × Value)}(r:KV aj vs)(k : κ){y:V}{u:Value}(ry:RelV y u):KV (putK aj k y) (stored vs k u):=by
 unfold putK stored;rw[r.any k];by_cases e:(vs.any fun kv=>decide (kv.1=k))=true
 ·rw[ah e,ah e];exact r.Hb k ry
 ·rw[af e,af e];exact Paired.snoc r ⟨rfl,ry⟩
theorem KV.length{aj:List (κ × V)}{vs:List (κ × Value)}(r:KV aj vs):aj.length=vs.length:=gb r
end
theorem CO{P:Program}{w:World}{k:Key}{u:Value}(r:RelV (kV k) u):(Z9 P w).is k u=true:=by
 cases k with
 | inl i=>obtain⟨t,e⟩:=(show ∃t,u=Value.int i t from r);subst e;exact Rk P w i t
 | inr x=>obtain⟨t,e⟩:=(show ∃t,u=Value.str x t from r);subst e;exact Rf P w x t
theorem J'{P:Program}{w:World}:∀{ks:List Key}{us:List Value},Vals (ks.map kV) us->ItemsAre (Z9 P w) ks us
 | [],_,r=>by rw[List.map_nil] at r;cases r;exact .nil
 | k::ks,_,r=>by
  rw[bt] at r;cases r with
  | cons h t=>exact .cons (CO h) (J' t)
abbrev KT(H:Hp):List (List Key×V)->List (List Key×Addr×Value)->Prop:=Paired fun p q=>p.1=q.1/\H q.2.1=some (.tup (p.1.map kV))/\RelV p.2 q.2.2
theorem KT.val{H:Hp}{aj:List (List Key×V)}{xs:List (List Key×Addr×Value)}(r:KT H aj xs)(k:List Key):fS (gw aj k) ((atKey xs k).map (·.2)):=by
 induction r with
 | nil=>exact True.intro
 | @cons p q ps qs h t ih =>
  obtain⟨h1,_,h2⟩:=h;by_cases e:p.1=k
  ·have e':q.1=k:=h1.symm.trans e;have b:atKey (q::qs) k=some q.2:=by simp[atKey,tV,e']
   rw[xN e,b];exact h2
  ·have e' : ¬ q.1=k:=fun z=>e (h1.trans z);have b:atKey (q::qs) k=atKey qs k:=by simp[atKey,tV,e']
   rw[x6 e,b];exact ih
theorem KT.Hb{H:Hp}{aj:List (List Key×V)}{xs:List (List Key×Addr×Value)}(r:KT H aj xs)(k:List Key){y:V}{u:Value}(ry:RelV y u) :
  KT H (aj.map fun kv=>if kv.1=k then(kv.1,y) else kv) (xs.map (putAt k u)):=by
 induction r with
 | nil=>exact .nil
 | @cons p q ps qs h t ih =>
  rw[bt,bt];refine .cons ?_ ih;obtain⟨h1,h2,h3⟩:=h;unfold putAt;by_cases e:p.1=k
  ·rw[ah e,ah (h1.symm.trans e)];exact⟨h1,h2,ry⟩
  ·rw[af e,af (fun z=>e (h1.trans z))];exact⟨h1,h2,h3⟩
theorem KT.put{H:Hp}{aj:List (List Key×V)}{xs:List (List Key×Addr×Value)}(r:KT H aj xs)(k:List Key){b:Addr}{y:V}{u:Value}(hb:H b=some (.tup (k.map kV)))(ry:RelV y u) :
  KT H (putK aj k y) (storedH xs k b u):=by
 have e:(aj.any fun kv=>decide (kv.1=k))=(atKey xs k).isSome:=by
  rw[Kg,(r.val k).ZsJ,Option.isSome_map]
 unfold putK storedH;rw[e];by_cases q:(atKey xs k).isSome=true
 ·rw[ah q,ah q];exact r.Hb k ry
 ·rw[af q,af q];exact Paired.snoc r ⟨rfl,hb,ry⟩
theorem KT.keeps{H H':Hp}{aj:List (List Key×V)}{xs:List (List Key×Addr×Value)}(r:KT H aj xs)(ht:∀b ys,H b=some (.tup ys)->H' b=some (.tup ys)):KT H' aj xs :=
 Paired.GU r fun _ _ z=>⟨z.1,ht _ _ z.2.1,z.2.2⟩
section
variable{P:Program}{w:World}{H:Hp}{h:Heap}{a:Addr}
theorem Mh{u:HO}(ok:bF P w H h)(e:Rd H a u):bM P w H h a u:=e.ok ok
theorem CP{aj:List (Key×V)}(ok:bF P w H h)(e:Rd H a (.dK aj)):aj.length<=sizeLine/\(a == sysModules)=false/\∃vs,KV aj vs/\h.DictOf (Z9 P w) a vs :=
 show bM P w H h a (.dK aj) from Mh ok e
theorem Wc{aj:List (Key×V)}(ok:bF P w H h)(e:H a=some (.dK aj)):aj.length<=sizeLine/\(a == sysModules)=false/\∃vs,KV aj vs/\h.DictOf (Z9 P w) a vs:=CP ok (.inl e)
theorem yB{ks:List Key}(ok:bF P w H h)(e:H a=some (.tup (ks.map kV))):(tupleKind (Z9 P w)).is h ks a:=by
 obtain⟨_,its,r,o,h1,h2,n,h3⟩:=(show bM P w H h a (.tup (ks.map kV)) from ok a _ e);exact⟨o,its.toArray,n,h1,h2,h3,by simpa using J' r⟩
theorem CT{aj:List (List Key×V)}(ok:bF P w H h)(e:Rd H a (.dT aj)):aj.length<=sizeLine/\(a == sysModules)=false /\
  ∃xs,KT H aj xs/\h.DictOfH (tupleKind (Z9 P w)) a xs:=by
 obtain⟨z,y,xs,r,o,es,ep,h1,h2,h3,h4,h5⟩:=(show bM P w H h a (.dT aj) from Mh ok e);refine⟨z,y,xs,r,o,es,ep,h1,h2,h3,h4,fun x hx=>?_,h5⟩;have all:∀{l:List (List Key×V)}{m:List (List Key×Addr×Value)},KT H l m->∀x∈m,(tupleKind (Z9 P w)).is h x.1 x.2.1:=by
  intro l m q
  induction q with
  | nil=>intro x hx;exact nomatch hx
  | @cons p q ps qs hq t ih =>
   intro x hx;rcases aH.mp hx with e|hx
   ·subst e;exact yB ok (by rw[<- hq.1];exact hq.2.1)
   ·exact ih x hx
 exact all r x hx
theorem VL{aj:List (List Key×V)}(ok:bF P w H h)(e:H a=some (.dT aj)):aj.length<=sizeLine/\(a == sysModules)=false /\
  ∃xs,KT H aj xs/\h.DictOfH (tupleKind (Z9 P w)) a xs:=CT ok (.inl e)
end
def pS(H:Hp)(a:Addr)(y:V)(r:Option V):Prop :=
 (∃aj k,Rd H a (.dK aj)/\y=kV k/\r=gw aj k)\/∃aj k b,Rd H a (.dT aj)/\y=.ref b/\H b=some (.tup (k.map kV))/\r=gw aj k
def vg(H:Hp)(a:Addr)(y v:V)(H':Hp):Prop :=
 (∃aj k,H a=some (.dK aj)/\y=kV k/\aj.length<sizeLine/\H'=upd H a (.dK (putK aj k v))) \/
 ∃aj k b,H a=some (.dT aj)/\y=.ref b/\H b=some (.tup (k.map kV))/\aj.length<sizeLine/\H'=upd H a (.dT (putK aj k v))
theorem pS.t{H:Hp}{a b:Addr}{aj:List (List Key×V)}{k:List Key}(e:H a=some (.dT aj))(eb:H b=some (.tup (k.map kV))):pS H a (.ref b) (gw aj k):=.inr ⟨aj,k,b,.inl e,rfl,eb,rfl⟩
theorem vg.t{H:Hp}{a b:Addr}{aj:List (List Key×V)}{k:List Key}{v:V}(e:H a=some (.dT aj))(eb:H b=some (.tup (k.map kV)))(hl:aj.length<sizeLine) :
  vg H a (.ref b) v (upd H a (.dT (putK aj k v))):=.inr ⟨aj,k,b,e,rfl,eb,hl,rfl⟩
section
variable{X:Cx}{pins:List (Addr×Obj)}{σ : St}{H:Hp}{s:Shared}{a:Addr}{y v:V}{u r:Value}{o:Option V}{A:Around}{E:Value->Shared->Prop}
theorem Inv.big(I:Inv X pins σ H s):sysModules<s.heap.objs.size:=by
 have h:mainGlobals<s.heap.objs.size:=(I.mod.glob.keeps I.bk).lt;exact Nat.lt_trans (by decide) h
theorem RW{Q:Value->Shared->Prop}(hu:A.units+1<cLine)(I:Inv X pins σ H s)(g:pS H a y (some v))(ry:RelV y u)(h:∀w' s',Inv X pins σ H s'->RelV v w'->Q w' s') :
  wpAny (model X.prog X.w) A (getItem (.ref a) u) Q E s:=by
 rcases g with⟨aj,k,e,ey,l⟩|⟨aj,k,b,e,ey,eb,l⟩
 ·subst ey;obtain⟨z,hd,vs,rel,dd⟩:=CP I.aq e;obtain⟨w',hw,lE⟩:=fS.some_of (v:=v) (o:=valueAt vs k) (by rw[l];exact rel.val k);exact wpAny_getItem_of (CO ry) dd.mapOf hw (h w' _ (I.tok _) lE)
 ·subst ey;cases (show u=Value.ref b from ry);obtain⟨z,hd,xs,rel,dd⟩:=CT I.aq e;obtain⟨w',hw,lE⟩:=fS.some_of (v:=v) (o:=(atKey xs k).map (·.2)) (by rw[l];exact rel.val k);obtain⟨p,hp,bH⟩:=oK.mp hw;refine wpAny_getItem_heap (tupleKind_room_in1 hu) (yB I.aq eb) dd hp ?_;rw[bH];exact h w' _ (I.tok _) lE
theorem Ld{h':Heap}{t':Nat}{ob:HO}(I:Inv X pins σ H s)(mu:uv (H a))(hs:Heap.SameBut a s.heap h')(he:∃q,h'.get? a=some q)(new:bM X.prog X.w (upd H a ob) h' a ob) :
  Inv X pins σ (upd H a ob) { s with heap:=h',toks:=t' } :=
 I.write (x:=a) (e:=a) mu (.inl rfl) (fun b q hb z=>(hs.2 b hb).trans z) he new
theorem U9{P:Program}{w:World}{H':Hp}{h':Heap}{aj:List (Key×V)}{vs:List (Key×Value)}(z:aj.length<=sizeLine)(hd:(a == sysModules)=false)(rel:KV aj vs)(dd:h'.DictOf (Z9 P w) a vs) :
  bM P w H' h' a (.dK aj):=⟨z,hd,vs,rel,dd⟩
theorem RN{H':Hp}{Q:Unit->Shared->Prop}(hu:A.units+1<cLine)(I:Inv X pins σ H s)(g:vg H a y v H')(ry:RelV y u)(rv:RelV v r)(h:∀s',Inv X pins σ H' s'->Q () s') :
  wpAny (model X.prog X.w) A (setItem (.ref a) u r) Q E s:=by
 rcases g with⟨aj,k,e,ey,l,eH⟩|⟨aj,k,b,e,ey,eb,l,eH⟩
 ·subst ey eH;obtain⟨z,hd,vs,rel,dd⟩:=Wc I.aq e;have hz:vs.length<=sizeLine:=by rw[<- rel.length];exact z
  have hl:(putK aj k v).length<=sizeLine:=by have:=Jo aj k v;lia
  refine wpAny_setItem_pairs (hsz:=hz) (CO ry) dd fun h' xw hs=>h _ ?_;have he:∃q,h'.get? a=some q:=let ⟨q,_,_,hq,_⟩:=xw;⟨q,hq⟩;exact Ld I (by rw[e];exact True.intro) hs he (U9 hl hd (rel.put k rv) xw)
 ·subst ey eH;cases (show u=Value.ref b from ry);obtain⟨z,hd,xs,rel,dd⟩:=VL I.aq e;have hz:xs.length<=sizeLine:=by rw[<- gb rel];exact z
  have hl:(putK aj k v).length<=sizeLine:=by have:=Jo aj k v;lia
  refine wpAny_setItem_heap (hsz:=hz) (tupleKind_room_in1 hu) (yB I.aq eb) dd fun h' xw hs=>h _ ?_;obtain⟨q,es,ep,hq,h2,h3,h4,_,h5⟩:=xw;refine Ld I (by rw[e];exact True.intro) hs ⟨q,hq⟩ ⟨hl,hd,_,(rel.put k eb rv).keeps fun c ys ec=>?_,q,es,ep,hq,h2,h3,h4,h5⟩;rw[Zi (Ms ec e (fun z=>nomatch z))]
  exact ec
end
def MS(i:Expr):Prop := ∀ov iv,subscripted i false ov iv=operate [ov,iv] (getItem ov iv)
theorem Us{prog:Program}{w:World}{A:Around}{E:Value->Shared->Prop}{s:Shared}{env:Env}{value slice:Expr}{pos:Pos}{T id:String}{Q:Value->Shared->Prop}
  (hl:typeLookup (.type T) "__getitem__" = pure (some (.builtin id))) (hs:MS slice)
  (h:wpAny (model prog w) A (eval value env) (fun o ba=>wpAny (model prog w) A (eval slice env) (fun i jY=>jY.TypeIs o T/\wpAny (model prog w) A (getItem o i) Q E jY) E ba) E s) :
  wpAny (model prog w) A (eval (.Subscript value slice pos) env) Q E s:=by
 refine Subscript_ (eJ h (fun o ba ZsE=>eJ ZsE (fun i jY Gs=>?_) fun _ _ x=>x) fun _ _ x=>x);obtain⟨hT,Gs⟩:=Gs;unfold subscriptTail;refine ae ?_;rw[getitemInPython_of_ne hT.not_modules];refine ae (wpAny_specialOf hT hl ?_);have fin:wpAny (model prog w) A (subscripted slice false o i) (fun r AL=>wpAny (model prog w) A (letTemporaryGo value o r >>= fun _=>pure r) Q E AL) E jY := by
  rw[hs o i];exact wpAny_operating (eJ Gs (fun r AL ZsF=>ae (wpAny_letTemporaryGo (ai ZsF))) fun _ _ x=>x)
 first
  | exact ai (ae fin)
  | exact ae (ai (ae fin))
  | exact ae fin
theorem Rb{X:Cx}{pins:List (Addr×Obj)}{σ : St}{H:Hp}{s:Shared}{a:Addr}{y:V}{o:Option V}(I:Inv X pins σ H s)(g:pS H a y o):s.TypeIs (.ref a) "dict" := by
 rcases g with⟨aj,k,e,_,_⟩|⟨aj,k,b,e,_,_,_⟩
 ·obtain⟨_,_,vs,_,dd⟩:=CP I.aq e;exact dd.typeIs
 ·obtain⟨_,_,xs,_,dd⟩:=CT I.aq e;exact dd.typeIs
def VM(td ty:TE):TE:=fun σ H Q=>td σ H fun x H1=>ty σ H1 fun y H2=>∃a v,x=.ref a/\pS H2 a y (some v)/\Q v H2
def Wb(td ty tv:TE):TS:=fun D σ H=>tv σ H fun v H1=>td σ H1 fun x H2=>ty σ H2 fun y H3=>∃a H4,x=.ref a/\vg H3 a y v H4/\D.nx σ H4
section
variable{X:Cx}{o i e value:Expr}{pos pos' PQ:Pos}{td ty tv:TE}
theorem Uk(hu:X.A.units+1<cLine)(ho:PE X o td)(hi:PE X i ty)(hs:MS i):PE X (.Subscript o i pos) (VM td ty):=by
 intro pins s σ H Q I h;refine Us PySem.F.slot_dict_getitem.lookup hs (aw (ho pins s σ H _ I h) fun u s1 ⟨x,H1,I1,rx,q1⟩=>aw (hi pins s1 σ H1 _ I1 q1) fun iv s2 ⟨y,H2,I2,ry,a,v,ex,g,q2⟩=>?_);subst ex;obtain rfl:u=Value.ref a:=rx;exact⟨Rb I2 g,RW hu I2 g ry fun w' s3 I3 lE=>⟨v,H2,I3,lE,q2⟩⟩
theorem UE(hu:X.A.units+1<cLine)(ho:PE X o td)(hi:PE X i ty)(hv:PE X value tv)(hs:swapsWith value (some (.Subscript o i pos')) pos.line X.env=pure false) :
  PS X (.Assign [.Subscript o i pos'] value pos) (Wb td ty tv):=by
 intro pins s σ H D I h;refine wpAny_Assign_Subscript (aw (hv pins s σ H _ I h) fun r s1 ⟨v,H1,I1,rv,q1⟩=>aw (ho pins s1 σ H1 _ I1 q1) fun u s2 ⟨x,H2,I2,rx,q2⟩=>aw (hi pins s2 σ H2 _ I2 q2) fun iv s3 ⟨y,H3,I3,ry,a,H4,ex,g,q3⟩=>?_) hs;subst ex;obtain rfl:u=Value.ref a:=rx;exact RN hu I3 g ry rv fun s4 I4=>⟨σ,H4,I4,q3⟩
end
theorem Td{P:Program}{w:World}{H:Hp}(h:Heap)(hb:sysModules<h.objs.size):bM P w H (h.push { cls:=.type "dict",data:=.dict #[] }) h.objs.size (.dT []) :=
 ⟨bj _,xt.mpr (fH (bY hb)),[],.nil,_,#[],0,cf _ rfl,⟨rfl,rfl,rfl⟩,rfl,rfl,List.nodup_nil⟩
def Vh:TE:=fun _ H Q=>∀p,H p=none->Q (.ref p) (upd H p (.dT []))
section
variable{X:Cx}{pos:Pos}
theorem S3:PE X (.Dict [] [] pos) Vh:=fun pins s σ H Q I h =>
 wpAny_Dict_empty ⟨.ref s.heap.objs.size,_,I.laid (a:=s.heap.objs.size) (o:=.dT []) (t':=s.toks) (fun _ _ q=>aK _ q) (az _) (Td s.heap I.big),rfl,h _ (I.aq.fresh (az _))⟩
end
structure gk(P:Program)(w:World)(K:PySem.W.Frag)(mg:Str->Option Value)(base:Heap)(C:Addr)(m:Str)(ps:List Str)(j:Nat)(sp:Sp):Prop where
 ex:∃f fd,aY P w K mg base cq j f fd ps sp/\Binds K fd ps []/\Meth K C m f
structure Bj(P:Program)(w:World)(K:PySem.W.Frag)(mg:Str->Option Value)(base:Heap)(C:Addr)(x:Str)(ps:List Str)(j:Nat)(sp:Sp):Prop where
 ex:∃f fd,aY P w K mg base cq j f fd ps sp/\Binds K fd ps []/\Mk K C f/\mg x=some (.ref C)
section
variable{X:Cx}{C:Addr}{m x:Str}{ps:List Str}{j k:Nat}{sp:Sp}{o e:Expr}{es:List Expr}{ta:TE}{t:TA}{p pos apos:Pos}
theorem lM{pl:Sem Bool}(G:gk X.prog X.w X.K X.mg X.base C m ps j sp)(hr:ck k X.A)(he:PE X o ta)(c:gT X.K C)(ha:PA X (e::es) t)(hk:j<=k:=by decide)
  (di:starEach (e::es) X.env=(false,eval e X.env)::starEach es X.env:=by rfl) (aS:(backTo pos (starEach es X.env)).any (·.1)=false:=by rfl)
  (ht:eval (.Call (.Attribute o m apos) (e::es) [] pos) X.env=(do
   let ov <- eval o X.env
   standAt apos.atName
   let (f,first) <- holding [ov] (getMethod ov m pl)
   callWith pos f first (backTo pos (starEach (e::es) X.env)) (backToKw pos (keywordEach [] X.env))):=by rfl):PE X (.Call (.Attribute o m apos) (e::es) [] pos) (yG C m sp [] E0 ta t):=by
 obtain⟨f,fd,F,b,hm⟩:=G.ex;exact UI (pl:=pl) he c hm (F.room hk) hr b .nil yM ha di aS ht
theorem KN{pl:Sem Bool}(G:gk X.prog X.w X.K X.mg X.base C m ps j sp)(hr:ck k X.A)(he:PE X o ta)(c:gT X.K C)(hk:j<=k:=by decide)
  (ht:eval (.Call (.Attribute o m apos) [] [] pos) X.env=(do
   let ov <- eval o X.env
   standAt apos.atName
   let (f,first) <- holding [ov] (getMethod ov m pl)
   callWith pos f first (backTo pos (starEach [] X.env)) (backToKw pos (keywordEach [] X.env))):=by rfl):PE X (.Call (.Attribute o m apos) [] [] pos) (yG C m sp [] E0 ta sv):=by
 obtain⟨f,fd,F,b,hm⟩:=G.ex;exact SR (pl:=pl) he c hm (F.room hk) hr b .nil yM ht
end
end L2
namespace jt
end jt
namespace L2
open PySem PySem.Spec PyProof.Rows
theorem aY.none{P:Program}{w:World}{K:PySem.W.Frag}{mg:Str->Option Value}{base:Heap}{CX:ij}{k:Nat}{f:Addr}{fd:FuncData}{ps:List Str}{sp:Sp}(h:∀vs H Q E,¬ sp vs H Q E):aY P w K mg base CX k f fd ps sp :=
 ⟨fun vs H Q E z=>absurd z (h vs H Q E),fun A outer s H args us vs Q E hr e0 hb r z=>absurd z (h vs H Q E)⟩
theorem lookup_mem{β : Type}{x:Str}{c : β}:∀{l:List (Str × β)},l.lookup x=some c->(x,c)∈l
 | [],h=>by cases h
 | (y,d)::l,h=>by
  rw[List.lookup_cons] at h;cases e:x == y with
  | true =>
   rw[e] at h;cases h;rw[j9.mp e];exact bb ..
  | false =>
   rw[e] at h;exact aX _ (lookup_mem h)
theorem Vv{env:Env}{cl:List (Str×Addr)}(h:∀p∈cl,env.cells.lookup p.1=some p.2):∀x c,cl.lookup x=some c->env.cells.lookup x=some c:=fun x c e=>h (x,c) (lookup_mem e)
theorem TX{scope:Scope}{env:Env}{cl:List (Str×Addr)}(h:∀y∈scope.names,(y.2=.cell\/y.2=.free)->∃c,cl.lookup y.1=some c):∀(C:Addr)(x:Str),((compEnvC scope cl C env).kindOf x=some .cell\/(compEnvC scope cl C env).kindOf x=some .free)->∃c,cl.lookup x=some c:=by
 have key:∀(k:NameKind)(x:Str),(k=.cell\/k=.free)->(scope.names.map fun(n,k)=>if(k ==.free&&env.scope.kind ==.function&&env.kindOf n == some .cell) then(n,.cell) else(n,k)).lookup x=some k->∃c,cl.lookup x=some c:=by
  intro k x hk e;obtain⟨⟨n,k0⟩,hy,he⟩:=gM.mp (lookup_mem e);by_cases hc:(k0 ==.free&&env.scope.kind ==.function&&env.kindOf n == some .cell)=true
  ·simp only[hc,gR] at he;have h0:k0=.free:=by
    simp only[cP] at hc;have:=hc.1.1;cases k0 <;> first|rfl|exact absurd this (by decide)
   injection he with e1 e2;subst e1;exact h _ hy (.inr h0)
  ·simp only[hc] at he;injection he with e1 e2;subst e1 e2;exact h _ hy hk
 intro C x hx;rcases hx with e|e
 ·exact key _ x (.inl rfl) e
 ·exact key _ x (.inr rfl) e
theorem Lq{X:Cx}{K:PySem.W.Frag}(h:X.K=K):qX X (ME K):=by
 subst h;exact lP
def ZV:Stmt->List Stmt
 | .For _ _ b _ _=>b
 | .While _ b _ _=>b
 | .If _ b _ _=>b
 | _=>[]
def i_:Stmt->List Stmt
 | .If _ _ b _=>b
 | _=>[]
theorem Zw{X:Cx}{b:List Stmt}{D:Ends}{σ : St}{H:Hp}(s:List Stmt){t:TS}(h:cK X s t)(k:∀u,cK X s u->u=t->∃t,cK X b t/\t D σ H):∃t,cK X b t/\t D σ H:=k t h rfl
theorem Zq{u t:TS}(e:u=t){D:Ends}{σ : St}{H:Hp}(h:t D σ H):u D σ H:=e ▸ h
theorem jJ{α : Type}:∀{us:List α},us.length=1->∃a,us=[a]
 | [a],_=>⟨a,rfl⟩
theorem MO{α : Type}{n:Nat}:∀{us:List α},us.length=n+1->∃a vs,us=a::vs/\vs.length=n
 | a::vs,h=>⟨a,vs,rfl,Nat.succ.inj h⟩
theorem gU{α : Type}{us:List α}(h:us.length=2):∃a b,us=[a,b]:=by
 obtain⟨a,vs,rfl,h2⟩:=MO h;obtain⟨b,rfl⟩:=jJ h2;exact⟨a,b,rfl⟩
theorem yP{α : Type}{us:List α}(h:us.length=3):∃a b c,us=[a,b,c]:=by
 obtain⟨a,vs,rfl,h2⟩:=MO h;obtain⟨b,c,rfl⟩:=gU h2;exact⟨a,b,c,rfl⟩
theorem Vals.inv{v:V}{vs:List V}{us:List Value}(h:Vals (v::vs) us):∃u Ir,us=u::Ir/\RelV v u/\Vals vs Ir:=by
 cases h with
 | cons r t=>exact⟨_,_,rfl,r,t⟩
theorem Vals.end_{us:List Value}(h:Vals [] us):us=[]:=by
 cases h;rfl
def XO(e:Addr)(C:Value)(d:Option Addr):Heap->Prop:=fun h=>∃oe vs,h.get? e=some oe/\oe.cls=C/\oe.dict=d/\oe.data=.fields vs/\4<vs.size
theorem XO.NI{P:Program}{w:World}{H:Hp}{h:Heap}{e:Addr}{C:Value}{d:Option Addr}(x:XO e C d h):bM P w H h e (.ext (XO e C d)):=by
 refine⟨x,?_,fun h1 h2 p k=>?_⟩
 ·obtain⟨oe,_,ho,_⟩:=x;exact⟨oe,ho⟩
 ·obtain⟨oe,vs,ho,r⟩:=p;exact⟨oe,vs,k oe ho,r⟩
theorem Tc{H:Hp}{a:Addr}{o:HO}(h:H a=some o):upd H a o=H:=by
 funext b
 unfold upd;by_cases e:b=a
 ·subst e;rw[ah rfl,h]
 ·rw[af e]
section
variable{X:Cx}{pins:List (Addr×Obj)}{σ : St}{H:Hp}{s:Shared}{e T:Addr}{C:Value}{d:Option Addr}{M:Model}{A:Around}{E:Value->Shared->Prop}{Q:Unit->Shared->Prop}
theorem Inv.xo(I:Inv X pins σ H s)(he:H e=some (.ext (XO e C d))):XO e C d s.heap:=(I.aq e _ he).1
theorem Inv.Pt{h':Heap}{t':Nat}(I:Inv X pins σ H s)(he:H e=some (.ext (XO e C d)))(k:∀b u,b≠e->s.heap.get? b=some u->h'.get? b=some u)(x:XO e C d h'):Inv X pins σ H { s with heap:=h',toks:=t' }:=by
 have:=I.write (x:=e) (e:=e) (o:=.ext (XO e C d)) (h':=h') (t':=t') (by rw[he];trivial) (.inl rfl) k (by obtain⟨oe,_,ho,_⟩:=x;exact⟨oe,ho⟩) x.NI
 rwa [Tc he] at this
def uz(X:Cx)(pins:List (Addr×Obj))(H:Hp)(h:Heap)(e:Addr)(fl:Value):Prop :=
 ∃T oT ts oe vs,h.get? e=some oe/\oe.data=.fields vs/\vs[1]?= some (.ref T)/\eO X pins H T/\h.get? T=some oT/\oT.data=.fields ts/\ts[3]?= some fl
def IX(X:Cx)(pins:List (Addr×Obj))(H:Hp)(h:Heap)(e:Addr):Prop:=(∃oe vs,h.get? e=some oe/\oe.data=.fields vs/\vs[1]?= some .none)\/uz X pins H h e .none
theorem yv{h:Heap}{a:Addr}{o:Obj}{vs:Array Value}(i:Nat)(x:Value)(ho:h.get? a=some o)(hd:o.data=.fields vs) :
  (h.update a (Obj.mapFields (·.setIfInBounds i x))).get? a=some (o.mapFields (·.setIfInBounds i x)):=qM _ ho (Obj.isFreed_of_fields (oJ hd _))
theorem Ud(o:Obj)(f:Array Value->Array Value):(o.mapFields f).dict=o.dict:=by
 obtain⟨c,d,dt,sl⟩:=o;cases dt <;> rfl
theorem XO.put{h:Heap}(x:XO e C d h)(i:Nat)(v:Value):XO e C d (h.update e (Obj.mapFields (·.setIfInBounds i v))):=by
 obtain⟨oe,vs,ho,hc,kG,hd,hz⟩:=x;exact⟨_,_,yv i v ho hd,(Obj.cls_mapFields ..).trans hc,(Ud ..).trans kG,oJ hd _,by simpa using hz⟩
theorem Inv.slots{h':Heap}(I:Inv X pins σ H s)(hs:Heap.SlotsOnly (gX X.stack) s.heap h'):Inv X pins σ H { s with heap:=h' }:=by
 refine I.A9 (s':={ s with heap:=h' }) (ch:=[]) rfl ⟨fun b o q n hb _=>(hs.2.1 b hb).trans q,fun b o q _ _ _=>hs.2.2 b o q,fun _ _ _ n _=>n,fun b o q _=>let ⟨sl,e⟩:=hs.2.2 b o q;⟨_,e⟩,fun _ _ q=>q,fun _ _ _ q=>q,fun _ ps q=>⟨#[],by rw[q];simp⟩⟩ ?_ I.bare (fun b z=>absurd z (by simp));intro b o q;have Oa:=I.Hh;refine(I.aq b o q).ou (fun c u hc z=>?_) (fun _ z=>z) (fun _ _ z=>z);have hn:c∉gX X.stack:=by
  intro hm;rcases hc with rfl|hc
  ·rw[Oa _ hm] at q;cases q
  ·rw[Oa _ hm] at hc;cases hc
 exact(hs.2.1 c hn).trans z
theorem KW{head:Value}{ZqT:Bool}(hA:A.frames=some (X.env::X.outer))(n_:X.stack=X.env::X.outer)(hf:X.env.frame=some X.env.locals)(I:Inv X pins σ H s)(he:H e=some (.ext (XO e C d)))
  (h:∀h',Inv X pins σ H { s with heap:=h' }->uz X pins H h' e (rawInt X.env.locals)->Q () { s with heap:=h' }) :
  wpAny M A (frameOf X.env >>= fun a=>entryPlaceOf X.env.locals ZqT >>= fun pl=>EntryCells.newEntry head a .none (rawInt X.env.locals) .none pl >>= fun b=>setField (.ref e) 1 b) Q E s:=by
 have hl:s.heap.FunFrames X.base (X.env::X.outer):=n_ ▸ I.stack;refine ae (wpAny_frameOf_fun hA hl hf fun h1 n8=>?_);have I1:Inv X pins σ H { s with heap:=h1 }:=I.slots (by rw[n_];exact n8);refine ae (wpAny_entryPlaceOf fun pl aS=>?_);unfold EntryCells.newEntry newFields;refine ae (iT ?_ (aS.sizeOk5 _ _ _ _ _));generalize Oz:({ cls:=Value.type "traceback",dict:=none,data:=Data.fields ([head,Value.ref X.env.locals,Value.none,rawInt X.env.locals,Value.none]++(if pl.isEmpty then List.replicate 6 Value.none else pl)).toArray }:Obj)=ob
 have I2:Inv X pins σ H { s with heap:=h1.push ob }:=I1.kept (h':=h1.push ob) (t':=s.toks) fun b u q=>aK _ q;obtain⟨oe,vs,ho,hc,kG,hd,hz⟩:=I2.xo he;refine oR ho hd (by lia) (h _ (I2.Pt (t':=s.toks) he (fun b u hb q=>(hX _ _ (fH hb)).trans q) ((I2.xo he).put 1 _)) ?_);have hT:(h1.push ob).get? h1.objs.size=some ob:=cf _ (by rw[<- Oz];rfl);have bQ:e≠h1.objs.size:=fun z=>by
  have:=I1.aq.lt he;rw[z] at this;exact absurd this (gO _)
 refine⟨h1.objs.size,ob,([head,Value.ref X.env.locals,Value.none,rawInt X.env.locals,Value.none]++(if pl.isEmpty then List.replicate 6 Value.none else pl)).toArray,_,_,yv 1 _ ho hd,oJ hd _,?_,I1.ny (az _) (I1.aq.fresh (az _)),(hX _ _ bQ).trans hT,?_,?_⟩
 ·rw[Array.getElem?_setIfInBounds_self_of_lt (by lia)]
 ·rw[<- Oz]
 ·simp
theorem Lf(hA:A.frames=some (X.env::X.outer))(n_:X.stack=X.env::X.outer)(hf:X.env.frame=some X.env.locals)(I:Inv X pins σ H s)(he:H e=some (.ext (XO e C d)))(x:IX X pins H s.heap e)
  (h:∀h',Inv X pins σ H { s with heap:=h' }->uz X pins H h' e (rawInt X.env.locals)->Q () { s with heap:=h' }):wpAny M A (noteFrame (.ref e) X.env) Q E s:=by
 unfold noteFrame;simp only[hf];rcases x with⟨oe,vs,ho,hd,h1⟩|⟨T,oT,ts,oe,vs,ho,hd,h1,fT,hT,cY,h3⟩
 ·refine ae (lq ho hd h1 ?_);rw[af (by decide)];exact KW hA n_ hf I he h
 ·refine ae (lq ho hd h1 ?_);rw[ah (show(Value.ref T != Value.none)=true by simp)];refine ae (lq hT cY h3 ?_);rw[af (show ¬ ((Value.none == rawInt X.env.locals)=true) by simp[rawInt])];refine ae (oR hT cY (mD.mp h3).1 ?_);obtain⟨f0,f1,f2,f3,f4,f5⟩:=fT;have I1:=I.turned (t':=s.toks) (h':=s.heap.update T (Obj.mapFields (·.setIfInBounds 3 Value.none))) (fun b u hb q=>(hX _ _ (fH hb)).trans q) f0 f1 f3 f4 f5;exact KW hA n_ hf I1 he h
theorem K_{fl:Value}(I:Inv X pins σ H s)(he:H e=some (.ext (XO e C d)))(x:uz X pins H s.heap e fl)
  (h:∀h',Inv X pins σ H { s with heap:=h' }->uz X pins H h' e .none->Q () { s with heap:=h' }):wpAny M A (setFlight (.ref e) none) Q E s:=by
 obtain⟨T,oT,ts,oe,vs,ho,hd,h1,fT,hT,cY,h3⟩:=x;unfold setFlight;refine ae (lq ho hd h1 ?_);rw[ah (show(Value.ref T != Value.none)=true by simp)];refine oR hT cY (mD.mp h3).1 ?_;obtain⟨f0,f1,f2,f3,f4,f5⟩:=id fT;have bQ:T≠e:=fun z=>by subst z;rw[f0] at he;cases he
 refine h _ (I.turned (t':=s.toks) (fun b u hb q=>(hX _ _ (fH hb)).trans q) f0 f1 f3 f4 f5) ⟨T,_,_,oe,vs,(hX _ _ bQ).trans ho,hd,h1,fT,yv 3 _ hT cY,oJ cY _,?_⟩;rw[Array.getElem?_setIfInBounds_self_of_lt (mD.mp h3).1];rfl
end
abbrev kj:=St->XK
def gS(P:Program)(w:World):ij:=fun outer H s E ev s'=>∃(e:Addr)(C:Value)(d:Option Addr)(H':Hp),ev=.ref e/\s'.os=s.os/\AllBare s'.gens/\Un (gX outer) [] H H' s.heap s'.heap/\bF P w H' s'.heap /\
 H' e=some (.ext (XO e C d))/\s.heap.objs.size<=e/\(∃T oT ts oe vs,s'.heap.get? e=some oe/\oe.data=.fields vs/\vs[1]?= some (.ref T)/\H' T=none/\s.heap.objs.size<=T/\s'.heap.get? T=some oT/\oT.data=.fields ts/\ts[3]?= some .none)/\E C d H'
def so(X:Cx)(E:kj):Prop := ∀(pins:List (Addr×Obj))(σ : St)(H:Hp)(s:Shared)(e:Addr)(C:Value)(d:Option Addr),Inv X pins σ H s->H e=some (.ext (XO e C d))->(X.ex=[]->X.dk.heap.objs.size<=e)->IX X pins H s.heap e->E σ C d H->X.xe (.ref e) s
theorem Z8{P:Program}{w:World}{K:PySem.W.Frag}{mg:Str->Option Value}{base:Heap}{N:List Str}{qual:Str}{scope:Scope}{f:Addr}{cd:Value}{A:Around}{outer:List Env}{s:Shared}{H:Hp}{E:XK} :
  so (lS (gS P w) P w K mg base N qual scope f cd A outer s H E) (fun _=>E):=by
 intro pins σ H1 s1 e C d I he hy x hE;show wpAny _ _ (leaving _ _) _ _ s1;unfold leaving;refine ae (Lf (X:=lS (gS P w) P w K mg base N qual scope f cd A outer s H E) I.ok.frames rfl rfl I he x fun h2 I2 x2=>K_ I2 he x2 fun h3 I3 x3=>?_);obtain⟨T,oT,ts,oe,vs,ho,hd,h1,fT,hT,cY,oZ⟩:=x3;refine⟨e,C,d,H1,rfl,I3.os,I3.bare,I3.base,I3.aq,he,hy rfl,⟨T,oT,ts,oe,vs,ho,hd,h1,fT.1,?_,hT,cY,oZ⟩,hE⟩;rcases fT.2.2.2.1 with z|z
 ·exact absurd z (by show T∉([]:List Addr);simp)
 ·exact z
theorem Sb{X:Cx}{E:kj}(hT:so X E){pins:List (Addr×Obj)}{σ : St}{H:Hp}{s s':Shared}{ev:Value}(I:Inv X pins σ H s)(h:gS X.prog X.w X.stack H s (E σ) ev s'):X.xe ev s':=by
 obtain⟨e,C,d,H',rfl,os,bare,un,aq,he,nK,⟨T,oT,ts,oe,vs,ho,hd,h1,Fx,iE,uh,cY,h3⟩,hE⟩:=h;have I1:=I.A9 (ch:=[]) os un aq bare (fun b z=>absurd z (by simp));exact hT pins σ H' s' e C d I1 he (fun _=>cZ I.sz nK) (.inr ⟨T,oT,ts,oe,vs,ho,hd,h1,I.ny iE Fx,uh,cY,h3⟩) hE
structure fc(P:Program)(w:World)(K:PySem.W.Frag)(mg:Str->Option Value)(base:Heap)(x:Str)(ps:List Str)(k:Nat)(sp:Sp):Prop where
 ex:∃(f:Addr)(fd:FuncData),aY P w K mg base (gS P w) k f fd ps sp/\Binds K fd ps []/\PySem.W.keepIn K (.ref f)=true/\mg x=some (.ref f)
def Vi(sp:Sp)(E:kj)(t:TA):TE:=fun σ H Q=>t σ H fun vs H1=>sp vs H1 Q (E σ)
section
variable{X:Cx}{j k:Nat}{f:Addr}{fd:FuncData}{ps:List Str}{sp:Sp}{E:kj}{x:Str}{p pos:Pos}{e:Expr}{es:List Expr}{t:TA}
theorem TU{pins:List (Addr×Obj)}{σ : St}{H:Hp}{s:Shared}{Q:VK}{us:List Value}{vs:List V}(F:aY X.prog X.w X.K X.mg X.base (gS X.prog X.w) k f fd ps sp)(hr:ck k X.A)(hb:Binds X.K fd ps [])(hT:so X E)
  (I:Inv X pins σ H s) (r:Vals vs us) (h:sp vs H Q (E σ)):wpAny (model X.prog X.w) X.A (call (.ref f) us) (EP X pins σ Q) X.xe s:=by
 have hl:us.length=ps.length:=by rw[<- r.length];exact F.len _ _ _ _ h
 have kE:=hb s us I.bI (by rw[iP];exact hl);rw[iP] at kE;refine wpAny_call (oP (F.run X.A X.stack s H ⟨us,[]⟩ us vs Q (E σ) hr I.EX kE r h) fun r s' hq=>?_);cases r with
 | error e=>exact Sb hT I hq
 | ok fl =>
  cases fl with
  | ret u=>exact I.after hq
  | next=>exact False.elim hq
  | brk=>exact False.elim hq
  | cont=>exact False.elim hq
theorem jE(G:fc X.prog X.w X.K X.mg X.base x ps j sp)(hT:so X E)(hr:ck k X.A)(hg:Gl X x)(ha:PA X (e::es) t)(hk:j<=k:=by decide)(gC:(x == ("__debug__" : Str))=false:=by decide)
  (he:starEach (e::es) X.env=(false,eval e X.env)::starEach es X.env:=by rfl) (aS:(backTo pos (starEach es X.env)).any (·.1)=false:=by rfl) :
  PE X (.Call (.Name x p) (e::es) [] pos) (Vi sp E t):=by
 obtain⟨f,fd,F,b,kp,m⟩:=G.ex;intro pins s σ H Q I h;refine ll (uJ I hg m ?_ gC);refine xp (h₀ := X.base) I.ok.mod.qy kp (aw (ha pos pins s σ H _ I h) fun us s1 ⟨vs,H1,I1,r,q⟩=>⟨I1.bI,?_⟩) he aS;exact TU (F.room hk) hr b hT I1 r q
end
theorem bP.qE{P:Program}{w:World}{K:PySem.W.Frag}{mg:Str->Option Value}{base:Heap}{x qual:Str}{st:Stmt}{f:Addr}{fd:FuncData}{N ps:List Str}{k:Nat}{sp:Sp}(F:bP K x qual st f fd)(S:bZ N ps (Zh st))(len:∀vs H Q E,sp vs H Q E->vs.length=ps.length)
  (vK:∀(aL:Value)(A:Around)(outer:List Env)(s:Shared)(H:Hp)(vs:List V)(Q:VK)(E:XK),ck k (A.deeper (envOfC qual (Zh st) s.heap.objs.size f aL))->sp vs H Q E ->
   ∃t,cK (lS (gS P w) P w K mg base N qual (Zh st) f aL A outer s H E) (Zd st) t/\t { nx:=fun _ H'=>Q .aE H',rt:=Q } (start N vs) H):aY P w K mg base (gS P w) (k+1) f fd ps sp:=by
 obtain⟨oc,od,kV,doc,pm,an,aL,ct,mx,rfl,lk,cX⟩:=F.ex;exact Mi lk cX S len fun A outer s H vs Q E hr jf=>vK aL A outer s H vs Q E hr jf
structure eL(K:PySem.W.Frag)(D:Addr):Prop where
 cl:PySem.W.isClsIn K D=true
 exc:PySem.W.mroIn K D (.type "BaseException")=some true
 nt:PySem.W.instIn K (.ref D) (.type "tuple")=some false
inductive Spec(K:PySem.W.Frag)(H:Hp):V->List Addr->Prop
 | one {D:Addr}:eL K D->Spec K H (.ref D) [D]
 | many {p:Addr} {Ds:List Addr}:aM K H p (Ds.map V.ref)->(∀D∈Ds,eL K D)->Spec K H (.ref p) Ds
theorem JV:∀{Ds:List Addr}{us:List Value},Vals (Ds.map V.ref) us->us=Ds.map Value.ref
 | [],_,.nil=>rfl
 | D::Ds,_,.cons r t=>by
  rw[JV t];obtain rfl:_=Value.ref D:=r;rfl
section
variable{M:Model}{A:Around}{E:Value->Shared->Prop}{s:Shared}{K:PySem.W.Frag}{D:Addr}
theorem eL.isExc(x:eL K D)(X:K.In s.heap){Q:Bool->Shared->Prop}(h:Q true s):wpAny M A (isExcClass (.ref D)) Q E s:=by
 have hc:=x.cl;unfold PySem.W.isClsIn PySem.W.clsIn at hc
 split at hc
 ·rename_i ho
  unfold isExcClass;refine ae ?_;show wpAny M A (loadHead D >>= _) _ _ s;refine ae (wpAny_loadPart (X _ _ ho) (ai ?_));dsimp only;rw[if_pos rfl];exact(PySem.W.looks_mroIn X x.exc).here h
 ·cases hc
theorem B9{g:Value->PUnit->Sem (ForInStep PUnit)}:∀(Ls:List Addr),(∀D∈Ls,∀{Q:ForInStep PUnit->Shared->Prop},Q (.yield PUnit.unit) s->wpAny M A (g (.ref D) PUnit.unit) Q E s)->∀{Q:PUnit->Shared->Prop},Q PUnit.unit s->wpAny M A (forIn (Ls.map Value.ref) PUnit.unit g) Q E s
 | [],_,_,h=>ai h
 | D::Ls,hg,_,h=>by
  rw[bt,List.forIn_cons];exact ae (hg D (bb ..) (B9 Ls (fun y hy=>hg y (aX _ hy)) h))
theorem CD{f:Addr->Bool}{g:Value->Option Bool×Unit->Sem (ForInStep (Option Bool×Unit))}:∀(Ls:List Addr),(∀D∈Ls,∀{Q:ForInStep (Option Bool×Unit)->Shared->Prop},Q (if f D=true then .done (some true,()) else .yield (none,())) s->wpAny M A (g (.ref D) (none,())) Q E s) ->
  ∀{Q:Option Bool×Unit->Shared->Prop},Q (if Ls.any f=true then some true else none,()) s->wpAny M A (forIn (Ls.map Value.ref) ((none,()):Option Bool×Unit) g) Q E s
 | [],_,_,h=>ai h
 | D::Ls,hg,_,h=>by
  rw[bt,List.forIn_cons];rw[oC] at h;refine ae (hg D (bb ..) ?_);cases hf:f D with
  | true =>
   rw[hf] at h;exact ai h
  | false =>
   rw[hf] at h;exact CD Ls (fun y hy=>hg y (aX _ hy)) h
theorem Mu{X:Cx}{pins:List (Addr×Obj)}{σ : St}{H:Hp}{f:Addr->Bool}{C e:Addr}{oe:Obj}{Q:Bool->Shared->Prop}{v:V}{u:Value}{Ds:List Addr}(I:Inv X pins σ H s)(hv:Spec X.K H v Ds)(r:RelV v u)(he:s.heap.get? e=some oe)(hc:oe.cls=.ref C)
  (hb:∀D∈Ds,PySem.W.mroIn X.K C (.ref D)=some (f D)) (h:Q (Ds.any f) s):wpAny M A (excMatches (.ref e) u) Q E s:=by
 cases hv with
 | @one D hD =>
  obtain rfl:u=Value.ref D:=r;unfold excMatches;refine ae ((PySem.W.looks_instIn I.bI hD.nt).here ?_);dsimp only;rw[if_neg Bool.false_ne_true];refine ae (ai ?_);refine ae (B9 [D] (fun y hy {Q} q=>?_) (ae (wpAny_typeOf_ref he (ae (CD (f:=f) [D] (fun y hy {Q} q=>?_) ?_)))))
  ·obtain rfl:=bi.mp hy;exact ae (hD.isExc I.bI (ai q))
  ·rw[hc];refine ae ((PySem.W.looks_mroIn I.bI (hb y hy)).here ?_);cases hf:f y with
   | true=>rw[hf] at q;exact ai q
   | false=>rw[hf] at q;exact ai q
  ·cases hf:[D].any f with
   | true=>rw[hf] at h;exact ai h
   | false=>rw[hf] at h;exact ai h
 | @many p _ hp hD =>
  obtain rfl:u=Value.ref p:=r;obtain⟨its,rv,⟨o,ho,bN,n,hd⟩,_⟩:=I.tuple hp;unfold excMatches;refine ae (xu (T := "tuple") ⟨o,ho,bN⟩ (show isSubtype (.type "tuple") (.type "tuple")=pure true by rw[isSubtype_type];kernel_rfl) ?_);dsimp only;rw[if_pos rfl];refine ae (wpAny_seqItems ho hd (ae (ai ?_)));have e1:((some its.toArray).getD #[]).toList=Ds.map Value.ref:=by
   rw[<- JV rv];rfl
  rw[e1];refine ae (B9 Ds (fun y hy {Q} q=>?_) (ae (wpAny_typeOf_ref he (ae (CD (f:=f) Ds (fun y hy {Q} q=>?_) ?_)))))
  ·exact ae ((hD y hy).isExc I.bI (ai q))
  ·rw[hc];refine ae ((PySem.W.looks_mroIn I.bI (hb y hy)).here ?_);cases hf:f y with
   | true=>rw[hf] at q;exact ai q
   | false=>rw[hf] at q;exact ai q
  ·cases hf:Ds.any f with
   | true=>rw[hf] at h;exact ai h
   | false=>rw[hf] at h;exact ai h
end
abbrev Cx.tr(X:Cx)(pins:List (Addr×Obj))(E:Value->Shared->Prop):Cx:={ X with pn:=X.pn++pins,xe:=E }
abbrev Cx.hd(X:Cx)(e:Addr):Cx:={ X with A:=X.A.mark (some (.ref e)),calm:=false,xe:=fun _ _=>False }
section
variable{X:Cx}{pins o9:List (Addr×Obj)}{σ : St}{H:Hp}{s:Shared}{e:Addr}{E:Value->Shared->Prop}
theorem Inv.tr(I:Inv X pins σ H s)(E:Value->Shared->Prop):Inv (X.tr pins E) [] σ H s :=
 ⟨⟨I.ok.mod,I.ok.kind,I.ok.glob,I.ok.blt,I.ok.above,I.ok.inj,I.ok.has,I.ok.lU,I.ok.hd,I.ok.frames,I.ok.ow,I.ok.nv,I.ok.bs,I.ok.iB,I.ok.mw,I.ok.lW,I.ok.fV,I.ok.jO⟩,I.os,I.bare,I.base,I.loc,I.cell,I.free,I.fU,fun p hp=>I.pin p (by simpa using hp),I.aq,I.len⟩
theorem Inv.jk(I:Inv (X.tr pins E) o9 σ H s):Inv X pins σ H s :=
 ⟨⟨I.ok.mod,I.ok.kind,I.ok.glob,I.ok.blt,I.ok.above,I.ok.inj,I.ok.has,I.ok.lU,I.ok.hd,I.ok.frames,I.ok.ow,I.ok.nv,I.ok.bs,I.ok.iB,I.ok.mw,I.ok.lW,I.ok.fV,I.ok.jO⟩,I.os,I.bare,I.base,I.loc,I.cell,I.free,I.fU,fun p hp=>I.pin p (oG _ hp),I.aq,I.len⟩
theorem eO.jk{T:Addr}(f:eO (X.tr pins E) o9 H T):eO X pins H T:=⟨f.1,f.2.1,f.2.2.1,f.2.2.2.1,f.2.2.2.2.1,fun p hp=>f.2.2.2.2.2 p (oG _ hp)⟩
theorem Inv.hd(I:Inv X pins σ H s)(e:Addr):Inv (X.hd e) pins σ H s :=
 ⟨⟨I.ok.mod,I.ok.kind,I.ok.glob,I.ok.blt,I.ok.above,I.ok.inj,I.ok.has,I.ok.lU,(fun z=>nomatch z),I.ok.frames,I.ok.ow,I.ok.nv,I.ok.bs,I.ok.iB,I.ok.mw,I.ok.lW,I.ok.fV,I.ok.jO⟩,I.os,I.bare,I.base,I.loc,I.cell,I.free,I.fU,I.pin,I.aq,I.len⟩
theorem Inv.tJ(I:Inv (X.hd e) pins σ H s)(ok:X.Ok):Inv X pins σ H s:=⟨ok,I.os,I.bare,I.base,I.loc,I.cell,I.free,I.fU,I.pin,I.aq,I.len⟩
theorem Inv.YU{p:Addr×Obj}(I:Inv X (p::pins) σ H s):Inv X pins σ H s:=I.AE fun q hq=>I.pin q (fu _ (aX _ hq))
theorem SP.jk{D:Ends}{f:Flow}{s':Shared}(h:SP (X.tr pins E) o9 D f s'):SP X pins D f s':=by
 cases f with
 | next=>obtain⟨ao,H',I,q⟩:=h;exact⟨ao,H',I.jk,q⟩
 | brk=>obtain⟨ao,H',I,q⟩:=h;exact⟨ao,H',I.jk,q⟩
 | cont=>obtain⟨ao,H',I,q⟩:=h;exact⟨ao,H',I.jk,q⟩
 | ret u=>obtain⟨v,ao,H',I,r,q⟩:=h;exact⟨v,ao,H',I.jk,r,q⟩
end
def Known(e:Addr)(oe:Obj):HO:=.ext fun h=>h.get? e=some oe
theorem S7{P:Program}{w:World}{H:Hp}{h:Heap}{e:Addr}{oe:Obj}(x:h.get? e=some oe):bM P w H h e (Known e oe):=⟨x,⟨oe,x⟩,fun _ _ p k=>k _ p⟩
abbrev Bp:=Ends->St->Hp->Addr->Obj->Prop
def PH(X:Cx)(hs:List ExceptHandler)(t:Bp):Prop := ∀(pins:List (Addr×Obj))(s:Shared)(σ : St)(H:Hp)(D:Ends)(e:Addr)(oe:Obj)(T:Addr)(oT:Obj)(ts vs:Array Value),
 Inv X ((T,oT)::pins) σ H s->eO X pins H T->oe.data=.fields vs->vs[1]?= some (.ref T)->oT.data=.fields ts->ts[3]?= some .none->H e=some (Known e oe)->t D σ H e oe ->
 wpAny (model X.prog X.w) X.A (handleBy (.ref e) X.env hs) (SP X pins D) X.xe s
def Ws(tb:kj->TS)(th:Bp):TS:=fun D σ H=>∃E:kj,tb E D σ H/\∀(ao:St)(C:Value)(d:Option Addr)(H':Hp)(e:Addr)(oe:Obj),E ao C d H'->H' e=some (.ext (XO e C d))->oe.cls=C->oe.dict=d->(∃vs,oe.data=.fields vs)->th D ao (upd H' e (Known e oe)) e oe
section
variable{X:Cx}{body:List Stmt}{h₀ : ExceptHandler}{hs rest:List ExceptHandler}{tb:kj->TS}{th tr:Bp}{pos:Pos}
theorem U7(n_:X.stack=X.env::X.outer)(hf:X.env.frame=some X.env.locals)
  (hb:∀(E:kj)(pins:List (Addr×Obj))(xE : Value->Shared->Prop),so (X.tr pins xE) E->PassesOwn (model X.prog X.w) X.A X.env xE -> cK (X.tr pins xE) body (tb E)) (hh:PH X (h₀ :: hs) th):PS X (.Try body (h₀ :: hs) [] [] pos) (Ws tb th):=by
 intro pins s σ H D I h;obtain⟨E,h1,h2⟩:=h;refine wpAny_Try_except ?_;refine eJ (hb E pins _ ?_ PassesOwn.looking [] s σ H D (I.tr _) h1) (fun f s1 q=>?_) fun e s1 q=>q
 ·intro o9 ao H' s1 e C d I1 he hy x hE;refine Lf (X:=X.tr pins _) (by rw[I.ok.frames,n_]) n_ hf I1 he x fun h2' I2 x2=>K_ I2 he x2 fun h3 I3 x3=>?_;obtain⟨T,oT,ts,oe,vs,ho,hd,wb,fT,hT,cY,oZ⟩:=x3;obtain⟨oe',vs',cp,hc,kG,_⟩:=I3.xo he;rw[ho] at cp;cases cp;have I4:=I3.jk;have I5:=I4.write (x:=e) (e:=e) (o:=Known e oe) (t':=s1.toks) (h':=h3) (by rw[he];trivial) (.inl rfl) (fun b u _ z=>z) ⟨oe,ho⟩ (S7 ho);have Bb:=fT.jk;have bQ:T≠e:=fun z=>by subst z;rw[Bb.1] at he;cases he
  have zb:eO X pins (upd H' e (Known e oe)) T:=⟨by rw[Zi bQ];exact Bb.1,Bb.2⟩;have I6:Inv X ((T,oT)::pins) ao (upd H' e (Known e oe)) { s1 with heap:=h3 }:=I5.AE fun p hp=>by
   rcases aH.mp hp with rfl|hp
   ·exact⟨hT,zb.1,zb.2.1,zb.2.2.1,fun v z=>by rw[cY] at z;cases z⟩
   ·exact I5.pin p (fu _ hp)
  exact hh pins _ ao _ D e oe T oT ts vs I6 zb hd wb cY oZ Zc (h2 ao C d H' e oe hE he hc kG ⟨vs,hd⟩)
 ·cases f with
  | next =>
   obtain⟨ao,H',I',q⟩:=q;exact wpAny_execs_nil ⟨ao,H',I'.jk,q⟩
  | brk=>exact SP.jk q
  | cont=>exact SP.jk q
  | ret u=>exact SP.jk q
theorem K2{t:Expr}{name:Option Str}{sb:List Stmt}{tt:TE}(ht:∀e,PE (X.hd e) t tt)(hr:PH X rest tr):PH X (.ExceptHandler (some t) name sb pos::rest)
  (fun D σ H e oe=>tt σ H fun v H1=>∃Ds C,Spec X.K H1 v Ds/\oe.cls=.ref C/\(∀D∈Ds,PySem.W.mroIn X.K C (.ref D)=some false)/\H1 e=some (Known e oe)/\tr D σ H1 e oe):=by
 intro pins s σ H D e oe T oT ts vs I fT hd h1 cY h3 he h;refine wpAny_handleBy_cons (codeAny_handlers_test (eJ ((ht e) ((T,oT)::pins) s σ H _ (I.hd e) h) (fun u s1 q=>?_) fun _ _ z=>z.elim)) (by intro z;cases z);obtain⟨v,H1,I1,r,Ds,C,hs,hc,hb,hk,q⟩:=q;have lu:=I1.tJ I.ok;refine Mu (f:=fun _=>false) lu hs r (lu.aq e _ hk).1 hc hb ?_;have e0:Ds.any (fun _=>false)=false:=by simp
 rw[e0];have Fx:=(lu.pin (T,oT) (fu _ (bb ..))).2.1;exact hr pins s1 σ H1 D e oe T oT ts vs lu ⟨Fx,fT.2⟩ hd h1 cY h3 hk q
theorem xP{M:Model}{A:Around}{E:Value->Shared->Prop}{pins:List (Addr×Obj)}{σ : St}{H:Hp}{s:Shared}{i:Nat}{n:Str}{Q:Unit->Shared->Prop}(I:Inv X pins σ H s)(hN:X.N.Nodup)(hi:X.N[i]?= some n)(hk:X.env.scope.names.lookup n=some .local)
  (h:∀s',Inv X pins (σ.set i none) H s'->Q () s'):wpAny M A (bindName X.env n .none >>= fun _=>unbindBehindTheSuite X.env n pos) Q E s:=by
 obtain⟨m,hn,hl⟩:=id I.loc;have zu:(X.env.scope.kind ==.class || (X.env.scope.kind ==.module&&X.env.locals != X.env.globals))=false:=by rw[I.ok.kind];rfl
 have zH:X.env.kindOf n=some .local:=hk;refine ae (wpAny_bindName (wpAny_storeName_local zH hn (fun ha mi hsa=>?_) zu));unfold unbindBehindTheSuite;refine wpAny_onRaise ?_;unfold unbindName deleteName;refine ae (wpAny_point (ae ?_));simp only[zH,zu];rw[af (by decide)];refine ae (wpAny_nsDel_keeps mi fun hb v Oy hsb=>?_);simp only[gR,Option.isSome_some,Bool.not_true,qK,ig];refine ai (wpAny_point (h _ ?_));have hs:=hsa.trans hsb;obtain⟨oL,_,_,qj,_⟩:=id hn;have jK:=I.jK;refine⟨I.ok,I.os,I.bare,⟨fun b o e n hb hx=>?_,fun b o e n hb hx=>?_,I.base.free,fun b o e hx=>?_,I.base.mB,I.base.kB,I.base.mz⟩,⟨_,Oy,fun j y v' e1 e2 e3=>?_⟩,fun y c e=>?_,I.free,I.fU,fun p hp=>?_,fun b ob e=>?_,by simpa using I.len⟩
 ·exact(hs.2 b (bY (cR (aU e) I.ok.above))).trans (I.base.keep b o e n hb hx)
 ·obtain⟨sl,e1⟩:=I.base.slot b o e n hb hx;exact⟨sl,(hs.2 b (bY (cR (aU e) I.ok.above))).trans e1⟩
 ·obtain⟨o',e1⟩:=I.base.there b o e hx;exact⟨o',(hs.2 b (bY (cR (aU e) I.ok.above))).trans e1⟩
 ·by_cases hj:j=i
  ·subst hj;by_cases aD:j < σ.length
   ·rw[List.getElem?_set_self aD] at e2;cases e2
   ·rw[AX (by rw[List.length_set];lia)] at e2;cases e2
  ·rw[List.getElem?_set_ne (fH hj)] at e2;obtain⟨u',r',q⟩:=hl j y v' e1 e2 e3;refine⟨u',r',?_⟩;rcases q with⟨k,e⟩|⟨k,c,e,z⟩
   ·refine .inl ⟨k,?_⟩;have:y≠n:=fun e=>hj (BU hN e1 (e ▸ hi));simp[this,e]
   ·exact .inr ⟨k,c,e,z.sameBut hs (jK y c e)⟩
 ·obtain⟨w',z⟩:=I.cell y c e;exact⟨w',z.sameBut hs (jK y c e)⟩
 ·obtain⟨e,n,ne,nf,d⟩:=I.pin p hp;exact⟨(hs.2 p.1 ne).trans e,n,ne,nf,d⟩
 ·refine(I.aq b ob e).ou (fun c w' hc q=>(hs.2 c ?_).trans q) (fun _ q=>q) fun _ _ q=>q;rintro rfl;rcases hc with rfl|hc
  ·rw[I.free] at e;cases e
  ·rw[I.free] at hc;cases hc
def PY(D:Ends)(i:Nat):Ends:={ nx:=fun σ H=>D.nx (σ.set i none) H,rt:=D.rt,bk:=fun σ H=>D.bk (σ.set i none) H,ct:=fun σ H=>D.ct (σ.set i none) H }
theorem Ra{M:Model}{A:Around}{E:Value->Shared->Prop}{s:Shared}{e T:Addr}{oe oT:Obj}{vs ts:Array Value}{Q:Unit->Shared->Prop}(ho:s.heap.get? e=some oe)(hd:oe.data=.fields vs)(h1:vs[1]?= some (.ref T))(hT:s.heap.get? T=some oT)(cY:oT.data=.fields ts)(h3:ts[3]?= some .none)(h:Q () s) :
  wpAny M A (setFlight (.ref e) none) Q E s:=by
 unfold setFlight;refine ae (lq ho hd h1 ?_);rw[ah (show(Value.ref T != Value.none)=true by simp)];refine oR hT cY (mD.mp h3).1 ?_;show Q () { s with heap:=s.heap.update T (Obj.mapFields (·.setIfInBounds 3 Value.none)) };rw[Heap.update_setField_same s.heap T oT ts 3 .none hT cY h3];exact h
theorem VQ{t:Expr}{n:Str}{MY : Stmt}{sb:List Stmt}{tt:TE}{tu:TS}{i:Nat}(ht:∀e,PE (X.hd e) t tt)(hN:X.N.Nodup)(hi:X.N[i]?= some n)(hk:X.env.scope.names.lookup n=some .local)(hs:∀e,cK (X.hd e) (MY :: sb) tu):PH X (.ExceptHandler (some t) (some n) (MY :: sb) pos::rest)
  (fun D σ H e oe=>tt σ H fun v H1=>∃Ds C f,Spec X.K H1 v Ds/\oe.cls=.ref C/\(∀D∈Ds,PySem.W.mroIn X.K C (.ref D)=some (f D))/\Ds.any f=true/\H1 e=some (Known e oe)/\tu (PY D i) (σ.set i (some (.ref e))) H1):=by
 intro pins s σ H D e oe T oT ts vs I fT hd h1 cY h3 he h;refine wpAny_handleBy_cons (codeAny_handlers_test (eJ ((ht e) ((T,oT)::pins) s σ H _ (I.hd e) h) (fun u s1 q=>?_) fun _ _ z=>z.elim)) (by intro z;cases z);obtain⟨v,H1,I1,r,Ds,C,f,jf,hc,hb,ZqV,mf,q⟩:=q;have lu:=I1.tJ I.ok;have OB:=(lu.aq e _ mf).1;refine Mu (f:=f) lu jf r OB hc hb ?_;rw[ZqV];refine codeAny_handlers_suite_as ?_;have hTo:=(lu.pin (T,oT) (fu _ (bb ..))).1;refine Ra OB hd h1 hTo cY h3 ?_;refine B3 lu.YU hN hi (.inl hk) (show RelV (.ref e) (.ref e) from rfl) (fun s2 I2=>?_) (.inr hk);refine eJ ((hs e) pins s2 _ H1 (PY D i) (I2.hd e) q) (fun fl s3 q3=>?_) fun _ _ z=>z.elim;show wpAny _ X.A (bindName X.env n .none >>= fun _=>unbindBehindTheSuite X.env n pos) _ _ s3;cases fl with
 | next =>
  obtain⟨ao,H',I3,q3⟩:=q3;exact xP (I3.tJ I.ok) hN hi hk fun s' I'=>⟨_,_,I',q3⟩
 | brk =>
  obtain⟨ao,H',I3,q3⟩:=q3;exact xP (I3.tJ I.ok) hN hi hk fun s' I'=>⟨_,_,I',q3⟩
 | cont =>
  obtain⟨ao,H',I3,q3⟩:=q3;exact xP (I3.tJ I.ok) hN hi hk fun s' I'=>⟨_,_,I',q3⟩
 | ret u =>
  obtain⟨v3,ao,H',I3,r3,q3⟩:=q3;exact xP (I3.tJ I.ok) hN hi hk fun s' I'=>⟨v3,_,_,I',r3,q3⟩
end
end L2
namespace L2
open PySem PySem.Spec PyProof.Rows PySem.W
abbrev sx:List Value:=[.type "ValueError",.type "Exception",.type "BaseException",.type "object"]
def keysOk(es:Array DictEntry):Bool:=es.toList.all fun e=>match e.key with | .str _ _=>true|_=>false
structure Bt(K:Frag)(G:Addr):Prop where
 ob:∃c0 dd cd sl oc od es ep xC,K.lookup G=some ⟨c0,dd,.cls cd,sl⟩/\K.lookup cd.ns=some ⟨oc,od,.dict es ep,xC⟩/\keysOk es=true/\nsIn K cd.ns "__init__" = some none
structure ph(K:Frag)(C G:Addr):Prop where
 ob:∃nm q N bs sO sn sub ab col dd k0 k1 k2 k3 k5,K.lookup C=some (excClassObj nm q C N bs (.ref G::sx) sO sn sub ab col dd k0 k1 k2 k3 k5 "ValueError.__new__")
 mid:Bt K G
 call:specialIn K (.ref C) "__call__" = some (some (.builtin "type.__call__"))
 typ:instIn K (.ref C) (.type "type")=some true
 kp:keepIn K (.ref C)=true
theorem Bt.tail{K:Frag}{G:Addr}{h:Heap}(x:Bt K G)(X:K.In h):OwnTail h sx (.ref G::sx):=by
 obtain⟨c0,dd,cd,sl,oc,od,es,ep,xC,h1,h2,h3,h4⟩:=x.ob;have sW:h.isNs cd.ns=true:=by
  unfold Heap.isNs;rw[X _ _ h2];have h5:=h3;unfold keysOk at h5;rw[Array.all_toList] at h5;exact h5
 have hN:=Heap.Ns.of_isNs sW;exact .own (X _ _ h1) hN (ns_none_of X hN h4) .base
theorem ph.mro{K:Frag}{C G:Addr}(x:ph K C G):∃cd,clsIn K C=some cd/\cd.mro=.ref C :: .ref G::sx:=by
 obtain⟨nm,q,N,bs,sO,sn,sub,ab,col,dd,k0,k1,k2,k3,k5,h1⟩:=x.ob;have e:clsIn K C=some { name:=nm,bases:=bs,mro:=.ref C :: .ref G::sx,ns:=N,qualname:=q,hasDict:=sO,slotNames:=sn,subclasses:=sub,abstract:=ab,collection:=col,hasDel:=false }:=by
  unfold clsIn;rw[h1]
 exact⟨_,e,rfl⟩
abbrev dI(C t:Addr):Obj:={ cls:=.ref C,data:=.fields #[.ref t,.none,.none,.none,.bool false,.none] }
abbrev dc(vs:List Value):Obj:={ cls:=.type "tuple",data:=.seq vs.toArray }
section
variable{prog:Program}{w:World}{A:Around}{K:Frag}{C G f:Addr}{R:Result->Shared->Prop}{s:Shared}
theorem RB{us:List Value}{init:Value}(x:ph K C G)(X:K.In s.heap)(hi:findIn K (.ref C) "__init__" = some (some init)) (b0:∀self,Looks (model prog w) s.heap (bindSpecial init self) (init,[self])) (hl:us.length<=sizeLine)
  (hq:codeAny (model prog w) (A.under (.builtin "type.__call__" ⟨.ref C::us,[]⟩)) (.call init ⟨.ref (s.heap.objs.size+1)::us,[]⟩) (InitBack (s.heap.objs.size+1) R)
   { s with heap:=(s.heap.push (dc us)).push (dI C s.heap.objs.size) }) :
  codeAny (model prog w) A (.call (.ref C) ⟨us,[]⟩) R s:=by
 obtain⟨hh,g,d,t,os⟩:=s;obtain⟨nm,q,N,bs,sO,sn,sub,ab,col,dd,k0,k1,k2,k3,k5,hK⟩:=x.ob;have hC:=X _ _ hK;have T:=x.mid.tail X;have call:=looks_specialIn (M:=model prog w) X x.call;have typ:=looks_instIn (M:=model prog w) X x.typ;have i0:=looks_findIn (M:=model prog w) X hi;refine codeAny_of_tree ?_;show wpAny _ _ (callAny (.ref C) _) _ _ _;refine nd_load hC ?_;show wpAny _ _ (callAny.viaDunder (.ref C) _) _ _ _;unfold callAny.viaDunder;refine ae (call.at ?_);dsimp only;rw[tc_bind];refine ae (ai (ae (ai ?_)));refine ai (a:=Fin.again (.call (.builtin "type.__call__") ⟨.ref C::us,[]⟩)) ⟨rfl,?_⟩;refine codeAny_call_builtin_at (Code.quiet_builtin _ (by decide +kernel)) entry_typeCall (check_slot tc_kind tc_split typ (tc_args _ _ _) ?_)
 repeat (first|with_reducible refine wpAny_loadPart_at hC ?_|with_reducible refine wpAny_madeBy_exc hC ?_|wp_step)
 refine codeAny_call_builtin_code (Code.quiet_builtin _ F.excBase_ValueError.quiet) (wpAny_check_new_subT F.excBase_ValueError T hC (codeAny_exc_new_subT F.excBase_ValueError T hC ?_ hl));show wpAny _ _ _ _ _ _;have k:∀b o,hh.get? b=some o->((hh.push (dc us)).push (dI C hh.objs.size)).get? b=some o:=fun b o e=>aK _ (aK _ e);have hx:((hh.push (dc us)).push (dI C hh.objs.size)).get? (hh.objs.size+1)=some (dI C hh.objs.size):=by heap_get
 have t1:Looks (model prog w) ((hh.push (dc us)).push (dI C hh.objs.size)) (typeOf (.ref (hh.objs.size+1))) (.ref C):=(Looks.ld hx).andThen .now;have s1:Looks (model prog w) ((hh.push (dc us)).push (dI C hh.objs.size)) (isSubtype (.ref C) (.ref C)) true:=by
  obtain⟨cd,hc,hm⟩:=x.mro;refine(looks_mroIn X ?_).keeps k;unfold mroIn;rw[hc,Option.bind_some,hm];simp
 have i1:=i0.keeps k;have b1:=(b0 (.ref (hh.objs.size+1))).keeps k;unfold isInstance callSpecial? specialOf
 repeat (first|with_reducible refine wpAny_call ?_|lk)
 refine oP hq fun r s' z=>?_;rcases r with e|(v|_|_|_) <;> first|exact z|exact z.elim|skip
 obtain⟨rfl,z⟩:=z;exact ai (ai z)
end
def Wj(x:Addr)(C:Value)(d:Option Addr):Heap->Prop:=fun h=>∃ox vs t,h.get? x=some ox/\ox.cls=C/\ox.dict=d/\ox.data=.fields vs/\4<vs.size/\vs[0]?= some (.ref t)/\vs[1]?= some .none
theorem TH{M:Model}{A:Around}{E:Value->Shared->Prop}{s:Shared}{env:Env}{K:Frag}{C G:Addr}{x0:Sem Value}{Q:Flow->Shared->Prop}(hh:A.handled=none)(y:ph K C G)
  (h:wpAny M A x0 (fun v s1=>∃x d,v=.ref x/\K.In s1.heap/\Wj x (.ref C) d s1.heap/\E (.ref x) s1) E s):wpAny M A (raiseStmt env (some x0) none) Q E s:=by
 unfold raiseStmt;refine ae (eJ h (fun v s1 q=>?_) fun _ _ z=>z);obtain⟨x,d,rfl,X,⟨ox,vs,t,ho,hc,hd,hf,hz,h0,h1⟩,hE⟩:=q;obtain⟨cd,cX,Ov⟩:=y.mro;have ty:Looks M s1.heap (typeOf (.ref x)) (.ref C):=hc ▸ (Looks.ld ho).andThen .now;have isb:Looks M s1.heap (isInstance (.ref x) (.type "BaseException")) true:=ty.andThen (looks_mroIn X (by unfold mroIn;rw[cX,Option.bind_some,Ov];rfl));have nt:Looks M s1.heap (isType (.ref x)) false:=by
  intro A' Q' E' s' k q;unfold isType loadHead;refine ae (wpAny_loadPart (k _ _ ho) ?_);rw[hf];exact ai q
 obtain⟨nm,q,N,bs,sO,sn,sub,ab,col,dd,k0,k1,k2,k3,k5,hK⟩:=y.ob;have tt:Looks M s1.heap (typeOf (.ref C)) (.type "type"):=(Looks.ld (X _ _ hK)).andThen .now;refine ae (ai (ae (iS ?_)));unfold excFromValue isExcClass;refine ae (ae (nt.here ?_));rw[af bf];refine ai ?_;rw[af bf];refine ae (isb.here ?_);rw[ah rfl];refine ai ?_;refine ae (nt.here ?_);rw[af bf];unfold raisedInstance;refine ae (ae (ty.here (ae (tt.here ?_))));rw[ah (by decide)];refine ai ?_;unfold setFlight;refine ae (ae (lq ho hf h1 ?_));rw[af (by decide)];exact ai (wpAny_raiseNew_none hh hE)
structure Qq(K:Frag)(G:Addr):Prop where
 ga:specialIn K (.ref G) "__getattribute__" = some (some (.builtin "type.__getattribute__"))
 rd:readsIn K G (.type "type")=true
 fi:findCls K (.ref G) (.type "type") "__init__" = some (.val (.builtin "ValueError.__init__"))
theorem Kn{prog:Program}{w:World}{A:Around}{E:Value->Shared->Prop}{s:Shared}{K:Frag}{x:Addr}{C c:Value}{Q:Value->Shared->Prop}(X:K.In s.heap)(ty:∀M,Looks M s.heap (typeOf (.ref x)) C)(bQ:(C == c)=false)(e:kitCls K C c=some true)
  (h:Q (.bool true) s):wpAny (model prog w) A (call (.builtin "isinstance") [.ref x,c]) Q E s:=by
 refine call_isinstance (S:=fun _ R s=>(K.In s.heap/\∀M,Looks M s.heap (typeOf (.ref x)) C)/\R (.ok (.ret (.bool true))) s) (fun prog w A R s hs=>isinstance_outer ?_ (fun z=>nomatch z)) ⟨⟨X,ty⟩,h⟩
 ·obtain⟨⟨X,LT⟩,hq⟩:=hs;obtain⟨h0,g,d,tt,os⟩:=s;unfold Builtin.«isinstance.nested»;refine ae ((LT _).at ?_);rw[af (by rw[bQ];decide)];obtain⟨kM,his,s_⟩:=kit_cls (M:=model prog w) X e;refine ae (kM.at ?_);rw[ah (by decide)]
  k_delta "plainIsInstance"
  refine ae (ae (his.at ?_));simp only[Bool.not_true,qK,ig];refine ae (((LT _).andThen s_).at ?_)
  first|exact ai (ai hq)|(simp only[gR];first|exact ai (ai hq)|exact ai hq)
section
variable{prog:Program}{w:World}{A:Around}{K:Frag}{C G:Addr}{R:Result->Shared->Prop}{s:Shared}
theorem Vq{us:List Value}(x:ph K C G)(X:K.In s.heap)(hi:findIn K (.ref C) "__init__" = some (some (.builtin "ValueError.__init__"))) (hl:us.length<=sizeLine)
  (hq:R (.ok (.ret (.ref (s.heap.objs.size+1)))) { s with heap:=(((s.heap.push (dc us)).push (dI C s.heap.objs.size)).push (dc us)).update (s.heap.objs.size+1) (Obj.mapFields (·.setIfInBounds 0 (.ref (s.heap.objs.size+2)))) }) :
  codeAny (model prog w) A (.call (.ref C) ⟨us,[]⟩) R s:=by
 have F0:=F.excBase_ValueError;refine RB x X hi (fun self=>Looks.of_pure (F0.init.bind self)) hl ?_;obtain⟨hh,g,d,tk,os⟩:=s;obtain⟨nm,q,N,bs,sO,sn,sub,ab,col,dd,k0,k1,k2,k3,k5,hK⟩:=x.ob;have k:∀b o,hh.get? b=some o->((hh.push (dc us)).push (dI C hh.objs.size)).get? b=some o:=fun b o e=>aK _ (aK _ e);have hx:((hh.push (dc us)).push (dI C hh.objs.size)).get? (hh.objs.size+1)=some (dI C hh.objs.size):=by heap_get
 have X2:=X.keeps k;refine codeAny_call_builtin F0.init.plain F0.initEntry (wpAny_check_init_subT F0 (x.mid.tail X2) (X2 _ _ hK) hx rfl ?_);have fD:(((hh.push (dc us)).push (dI C hh.objs.size)).push (dc us)).get? (hh.objs.size+1)=some (dI C hh.objs.size):=aK _ hx;unfold Builtin.«BaseException.__init__»;refine ae (wpAny_newTuple ?_ hl);unfold Builtin.BaseException.bexcPut;refine ae (ae (lq (s:=⟨((hh.push (dc us)).push (dI C hh.objs.size)).push (dc us),g,d,tk,os⟩) fD rfl (x:=.ref hh.objs.size) rfl (ae (oR (s:=⟨((hh.push (dc us)).push (dI C hh.objs.size)).push (dc us),g,d,tk,os⟩) fD rfl (by simp) ?_))))
 wp_walk
 refine⟨rfl,?_⟩;have e2:((hh.push (dc us)).push (dI C hh.objs.size)).objs.size=hh.objs.size+2:=by rw[iO,iO]
 rw[<- e2] at hq;exact hq
end
def UA(C:Addr)(E:kj)(t:TA):TS:=fun _ σ H=>t σ H fun vs H1=>vs.length<=1000/\∀y,H1 y=none->E σ (.ref C) none (upd H1 y (.ext (XO y (.ref C) none)))
section
variable{X:Cx}{j k:Nat}{C G:Addr}{E:kj}{x:Str}{p pos gW:Pos}{e:Expr}{es:List Expr}{t:TA}
theorem rH(Z:ph X.K C G)(hi:findIn X.K (.ref C) "__init__" = some (some (.builtin "ValueError.__init__"))) (nm:X.mg x=some (.ref C)) (hT:so X E) (hr:ck k X.A) (hg:Gl X x) (ha:PA X (e::es) t) (gC:(x == ("__debug__" : Str))=false:=by decide)
  (he:starEach (e::es) X.env=(false,eval e X.env)::starEach es X.env:=by rfl) (aS:(backTo gW (starEach es X.env)).any (·.1)=false:=by rfl) :
  PS X (.Raise (some (.Call (.Name x p) (e::es) [] gW)) none pos) (UA C E t):=by
 intro pins s σ H D I h;show wpAny _ _ (standAt pos >>= fun _=>raiseStmt X.env (some (eval (.Call (.Name x p) (e::es) [] gW) X.env >>= fun v=>standAt pos >>= fun _=>pure v)) none) _ _ s;refine ae (wpAny_standAt (TH (hr.hd) Z (ae ?_)));refine ll (uJ I hg nm ?_ gC);refine xp (h₀ := X.base) I.ok.mod.qy Z.kp (aw (ha gW pins s σ H _ I h) fun us s1 ⟨vs,H1,I1,r,hl,q⟩=>⟨I1.bI,?_⟩) he aS;have hlu:us.length<=sizeLine:=by rw[<- r.length];exact cZ hl (by decide)
 have hy:H1 (s1.heap.objs.size+1)=none:=I1.aq.fresh (ic _);have hE:=q (s1.heap.objs.size+1) hy;refine wpAny_call (Vq Z I1.bI hi hlu ?_);have hx:((s1.heap.push (dc us)).push (dI C s1.heap.objs.size)).get? (s1.heap.objs.size+1)=some (dI C s1.heap.objs.size):=by heap_get
 have fD:(((s1.heap.push (dc us)).push (dI C s1.heap.objs.size)).push (dc us)).get? (s1.heap.objs.size+1)=some (dI C s1.heap.objs.size):=aK _ hx;have I2:Inv X pins σ (upd H1 (s1.heap.objs.size+1) (.ext (XO (s1.heap.objs.size+1) (.ref C) none))) { s1 with heap:=(s1.heap.push (dc us)).push (dI C s1.heap.objs.size) }:=by
  have a:=I1.kept (t':=s1.toks) (h':=s1.heap.push (dc us)) fun b u q=>aK _ q;exact a.laid (t':=s1.toks) (fun b u q=>aK _ q) (by show(s1.heap.push (dc us)).objs.size<=_;rw[iO];exact az _) (XO.NI ⟨_,_,hx,rfl,rfl,rfl,by simp⟩)
 have I3:=I2.kept (t':=s1.toks) (h':=((s1.heap.push (dc us)).push (dI C s1.heap.objs.size)).push (dc us)) fun b u q=>aK _ q;have I4:=I3.Pt (t':=s1.toks) (h':=(((s1.heap.push (dc us)).push (dI C s1.heap.objs.size)).push (dc us)).update (s1.heap.objs.size+1) (Obj.mapFields (·.setIfInBounds 0 (.ref (s1.heap.objs.size+2))))) Zc (fun b u hb z=>(hX _ _ (fH hb)).trans z) (XO.put ⟨_,_,fD,rfl,rfl,rfl,by simp⟩ 0 _);have Oc:=yv 0 (.ref (s1.heap.objs.size+2)) fD rfl;refine ae (wpAny_standAt (ai ⟨_,none,rfl,I4.bI,⟨_,_,s1.heap.objs.size+2,Oc,rfl,rfl,rfl,by simp,rfl,rfl⟩,?_⟩));exact hT pins σ _ _ _ (.ref C) none I4 Zc (fun _=>cZ I1.sz (ic _)) (.inl ⟨_,_,Oc,rfl,rfl⟩) hE
end
section
variable{X:Cx}
theorem SN:fP X (.builtin "isinstance") (fun xs H Q=>∃a oe C D,xs=[.ref a,.ref D]/\H a=some (Known a oe)/\oe.cls=.ref C/\C≠D/\isClsIn X.K D=true/\typeIn X.K (.ref D)=some (.type "type")/\mroIn X.K C (.ref D)=some true/\Q (.bl true) H):=by
 intro pins s σ H xs us Q I r h;obtain⟨a,oe,C,D,rfl,hk,hc,bQ,h1,h2,h3,q⟩:=h;obtain⟨u,v,rfl,rx,ry⟩:=Vals.two r;obtain rfl:u=Value.ref a:=rx;obtain rfl:v=Value.ref D:=ry;have ho:s.heap.get? a=some oe:=(I.aq a _ hk).1;refine Kn I.bI (C:=.ref C) (fun M=>hc ▸ (Looks.ld ho).andThen .now) (by simpa using bQ) ?_ ⟨.bl true,H,I,rfl,q⟩;unfold kitCls;dsimp only;unfold isClsIn at h1;rw[h1,h2,if_pos (by decide)];exact h3
theorem Si:fP X (.builtin "isinstance") (fun xs H Q=>∃a oe C n,xs=[.ref a,.ty n]/\H a=some (Known a oe)/\oe.cls=.ref C/\kitMeta n=true/\mroIn X.K C (.type n)=some true/\Q (.bl true) H):=by
 intro pins s σ H xs us Q I r h;obtain⟨a,oe,C,n,rfl,hk,hc,h1,h3,q⟩:=h;obtain⟨u,v,rfl,rx,ry⟩:=Vals.two r;obtain rfl:u=Value.ref a:=rx;obtain rfl:v=Value.type n:=ry;have ho:s.heap.get? a=some oe:=(I.aq a _ hk).1;refine Kn I.bI (C:=.ref C) (fun M=>hc ▸ (Looks.ld ho).andThen .now) rfl ?_ ⟨.bl true,H,I,rfl,q⟩;unfold kitCls;dsimp only;rw[if_pos h1];exact h3
end
end L2
namespace L2
open PySem PySem.Spec PyProof.Rows
abbrev TJ:=St->Hp->Str->(Str->Hp->Prop)->Prop
def PJ(X:Cx)(es:List Expr)(t:TJ):Prop := ∀(pins:List (Addr×Obj))(s:Shared)(σ : St)(H:Hp)(acc:Str)(Q:Str->Hp->Prop),Inv X pins σ H s->t σ H acc Q ->
 wpAny (model X.prog X.w) X.A (joinParts acc (evalEach es X.env)) (EP X pins σ fun v H'=>∃z,v=.str z/\Q z H') X.xe s
def VI:TJ:=fun _ H acc Q=>acc.length<=sizeLine/\Q acc H
def VE(te:TE)(t:TJ):TJ:=fun σ H acc Q=>te σ H fun v H1=>∃y,v=.str y/\(acc++y).length<=sizeLine/\t σ H1 (acc++y) Q
def tFv(tv:TE):TE:=fun σ H Q=>tv σ H fun v H1=>(∃z,v=.str z/\z.length<=sizeLine/\Q (.str z) H1)\/∃i:Int,v=.int i/\i.natAbs.log2<1920/\Q (.str (Str.ofString (toString i))) H1
def UR(t:TJ):TE:=fun σ H Q=>t σ H Str.empty fun z H'=>Q (.str z) H'
section
variable{X:Cx}{e:Expr}{es:List Expr}{te:TE}{t:TJ}{pos:Pos}
theorem Cs:PJ X [] VI:=fun _ _ _ H acc _ I h=>joinParts_nil ⟨.str acc,H,I.tok _,⟨_,rfl⟩,acc,rfl,h.2⟩ h.1
theorem lK(he:PE X e te)(hr:PJ X es t)(hs:evalEach (e::es) X.env=eval e X.env::evalEach es X.env:=by rfl):PJ X (e::es) (VE te t):=by
 intro pins s σ H acc Q I h;rw[hs];refine joinParts_cons (aw (he pins s σ H _ I h) fun u s1 ⟨v,H1,I1,r,y,ev,hz,q⟩=>?_);subst ev;obtain⟨tk,rfl⟩:=r;exact⟨hz,hr pins s1 σ H1 _ Q I1 q⟩
theorem MA(he:PE X e te):PE X (.FormattedValue e (-1) none pos) (tFv te):=by
 intro pins s σ H Q I h;refine FormattedValue_plain (aw (he pins s σ H _ I h) fun u s1 ⟨v,H1,I1,r,q⟩=>?_);rcases q with⟨z,rfl,hz,q⟩|⟨i,rfl,hi,q⟩
 ·obtain⟨tk,rfl⟩:=r;exact formatField_str (fun t' tk=>⟨.str z,H1,I1.tok _,⟨_,rfl⟩,q⟩) hz
 ·obtain⟨tk,rfl⟩:=r;exact formatField_int_small hi ⟨.str _,H1,I1.tok _,⟨_,rfl⟩,q⟩
theorem BI{e2:Expr}(h:PJ X (e::e2::es) t):PE X (.JoinedStr (e::e2::es) pos) (UR t):=by
 intro pins s σ H Q I hw;refine JoinedStr_many (aw (h pins s σ H _ _ I hw) fun u s1 ⟨v,H1,I1,r,z,ev,q⟩=>⟨v,H1,I1,r,by rw[ev];exact q⟩)
end
def strsOf:List Expr->Option (List Str)
 | []=>some []
 | .Constant (.str x) _ _::es=>(strsOf es).map (x :: ·)
 | _=>none
def Mq(ss:List Str):TA:=fun _ H Q=>Q (ss.map V.str) H
theorem RF{X:Cx}:∀{es:List Expr}{ss:List Str},strsOf es=some ss->PA X es (Mq ss):=by
 intro es
 induction es with
 | nil =>
  intro ss h;cases h;exact Zb
 | cons e es ih =>
  intro ss h;cases e with
  | Constant k j p =>
   cases k with
   | str x =>
    cases h1:strsOf es with
    | none=>simp[strsOf,h1] at h
    | some ss' =>
     simp[strsOf,h1] at h;subst h;exact fun pos pins s σ H Q I h=>Za Zm (ih h1) rfl pos pins s σ H Q I h
   | _=>simp[strsOf] at h
  | _=>simp[strsOf] at h
theorem Lv{X:Cx}{es:List Expr}{ss:List Str}(h:strsOf es=some ss:=by rfl):PA X es (Mq ss):=RF h
end L2
namespace L2
open PySem PySem.Spec PyProof.Rows PySem.W
variable{X:Cx}
theorem R_{K:Frag}(hK:X.K=K):fP X (.builtin "isinstance") (fun xs H Q=>∃a oe C D,xs=[.ref a,.ref D]/\H a=some (Known a oe)/\oe.cls=.ref C/\C≠D/\isClsIn K D=true/\typeIn K (.ref D)=some (.type "type")/\mroIn K C (.ref D)=some true/\Q (.bl true) H):=by
 subst hK;exact SN
theorem Rx{K:Frag}(hK:X.K=K):fP X (.builtin "isinstance") (fun xs H Q=>∃a oe C n,xs=[.ref a,.ty n]/\H a=some (Known a oe)/\oe.cls=.ref C/\kitMeta n=true/\mroIn K C (.type n)=some true/\Q (.bl true) H):=by
 subst hK;exact Si
end L2
namespace ux
open PySem PyProof.Rows
def B_:Bool->Keyed->Array Keyed->Nat->Nat->Nat->StateT SortSt Sem (Option Nat):=PB% PySem.Builtin.gallop
def S_:Array Keyed->Array Keyed->StateT SortSt Sem (Array Keyed):=PB% PySem.Builtin.mergeLo
def Th:Array Keyed->Array Keyed->StateT SortSt Sem (Array Keyed):=PB% PySem.Builtin.mergeHi
structure bU(st ag:SortSt):Prop where
 arr:arrOf ag=arrOf st
 kind:kindOf ag=kindOf st
 fail:failedOf ag=failedOf st
 pend:pendingOf ag=pendingOf st
theorem bU.refl(st:SortSt):bU st st:=⟨rfl,rfl,rfl,rfl⟩
theorem bU.trans{a b c:SortSt}(x:bU a b)(y:bU b c):bU a c:=⟨y.arr.trans x.arr,y.kind.trans x.kind,y.fail.trans x.fail,y.pend.trans x.pend⟩
section
variable{prog:Program}{w:World}{A:Around}{E:Value->Shared->Prop}{s:Shared}{κ : SortKind}{Ok:Keyed->Prop}{st:SortSt}
theorem ZP{arr:Array Keyed}{i:Nat}{Q:Keyed->SortSt->Prop}(hi:i<arr.size)(h:∀p,p∈arr.toList->arr[i]?= some p->Q p st):wpS (model prog w) A E s (elem' arr i) Q st:=by
 have e:arr[i]?= some arr[i]:=jq arr i hi;rw[elem'_eq,e];exact ar (h _ (by simp) e)
end
def Out(a b:Array Keyed)(out:Array Keyed)(ia ib:Nat):Prop:=out.toList.Perm (a.toList.take ia++b.toList.take ib)
section
variable{a b out:Array Keyed}{ia ib:Nat}
theorem Mo{α : Type}(x y z w:List α):(x++y++(z++w)).Perm (x++z++(y++w)):=by
 rw[bT,bT];refine mE x ?_;rw[<- bT,<- bT];exact kZ w j5
theorem Out.done(h:Out a b out ia ib):(out++a.extract ia a.size++b.extract ib b.size).toList.Perm (a.toList++b.toList):=by
 rw[bO,bO,fF,fF];have e1:a.toList.extract ia a.size=a.toList.drop ia:=by rw[List.extract_eq_drop_take];apply j7;rw[dF,aB];exact az _
 have e2:b.toList.extract ib b.size=b.toList.drop ib:=by rw[List.extract_eq_drop_take];apply j7;rw[dF,aB];exact az _
 rw[e1,e2,bT];refine(kZ _ h).trans ((Mo ..).trans ?_);rw[j6,j6]
theorem Out.last(h:Out a b out ia ib):(out++b.extract ib b.size++a.extract ia a.size).toList.Perm (a.toList++b.toList):=by
 refine List.Perm.trans ?_ h.done;rw[bO,bO,bO,bO,bT,bT];exact mE _ j5
theorem Out.lX{k:Nat}(h:Out a b out ia ib)(hk:ia+k<=a.size):Out a b (out++a.extract ia (ia+k)) (ia+k) ib:=by
 unfold Out;rw[bO,fF,List.extract_eq_drop_take];have e:a.toList.take (ia+k)=a.toList.take ia++(a.toList.drop ia).take k:=List.take_add ..;rw[e,show ia+k-ia=k by lia];refine(kZ _ h).trans ?_;rw[bT,bT];exact mE _ j5
theorem Out.pU{k:Nat}(h:Out a b out ia ib)(hk:ib+k<=b.size):Out a b (out++b.extract ib (ib+k)) ia (ib+k):=by
 unfold Out;rw[bO,fF,List.extract_eq_drop_take];have e:b.toList.take (ib+k)=b.toList.take ib++(b.toList.drop ib).take k:=List.take_add ..;rw[e,show ib+k-ib=k by lia];refine(kZ _ h).trans ?_;rw[bT]
theorem BR{α : Type}{xs:List α}{i:Nat}{p : α}(h:xs[i]?= some p):xs.take (i+1)=xs.take i ++ [p]:=by
 obtain⟨hi,e⟩:=cB.mp h;rw[A4 hi,e]
theorem Out.kT{p:Keyed}(h:Out a b out ia ib)(hp:a[ia]?= some p):Out a b (out.push p) (ia+1) ib:=by
 have lC:a.toList[ia]?= some p:=by rw[<- hp];simp
 unfold Out;rw[fm,BR lC];refine(kZ _ h).trans ?_;rw[bT,bT];exact mE _ j5
theorem Out.kU{p:Keyed}(h:Out a b out ia ib)(hp:b[ib]?= some p):Out a b (out.push p) ia (ib+1):=by
 have lC:b.toList[ib]?= some p:=by rw[<- hp];simp
 unfold Out;rw[fm,BR lC];refine(kZ _ h).trans ?_;rw[bT]
theorem Wv{p:Keyed}(hp:b[0]?= some p):Out a b #[p] 0 1:=by
 have h0:Out a b #[] 0 0:=by
  unfold Out;rw[List.take_zero,List.take_zero];exact jo _
 exact h0.kU hp
end
section
variable{prog:Program}{w:World}{A:Around}{E:Value->Shared->Prop}{s:Shared}{κ : SortKind}{Ok:Keyed->Prop}{st:SortSt}
theorem rj(st:SortSt)(g:Nat):bU st (SortSt.mk' (kindOf st) (arrOf st) (pendingOf st) g (failedOf st)):=⟨rfl,rfl,rfl,rfl⟩
end
def du(a b:Array Keyed)(out:Array Keyed)(na nb:Nat):Prop:=out.toList.Perm (a.toList.drop na++b.toList.drop nb)
section
variable{a b out:Array Keyed}{na nb:Nat}
theorem nu(a:Array Keyed)(n:Nat):(a.extract 0 n).toList=a.toList.take n:=by
 rw[fF,List.extract_eq_drop_take,qO,Nat.sub_zero]
theorem du.done(h:du a b out na nb):(a.extract 0 na++b.extract 0 nb++out.reverse).toList.Perm (a.toList++b.toList):=by
 rw[bO,bO,nu,nu,kY];refine(mE _ ((List.reverse_perm _).trans h)).trans ((Mo ..).trans ?_);rw[j6,j6]
theorem du.first(h:du a b out na nb):(b.extract 0 nb++a.extract 0 na++out.reverse).toList.Perm (a.toList++b.toList):=by
 refine List.Perm.trans ?_ h.done;rw[bO,bO,bO,bO];exact kZ _ j5
theorem Kd{α : Type}{xs:List α}{i:Nat}{p : α}(h:xs[i]?= some p):xs.drop i=p::xs.drop (i+1):=by
 obtain⟨hi,e⟩:=cB.mp h;rw[<- e];exact List.drop_eq_getElem_cons hi
theorem du.kT{p:Keyed}(h:du a b out na nb)(h1:1<=na)(hp:a[na-1]?= some p):du a b (out.push p) (na-1) nb:=by
 have lC:a.toList[na-1]?= some p:=by rw[<- hp];simp
 unfold du;rw[fm,Kd lC,Nat.sub_add_cancel h1];refine(kZ _ h).trans ?_;exact j5
theorem du.kU{p:Keyed}(h:du a b out na nb)(h1:1<=nb)(hp:b[nb-1]?= some p):du a b (out.push p) na (nb-1):=by
 have lC:b.toList[nb-1]?= some p:=by rw[<- hp];simp
 unfold du;rw[fm,Kd lC,Nat.sub_add_cancel h1];refine(kZ _ h).trans ?_;rw[bT];refine mE _ ?_;exact j5
theorem Kz{α : Type}(xs:List α){i j:Nat}(h:i<=j):xs.drop i=(xs.drop i).take (j-i)++xs.drop j:=by
 have:=j6 (j-i) (xs.drop i);rw[la,Nat.add_sub_cancel' h] at this;exact this.symm
theorem du.lX{k:Nat}(h:du a b out na nb)(hk:k<=na):du a b (out++(a.extract k na).reverse) k nb:=by
 unfold du;rw[bO,kY,fF,List.extract_eq_drop_take];refine(List.Perm.append h (List.reverse_perm _)).trans ?_;refine j5.trans ?_;rw[<- bT,<- Kz a.toList hk]
theorem du.pU{k:Nat}(h:du a b out na nb)(hk:k<=nb):du a b (out++(b.extract k nb).reverse) na k:=by
 unfold du;rw[bO,kY,fF,List.extract_eq_drop_take];refine(List.Perm.append h (List.reverse_perm _)).trans ?_;rw[bT];refine mE _ (j5.trans ?_);rw[<- Kz b.toList hk]
theorem VS{p:Keyed}(h1:1<=a.size)(hp:a[a.size-1]?= some p):du a b #[p] (a.size-1) b.size:=by
 have h0:du a b #[] a.size b.size:=by
  unfold du;rw[w_ (by rw[aB];exact az _),w_ (by rw[aB];exact az _)];exact jo _
 exact h0.kT h1 hp
end
structure Pm(st ag:SortSt):Prop where
 arr:(arrOf ag).toList.Perm (arrOf st).toList
 kind:kindOf ag=kindOf st
 fail:failedOf ag=failedOf st
 pend:pendingOf ag=pendingOf st
theorem Pm.refl(st:SortSt):Pm st st:=⟨jo _,rfl,rfl,rfl⟩
theorem Pm.trans{a b c:SortSt}(x:Pm a b)(y:Pm b c):Pm a c:=⟨y.arr.trans x.arr,y.kind.trans x.kind,y.fail.trans x.fail,y.pend.trans x.pend⟩
theorem Pm.size{a b:SortSt}(x:Pm a b):(arrOf b).size=(arrOf a).size:=by
 have:=x.arr.length_eq;rw[aB,aB] at this;exact this
theorem Pm.ok{a b:SortSt}{Ok:Keyed->Prop}(x:Pm a b)(h:∀p∈(arrOf a).toList,Ok p):∀p∈(arrOf b).toList,Ok p:=fun p hp=>h p (x.arr.mem_iff.mp hp)
theorem Pm.mirror(st:SortSt)(i j:Nat):Pm st (setArr st (mirror (arrOf st) i j ((j-i) / 2))):=⟨Array.perm_iff_toList_perm.mp (mirror_perm _ _ _ _),rfl,rfl,rfl⟩
theorem Pm.bubble(st:SortSt)(i j:Nat):Pm st (setArr st (bubble (arrOf st) i (i-j))):=⟨Array.perm_iff_toList_perm.mp (bubble_perm _ _ _),rfl,rfl,rfl⟩
def cj:List (Nat×Nat×Nat)->Nat->Nat->Prop
 | [],lo,hi=>lo=hi
 | x::r,lo,hi=>x.1=lo/\1<=x.2.1/\cj r (lo+x.2.1) hi
theorem cj.le:∀{l:List (Nat×Nat×Nat)}{lo hi:Nat},cj l lo hi->lo+l.length<=hi
 | [],lo,hi,h=>Nat.le_of_eq h
 | x::r,lo,hi,⟨_,h1,h2⟩=>by
  have:=cj.le h2;rw[aO];lia
theorem cj.push:∀{l:List (Nat×Nat×Nat)}{lo hi n p:Nat},cj l lo hi->1<=n->cj (l ++ [(hi,n,p)]) lo (hi+n)
 | [],lo,hi,n,p,h,h1=>by
  have e:lo=hi:=h;subst e;exact⟨rfl,h1,rfl⟩
 | x::r,lo,hi,n,p,⟨a,b,c⟩,h1=>⟨a,b,c.push h1⟩
theorem cj.at:∀{l:List (Nat×Nat×Nat)}{i lo hi sa na p sb nb q:Nat},cj l lo hi->l[i]?= some (sa,na,p)->l[i+1]?= some (sb,nb,q) ->
  sb=sa+na/\1<=na/\1<=nb/\sb+nb<=hi/\cj ((l.set i (sa,na+nb,p)).eraseIdx (i+1)) lo hi
 | x::y::r,0,lo,hi,sa,na,p,sb,nb,q,⟨a,b,c1,c2,c3⟩,h1,h2=>by
  have e1:x=(sa,na,p):=by simpa using h1
  have e2:y=(sb,nb,q):=by simpa using h2
  subst e1;subst e2;have a':sa=lo:=a;have oV:sb=lo+na:=c1;have hle:=c3.le;subst a';refine⟨oV,b,c2,?_,rfl,?_,?_⟩
  ·have:sa+na+nb<=hi:=by
    have h3:sa+na+nb+r.length<=hi:=hle;lia
   lia
  ·show 1<=na+nb;have:1<=na:=b;lia
  ·show cj r (sa+(na+nb)) hi;rw[<- Nat.add_assoc];exact c3
 | x::r,i+1,lo,hi,sa,na,p,sb,nb,q,⟨a,b,c⟩,h1,h2=>by
  obtain⟨k1,k2,k3,k4,k5⟩:=cj.at (l:=r) (i:=i) c (by simpa using h1) (by simpa using h2);exact⟨k1,k2,k3,k4,a,b,k5⟩
 | [x],0,_,_,_,_,_,_,_,_,_,_,h2=>by simp at h2
 | [],_,_,_,_,_,_,_,_,_,_,h1,_=>by simp at h1
theorem cj.last:∀{l:List (Nat×Nat×Nat)}{lo hi:Nat}(f:Nat×Nat×Nat->Nat×Nat×Nat)(_:∀x,(f x).1=x.1/\(f x).2.1=x.2.1)(i:Nat),cj l lo hi->cj (l.modify i f) lo hi
 | [],lo,hi,f,hf,i,h=>by cases i <;> exact h
 | x::r,lo,hi,f,hf,0,⟨a,b,c⟩=>by
  refine⟨(hf x).1.trans a,by rw[(hf x).2];exact b,?_⟩;rw[(hf x).2];exact c
 | x::r,lo,hi,f,hf,i+1,⟨a,b,c⟩=>⟨a,b,cj.last f hf i c⟩
theorem PC(base:Nat):∀(m:List Keyed)(n:Nat)(arr:Array Keyed),base+n+m.length<=arr.size ->
  ((m.zipIdx n).foldl (fun(a:Array Keyed)(x:Keyed×Nat)=>match x with|(p,j)=>a.setIfInBounds (base+j) p) arr).toList=arr.toList.take (base+n)++m++arr.toList.drop (base+n+m.length)
 | [],n,arr,_=>by
  show arr.toList=_;rw[iP,tW,Nat.add_zero,j6]
 | p::m,n,arr,h=>by
  rw[aO] at h;rw[List.zipIdx_cons,List.foldl_cons];have hs:(arr.setIfInBounds (base+n) p).size=arr.size:=AS;rw[PC base m (n+1) _ (by rw[hs];lia),Array.toList_setIfInBounds];have hl:base+n<arr.toList.length:=by rw[aB];lia
  rw[<- Nat.add_assoc,List.take_set,List.drop_set_of_lt (by lia)];have e1:(arr.toList.take (base+n+1)).set (base+n) p=arr.toList.take (base+n) ++ [p]:=by
   rw[A4 hl,List.set_append_right _ _ (by rw[dN];lia)];rw[show base+n-(arr.toList.take (base+n)).length=0 by rw[dN];lia];rfl
  rw[e1,aO,show base+n+1+m.length=base+n+(m.length+1) by lia];simp
section
variable{prog:Program}{w:World}{A:Around}{E:Value->Shared->Prop}{s:Shared}{κ : SortKind}{Ok:Keyed->Prop}{st:SortSt}
structure SB(aA : Array Keyed)(κ : SortKind)(hi:Nat)(st:SortSt):Prop where
 arr:(arrOf st).toList.Perm aA.toList
 kind:kindOf st= κ
 fail:failedOf st=none
 jb:cj (pendingOf st).toList 0 hi
theorem SB.size{aA : Array Keyed}{hi:Nat}(x:SB aA κ hi st):(arrOf st).size=aA.size:=by
 have:=x.arr.length_eq;rw[aB,aB] at this;exact this
theorem SB.ok{aA : Array Keyed}{hi:Nat}(x:SB aA κ hi st)(h:∀p∈aA.toList,Ok p):∀p∈(arrOf st).toList,Ok p:=fun p hp=>h p (x.arr.mem_iff.mp hp)
theorem SB.pm{aA : Array Keyed}{hi:Nat}{ag:SortSt}(x:SB aA κ hi st)(p:Pm st ag):SB aA κ hi ag:=⟨p.arr.trans x.arr,p.kind.trans x.kind,p.fail.trans x.fail,by rw[p.pend];exact x.jb⟩
theorem Uu{v:SortSt}{Q:PUnit->SortSt->Prop}(h:Q ⟨⟩ v):wpS (model prog w) A E s (set v:StateT SortSt Sem PUnit) Q st:=by
 unfold wpS;rw[StateT.run_set];exact ai ⟨rfl,h⟩
theorem K7(base:Nat)(m:List Keyed)(arr:Array Keyed)(h:base+m.length<=arr.size) :
  (m.zipIdx.foldl (fun(a:Array Keyed)(x:Keyed×Nat)=>a.setIfInBounds (base+x.2) x.1) arr).toList=arr.toList.take base++m++arr.toList.drop (base+m.length):=PC base m 0 arr h
theorem L0(L:List Keyed){m b e:Nat}(h1:m<=b)(h2:b<=e):L.extract m b++L.extract b e=(L.drop m).take (e-m):=by
 rw[List.extract_eq_drop_take,List.extract_eq_drop_take,show e-m=(b-m)+(e-b) by lia,List.take_add,la,Nat.add_sub_cancel' h1]
theorem Kk{L r:List Keyed}{m c:Nat}(h:r.Perm ((L.drop m).take c))(hc:r.length=c):(L.take m++r++L.drop (m+r.length)).Perm L:=by
 subst hc;have e:L=L.take m++(L.drop m).take r.length++L.drop (m+r.length):=by
  rw[bT,<- la,j6,j6]
 refine List.Perm.trans ?_ (tS e.symm);exact kZ _ (mE _ h)
end
section
variable{prog:Program}{w:World}{A:Around}{E:Value->Shared->Prop}{s:Shared}
theorem J5{vs:List Value}{xs:Array Keyed}(h:xs.toList.Perm (pairsOf vs).toList):(xs.map (·.2)).toList.Perm vs:=by
 rw[Array.toList_map];refine(h.map (·.2)).trans (tS ?_);rw[pairsOf_toList,show(fun p:Keyed=>p.2)=Prod.snd from rfl,List.map_snd_zip (az _)]
end
end ux
namespace L2
open PySem PySem.Spec PyProof.Rows
theorem BX:∀{vs:List V}{us:List Value},Vals vs us->∀u∈us,∃v∈vs,RelV v u
 | _,_,.cons a t,u,hu=>by
  rcases aH.mp hu with rfl|hu
  ·exact⟨_,bb ..,a⟩
  ·obtain⟨v,hv,r⟩:=BX t u hu;exact⟨v,aX _ hv,r⟩
end L2
namespace L2
open PySem PySem.Spec PyProof.Rows PySem.W
def jH(h:Heap)(d:Addr)(es:Array DictEntry)(ep:Nat):Prop := ∃o,h.get? d=some o/\o.ExactDict/\o.data=.dict es ep
theorem jH.Hk{s:Shared}{d:Addr}{es:Array DictEntry}{ep:Nat}(x:jH s.heap d es ep):s.TypeIs (.ref d) "dict" := let ⟨o,ho,hc,_⟩:=x;⟨o,ho,hc.1⟩
theorem jH.to{h h':Heap}{d:Addr}{es:Array DictEntry}{ep:Nat}(x:jH h d es ep)(e:∀o,h.get? d=some o->h'.get? d=some o):jH h' d es ep:=let ⟨o,ho,r⟩:=x;⟨o,e _ ho,r⟩
section
variable{prog:Program}{w:World}{A:Around}{E:Value->Shared->Prop}{s:Shared}{it d:Addr}{es:Array DictEntry}{i ep:Nat}
theorem Tp{Q:Value->Shared->Prop}(lo:(d == sysModules)=false)(x:jH s.heap d es ep)
  (q:Q (.ref s.heap.objs.size) { s with heap:=s.heap.push { cls:=.type "dict_keyiterator",data:=.fields #[.ref d,.int 0 0,.int es.size 0,.int ep 0] } }):wpAny (model prog w) A (pyIter (.ref d)) Q E s:=by
 obtain⟨o,ho,hx,zx⟩:=id x;have hT:=x.Hk;refine wpAny_pyIter_slot hT PySem.F.slot_dict_iter (lm PySem.F.slot_dict_iter hT PySem.F.entry_dict_iter ?_ (PySem.F.args_dict_iter_1 _));unfold Builtin.«dict.__iter__»;refine ae ?_;unfold Builtin.Dict.dictSlotNone;refine ae (wpAny_notOrdered_dict hT ?_);refine ai (?_:wpAny _ _ (Builtin.Dict.showsAll d >>= _) _ _ s);unfold Builtin.Dict.showsAll;rw[af (by rw[lo];exact bf)];refine ae (ai (ae (wpAny_dictEntries ho zx (ae (wpAny_dictEpoch ho zx ?_)))));exact ae (iT (ai ⟨_,rfl,"dict_keyiterator",_,⟨_,cf _ rfl,rfl⟩,xn.lookup,q⟩))
theorem Uc{Q:Option Value->Shared->Prop}(st:s.heap.IsKeyIter it d i es.size ep)(x:jH s.heap d es ep)(hi:i<es.size)
  (q:∀h',h'.IsKeyIter it d (i+1) es.size ep->Heap.SameBut it s.heap h'->Q (some es[i].key) { s with heap:=h' }):wpAny (model prog w) A (pyNext (.ref it)) Q E s:=by
 obtain⟨o,ho,hc,hd⟩:=id st;obtain⟨od,vV,hxd,kG⟩:=id x;unfold pyNext;refine ae (wpAny_attempt (ud (name:=Str.ofString "__next__") st.typeIs xn (lm xn st.typeIs PySem.F.entry_dict_keyiterator_next ?_ (PySem.F.args_dict_keyiterator_next_1 _))));refine ae (ai (ae (ae ?_)))
 first|refine ae (A7 st.typeIs (ai (ae (ue ho hd ?_))))|refine ae (A8 st.typeIs (ai (ae (ue ho hd ?_))))
 have own:Builtin.Dict_items.ownsTuple "dict_keyiterator" = false:=by decide
 simp only[own,qK,ig];change wpAny _ _ (if(Value.ref d == Value.none)=true then _ else _) _ _ s
 rw[af (fun z:(Value.ref d == Value.none)=true=>bf z)];refine ae (ai (ae (wpAny_dictEntries vV kG ?_)));rw[af (by simp)];refine ae (ai (ae (wpAny_dictEpoch vV kG ?_)));rw[af (by simp)];refine ai ?_;simp only[show ¬ ((i:Int)<0) by lia,ig,tQ,eY hi];refine ae ?_;first|refine ae (A7 st.typeIs (ai (ae (wpAny_isOneOf_keyiter st.typeIs ?_))))|refine ae (A8 st.typeIs (ai (ae (wpAny_isOneOf_keyiter st.typeIs ?_))))
 change wpAny _ _ (setField (.ref it) 1 (rawInt ((i:Int)+1)) >>= _) _ _ s;refine ae (oR ho hd (by simp) ?_);have aG:(s.heap.update it (Obj.mapFields (·.setIfInBounds 1 (rawInt ((i:Int)+1))))).IsKeyIter it d (i+1) es.size ep:=⟨_,qM _ ho (Obj.isFreed_of_fields (oJ hd _)),(Obj.cls_mapFields ..).trans hc,by rw[oJ hd];simp[rawInt]⟩;refine ae (iS (ae (wpAny_isOneOf_keyiter (s:={ s with heap:=s.heap.update it (Obj.mapFields (·.setIfInBounds 1 (rawInt ((i:Int)+1)))) }) aG.typeIs ?_)));change wpAny _ _ (pure es[i].key) _ _ _;exact ai (ai ⟨_,rfl,ai (q _ aG (w6 ..))⟩)
theorem TQ{Q:Option Value->Shared->Prop}(hh:A.handled=none)(st:s.heap.IsKeyIter it d i es.size ep)(x:jH s.heap d es ep)(hi:es.size<=i)
  (q:∀h',Heap.ExtBut it s.heap h'->Q none { s with heap:=h' }):wpAny (model prog w) A (pyNext (.ref it)) Q E s:=by
 obtain⟨o,ho,hc,hd⟩:=id st;obtain⟨od,vV,hxd,kG⟩:=id x;unfold pyNext;refine ae (wpAny_attempt (ud (name:=Str.ofString "__next__") st.typeIs xn (lm xn st.typeIs PySem.F.entry_dict_keyiterator_next ?_ (PySem.F.args_dict_keyiterator_next_1 _))));refine ae (ai (ae (ae ?_)))
 first|refine ae (A7 st.typeIs (ai (ae (ue ho hd ?_))))|refine ae (A8 st.typeIs (ai (ae (ue ho hd ?_))))
 have own:Builtin.Dict_items.ownsTuple "dict_keyiterator" = false:=by decide
 simp only[own,qK,ig];change wpAny _ _ (if(Value.ref d == Value.none)=true then _ else _) _ _ s
 rw[af (fun z:(Value.ref d == Value.none)=true=>bf z)];refine ae (ai (ae (wpAny_dictEntries vV kG ?_)));rw[af (by simp)];refine ae (ai (ae (wpAny_dictEpoch vV kG ?_)));rw[af (by simp)];refine ai ?_;simp only[show ¬ ((i:Int)<0) by lia,ig,tQ,tN hi];refine ae ?_;first|refine ae (A7 st.typeIs (ai ?_))|refine ae (A8 st.typeIs (ai ?_))
 change wpAny _ _ (setField (.ref it) 0 .none >>= _) _ _ s;refine ae (oR ho hd (by simp) ?_);change wpAny _ _ (newExc (.type "StopIteration") [] >>= _) _ _ _;refine ae ?_;simp only[newExc,newTuple];refine ae (iT (ae (m:=firstArgMember _ _) (wpAny_of_eq (a:=Value.none) (by first|rfl|(simp only[firstArgMember];rfl)) (iT ?_ (by size_fits)))) (by size_fits))
 simp only[raiseNew];refine ae (wpAny_handled ?_);rw[show A.in1.handled=none from hh];refine ae (ai (wpAny_throw ?_));refine ae (xu (T := "StopIteration") (b:=true) (v:=.ref _) (by exact⟨_,cf _ rfl,rfl⟩) isSubtype_stop ?_);exact ai (q _ (((w6 ..).extBut.push _).push _))
theorem SI(hh:A.handled=none)(bQ:d≠it):Walks prog w A it [it,d] [it] es.size (fun i v=>∃e,es[i]?= some e/\v=e.key) (fun i h=>h.IsKeyIter it d i es.size ep/\jH h d es ep) where
 sub:=fun b hb=>aH.mpr (.inl (bi.mp hb))
 frame:=fun _ _ _ st hk=>⟨st.1.at fun o e=>hk it (bb ..) o e,st.2.to fun o e=>hk d (aX _ (bb ..)) o e⟩
 item:=fun j s Q E hj st hQ=>Uc st.1 st.2 hj fun h' ag sb=>hQ _ h' s.toks ⟨_,eY hj,rfl⟩ ⟨ag,st.2.to fun o e=>sb.extBut d o bQ e⟩ fun b o hb e=>sb.extBut b o (fun z=>hb (bi.mpr z)) e
 done:=fun s Q E st hQ=>TQ hh st.1 st.2 (az _) fun h' he=>hQ h' s.toks fun b o hb e=>he b o (fun z=>hb (bi.mpr z)) e
 self:=fun _ _ _ _ st hQ=>wpAny_pyIter_keyiter st.1 hQ
theorem UP(lo:(d == sysModules)=false):KdlSrc prog w "dict" d d es.size (fun i v=>∃e,es[i]?= some e/\v=e.key) (fun h=>jH h d es ep) where
 type:=fun _ x=>x.Hk
 there:=fun _ ⟨o,ho,_⟩=>⟨aU ho,aU ho⟩
 keep:=fun _ _ x hk=>x.to fun o e=>hk d (.inl rfl) o e
 notList:=by decide
 notTuple:=by decide
 hint:=fun _ _ _ _ x hq=>kdl_hint_dict x.Hk hq
 iter:=fun _ _ hh x=>⟨_,_,(fun _ _ hq=>Tp lo x hq),SI hh (let ⟨o,ho,_⟩:=x;bY (aU ho)),⟨⟨_,cf _ rfl,rfl,rfl⟩,x.to fun _ e=>aK _ e⟩⟩
end
end L2
namespace L2
open PySem PySem.Spec PyProof.Rows
def ve(lo c:Int)(n:Nat):It:=⟨fun i _=>i<n,fun i H x H'=>H'=H/\x=.int (lo+i*c),fun i _=>n<=i⟩
theorem RI{P:Program}{w:World}{K:PySem.W.Frag}{tg:Expr}(it:Addr)(lo c:Int)(n:Nat):Turn P w K tg (ve lo c n) [it] it (fun i h=>IsRangeIter h it (lo+(i:Nat)*c) ((n:Int)-(i:Nat)) c) where
 mem:=bi.mpr rfl
 obj:=fun i h st b hb=>by
  obtain rfl:=bi.mp hb;exact⟨_,st,fun v z=>by
   have z2:Data.fields _=Data.cell v:=z;exact nomatch z2⟩
 keep:=fun i h h' st k=>k it (bi.mpr rfl) _ st
 item:=by
  intro X eP ew eK hc i pins s σ H E I hf st hg;subst eP ew eK;obtain⟨f0,f1,f2,f3,f4,f5⟩:=hf it (bi.mpr rfl);refine(Walks.range (prog:=X.prog) (w:=X.w) (I.ok.hd hc) it lo c n).item i s _ _ hg st fun v h' tk hv ag kk=>?_;obtain⟨t,rfl⟩:=hv;have I1:Inv X pins σ H { s with heap:=h',toks:=tk }:=I.turned (fun b o hb e=>kk b o (fun z=>hb (bi.mp z)) e) f0 f1 f3 f4 f5;exact⟨_,rfl,vd (s:={ s with heap:=h',toks:=tk }) (n := "range_iterator") ag rfl rfl (by decide) ⟨.int (lo+i*c),H,I1,⟨t,rfl⟩,⟨rfl,rfl⟩,ag,fun b hb=>(hf b hb).1⟩⟩
 done:=by
  intro X eP ew eK hc i pins s σ H E I hf st hg;subst eP ew eK;obtain⟨f0,f1,f2,f3,f4,f5⟩:=hf it (bi.mpr rfl);have hni:n<=i:=hg;exact wpAny_pyNext_range_end (I.ok.hd hc) st (by lia) fun h' eb=>⟨rfl,I.turned (t':=s.toks) (fun b o hb e=>eb b o hb e) f0 f1 f3 f4 f5⟩
 self:=fun _ _ _ _ _ st h=>wpAny_pyIter_rangeiter st h
theorem SE{lo c:Int}{n:Nat}{g:TG}{tb:TS}{D:Ends}{σ : St}{H:Hp}(Pv:Nat->St->Hp->Prop)(h0:Pv 0 σ H)
  (hs:∀i σ H,i<n->Pv i σ H->g (.int (lo+i*c)) σ H fun dW H2=>tb { D with nx:=Pv (i+1),ct:=Pv (i+1),bk:=D.nx } dW H2) (hd:∀ σ H,Pv n σ H->D.nx σ H) :
  ∃W:Nat->Nat->St->Hp->Prop,(∃m,W 0 m σ H)/\∀i m σ H,W i m σ H ->
   ((ve lo c n).stop i H/\D.nx σ H)\/((ve lo c n).go i H/\∃N:St->Hp->Prop,(∀ ao H',N ao H'->∃m',m'<m/\W (i+1) m' ao H')/\∀x H',(ve lo c n).kX i H x H'->g x σ H' fun dW H2=>tb { D with nx:=N,ct:=N,bk:=D.nx } dW H2):=by
 refine⟨fun i m σ H=>m=n-i/\i<=n/\Pv i σ H,⟨n,rfl,bj _,h0⟩,?_⟩;rintro i m σ H ⟨rfl,hi,hp⟩;rcases Nat.lt_or_ge i n with hl|hl
 ·refine .inr ⟨hl,Pv (i+1),fun ao H' hN=>⟨n-(i+1),by lia,rfl,hl,hN⟩,?_⟩;rintro x H' ⟨rfl,rfl⟩;exact hs i σ _ hl hp
 ·obtain rfl:i=n:=by lia
  exact .inl ⟨hl,hd σ H hp⟩
end L2
namespace iY
open PySem
def nx(m i:Nat):Nat:=(i*5+1) % (m+1)
def kR(m:Nat):Nat->Nat->Nat
 | 0,i=>i
 | n+1,i=>kR m n (nx m i)
theorem yh(m:Nat):∀a b i,kR m (a+b) i=kR m b (kR m a i)
 | 0,b,i=>by rw[mG];rfl
 | a+1,b,i=>by rw[A6];exact yh m a b (nx m i)
def seen(m:Nat):Nat->Nat->Nat->Nat
 | 0,_,acc=>acc
 | n+1,i,acc=>seen m n (nx m i) (acc ||| (1 <<< i))
theorem Ko(m:Nat):∀n i acc j,(seen m n i acc).testBit j=true->acc.testBit j=true\/∃k,k<n/\kR m k i=j
 | 0,_,_,_,h=>.inl h
 | n+1,i,acc,j,h=>by
  rcases Ko m n (nx m i) _ j h with h|⟨k,hk,e⟩
  ·rw[Nat.testBit_or,qL] at h;rcases h with h|h
   ·exact .inl h
   ·rw[Nat.testBit_shiftLeft] at h;have h2:i<=j/\(1:Nat).testBit (j-i)=true:=by simpa using h
    have h3:j-i=0:=by
     have:=h2.2;rw[Nat.testBit_one_eq_true_iff_self_eq_zero] at this;exact this
    exact .inr ⟨0,t5 _,by show i=j;lia⟩
  ·exact .inr ⟨k+1,Nat.succ_lt_succ hk,e⟩
def Good(m:Nat):Prop:=m=7\/m=15\/m=31\/m=63\/m=127\/m=255\/m=511\/m=1023\/m=2047\/m=4095
def C9(m:Nat):Bool:=seen m (m+1) 0 0 == 2 ^ (m+1)-1&&kR m (m+1) 0 == 0
theorem LH{m:Nat}(h:Good m):C9 m=true:=by
 rcases h with h|h|h|h|h|h|h|h|h|h <;> subst h <;> decide +kernel
theorem NL{m j:Nat}(h:Good m)(hj:j<=m):∃n,n<=m/\kR m n 0=j:=by
 have hc:=LH h;unfold C9 at hc;rw[cP] at hc;have h1:=eq_of_beq hc.1;have hb:(seen m (m+1) 0 0).testBit j=true:=by
  rw[h1,Nat.testBit_two_pow_sub_one];exact aR (by lia)
 rcases Ko m (m+1) 0 0 j hb with h|⟨k,hk,e⟩
 ·simp at h
 ·exact⟨k,by lia,e⟩
theorem V4{m:Nat}(h:Good m):kR m (m+1) 0=0:=by
 have hc:=LH h;unfold C9 at hc;rw[cP] at hc;exact eq_of_beq hc.2
theorem reach{m i j:Nat}(h:Good m)(hi:i<=m)(hj:j<=m):∃n,n<=m/\kR m n i=j:=by
 obtain⟨a,ha,ea⟩:=NL h hi;obtain⟨b,hb,eb⟩:=NL h hj;by_cases jS:a<=b
 ·refine⟨b-a,by lia,?_⟩;rw[<- ea,<- yh,Nat.add_sub_cancel' jS];exact eb
 ·refine⟨m+1-a+b,by lia,?_⟩;rw[<- ea,<- yh,show a+(m+1-a+b)=(m+1)+b by lia,yh,V4 h];exact eb
def bA(t:SetTable):Nat->SetTable.Probe->SetTable.Probe
 | 0,p=>p
 | n+1,p=>bA t n (t.advance p)
theorem pC(t:SetTable):∀a b p,bA t (a+b) p=bA t b (bA t a p)
 | 0,b,p=>by rw[mG];rfl
 | a+1,b,p=>by rw[A6];exact pC t a b (t.advance p)
def lp(t:SetTable)(p:SetTable.Probe):SetTable.Probe:={ p with j:=(p.i*5+1+p.perturb / 32) % (t.mask+1),more:=SetTable.runEnd t.mask ((p.i*5+1+p.perturb / 32) % (t.mask+1))-(p.i*5+1+p.perturb / 32) % (t.mask+1),i:=(p.i*5+1+p.perturb / 32) % (t.mask+1),perturb:=p.perturb / 32 }
theorem CB(t:SetTable):∀(n:Nat)(p:SetTable.Probe),p.more=n->bA t (n+1) p=lp t p
 | 0,p,h=>by
  show t.advance p=lp t p;unfold SetTable.advance;rw[af (by lia)];rfl
 | n+1,p,h=>by
  show bA t (n+1) (t.advance p)=lp t p;have e:t.advance p= { p with j:=p.j+1,more:=p.more-1 }:=by
   unfold SetTable.advance;rw[ah (by lia)]
  rw[e,CB t n { p with j:=p.j+1,more:=p.more-1 } (by show p.more-1=n;lia)];rfl
def cz(t:SetTable):Nat->SetTable.Probe->SetTable.Probe
 | 0,p=>p
 | n+1,p=>cz t n (lp t p)
theorem Uy(t:SetTable)(p:SetTable.Probe):(lp t p).more<=9:=by
 show SetTable.runEnd t.mask _-_<=9;unfold SetTable.runEnd
 split <;> lia
theorem K3(t:SetTable):∀(k:Nat)(p:SetTable.Probe),p.more<=9->∃n,n<=10*k/\bA t n p=cz t k p
 | 0,p,_=>⟨0,az _,rfl⟩
 | k+1,p,h=>by
  obtain⟨n,hn,e⟩:=K3 t k (lp t p) (Uy t p);refine⟨p.more+1+n,by lia,?_⟩;rw[pC,CB t p.more p rfl,e];rfl
theorem x5(t:SetTable):∀(k:Nat)(p:SetTable.Probe),cz t (k+1) p=lp t (cz t k p)
 | 0,_=>rfl
 | k+1,p=>x5 t k (lp t p)
theorem Ci(t:SetTable):∀(k:Nat)(p:SetTable.Probe),(cz t k p).perturb=p.perturb / 32 ^ k
 | 0,p=>by simp[cz]
 | k+1,p=>by
  show(cz t k (lp t p)).perturb=_;rw[Ci t k (lp t p)];show p.perturb / 32 / 32 ^ k=_;rw[Nat.div_div_eq_div_mul,Nat.pow_succ,Nat.mul_comm]
theorem BZ(t:SetTable):∀(n:Nat)(p:SetTable.Probe),p.perturb=0->(cz t n p).i=kR t.mask n p.i/\(1<=n->(cz t n p).j=(cz t n p).i)/\(cz t n p).perturb=0
 | 0,p,h=>⟨rfl,fun z=>absurd z (by decide),h⟩
 | n+1,p,h=>by
  have h0:(lp t p).perturb=0:=by show p.perturb / 32=0;rw[h]
  have hi:(lp t p).i=nx t.mask p.i:=by show(p.i*5+1+p.perturb / 32) % (t.mask+1)=_;rw[h];rfl
  obtain⟨a,b,c⟩:=BZ t n (lp t p) h0;refine⟨?_,fun _=>?_,c⟩
  ·show(cz t n (lp t p)).i=_;rw[a,hi];rfl
  ·cases n with
   | zero=>rfl
   | succ n=>exact b (by lia)
theorem meets{t:SetTable}{p:SetTable.Probe}(hg:Good t.mask)(hm:p.more<=9)(hp:p.perturb<2 ^ 64){j:Nat}(hj:j<=t.mask):∃n,n<10*SetTable.turns t.mask/\(bA t n p).j=j:=by
 have h0:(cz t 13 p).perturb=0:=by
  rw[Ci];exact Nat.div_eq_of_lt (cR hp (by decide))
 have hi:(cz t 13 p).i<=t.mask:=by
  rw[x5];exact xk (t4 _ (t5 _))
 have hji:(cz t 13 p).j=(cz t 13 p).i:=by
  rw[x5];rfl
 obtain⟨n,hn,e⟩:=reach hg hi hj;obtain⟨a,b,_⟩:=BZ t n (cz t 13 p) h0;have hl:(cz t n (cz t 13 p)).j=j:=by
  cases n with
  | zero=>exact hji.trans e
  | succ n=>rw[b (by lia),a,e]
 have FD:∀(a b:Nat)(p:SetTable.Probe),cz t (a+b) p=cz t b (cz t a p):=by
  intro a
  induction a with
  | zero=>intro b p;rw[mG];rfl
  | succ a ih=>intro b p;rw[A6];exact ih b (lp t p)
 obtain⟨c,hc,ec⟩:=K3 t (13+n) p hm;refine⟨c,?_,?_⟩
 ·unfold SetTable.turns;lia
 ·rw[ec,FD];exact hl
theorem xZ(t:SetTable)(h:Int):(t.probeStart h).more<=9/\(t.probeStart h).perturb<2 ^ 64/\(t.probeStart h).dummy=none:=by
 refine⟨?_,?_,rfl⟩
 ·show SetTable.runEnd t.mask _-_<=9;unfold SetTable.runEnd
  split <;> lia
 ·show SetTable.bits h<2 ^ 64;unfold SetTable.bits;have h1:=dX h (by decide:((2:Int) ^ 64)≠0);have h2:=eZ h (by decide:(0:Int)<2 ^ 64);lia
theorem RA{t:SetTable}(hd:t.dummies=#[])(hf:t.fill<=t.mask):∃j,j<=t.mask/\t.slot j=.empty:=by
 apply AV;intro hn;have cy:∀j,j<=t.mask->j∈t.place.toList:=fun j hj=>by
  have h1:t.slot j ≠ .empty:=fun z=>hn ⟨j,hj,z⟩;unfold SetTable.slot at h1;dsimp only at h1
  split at h1
  ·rename_i h2
   have h3:=eq_of_beq h2;rw[<- bE] at h3;exact cQ h3
  ·exfalso;rw[hd] at h1;exact h1 rfl
 have s_:(List.range (t.mask+1)) ⊆ t.place.toList:=fun j hj=>cy j (by have:=h_.mp hj;lia);have hlen:=(List.nodup_range (n:=t.mask+1)).length_le_of_subset s_;rw[tX,aB] at hlen;unfold SetTable.fill at hf;lia
theorem JY{t:SetTable}{p:SetTable.Probe}(hg:Good t.mask)(hp:p.perturb<2 ^ 64){j:Nat}(hj:j<=t.mask):∃k,k<=13+t.mask/\(cz t k p).i=j:=by
 have h0:(cz t 13 p).perturb=0:=by
  rw[Ci];exact Nat.div_eq_of_lt (cR hp (by decide))
 have hi:(cz t 13 p).i<=t.mask:=by
  rw[x5];exact xk (t4 _ (t5 _))
 obtain⟨n,hn,e⟩:=reach hg hi hj;obtain⟨a,_,_⟩:=BZ t n (cz t 13 p) h0;have FD:∀(a b:Nat)(p:SetTable.Probe),cz t (a+b) p=cz t b (cz t a p):=by
  intro a
  induction a with
  | zero=>intro b p;rw[mG];rfl
  | succ a ih=>intro b p;rw[A6];exact ih b (lp t p)
 exact⟨13+n,by lia,by rw[FD,a,e]⟩
theorem BL{t:SetTable}{owner:Array (Option Nat)}{j:Nat}(ho:owner.getD j (some 0)=none):∀(k cW:Nat)(p:SetTable.Probe),k<cW->(cz t k p).i=j ->
  ∃j',SetTable.layClean.free t.mask owner cW p.i p.perturb=some j'/\owner.getD j' (some 0)=none
 | k,0,_,h,_=>absurd h (ie _)
 | k,cW+1,p,hk,e=>by
  unfold SetTable.layClean.free;cases hf:(List.range (SetTable.runEnd t.mask p.i+1-p.i)).find? fun k=>(owner.getD (p.i+k) (some 0)).isNone with
  | some k' =>
   have h1:=List.find?_some hf;exact⟨p.i+k',rfl,Option.isNone_iff_eq_none.mp h1⟩
  | none =>
   cases k with
   | zero =>
    exfalso;have e':p.i=j:=e;have h1:=List.find?_eq_none.mp hf 0 (h_.mpr (by unfold SetTable.runEnd;split <;> lia))
    rw[Nat.add_zero,e',ho] at h1;exact h1 rfl
   | succ k =>
    exact BL ho k cW (lp t p) (by lia) e
theorem Jg{β : Type}{g g':Nat->Option β}:∀l:List Nat,(∀k∈l,g' k=g k)->l.filterMap g'=l.filterMap g
 | [],_=>rfl
 | y::l,h=>by
  have ih:=Jg l fun k hk=>h k (aX _ hk);have hy:=h y (bb ..);cases hg:g y with
  | none=>rw[tU (by rw[hy,hg]),tU hg,ih]
  | some z=>rw[oE (by rw[hy,hg]),oE hg,ih]
theorem Jc{β : Type}{g g':Nat->Option β}{j:Nat}{x : β}(h0:g j=none)(h1:g' j=some x)(h2:∀k,k≠j->g' k=g k):∀l:List Nat,l.Nodup->j∈l->(l.filterMap g').Perm (x::l.filterMap g)
 | y::l,hn,hj=>by
  obtain⟨hy,hl⟩:=dO.mp hn;by_cases e:y=j
  ·subst e;rw[oE h1,tU h0];have:l.filterMap g'=l.filterMap g:=Jg l fun k hk=>h2 k fun z=>hy (z ▸ hk);rw[this]
  ·have lB:j∈l:=(aH.mp hj).resolve_left (fH e);have ih:=Jc h0 h1 h2 l hl lB;cases hg:g y with
   | none =>
    rw[tU (by rw[h2 y e,hg]),tU hg];exact ih
   | some z =>
    rw[oE (by rw[h2 y e,hg]),oE hg];exact(ih.cons z).trans (List.Perm.swap ..)
def df(m:Nat)(owner:Array (Option Nat)):List (Nat×Nat):=(List.range (m+1)).filterMap fun j=>(owner.getD j none).map (j,·)
structure Own(m:Nat)(owner:Array (Option Nat))(k:Nat):Prop where
 size:owner.size=m+1
 perm:((df m owner).map (·.2)).Perm (List.range k)
theorem Lp{m:Nat}{owner:Array (Option Nat)}{k:Nat}(h:Own m owner k):(df m owner).length=k:=by
 have:=h.perm.length_eq;rw[aW,tX] at this;exact this
theorem KU{m:Nat}{owner:Array (Option Nat)}{k:Nat}(h:Own m owner k)(hk:k<=m):∃j,j<=m/\owner.getD j (some 0)=none:=by
 apply AV;intro hn;have cy:∀j∈List.range (m+1),((owner.getD j none).map (Prod.mk j)).isSome=true:=fun j hj=>by
  have lB:=h_.mp hj;cases ho:owner.getD j none with
  | some v=>rfl
  | none =>
   exfalso;refine hn ⟨j,by lia,?_⟩;have hs:j<owner.size:=by rw[h.size];exact lB
   simp only[Array.getD,hs,dif_pos] at ho ⊢;exact ho
 have hl:(df m owner).length=m+1:=by
  unfold df;have:∀(l:List Nat)(g:Nat->Option (Nat×Nat)),(∀j∈l,(g j).isSome=true)->(l.filterMap g).length=l.length:=by
   intro l g
   induction l with
   | nil=>exact fun _=>rfl
   | cons y l ih =>
    intro hg;obtain⟨z,hz⟩:=Option.isSome_iff_exists.mp (hg y (bb ..));rw[oE hz,aO,aO,ih fun j hj=>hg j (aX _ hj)]
  rw[this _ _ cy,tX]
 have:=Lp h;lia
theorem Ly{m:Nat}{owner:Array (Option Nat)}{k j:Nat}(h:Own m owner k)(hj:owner.getD j (some 0)=none):Own m (owner.setIfInBounds j (some k)) (k+1):=by
 have hs:j<owner.size:=by
  apply AV;intro hn;rw[Array.getD,dif_neg hn] at hj;cases hj
 refine⟨by rw[AS];exact h.size,?_⟩;have hp:(df m (owner.setIfInBounds j (some k))).Perm ((j,k)::df m owner):=by
  refine Jc ?_ ?_ (fun y hy=>?_) _ List.nodup_range (h_.mpr (by rw[<- h.size];exact hs))
  ·have:owner.getD j none=none:=by
    simp only[Array.getD,hs,dif_pos] at hj ⊢;exact hj
   rw[this];rfl
  ·have:(owner.setIfInBounds j (some k)).getD j none=some k:=by
    simp[Array.getD,hs]
   rw[this];rfl
  ·have:(owner.setIfInBounds j (some k)).getD y none=owner.getD y none:=by
    simp only[Array.getD,AS]
    split
    ·rename_i hU
     exact Array.getElem_setIfInBounds_ne (by simpa using hU) (fH hy)
    ·rfl
   rw[this]
 refine(hp.map (·.2)).trans ?_;rw[bt];refine((h.perm.cons k)).trans ?_;rw[List.range_succ];exact j5 (oj :=[k]) (qA := List.range k)
theorem Kj{m:Nat}(hg:Good m):∀(hs:List Int)(owner:Array (Option Nat))(k:Nat),Own m owner k->k+hs.length<=m ->
  ∃kf,hs.foldl (fun(acc:Option (Array (Option Nat)×Nat)) h=>do
   let (owner,k) <- acc
   let j <- SetTable.layClean.free m owner (SetTable.turns m) (SetTable.bits h % (m+1)) (SetTable.bits h)
   pure (owner.setIfInBounds j (some k),k+1)) (some (owner,k))=some (kf,k+hs.length)/\Own m kf (k+hs.length)
 | [],owner,k,h,_=>⟨owner,rfl,h⟩
 | x::hs,owner,k,h,hl=>by
  rw[aO] at hl;obtain⟨j,hj,ho⟩:=KU h (by lia);have t:SetTable:={ mask:=m,place :=#[],dummies :=#[],finger:=0,led:=true,moves:=0,plain:=true };have hb:SetTable.bits x<2 ^ 64:=(xZ (SetTable.fresh 0 0 true) x).2.1;obtain⟨n,hn,e⟩:=JY (t:={ mask:=m,place :=#[],dummies :=#[],finger:=0,led:=true,moves:=0,plain:=true }) (p:={ j:=0,more:=0,i:=SetTable.bits x % (m+1),perturb:=SetTable.bits x,dummy:=none }) hg hb hj;obtain⟨j',hf,cp⟩:=BL ho n (SetTable.turns m) _ (by unfold SetTable.turns;have:n<=13+m:=hn;lia) e;have xy:SetTable.layClean.free m owner (SetTable.turns m) (SetTable.bits x % (m+1)) (SetTable.bits x)=some j':=hf;obtain⟨kf,h1,h2⟩:=Kj hg hs _ (k+1) (Ly h cp) (by lia);refine⟨kf,?_,by rw[aO,show k+(hs.length+1)=k+1+hs.length by lia];exact h2⟩;rw[List.foldl_cons];simp only[Option.bind_eq_bind,Option.bind_some,xy,Option.pure_def];rw[aO,show k+(hs.length+1)=k+1+hs.length by lia];exact h1
theorem U1{m:Nat}(hg:Good m)(fi mo:Nat)(led plain:Bool)(hs:Array Int)(hl:hs.size<=m):∃t order,SetTable.laid m fi mo led plain hs=some (t,order)/\t.mask=m/\t.dummies=#[]/\t.place.size=hs.size/\order.toList.Perm (List.range hs.size)/\t.led=led/\t.plain=plain/\t.moves=mo/\t.place.toList.Pairwise (· < ·):=by
 have h0:Own m (Array.replicate (m+1) none) 0:=by
  refine⟨Array.size_replicate,?_⟩;have:df m (Array.replicate (m+1) none)=[]:=by
   unfold df;rw[List.filterMap_eq_nil_iff];intro j hj;have:(Array.replicate (m+1) (none:Option Nat)).getD j none=none:=by
    simp[Array.getD]
   rw[this];rfl
  rw[this];exact jo _
 obtain⟨owner,h1,h2⟩:=Kj hg hs.toList _ 0 h0 (by rw[aB];lia);rw[mG,aB] at h1 h2;have hc:SetTable.layClean m hs=some owner:=by
  unfold SetTable.layClean;rw[<- Array.foldl_toList];have:=congrArg (Option.map (·.1)) h1;exact this
 refine⟨{ mask:=m,place:=((df m owner).map (·.1)).toArray,dummies :=#[],finger:=fi,led:=led,moves:=mo,plain:=plain },((df m owner).map (·.2)).toArray,?_,rfl,rfl,?_,?_,rfl,rfl,rfl,?_⟩
 ·unfold SetTable.laid;rw[hc];rfl
 ·show((df m owner).map (·.1)).toArray.size=_;rw[bX,aW,Lp h2]
 ·show((df m owner).map (·.2)).toArray.toList.Perm _;exact h2.perm
 ·show((df m owner).map (·.1)).toArray.toList.Pairwise (· < ·);have s_:((df m owner).map (·.1)).Sublist (List.range (m+1)):=by
   unfold df;generalize List.range (m+1)=l
   induction l with
   | nil=>exact List.Sublist.slnil
   | cons y l ih =>
    cases hy:owner.getD y none with
    | none =>
     rw[tU (by rw[hy];rfl)];exact ih.cons _
    | some v =>
     rw[oE (b:=(y,v)) (by rw[hy];rfl)];exact ih.cons_cons y
  exact qN s_ List.pairwise_lt_range
def iX(xs:Array Nat):Prop:=xs.toList.Pairwise (· < ·)
theorem rQ{xs:Array Nat}(h:iX xs){i j:Nat}(eU:i<j)(hj:j<xs.size):xs[i]'(Nat.lt_trans eU hj)<xs[j]:=by
 have:=lg.mp h i j (by rw[aB];lia) (by rw[aB];exact hj) eU
 simpa using this
theorem BQ{xs:Array Nat}(h:iX xs)(j:Nat):∀(cW lo hi:Nat),lo<=hi->hi<=xs.size->hi-lo<=cW->(∀i (cn:i<xs.size),i<lo->xs[i]<j)->(∀i (cn:i<xs.size),hi<=i -> ¬ xs[i]<j) ->
  ∀r,SetTable.below.go xs j cW lo hi=r->r<=xs.size/\(∀i (cn:i<xs.size),i<r->xs[i]<j)/\(∀i (cn:i<xs.size),r<=i -> ¬ xs[i]<j)
 | 0,lo,hi,h1,h2,h3,a,b,r,e=>by
  have e':lo=r:=e;subst e';have:lo=hi:=by lia
  subst this;exact⟨h2,a,b⟩
 | cW+1,lo,hi,h1,h2,h3,a,b,r,e=>by
  unfold SetTable.below.go at e;by_cases hl:lo<hi
  ·rw[ah hl] at e;dsimp only at e;have hm:(lo+hi) / 2<xs.size:=by lia
   have hgd:xs.getD ((lo+hi) / 2) j=xs[(lo+hi) / 2]:=by simp[Array.getD,hm]
   rw[hgd] at e;by_cases hx:xs[(lo+hi) / 2]<j
   ·rw[ah hx] at e;refine BQ h j cW ((lo+hi) / 2+1) hi (by lia) h2 (by lia) (fun i cn aD=>?_) b r e;by_cases e2:i=(lo+hi) / 2
    ·subst e2;exact hx
    ·exact Nat.lt_trans (rQ h (show i<(lo+hi) / 2 by lia) hm) hx
   ·rw[af hx] at e;refine BQ h j cW lo ((lo+hi) / 2) (by lia) (by lia) (by lia) a (fun i cn hle=>?_) r e;by_cases e2:i=(lo+hi) / 2
    ·subst e2;exact hx
    ·have:=rQ h (show(lo+hi) / 2<i by lia) cn;lia
  ·rw[af hl] at e;subst e;have:lo=hi:=by lia
   subst this;exact⟨h2,a,b⟩
theorem uD{xs:Array Nat}(h:iX xs)(j:Nat):SetTable.below xs j<=xs.size/\(∀i (cn:i<xs.size),i<SetTable.below xs j->xs[i]<j)/\(∀i (cn:i<xs.size),SetTable.below xs j<=i -> ¬ xs[i]<j) :=
 BQ h j xs.size 0 xs.size (bj _) (az _) (by lia) (fun _ _ z=>absurd z (ie _)) (fun i cn z=>by lia) _ rfl
theorem Jh{α : Type}(xs:Array α)(p:Nat)(x : α):(SetTable.insertAt xs p x).toList=xs.toList.take p++x::xs.toList.drop p:=by
 unfold SetTable.insertAt;simp[fF,List.extract];rw[j7];simp
theorem R9{xs:Array Nat}(h:iX xs){j:Nat}(hj:j∉xs.toList):iX (SetTable.insertAt xs (SetTable.below xs j) j):=by
 obtain⟨h1,h2,h3⟩:=uD h j;unfold iX;rw[Jh,fb];refine⟨qN (xi _ _) h,?_,?_⟩
 ·rw[A2];refine⟨fun y hy=>?_,qN (List.drop_sublist _ _) h⟩;obtain⟨i,hi,e⟩:=AY.mp hy;rw[dF,aB] at hi;rw[List.getElem_drop] at e;have:=h3 (SetTable.below xs j+i) (by lia) (by lia);have e2:y=xs[SetTable.below xs j+i]'(by lia):=by rw[<- e];simp
  have bQ:y≠j:=fun z=>hj (z ▸ tZ hy);lia
 ·intro a ha b hb;obtain⟨i,hi,e⟩:=AY.mp ha;rw[dN,aB] at hi;rw[List.getElem_take] at e;have h4:=h2 i (by lia) (by lia);have e2:a=xs[i]'(by lia):=by rw[<- e];simp
  rcases aH.mp hb with rfl|hb
  ·lia
  ·obtain⟨k,hk,ek⟩:=AY.mp hb;rw[dF,aB] at hk;rw[List.getElem_drop] at ek;have h5:=h3 (SetTable.below xs j+k) (by lia) (by lia);have e3:b=xs[SetTable.below xs j+k]'(by lia):=by rw[<- ek];simp
   lia
theorem Rt{xs:Array Nat}(h:iX xs){i:Nat}(hi:i<xs.size):SetTable.below xs (xs[i]+1)=i+1:=by
 obtain⟨h1,h2,h3⟩:=uD h (xs[i]+1);rcases xm (SetTable.below xs (xs[i]+1)) (i+1) with z|z|z
 ·exact absurd (gP xs[i]) (h3 i hi (by lia))
 ·exact z
 ·exfalso;have h4:=h2 (i+1) (by lia) (by lia);have h5:=rQ h (show i<i+1 by lia) (show i+1<xs.size by lia);lia
theorem RL{xs:Array Nat}(h:iX xs):SetTable.below xs 0=0:=by
 obtain⟨h1,h2,h3⟩:=uD h 0;rcases Nat.eq_zero_or_pos (SetTable.below xs 0) with z|z
 ·exact z
 ·exact absurd (h2 0 (by lia) z) (ie _)
theorem BM{t:SetTable}(h:iX t.place){j:Nat}(he:t.slot j=.empty):j∉t.place.toList:=fun hm=>by
 obtain⟨i,hi,e⟩:=AY.mp hm;rw[aB] at hi;have e2:t.place[i]=j:=by rw[<- e];simp
 obtain⟨h1,h2,h3⟩:=uD h j;have hb:SetTable.below t.place j=i:=by
  rcases xm (SetTable.below t.place j) i with z|z|z
  ·have h4:=rQ h z hi;have h5:=h3 (SetTable.below t.place j) (by lia) (az _);lia
  ·exact z
  ·have h4:=h2 i hi z;lia
 unfold SetTable.slot at he;dsimp only at he;rw[hb,Array.getElem?_eq_getElem hi,e2] at he;simp at he
section
variable{prog:Program}{w:World}{K:Type}[DecidableEq K]{knd:KeyKind prog w K}{A:Around}{E:Value->Shared->Prop}{s:Shared}
theorem T2{n:Nat}{v:Value}(h:carriedByValue v=true):ofAClassStatement n v=pure false:=by
 cases v <;> first|(unfold ofAClassStatement;rfl)|(cases h)
theorem JT{ks:List K}{a:Addr}{Q:Bool->Shared->Prop}(hk:IsTupleKey knd s.heap ks a)(h:Q false s):wpAny (model prog w) A (ofAClassStatement 8 (.ref a)) Q E s:=by
 have hT:=hk.typeIs;obtain⟨o,items,n,ho,hc,hd,hi⟩:=hk;unfold ofAClassStatement;refine ae (qT hT ?_);dsimp only;rw[if_pos (by decide)];refine ae (ai ?_);rw[af (by decide)];refine ae (wpAny_seqItems ho hd ?_);dsimp only;rw[<- Array.forIn_toList];refine ae (wpAny_forIn_list _ (fun rest r s'=>r.1=none/\s'=s/\∀v∈rest,carriedByValue v=true) _ ?_ ?_ _ _ ⟨rfl,rfl,hi.byValue⟩)
 ·rintro v rest r s' ⟨hr,rfl,cy⟩;rw[T2 (cy v bb)];refine ae (ai ?_);rw[af (by decide)];exact ai ⟨rfl,rfl,fun u Bf=>cy u (aX _ Bf)⟩
 ·rintro⟨r1,r2⟩ s' ⟨hr,rfl,_⟩;obtain rfl:r1=none:=hr;exact ai h
theorem Ub{n:Nat}{v:Value}(h:carriedByValue v=true):∃b,hashByValue n v=pure b:=by
 cases v <;> first|exact⟨_,by unfold hashByValue;rfl⟩|(cases h)
theorem Sj{ks:List K}{a:Addr}{Q:Bool->Shared->Prop}(hk:IsTupleKey knd s.heap ks a)(h:∀b,Q b s):wpAny (model prog w) A (hashByValue 8 (.ref a)) Q E s:=by
 have hT:=hk.typeIs;obtain⟨o,items,n,ho,hc,hd,hi⟩:=hk;unfold hashByValue;refine ae (wpAny_specialOf hT F.slot_tuple_hash.lookup ?_);dsimp only;refine wpAny_bind (wpAny_seqItems ho hd ?_);dsimp only[Option.getD_some];rw[<- Array.forIn_toList];refine ae (wpAny_forIn_list _ (fun rest r s'=>r.1=none/\s'=s/\∀v∈rest,carriedByValue v=true) _ ?_ ?_ _ _ ⟨rfl,rfl,hi.byValue⟩)
 ·rintro v rest r s' ⟨hr,rfl,cy⟩;obtain⟨b,hb⟩:=Ub (n:=7) (cy v bb);rw[hb];refine ae (ai ?_);cases b with
  | true =>
   rw[af (by decide)];exact ai ⟨rfl,rfl,fun u Bf=>cy u (aX _ Bf)⟩
  | false =>
   rw[ah (by decide)];exact ai (ai (h _))
 ·rintro⟨r1,r2⟩ s' ⟨hr,rfl,_⟩;obtain rfl:r1=none:=hr;exact ai (h _)
theorem Vw{ks:List K}{a:Addr}(hk:IsTupleKey knd s.heap ks a):∀(stored:List Value){Q:Bool->Shared->Prop},(∀v∈stored,∃ks b,v=.ref b/\IsTupleKey knd s.heap ks b)->Q false s->wpAny (model prog w) A (searchCouldBeSeen (.ref a) stored) Q E s:=by
 intro stored Q hs h;unfold searchCouldBeSeen;refine ae (wpAny_forIn_list _ (fun rest r s'=>r.1=none/\s'=s/\∀v∈rest,∃ks b,v=Value.ref b/\IsTupleKey knd s.heap ks b) _ ?_ ?_ _ _ ⟨rfl,rfl,hs⟩)
 ·rintro v rest r s' ⟨hr,rfl,cy⟩;obtain⟨kc,b,rfl,hb⟩:=cy v bb;have vZ:∀v∈rest,∃ks b,v=Value.ref b/\IsTupleKey knd s'.heap ks b:=fun v hv=>cy v (aX _ hv);dsimp only
  split
  ·exact ai ⟨rfl,rfl,vZ⟩
  ·refine ae (wpAny_eqIsQuiet_tuple hk ?_);rw[af (by decide)];refine ae (wpAny_eqIsQuiet_tuple hb ?_);rw[af (by decide)];refine ae (JT hk ?_);rw[af (by decide)];refine ae (JT hb ?_);rw[af (by decide)];exact ai ⟨rfl,rfl,vZ⟩
 ·rintro⟨r1,r2⟩ s' ⟨hr,rfl,_⟩;obtain rfl:r1=none:=hr;exact ai h
def EK(knd:KeyKind prog w K):Bool->Heap->Int×Value->Prop
 | true,_,e=>∃i t,e.2=Value.int i t/\e.1=(intKind prog w).hash i
 | false,h,e=>∃ks b,e.2=.ref b/\IsTupleKey knd h ks b
def Wl(knd:KeyKind prog w K)(b:Bool)(h:Heap)(es:Array (Int×Value)):Prop := ∀e∈es.toList,EK knd b h e
structure Tab(es:Array (Int×Value))(t:SetTable):Prop where
 size:t.place.size=es.size
 none:t.dummies=#[]
 good:Good t.mask
 room:t.fill*5<t.mask*3
 my:iX t.place
theorem Tab.fill_eq{es:Array (Int×Value)}{t:SetTable}(h:Tab es t):t.fill=es.size:=by
 unfold SetTable.fill;rw[h.size,h.none];rfl
theorem Tab.fits{es:Array (Int×Value)}{t:SetTable}(h:Tab es t):t.fits es.size=true:=by
 have:=h.room;unfold SetTable.fits;rw[h.size];simp;lia
theorem TB{m:Nat}(h:Good m):m % 2=1:=by
 rcases h with h|h|h|h|h|h|h|h|h|h <;> subst h <;> rfl
theorem Jy(t:SetTable):∀(n:Nat)(p:SetTable.Probe),p.dummy=none->(bA t n p).dummy=none
 | 0,_,h=>h
 | n+1,p,h=>Jy t n (t.advance p) (by
  unfold SetTable.advance
  split
  ·exact h
  ·exact h)
theorem LC{t:SetTable}{j i:Nat}(h:t.slot j=.live i):i<t.place.size:=by
 unfold SetTable.slot at h;dsimp only at h
 split at h
 ·rename_i h2
  cases h;have h3:=eq_of_beq h2;exact(mD.mp h3).1
 ·split at h <;> cases h
end
def Ma(n:Nat):Bool:=(SetTable.sizeAbove n-1 == 7 || SetTable.sizeAbove n-1 == 15 || SetTable.sizeAbove n-1 == 31 || SetTable.sizeAbove n-1 == 63 || SetTable.sizeAbove n-1 == 127 || SetTable.sizeAbove n-1 == 255 || SetTable.sizeAbove n-1 == 511 || SetTable.sizeAbove n-1 == 1023 || SetTable.sizeAbove n-1 == 2047 || SetTable.sizeAbove n-1 == 4095)&&decide (n<SetTable.sizeAbove n)&&decide (SetTable.sizeAbove n<=4096)
theorem RP:(List.range 4096).all Ma=true:=by decide +kernel
theorem above{n:Nat}(h:n<4096):Good (SetTable.sizeAbove n-1)/\n<SetTable.sizeAbove n/\SetTable.sizeAbove n<=4096:=by
 have:=e_.mp RP n (h_.mpr h);unfold Ma at this;simp only[cP,qL,j9,cC] at this;obtain⟨⟨h1,h2⟩,h3⟩:=this;refine⟨?_,h2,h3⟩;unfold Good
 simpa only[or_assoc] using h1
section
variable{prog:Program}{w:World}{K:Type}[DecidableEq K]{knd:KeyKind prog w K}{A:Around}{E:Value->Shared->Prop}{s:Shared}
theorem stored{h:Heap}{S:Addr}{o:Obj}{es:Array (Int×Value)}{ep:Nat}{t:SetTable}(ho:h.get? S=some o)(hd:o.data=.set es ep t)(c_:Array (Int×Value))(t':SetTable) :
  (h.update S (Obj.putSet c_ t')).get? S=some { o with data:=.set c_ (ep+1) t' }:=by
 have:=qM (Obj.putSet c_ t') ho (by rw[putSet_of c_ t' hd];rfl);rw[putSet_of c_ t' hd] at this;exact this
theorem U3{h h':Heap}{S a:Addr}{o:Obj}{es:Array (Int×Value)}{ep:Nat}{t:SetTable}{ks:List K}(ho:h.get? S=some o)(hd:o.data=.set es ep t)(sb:Heap.SameBut S h h')(hk:IsTupleKey knd h ks a):IsTupleKey knd h' ks a:=by
 obtain⟨o2,items,n,h1,h2,h3,h4⟩:=hk;have bQ:a≠S:=fun z=>by
  rw[z,ho] at h1;cases h1;rw[hd] at h3;cases h3
 exact⟨o2,items,n,(sb.2 a bQ).trans h1,h2,h3,h4⟩
theorem Q_{es:Array (Int×Value)}{t:SetTable}(hT:Tab es t)(h:Int):∃n,n<10*SetTable.turns t.mask/\t.slot (bA t n (t.probeStart h)).j=.empty:=by
 obtain⟨a,b,c⟩:=xZ t h;have hr:=hT.room;obtain⟨j,hj,he⟩:=RA hT.none (by lia);obtain⟨n,hn,e⟩:=meets hT.good a b hj;exact⟨n,hn,by rw[e];exact he⟩
theorem Q7{m:Nat}(h:Good m):10*SetTable.turns m<100000:=by
 unfold SetTable.turns;rcases h with h|h|h|h|h|h|h|h|h|h <;> subst h <;> decide
end
end iY
namespace iY
open PySem PyProof.Rows
section
variable{prog:Program}{w:World}{K:Type}[DecidableEq K]{knd:KeyKind prog w K}{A:Around}{E:Value->Shared->Prop}{s:Shared}
abbrev vb(w:World):Bool := !w.params.followText "set-order"
abbrev iq(w:World):Obj:={ cls:=.type "set",dict:=none,data:=.set #[] 0 (.fresh 0 0 (vb w)) }
theorem T4(a:Value){xG : Value->Shared->Prop}(h:xG (.ref s.heap.objs.size) { s with heap:=s.heap.push (iq w) }) :
  codeAny (model prog w) A (.call (.builtin "set.__new__") ⟨[.type "set",a],[]⟩) (wants xG E) s:=by
 refine codeAny_of_tree ?_;change wpAny _ A.in1 (do checkBuiltinCall "set.__new__" ⟨[.type "set",a],[]⟩;again (.builtin "set.__new__" ⟨[.type "set",a],[]⟩)) _ _ s;refine ae (wpAny_of_eq (PySem.F.newCall_set_1 a) (ai ⟨plainId_quiet PySem.F.plain_set_new _,uc PySem.F.entry_set_new ?_⟩));rw[Around.under_plainId PySem.F.plain_set_new _];unfold Builtin.«set.__new__» Builtin.Frozenset.newClass;have ZxZ:=sub_set_self;obtain⟨hp,g,d,tk,os⟩:=s;dsimp only
 wp_walk
 refine wpAny_askSetting (ai ?_);dsimp only;simp only[newObj];exact ae (wpAny_alloc (ai (ai h)))
end
theorem pw:Slot "set_iterator" "__next__" "set_iterator.__next__" :=
 .of (owner := "set_iterator") (n := "__next__") (by rw[typeLookup_type,builtinLookup_eq_fast];kernel_rfl) (by decide +kernel) (by decide +kernel) (by decide +kernel) (by first|exact .inl (by decide +kernel)|exact .inr (by decide +kernel)) (by rw[isSubtype_type];kernel_rfl)
theorem Ji:entryFor table "set_iterator.__next__" = some Builtin.«set_iterator.__next__» := entryFor_of_tree (by kernel_rfl)
theorem Ki:Manifest.owners.lookup (String.ofList ['r','o','t','a','r','e','t','i','_','t','e','s'].reverse)=some Manifest.sig_set_iterator:=by kernel_rfl
theorem Jd(a:Value):argsOk "set_iterator.__next__" ⟨[a],[]⟩:=by
 unfold argsOk;rw[signature?_of (id := "set_iterator.__next__") (n:=['_','_','t','x','e','n','_','_']) (o:=['r','o','t','a','r','e','t','i','_','t','e','s']) (by kernel_rfl) Ki];kernel_rfl
theorem Ja:Slot "set_iterator" "__iter__" "set_iterator.__iter__" :=
 .of (owner := "set_iterator") (n := "__iter__") (by rw[typeLookup_type,builtinLookup_eq_fast];kernel_rfl) (by decide +kernel) (by decide +kernel) (by decide +kernel) (by first|exact .inl (by decide +kernel)|exact .inr (by decide +kernel)) (by rw[isSubtype_type];kernel_rfl)
theorem Q0:entryFor table "set_iterator.__iter__" = some Builtin.«dict_keyiterator.__iter__» := entryFor_alias (id' := "dict_keyiterator.__iter__") (by kernel_rfl) rfl (by decide +kernel) (by kernel_rfl)
theorem Q5(a:Value):argsOk "set_iterator.__iter__" ⟨[a],[]⟩:=by
 unfold argsOk;rw[signature?_of (id := "set_iterator.__iter__") (n:=['_','_','r','e','t','i','_','_']) (o:=['r','o','t','a','r','e','t','i','_','t','e','s']) (by kernel_rfl) Ki];kernel_rfl
theorem Q2:entryFor table "set.__iter__" = some Builtin.«frozenset.__iter__» := entryFor_alias (id' := "frozenset.__iter__") (by kernel_rfl) rfl (by decide +kernel) (by kernel_rfl)
theorem Bz{α : Type}:∀{l:List α}{i:Nat}(hi:i<l.length),(l[i]::l.eraseIdx i).Perm l
 | x::l,0,_=>jo _
 | x::l,i+1,hi=>by
  have cn:i<l.length:=by simpa using hi
  show(l[i]::x::l.eraseIdx i).Perm (x::l);exact(List.Perm.swap ..).trans ((Bz cn).cons x)
section
variable{prog:Program}{w:World}{A:Around}{E:Value->Shared->Prop}{s:Shared}
theorem wp_choose{src:Source}{n:Nat}{Q:Nat->Shared->Prop}(hn:n≠0)(h:∀i d,i<n->Q i { s with drawn:=d }):wpAny (model prog w) A (choose src n) Q E s:=fun _ _ _=>⟨hn,h _ _ (t4 _ (Nat.pos_of_ne_zero hn))⟩
theorem Lx{α : Type}:∀(n:Nat)(xs:List α)(s:Shared){Q:List α -> Shared->Prop},xs.length=n->(∀ys d,ys.Perm xs->Q ys { s with drawn:=d })->wpAny (model prog w) A (drawOrder n xs) Q E s
 | 0,xs,s,Q,hl,h=>by
  obtain rfl:=lb hl;unfold drawOrder;exact ai (h [] s.drawn (jo _))
 | n+1,[],s,Q,hl,h=>by simp at hl
 | n+1,x::xs,s,Q,hl,h=>by
  unfold drawOrder;refine ae (wp_choose (by simp) fun i d hi=>?_);rw[cI hi];dsimp only;refine wpAny_bind (Lx n ((x::xs).eraseIdx i) { s with drawn:=d } (by rw[List.length_eraseIdx_of_lt hi,hl];rfl) fun ys d' hp=>ai (h _ d' ?_));refine(hp.cons _).trans ?_;exact(Bz hi)
theorem J6{α : Type}(next:Nat->Nat):∀(n k:Nat)(left:List α)(out:Array α),left.length=n->(pickOrder.go next n k left out).toList.Perm (out.toList++left)
 | 0,k,left,out,hl=>by
  obtain rfl:=lb hl;unfold pickOrder.go;rw[iP]
 | n+1,k,left,out,hl=>by
  unfold pickOrder.go;have hi:next k % left.length<left.length:=t4 _ (by lia)
  rw[cI hi];dsimp only;refine(J6 next n (k+1) _ _ (by rw[List.length_eraseIdx_of_lt hi,hl];rfl)).trans ?_
  rw[fm,bT];exact mE _ (Bz hi)
structure lH(w:World)(h:Heap)(I S T:Addr)(es:Array (Int×Value))(ep:Nat)(t:SetTable)(ys:List Value)(i:Nat):Prop where
  set:∃o,h.get? S=some o/\o.data=.set es ep t
  tab:t.fits es.size=true
  at_:∃first o,h.get? I=some o/\o.cls=.type "set_iterator" /\ o.data=.fields #[first,.int i 0,.ref S,.int es.size 0,.int ep 0] /\
    ((∃sl:Nat,first=Value.int sl 0/\w.params.followText "set-order" = true/\ys=(pickOrder (w.params.setOrder S ep) es).toList.map (·.2)) \/
     (∃sl:Nat,first=Value.int sl 0/\w.params.followText "set-order" = false/\(!t.plain&&decide (es.size > 1))=false/\t.led=true/\SetTable.below t.place sl=i/\iX t.place/\ys=es.toList.map (·.2)) \/
     (∃places n oT,first=Value.ref T/\h.get? T=some oT/\oT.data=.seq places n/\places.toList.length=es.size/\∀(k:Nat)(v:Value),places[k]?= some v->∃(j:Nat)(tk:Tok),v=Value.int (j:Nat) tk/\(es[j]?).map (·.2)=ys[k]? /\ j<es.size))
theorem lH.ty{h:Heap}{I S T:Addr}{es:Array (Int×Value)}{ep:Nat}{t:SetTable}{ys:List Value}{i:Nat}{s:Shared}(x:lH w s.heap I S T es ep t ys i):s.TypeIs (.ref I) "set_iterator" := let ⟨_,o,ho,hc,_⟩:=x.at_;⟨o,ho,hc⟩
theorem Cb{S:Addr}{o:Obj}{es:Array (Int×Value)}{ep:Nat}{t:SetTable}{Q:Array (Int×Value)->Shared->Prop}(ho:s.heap.get? S=some o)(hd:o.data=.set es ep t)(hf:t.fits es.size=true)(h:Q es s):wpAny (model prog w) A (setEntries S) Q E s:=by
 unfold setEntries;exact ae (jr ho hd hf (ai h))
theorem yT{Q:Bool->Shared->Prop}(h:Q (w.params.followText "set-order") s):wpAny (model prog w) A setsByText Q E s:=by
 unfold setsByText;exact ae (wpAny_askSetting (ai h))
theorem fld{I:Addr}{o:Obj}{fs:Array Value}{k:Nat}{v:Value}{Q:Unit->Shared->Prop}(ho:s.heap.get? I=some o)(hd:o.data=.fields fs)(hk:k<fs.size)(hc:o.cls=.type "set_iterator")
  (h:∀h' o',h'.get? I=some o'->o'.cls=.type "set_iterator" -> o'.data=.fields (fs.setIfInBounds k v)->Heap.SameBut I s.heap h'->Q () { s with heap:=h' }):wpAny (model prog w) A (setField (.ref I) k v) Q E s :=
 oR ho hd hk (h _ _ (qM _ ho (Obj.isFreed_of_fields (oJ hd _))) ((Obj.cls_mapFields ..).trans hc) (oJ hd _) (w6 ..))
theorem J7{S:Addr}{o:Obj}{es:Array (Int×Value)}{ep:Nat}{t:SetTable}{sl i:Nat}{Q:Option (Value×Nat)->Shared->Prop}(hT:w.params.followText "set-order" = true) (ho:s.heap.get? S=some o) (hd:o.data=.set es ep t) (hf:t.fits es.size=true)
  (h:Q (((pickOrder (w.params.setOrder S ep) es)[i]?).map fun e=>(e.2,sl)) s):wpAny (model prog w) A (setNext S sl i ep) Q E s:=by
 unfold setNext;refine ae (jr ho hd hf ?_);dsimp only;refine wpAny_bind (yT ?_);rw[hT,if_pos rfl,if_neg (by simp)];unfold setWalk;refine ae (ae (jr ho hd hf ?_));dsimp only;refine wpAny_bind (yT ?_);rw[hT,if_pos rfl];exact ae (wpAny_askSetting (ai (ai h)))
theorem JS{S:Addr}{o:Obj}{es:Array (Int×Value)}{ep:Nat}{t:SetTable}{sl i:Nat}{Q:Option (Value×Nat)->Shared->Prop}(hT:w.params.followText "set-order" = false) (hp:(!t.plain&&decide (es.size > 1))=false) (hl:t.led=true) (ho:s.heap.get? S=some o) (hd:o.data=.set es ep t) (hf:t.fits es.size=true)
  (h:Q (match es[SetTable.below t.place sl]?,t.place[SetTable.below t.place sl]? with|some (_,x),some j=>some (x,j+1)|_,_=>none) s):wpAny (model prog w) A (setNext S sl i ep) Q E s:=by
 unfold setNext;refine ae (jr ho hd hf ?_);dsimp only;refine wpAny_bind (yT ?_);rw[hT,if_neg (by decide)];change wpAny _ _ (if(!t.plain&&decide (es.size > 1))=true then _ else _) _ _ _
 rw[hp,af (by decide)];refine ae ?_;change wpAny _ _ (if(!t.led && !es.isEmpty)=true then _ else _) _ _ _
 rw[hl,af (by simp)];exact ai (ai h)
set_option maxHeartbeats 1000000 in
theorem UY{I S T:Addr}{es:Array (Int×Value)}{ep:Nat}{t:SetTable}{ys:List Value}{i:Nat}{Q:Option Value->Shared->Prop}(x:lH w s.heap I S T es ep t ys i)(hy:ys.length=es.size)(hi:i<ys.length)
  (q:∀h',lH w h' I S T es ep t ys (i+1)->Heap.SameBut I s.heap h'->Q (some ys[i]) { s with heap:=h' }):wpAny (model prog w) A (pyNext (.ref I)) Q E s:=by
 have hT:=x.ty (h:=s.heap);obtain⟨⟨oS,fk,iG⟩,hf,first,o,ho,hc,hd,vT⟩:=id x
 have NU:S≠I:=fun z=>by
  rw[z,ho] at fk;cases fk;rw[hd] at iG;cases iG
 unfold pyNext;refine ae (wpAny_attempt (ud (name:=Str.ofString "__next__") hT pw (lm pw hT Ji ?_ (Jd _))));unfold Builtin.«set_iterator.__next__»;refine ae (ai (ae (ue ho hd ?_)));dsimp only;refine wpAny_bind (Cb fk iG hf ?_);rw[if_neg (by simp)];have key:∀nx:Nat,(∀h',(∃o',h'.get? I=some o'/\o'.cls=.type "set_iterator" /\ o'.data=.fields #[Value.int nx 0,.int (i+1:Nat) 0,.ref S,.int es.size 0,.int ep 0])->Heap.SameBut I s.heap h'->lH w h' I S T es ep t ys (i+1)) ->
   wpAny (model prog w) A.in1 (do
     setField (Value.ref I) 0 (rawInt nx)
     setField (Value.ref I) 1 (rawInt ((i:Int)+1))
     ret ys[i]) (fun fin s'=>∃v,fin=Fin.done (Flow.ret v)/\wpAny (model prog w) A (pure (some v)) Q E s')
    (fun e s'=>wpAny (model prog w) A (do
     let __do_lift <- isInstance e (Value.type "StopIteration")
     if __do_lift=true then pure none else throw e) Q E s') s:=fun nx hS=>by
  refine ae (fld ho hd (by simp) hc fun h1 o1 gE zt iF ji=>ae (fld (s:={ s with heap:=h1 }) gE iF (by simp) zt fun h2 o2 kK fX hd2 tG=>ai ⟨_,rfl,ai (q h2 (hS h2 ⟨o2,kK,fX,?_⟩ (ji.trans tG)) (ji.trans tG))⟩));rw[hd2];rfl
 have Fv:∀h',Heap.SameBut I s.heap h'->∃o,h'.get? S=some o/\o.data=.set es ep t:=fun h' sb=>⟨oS,(sb.2 S NU).trans fk,iG⟩;have ZxK:t.place.size=es.size:=by
  unfold SetTable.fits at hf;rw[cP] at hf;exact eq_of_beq hf.1
 rcases vT with⟨sl,rfl,ma,e⟩|⟨sl,rfl,ma,aS,zJ,sJ,hr,e⟩|⟨places,n,oT,rfl,nW,cY,iJ,FZ⟩
 ·dsimp only;rw[Int.toNat_natCast,Int.toNat_natCast,Int.toNat_natCast];refine ae (J7 ma fk iG hf ?_);have nX:((pickOrder (w.params.setOrder S ep) es)[i]?).map (fun e=>(e.2,sl))=some (ys[i],sl):=by
   have h1:((pickOrder (w.params.setOrder S ep) es).toList.map (·.2))[i]?= some ys[i]:=by rw[<- e];exact cI hi
   rw[f_,bE] at h1;obtain⟨x,hx,fD⟩:=oK.mp h1;rw[hx];show some (x.2,sl)=_;rw[fD]
  rw[nX];dsimp only;exact key sl fun h' ⟨o',a1,a2,a3⟩ sb=>⟨Fv h' sb,hf,_,o',a1,a2,a3,.inl ⟨sl,rfl,ma,e⟩⟩
 ·dsimp only;rw[Int.toNat_natCast,Int.toNat_natCast,Int.toNat_natCast];refine ae (JS ma aS zJ fk iG hf ?_);have qg:i<es.size:=by lia
  rw[sJ,eY qg,eY (show i<t.place.size by lia)];have Gm:ys[i]=es[i].2:=by
   have h1:ys[i]?= some es[i].2:=by rw[e,f_,bE,eY qg];rfl
   rw[cI hi] at h1;exact dm h1
  dsimp only;rw[<- Gm];exact key (t.place[i]+1) fun h' ⟨o',a1,a2,a3⟩ sb=>⟨Fv h' sb,hf,_,o',a1,a2,a3,.inr (.inl ⟨_,rfl,ma,aS,zJ,Rt hr _,hr,e⟩)⟩
 ·dsimp only;refine wpAny_bind (wpAny_seqItems nW cY ?_);dsimp only;rw[Int.toNat_natCast,Int.toNat_natCast];have nX:i<places.size:=by rw[<- aB];lia
  obtain⟨j,tk,hv,hj,nU⟩:=FZ i _ (eY nX);rw[eY nX,hv];dsimp only;rw[Int.toNat_natCast];rw[cI hi,eY nU] at hj;have Gm:es[j].2=ys[i]:=dm hj;unfold setNextDrawn;refine ae (ae (jr fk iG hf ?_));dsimp only;rw[if_neg (by simp),Array.getElem?_eq_getElem nU];refine ai ?_;rw[show(es.toList.get ⟨j,nU⟩).snd=ys[i] from Gm];have NZ:T≠I:=fun z=>by
   rw[z,ho] at nW;cases nW;rw[hd] at cY;cases cY
  refine ae (fld ho hd (by simp) hc fun h2 o2 kK fX hd2 tG=>ai ⟨_,rfl,ai (q h2 ⟨Fv h2 tG,hf,_,o2,kK,fX,?_,.inr (.inr ⟨places,n,oT,rfl,(tG.2 T NZ).trans nW,cY,iJ,FZ⟩)⟩ tG)⟩);rw[hd2];rfl
theorem Ck{I:Addr}{o:Obj}{fs:Array Value}{Q:Option Value->Shared->Prop}(hh:A.handled=none)(ho:s.heap.get? I=some o)(hd:o.data=.fields fs)(hk:2<fs.size)(hc:o.cls=.type "set_iterator") (q:∀h',Heap.ExtBut I s.heap h'->Q none { s with heap:=h' }) :
  wpAny (model prog w) A.in1 (do
    setField (Value.ref I) 2 Value.none
    let __do_lift <- newExc (Value.type "StopIteration") []
    raiseNew __do_lift) (fun fin s'=>∃v,fin=Fin.done (Flow.ret v)/\wpAny (model prog w) A (pure (some v)) Q E s')
   (fun e s'=>wpAny (model prog w) A (do
    let __do_lift <- isInstance e (Value.type "StopIteration")
    if __do_lift=true then pure none else throw e) Q E s') s:=by
 refine ae (fld ho hd hk hc fun h1 o1 gE zt iF ji=>?_);refine ae ?_;simp only[newExc,newTuple];refine ae (iT (ae (m:=firstArgMember _ _) (wpAny_of_eq (a:=Value.none) (by first|rfl|(simp only[firstArgMember];rfl)) (iT ?_ (by size_fits)))) (by size_fits))
 simp only[raiseNew];refine ae (wpAny_handled ?_);rw[show A.in1.handled=none from hh];refine ae (ai (wpAny_throw ?_));refine ae (xu (T := "StopIteration") (b:=true) (v:=.ref _) (by exact⟨_,cf _ rfl,rfl⟩) isSubtype_stop ?_);exact ai (q _ ((ji.extBut.push _).push _))
set_option maxHeartbeats 1000000 in
theorem Vk{I S T:Addr}{es:Array (Int×Value)}{ep:Nat}{t:SetTable}{ys:List Value}{Q:Option Value->Shared->Prop}(hh:A.handled=none)(x:lH w s.heap I S T es ep t ys ys.length)(hy:ys.length=es.size)
  (q:∀h',Heap.ExtBut I s.heap h'->Q none { s with heap:=h' }):wpAny (model prog w) A (pyNext (.ref I)) Q E s:=by
 have hT:=x.ty (h:=s.heap);obtain⟨⟨oS,fk,iG⟩,hf,first,o,ho,hc,hd,vT⟩:=id x
 unfold pyNext;refine ae (wpAny_attempt (ud (name:=Str.ofString "__next__") hT pw (lm pw hT Ji ?_ (Jd _))));unfold Builtin.«set_iterator.__next__»;refine ae (ai (ae (ue ho hd ?_)));dsimp only;refine wpAny_bind (Cb fk iG hf ?_);rw[if_neg (by simp)];rcases vT with⟨sl,rfl,ma,e⟩|⟨sl,rfl,ma,aS,zJ,sJ,hr,e⟩|⟨places,n,oT,rfl,nW,cY,iJ,FZ⟩
 ·dsimp only;rw[Int.toNat_natCast,Int.toNat_natCast,Int.toNat_natCast];refine ae (J7 ma fk iG hf ?_);have nX:(pickOrder (w.params.setOrder S ep) es)[ys.length]?= none:=by
   have h1:ys.length=(pickOrder (w.params.setOrder S ep) es).size:=by
    rw[e,aW,aB]
   exact tN (Nat.le_of_eq h1.symm)
  rw[nX];exact Ck hh ho hd (by simp) hc q
 ·dsimp only;rw[Int.toNat_natCast,Int.toNat_natCast,Int.toNat_natCast];refine ae (JS ma aS zJ fk iG hf ?_);rw[sJ,tN (show es.size<=ys.length by lia)];exact Ck hh ho hd (by simp) hc q
 ·dsimp only;refine wpAny_bind (wpAny_seqItems nW cY ?_);dsimp only;rw[Int.toNat_natCast];have nX:places.size<=ys.length:=by rw[<- aB];lia
  rw[tN nX];dsimp only;refine ae (fld ho hd (by simp) hc fun h1 o1 gE zt iF ji=>Ck (s:={ s with heap:=h1 }) hh gE iF (by simp) zt fun h' eb=>q h' fun b o2 hb e2=>eb b o2 hb ((ji.2 b hb).trans e2))
theorem TN{I S T:Addr}{es:Array (Int×Value)}{ep:Nat}{t:SetTable}{ys:List Value}(hh:A.handled=none)(NU:S≠I)(NZ:T≠I)(hy:ys.length=es.size):Walks prog w A I [I,S,T] [I] ys.length (fun i v=>ys[i]?= some v) (fun i h=>lH w h I S T es ep t ys i) where
 sub:=fun b hb=>aH.mpr (.inl (bi.mp hb))
 frame:=fun i h h' x hk=>by
  obtain⟨⟨oS,fk,iG⟩,hf,first,o,ho,hc,hd,vT⟩:=x
  refine⟨⟨oS,hk S (by simp) oS fk,iG⟩,hf,first,o,hk I (by simp) o ho,hc,hd,?_⟩
  rcases vT with h1|h1|⟨places,n,oT,e,nW,r⟩
  ·exact .inl h1
  ·exact .inr (.inl h1)
  ·exact .inr (.inr ⟨places,n,oT,e,hk T (by simp) oT nW,r⟩)
 item:=fun i s Q E hi x hQ=>UY x hy hi fun h' x' sb=>hQ _ h' s.toks (cI hi) x' fun b o hb e=>(sb.2 b (fun z=>hb (bi.mpr z))).trans e
 done:=fun s Q E x hQ=>Vk hh x hy fun h' eb=>hQ h' s.toks fun b o hb e=>eb b o (fun z=>hb (bi.mpr z)) e
 self:=fun i s Q E x hQ=>by
  have hT:=x.ty (h:=s.heap);refine wpAny_pyIter_slot hT Ja (lm Ja hT Q0 ?_ (Q5 _));change wpAny _ _ (ret (.ref I)) _ _ s;exact ai ⟨_,rfl,"set_iterator",_,hT,pw.lookup,hQ⟩
end
section
variable{prog:Program}{w:World}{K:Type}[DecidableEq K]{knd:KeyKind prog w K}{A:Around}{E:Value->Shared->Prop}{s:Shared}
theorem TZ{S:Addr}{o:Obj}{es:Array (Int×Value)}{ep:Nat}{t:SetTable}{Q:Bool->Shared->Prop}(ho:s.heap.get? S=some o)(hd:o.data=.set es ep t)(hf:t.fits es.size=true)(h:Q (!w.params.followText "set-order" && (!t.plain&&decide (es.size > 1))) s):wpAny (model prog w) A (setDrawn S) Q E s:=by
 unfold setDrawn;refine ae (jr ho hd hf ?_);dsimp only;exact ae (yT (ai h))
end
end iY
namespace iY
open PySem PyProof.Rows PySem.W
section
variable{prog:Program}{w:World}{K:Type}[DecidableEq K]{knd:KeyKind prog w K}{A:Around}{E:Value->Shared->Prop}{s:Shared}
theorem Tf{r:Addr}{Q:Bool->Shared->Prop}(hT:s.TypeIs (.ref r) "set") (h:Q false s):wpAny (model prog w) A (Builtin.List.listLengthHint (.ref r)) Q E s:=by
 unfold Builtin.List.listLengthHint;refine ae (wpAny_specialOf hT PySem.F.slot_set_len.lookup ?_);generalize vS:("set.__len__" : String)=Gu
 wp_delta
 rw[show splitId Gu=some ("set","__len__") from by subst vS;decide +kernel];subst vS;refine ae (xu (T := "set") (b:=true) hT (by rw[isSubtype_type];kernel_rfl) (wpAny_ite_split (fun jS=>absurd jS (by decide)) (fun _=>wpAny_ite_split (fun _=>?_) (fun jS=>absurd (by decide +kernel) jS))));exact ae (qT hT (ai h))
end
end iY
namespace L2
open PySem PySem.Spec PyProof.Rows PySem.W
section
variable{X:Cx}{e:Expr}{te:TE}{p p' pos pos':Pos}
theorem Inv.draws{pins:List (Addr×Obj)}{σ : St}{H:Hp}{s:Shared}{d:Drawn}(I:Inv X pins σ H s):Inv X pins σ H { s with drawn:=d } :=
 I.step (g':=s.gens) (d':=d) (t':=s.toks) (ch:=[]) (fun _ z=>nomatch z) (fun _ _ _ _ _ e _=>e) (fun _ o _ _ _ e _=>⟨o.slots,e⟩) (fun _ _ _ _ n=>n) (fun _ o _ e=>⟨o,e⟩) (fun _ _ h=>h) (fun _ _ _ h=>h) (fun _ ps h=>⟨#[],by simpa using h⟩) (fun _ h=>h) I.aq I.bare
theorem U8:bootBuiltins "set" = some (.type "set"):=by decide +kernel
theorem RD:bootBuiltins "sorted" = some (.builtin "sorted"):=by decide +kernel
end
end L2
namespace bo
open PySem PyProof.Rows ux
structure cL(lt:Keyed->Keyed->Bool):Prop where
 yS:∀x y,lt x y=true->lt y x=false
 neg:∀x y z,lt x y=false->lt y z=false->lt x z=false
def Le(lt:Keyed->Keyed->Bool)(x y:Keyed):Prop:=lt y x=false
section
variable{lt:Keyed->Keyed->Bool}(o:cL lt){x y z:Keyed}
include o
theorem cL.le_trans(h1:Le lt x y)(h2:Le lt y z):Le lt x z:=o.neg z y x h2 h1
theorem cL.gG(h:lt x y=true):Le lt x y:=o.yS x y h
theorem cL.Ztt(h1:lt x y=true)(h2:Le lt y z):lt x z=true:=by
 cases h:lt x z with
 | true=>rfl
 | false=>rw[o.neg x z y h h2] at h1;cases h1
theorem cL.Ztl(h1:Le lt x y)(h2:lt y z=true):lt x z=true:=by
 cases h:lt x z with
 | true=>rfl
 | false=>rw[o.neg y x z h1 h] at h2;cases h2
theorem cL.le_refl(x:Keyed):Le lt x x:=by
 show lt x x=false;cases h:lt x x with
 | false=>rfl
 | true=>have:=o.yS x x h;rw[h] at this;exact this
end
def iA(prog:Program)(w:World)(A:Around)(s:Shared)(κ : SortKind)(Ok:Keyed->Prop)(lt:Keyed->Keyed->Bool):Prop :=
 ∀x y,Ok x->Ok y->∀E:Value->Shared->Prop,wpAny (model prog w) A (keyLt' κ x.1 y.1) (fun b s'=>s'=s/\b=lt x y) E s
def Up(lt:Keyed->Keyed->Bool)(arr:Array Keyed)(i j:Nat):Prop := ∀x y p q,i<=x->x<y->y<j->arr[x]?= some p->arr[y]?= some q->Le lt p q
def bv(lt:Keyed->Keyed->Bool)(l:Bool)(key p:Keyed):Bool:=if l=true then lt p key else !lt key p
def BV(lt:Keyed->Keyed->Bool)(l:Bool)(key:Keyed)(a:Array Keyed)(base i:Nat):Bool:=match a[base+i]? with|some p=>bv lt l key p|none=>false
theorem BV.Xh{lt:Keyed->Keyed->Bool}(o:cL lt){l:Bool}{key:Keyed}{a:Array Keyed}{base n:Nat}(hb:base+n<=a.size)(hu:Up lt a base (base+n)){i j:Nat}(eU:i<=j)(hj:j<n)(h:BV lt l key a base j=true):BV lt l key a base i=true:=by
 rcases Nat.eq_or_lt_of_le eU with rfl|aD
 ·exact h
 have ei:a[base+i]?= some a[base+i]:=jq a _ (by lia);have ej:a[base+j]?= some a[base+j]:=jq a _ (by lia);have hle:=hu (base+i) (base+j) _ _ (by lia) (by lia) (by lia) ei ej;unfold BV at h ⊢;rw[ej] at h;rw[ei];dsimp only at h ⊢;unfold bv at h ⊢;cases l with
 | true =>
  rw[ah rfl] at h ⊢;exact o.Ztl hle h
 | false =>
  rw[af (by decide)] at h ⊢;have h1:lt key a[base+j]=false:=by simpa using h
  have:lt key a[base+i]=false:=o.le_trans (lt:=lt) hle h1;rw[this];rfl
section
variable{prog:Program}{w:World}{A:Around}{E:Value->Shared->Prop}{s:Shared}{κ : SortKind}{Ok:Keyed->Prop}{st:SortSt}{lt:Keyed->Keyed->Bool}
theorem uP{x y:Keyed}{Q:Option Bool->SortSt->Prop}(hc:iA prog w A s κ Ok lt)(hk:kindOf st= κ)(hx:Ok x)(hy:Ok y)(h:Q (some (lt x y)) st):wpS (model prog w) A E s (lt' x y) Q st:=by
 rw[lt'_eq];refine ap (iU ?_);rw[hk];refine ap (wpS_lift (wpAny_attempt (eJ (hc x y hx hy _) (fun b s' e=>⟨e.1,?_⟩) fun _ _ z=>z)));rw[e.2];exact ar h
theorem WH{l:Bool}{key:Keyed}{a:Array Keyed}{base n i:Nat}{Q:Option Bool->SortSt->Prop}(hc:iA prog w A s κ Ok lt)(hk:kindOf st= κ)(jd:Ok key)(ha:∀p∈a.toList,Ok p)(hb:base+n<=a.size)(hi:i<n)(h:Q (some (BV lt l key a base i)) st) :
  wpS (model prog w) A E s (elem' a (base+i) >>= fun x=>if l=true then lt' x key else(lt' key x >>= fun r=>pure (Option.map (fun z=>!z) r))) Q st:=by
 refine ap (ZP (by lia) fun p hp e=>?_);unfold BV at h;rw[e] at h;dsimp only at h;unfold bv at h;cases l with
 | true =>
  rw[ah rfl] at h ⊢;exact uP hc hk (ha p hp) jd h
 | false =>
  rw[af bf] at h ⊢;exact ap (uP hc hk jd (ha p hp) (ar h))
set_option maxHeartbeats 1000000 in
theorem mU{l:Bool}{key:Keyed}{a:Array Keyed}{base n hint:Nat}{Q:Option Nat->SortSt->Prop}(o:cL lt)(hc:iA prog w A s κ Ok lt)(hk:kindOf st= κ)(jd:Ok key)(ha:∀p∈a.toList,Ok p)(hb:base+n<=a.size)(hh:hint<n)(hu:Up lt a base (base+n))
  (h:∀k,k<=n->(∀i,i<k->BV lt l key a base i=true)->(∀i,k<=i->i<n->BV lt l key a base i=false)->Q (some k) st):wpS (model prog w) A E s (B_ l key a base n hint) Q st:=by
 have up:∀{i j},i<=j->j<n->BV lt l key a base j=true->BV lt l key a base i=true:=fun eU hj h=>BV.Xh o hb hu eU hj h;have dn:∀{i j},i<=j->j<n->BV lt l key a base i=false->BV lt l key a base j=false:=fun{i j} eU hj h=>by
  cases e:BV lt l key a base j with
  | false=>rfl
  | true=>rw[up eU hj e] at h;cases h
 generalize hBB:BV lt l key a base=BB at up dn h;have vj:∀{ag:SortSt}{i:Nat}{Q':Option Bool->SortSt->Prop},ag=st->i<n->Q' (some (BB i)) ag->wpS (model prog w) A E s (elem' a (base+i) >>= fun x=>if l=true then lt' x key else(lt' key x >>= fun r=>pure (Option.map (fun z=>!z) r))) Q' ag:=fun{ag i Q'} e hi hq=>by
  subst e;exact WH hc hk jd ha hb hi (by rw[hBB];exact hq)
 refine ap (vj rfl hh ?_);cases OG:BB hint with
 | true =>
  dsimp only;rw[if_pos rfl];refine ap (dG (d0 (I:=fun x c ag=>ag=st/\∃lo of,c=(none,lo,of)/\lo<n-hint/\lo<of/\BB (hint+lo)=true/\x+1<=of) (Q:=fun c ag=>ag=st/\∃lo of,c=(none,lo,of)/\lo<n-hint/\lo<of/\BB (hint+lo)=true/\(n-hint<=of\/BB (hint+of)=false)) ?_ ?_ ⟨rfl,0,1,rfl,by lia,by lia,OG,by lia⟩) ?_)
  ·rintro i c ag _ _ ⟨rfl,lo,of,rfl,h1,h2,h3,h4⟩;dsimp only;by_cases aD:of>=n-hint
   ·rw[ah aD];exact ar ⟨rfl,lo,of,rfl,h1,h2,h3,.inl aD⟩
   ·rw[af aD];refine ap (vj rfl (by lia) ?_);cases dy:BB (hint+of) with
    | true=>exact ar ⟨rfl,_,_,rfl,by lia,by lia,dy,by lia⟩
    | false=>exact ar ⟨rfl,lo,of,rfl,h1,h2,h3,.inr dy⟩
  ·rintro c ag ⟨rfl,lo,of,rfl,h1,h2,h3,h4⟩;exact⟨rfl,lo,of,rfl,h1,h2,h3,.inl (by lia)⟩
  ·rintro c uk ⟨rfl,lo,of,rfl,h1,h2,h3,h4⟩;dsimp only;have g1:hint+lo+1<=hint+min of (n-hint):=by lia
   have g2:hint+min of (n-hint)<=n:=by lia
   have g3:∀i,i<hint+lo+1->BB i=true:=fun i hi=>up (show i<=hint+lo by lia) (by lia) h3;have g4:∀i,hint+min of (n-hint)<=i->i<n->BB i=false:=fun i hi iH=>by
    rcases h4 with h4|h4
    ·lia
    ·exact dn (show hint+of<=i by lia) iH h4
   generalize hint+lo+1=lo1 at g1 g3;generalize hint+min of (n-hint)=kI at g1 g2 g4;refine ap (dG (d0 (I:=fun x c ag=>ag=uk/\∃lo hi,c=(none,lo,hi)/\lo<=hi/\hi<=n/\(∀i,i<lo->BB i=true)/\(∀i,hi<=i->i<n->BB i=false)/\hi-lo+x<=n) (Q:=fun c ag=>ag=uk/\∃lo hi,c=(none,lo,hi)/\lo=hi/\hi<=n/\(∀i,i<lo->BB i=true)/\(∀i,hi<=i->i<n->BB i=false)) ?_ ?_ ⟨rfl,lo1,kI,rfl,g1,g2,g3,g4,by lia⟩) ?_)
   ·rintro i c ag _ _ ⟨rfl,lo,hi,rfl,h1,h2,h3,h4,h5⟩;dsimp only;by_cases aD:lo>=hi
    ·rw[ah aD];exact ar ⟨rfl,lo,hi,rfl,by lia,h2,h3,h4⟩
    ·rw[af aD];refine ap (vj rfl (by lia) ?_);cases dy:BB (lo+(hi-lo) / 2) with
     | true=>exact ar ⟨rfl,_,_,rfl,by lia,by lia,fun i cn=>up (show i<=lo+(hi-lo) / 2 by lia) (by lia) dy,h4,by lia⟩
     | false=>exact ar ⟨rfl,_,_,rfl,by lia,by lia,h3,fun i cn iH=>dn cn iH dy,by lia⟩
   ·rintro c ag ⟨rfl,lo,hi,rfl,h1,h2,h3,h4,h5⟩;exact⟨rfl,lo,hi,rfl,by lia,h2,h3,h4⟩
   ·rintro c ag ⟨rfl,lo,hi,rfl,h1,h2,h3,h4⟩;exact ar (h hi h2 (fun i cn=>h3 i (by lia)) h4)
 | false =>
  dsimp only;rw[if_neg Bool.false_ne_true];refine ap (dG (d0 (I:=fun x c ag=>ag=st/\∃lo of,c=(none,lo,of)/\lo<hint+1/\lo<of/\BB (hint-lo)=false/\x+1<=of) (Q:=fun c ag=>ag=st/\∃lo of,c=(none,lo,of)/\lo<hint+1/\lo<of/\BB (hint-lo)=false/\(hint+1<=of\/BB (hint-of)=true)) ?_ ?_ ⟨rfl,0,1,rfl,by lia,by lia,OG,by lia⟩) ?_)
  ·rintro i c ag _ _ ⟨rfl,lo,of,rfl,h1,h2,h3,h4⟩;dsimp only;by_cases aD:of>=hint+1
   ·rw[ah aD];exact ar ⟨rfl,lo,of,rfl,h1,h2,h3,.inl aD⟩
   ·rw[af aD];refine ap (vj rfl (by lia) ?_);cases dy:BB (hint-of) with
    | true=>exact ar ⟨rfl,lo,of,rfl,h1,h2,h3,.inr dy⟩
    | false=>exact ar ⟨rfl,_,_,rfl,by lia,by lia,dy,by lia⟩
  ·rintro c ag ⟨rfl,lo,of,rfl,h1,h2,h3,h4⟩;exact⟨rfl,lo,of,rfl,h1,h2,h3,.inl (by lia)⟩
  ·rintro c uk ⟨rfl,lo,of,rfl,h1,h2,h3,h4⟩;dsimp only;have g1:hint+1-min of (hint+1)<=hint-lo:=by lia
   have g2:hint-lo<=n:=by lia
   have g3:∀i,i<hint+1-min of (hint+1)->BB i=true:=fun i hi=>by
    rcases h4 with h4|h4
    ·lia
    ·exact up (show i<=hint-of by lia) (by lia) h4
   have g4:∀i,hint-lo<=i->i<n->BB i=false:=fun i hi iH=>dn hi iH h3;generalize hint+1-min of (hint+1)=lo1 at g1 g3;generalize hint-lo=kI at g1 g2 g4;refine ap (dG (d0 (I:=fun x c ag=>ag=uk/\∃lo hi,c=(none,lo,hi)/\lo<=hi/\hi<=n/\(∀i,i<lo->BB i=true)/\(∀i,hi<=i->i<n->BB i=false)/\hi-lo+x<=n) (Q:=fun c ag=>ag=uk/\∃lo hi,c=(none,lo,hi)/\lo=hi/\hi<=n/\(∀i,i<lo->BB i=true)/\(∀i,hi<=i->i<n->BB i=false)) ?_ ?_ ⟨rfl,lo1,kI,rfl,g1,g2,g3,g4,by lia⟩) ?_)
   ·rintro i c ag _ _ ⟨rfl,lo,hi,rfl,h1,h2,h3,h4,h5⟩;dsimp only;by_cases aD:lo>=hi
    ·rw[ah aD];exact ar ⟨rfl,lo,hi,rfl,by lia,h2,h3,h4⟩
    ·rw[af aD];refine ap (vj rfl (by lia) ?_);cases dy:BB (lo+(hi-lo) / 2) with
     | true=>exact ar ⟨rfl,_,_,rfl,by lia,by lia,fun i cn=>up (show i<=lo+(hi-lo) / 2 by lia) (by lia) dy,h4,by lia⟩
     | false=>exact ar ⟨rfl,_,_,rfl,by lia,by lia,h3,fun i cn iH=>dn cn iH dy,by lia⟩
   ·rintro c ag ⟨rfl,lo,hi,rfl,h1,h2,h3,h4,h5⟩;exact⟨rfl,lo,hi,rfl,by lia,h2,h3,h4⟩
   ·rintro c ag ⟨rfl,lo,hi,rfl,h1,h2,h3,h4⟩;exact ar (h hi h2 (fun i cn=>h3 i (by lia)) h4)
end
section
variable{lt:Keyed->Keyed->Bool}{a b out:Array Keyed}{ia ib k:Nat}{p q:Keyed}
abbrev So(lt:Keyed->Keyed->Bool)(l:List Keyed):Prop:=l.Pairwise (Le lt)
theorem yL(h:a[ia]?= some p):a.toList[ia]?= some p:=by rw[<- h];simp
theorem fN{i:Nat}{x y:Keyed}(h1:a[i]?= some x)(h2:a[i]?= some y):x=y:=by
 rw[h1] at h2;exact dm h2
theorem xQ(h:a[ia]?= some p):a.toList.drop ia=p::a.toList.drop (ia+1):=by
 obtain⟨hi,e⟩:=cB.mp (yL h);rw[List.drop_eq_getElem_cons hi,e]
theorem So.drop{l:List Keyed}(h:So lt l)(n:Nat):So lt (l.drop n):=qN (List.drop_sublist n l) h
theorem So.head(h:So lt a.toList)(hp:a[ia]?= some p):∀y∈a.toList.drop (ia+1),Le lt p y:=by
 have:=h.drop ia;rw[xQ hp] at this;exact(A2.mp this).1
theorem uS(o:cL lt)(h:So lt a.toList)(hp:a[ia]?= some p){x:Keyed}(hx:Le lt x p):∀y∈a.toList.drop ia,Le lt x y:=fun y hy=>by
 rw[xQ hp] at hy;rcases aH.mp hy with rfl|hy
 ·exact hx
 ·exact o.le_trans hx (h.head hp y hy)
theorem pQ(h:So lt a.toList)(i j:Nat):Up lt a i j:=fun x y p q _ kO _ ex ey=>by
 obtain⟨hx,rfl⟩:=cB.mp (yL ex);obtain⟨hy,rfl⟩:=cB.mp (yL ey);exact(lg.mp h) x y hx hy kO
theorem Mt{n:Nat}(h:Up lt a 0 n)(hn:a.size<=n):So lt a.toList:=by
 refine lg.mpr fun i j hi hj eU=>?_;have cn:i<a.size:=by rw[<- aB];exact hi
 have lB:j<a.size:=by rw[<- aB];exact hj
 exact h i j _ _ (bj _) eU (by lia) (by rw[<- bE];exact cI hi) (by rw[<- bE];exact cI hj)
theorem BE{l:List Keyed}{n:Nat}{y:Keyed}(h:y∈l.drop n):∃i,l[n+i]?= some y:=by
 obtain⟨i,hi⟩:=j4.mp h;rw[j3] at hi;exact⟨i,hi⟩
theorem yN(F:∀i,k<=i->i<a.size-ia->BV lt false p a ia i=false)(o:cL lt):∀y∈a.toList.drop (ia+k),Le lt p y:=fun y hy=>by
 obtain⟨i,hi⟩:=BE hy;obtain⟨hl,_⟩:=cB.mp hi;rw[aB] at hl;have h1:=F (k+i) (by lia) (by lia);unfold BV at h1;rw[show ia+(k+i)=ia+k+i by lia,<- bE,hi] at h1;have h2:(!lt p y)=false:=h1;exact o.gG (by simpa using h2)
theorem Mp(F:∀i,i<k->BV lt false p a ia i=true):∀x∈(a.toList.drop ia).take k,Le lt x p:=fun x hx=>by
 obtain⟨i,hi⟩:=j4.mp hx;have nP:i<k:=by
  have:=(cB.mp hi).1;rw[dN] at this;lia
 rw[qP nP,j3] at hi;have h1:=F i nP;unfold BV at h1;rw[<- bE,hi] at h1;have h2:(!lt p x)=true:=h1;show lt p x=false
 simpa using h2
theorem MD(F:∀i,k<=i->i<b.size-ib->BV lt true q b ib i=false):∀y∈b.toList.drop (ib+k),Le lt q y:=fun y hy=>by
 obtain⟨i,hi⟩:=BE hy;obtain⟨hl,_⟩:=cB.mp hi;rw[aB] at hl;have h1:=F (k+i) (by lia) (by lia);unfold BV at h1;rw[show ib+(k+i)=ib+k+i by lia,<- bE,hi] at h1;exact h1
theorem Wh(F:∀i,i<k->BV lt true q b ib i=true)(o:cL lt):∀x∈(b.toList.drop ib).take k,Le lt x q:=fun x hx=>by
 obtain⟨i,hi⟩:=j4.mp hx;have nP:i<k:=by
  have:=(cB.mp hi).1;rw[dN] at this;lia
 rw[qP nP,j3] at hi;have h1:=F i nP;unfold BV at h1;rw[<- bE,hi] at h1;exact o.gG h1
structure cv(lt:Keyed->Keyed->Bool)(a b out:Array Keyed)(ia ib:Nat):Prop where
 perm:Out a b out ia ib
 sort:So lt out.toList
 oh:∀x∈out.toList,∀y∈a.toList.drop ia,Le lt x y
 oi:∀x∈out.toList,∀y∈b.toList.drop ib,Le lt x y
structure Rs(lt:Keyed->Keyed->Bool)(a b r:Array Keyed):Prop where
 perm:r.toList.Perm (a.toList++b.toList)
 sort:So lt r.toList
theorem mem_push{x:Keyed}(h:x∈(out.push p).toList):x∈out.toList\/x=p:=by
 rw[fm] at h;rcases bL.mp h with h|h
 ·exact .inl h
 ·exact .inr (bi.mp h)
theorem Lm(h:So lt out.toList)(hp:∀x∈out.toList,Le lt x p):So lt (out.push p).toList:=by
 rw[fm];refine fb.mpr ⟨h,List.pairwise_singleton _ _,fun x hx y hy=>?_⟩;rw[bi.mp hy];exact hp x hx
theorem yc{l:List Keyed}{i j:Nat}(h:i<=j){y:Keyed}(hy:y∈l.drop j):y∈l.drop i:=by
 rw[show j=i+(j-i) by lia,<- la] at hy;exact tZ hy
theorem cv.kT(h:cv lt a b out ia ib)(SA:So lt a.toList)(hp:a[ia]?= some p)(hb:∀y∈b.toList.drop ib,Le lt p y):cv lt a b (out.push p) (ia+1) ib:=by
 have hm:p∈a.toList.drop ia:=by rw[xQ hp];exact bb ..
 refine⟨h.perm.kT hp,Lm h.sort fun x hx=>h.oh x hx p hm,fun x hx y hy=>?_,fun x hx y hy=>?_⟩
 ·rcases mem_push hx with hx|rfl
  ·exact h.oh x hx y (yc (by lia) hy)
  ·exact SA.head hp y hy
 ·rcases mem_push hx with hx|rfl
  ·exact h.oi x hx y hy
  ·exact hb y hy
theorem cv.kU(h:cv lt a b out ia ib)(SB:So lt b.toList)(hp:b[ib]?= some p)(ha:∀y∈a.toList.drop ia,Le lt p y):cv lt a b (out.push p) ia (ib+1):=by
 have hm:p∈b.toList.drop ib:=by rw[xQ hp];exact bb ..
 refine⟨h.perm.kU hp,Lm h.sort fun x hx=>h.oi x hx p hm,fun x hx y hy=>?_,fun x hx y hy=>?_⟩
 ·rcases mem_push hx with hx|rfl
  ·exact h.oh x hx y hy
  ·exact ha y hy
 ·rcases mem_push hx with hx|rfl
  ·exact h.oi x hx y (yc (by lia) hy)
  ·exact SB.head hp y hy
theorem xX(a:Array Keyed)(i k:Nat):(a.extract i (i+k)).toList=(a.toList.drop i).take k:=by
 rw[fF,List.extract_eq_drop_take,show i+k-i=k by lia]
theorem rO(a:Array Keyed)(i:Nat):(a.extract i a.size).toList=a.toList.drop i:=by
 rw[fF,List.extract_eq_drop_take];apply j7;rw[dF,aB];exact az _
theorem Je{l:List Keyed}{i k:Nat}(h:So lt l){x y:Keyed}(hx:x∈(l.drop i).take k)(hy:y∈l.drop (i+k)):Le lt x y:=by
 have h1:=h.drop i;rw[<- j6 k (l.drop i),la] at h1;exact(fb.mp h1).2.2 x hx y hy
theorem cv.lX(h:cv lt a b out ia ib)(SA:So lt a.toList)(hk:ia+k<=a.size)(hb:∀x∈(a.toList.drop ia).take k,∀y∈b.toList.drop ib,Le lt x y):cv lt a b (out++a.extract ia (ia+k)) (ia+k) ib:=by
 have hm:∀x,x∈(out++a.extract ia (ia+k)).toList->x∈out.toList\/x∈(a.toList.drop ia).take k:=fun x hx=>by
  rw[bO,xX] at hx;exact bL.mp hx
 refine⟨h.perm.lX hk,?_,fun x hx y hy=>?_,fun x hx y hy=>?_⟩
 ·rw[bO,xX];exact fb.mpr ⟨h.sort,qN (xi _ _) (SA.drop ia),fun x hx y hy=>h.oh x hx y (oH hy)⟩
 ·rcases hm x hx with hx|hx
  ·exact h.oh x hx y (yc (by lia) hy)
  ·exact Je SA hx hy
 ·rcases hm x hx with hx|hx
  ·exact h.oi x hx y hy
  ·exact hb x hx y hy
theorem cv.pU(h:cv lt a b out ia ib)(SB:So lt b.toList)(hk:ib+k<=b.size)(ha:∀x∈(b.toList.drop ib).take k,∀y∈a.toList.drop ia,Le lt x y):cv lt a b (out++b.extract ib (ib+k)) ia (ib+k):=by
 have hm:∀x,x∈(out++b.extract ib (ib+k)).toList->x∈out.toList\/x∈(b.toList.drop ib).take k:=fun x hx=>by
  rw[bO,xX] at hx;exact bL.mp hx
 refine⟨h.perm.pU hk,?_,fun x hx y hy=>?_,fun x hx y hy=>?_⟩
 ·rw[bO,xX];exact fb.mpr ⟨h.sort,qN (xi _ _) (SB.drop ib),fun x hx y hy=>h.oi x hx y (oH hy)⟩
 ·rcases hm x hx with hx|hx
  ·exact h.oh x hx y hy
  ·exact ha x hx y hy
 ·rcases hm x hx with hx|hx
  ·exact h.oi x hx y (yc (by lia) hy)
  ·exact Je SB hx hy
theorem cv.sy(h:cv lt a b out ia ib)(SA:So lt a.toList)(e:(ib == b.size)=true):Rs lt a b (out++a.extract ia a.size++b.extract ib b.size):=by
 refine⟨h.perm.done,?_⟩;have e':b.toList.drop ib=[]:=w_ (by rw[aB,eq_of_beq e];exact az _);rw[bO,bO,rO,rO,e',iP];exact fb.mpr ⟨h.sort,SA.drop ia,fun x hx y hy=>h.oh x hx y hy⟩
theorem cv.nq(h:cv lt a b out ia ib)(SB:So lt b.toList)(e:(ia == a.size)=true):Rs lt a b (out++a.extract ia a.size++b.extract ib b.size):=by
 refine⟨h.perm.done,?_⟩;have e':a.toList.drop ia=[]:=w_ (by rw[aB,eq_of_beq e];exact az _);rw[bO,bO,rO,rO,e',iP];exact fb.mpr ⟨h.sort,SB.drop ib,fun x hx y hy=>h.oi x hx y hy⟩
theorem cv.wj(h:cv lt a b out ia ib)(SA:So lt a.toList)(SB:So lt b.toList)(LA:∀x∈b.toList,∀q,a[a.size-1]?= some q->Le lt x q)(e:(ia+1 == a.size)=true):Rs lt a b (out++b.extract ib b.size++a.extract ia a.size):=by
 refine⟨h.perm.last,?_⟩;have e1:=eq_of_beq e;rw[bO,bO,rO,rO];refine fb.mpr ⟨fb.mpr ⟨h.sort,SB.drop ib,fun x hx y hy=>h.oi x hx y hy⟩,SA.drop ia,fun x hx y hy=>?_⟩;rcases bL.mp hx with hx|hx
 ·exact h.oh x hx y hy
 ·refine LA x (tZ hx) y ?_;obtain⟨i,hi⟩:=BE hy;have hl:=(cB.mp hi).1;rw[aB] at hl;rw[show a.size-1=ia+i by lia,<- bE];exact hi
theorem V3(SB:So lt b.toList)(hp:b[0]?= some p)(gB:∀p,b[0]?= some p->∀y∈a.toList,Le lt p y):cv lt a b #[p] 0 1:=by
 refine⟨Wv hp,List.pairwise_singleton _ _,fun x hx y hy=>?_,fun x hx y hy=>?_⟩
 ·obtain rfl:x=p:=by simpa using hx
  exact gB x hp y hy
 ·obtain rfl:x=p:=by simpa using hx
  exact SB.head hp y hy
end
section
variable{prog:Program}{w:World}{A:Around}{E:Value->Shared->Prop}{s:Shared}{κ : SortKind}{Ok:Keyed->Prop}{st:SortSt}{lt:Keyed->Keyed->Bool}
abbrev uu:=Option (Array Keyed)×Array Keyed×Nat×Nat×Nat×Nat×Nat
def Au(a b out:Array Keyed)(ia ib g ac bc:Nat):StateT SortSt Sem (ForInStep uu) :=
 elem' a ia >>= fun p=>if(ia+1+1 == a.size)=true then pure (.done (some (out.push p++b.extract ib b.size++a.extract (ia+1) a.size),out.push p,ia+1,ib,g,ac,bc))
  else if(decide (ac<7)&&decide (bc<7))=true then pure (.done (none,out.push p,ia+1,ib,g,ac,bc)) else pure (.yield (none,out.push p,ia+1,ib,g,ac,bc))
def IU(lt:Keyed->Keyed->Bool)(a b:Array Keyed)(st:SortSt)(x:Nat):ForInStep uu->SortSt->Prop:=fun r ag=>match r with
 | .done c=>bU st ag/\((∃r out ia ib g ac bc,c=(some r,out,ia,ib,g,ac,bc)/\Rs lt a b r)\/∃out ia ib g ac bc,c=(none,out,ia,ib,g,ac,bc)/\cv lt a b out ia ib/\ia+1<a.size/\ib<b.size/\x+2<=ia+ib)
 | .yield c=>bU st ag/\∃out ia ib g ac bc,c=(none,out,ia,ib,g,ac,bc)/\cv lt a b out ia ib/\ia+1<a.size/\ib<b.size/\x+2<=ia+ib
structure Bm(lt:Keyed->Keyed->Bool)(a b:Array Keyed)(st:SortSt)(N:Nat)(Q:ForInStep uu->SortSt->Prop):Prop where
 R:∀r out ia ib g ac bc,Rs lt a b r->Q (.done (some r,out,ia,ib,g,ac,bc)) st
 N:∀out ia ib g ac bc,cv lt a b out ia ib->ia+1<a.size->ib<b.size->N<=ia+ib->Q (.done (none,out,ia,ib,g,ac,bc)) st/\Q (.yield (none,out,ia,ib,g,ac,bc)) st
section
variable{a b out:Array Keyed}{ia ib g ac bc N:Nat}{Q:ForInStep uu->SortSt->Prop}
theorem LM(SA:So lt a.toList)(SB:So lt b.toList)(LA:∀x∈b.toList,∀q,a[a.size-1]?= some q->Le lt x q)(q:Bm lt a b st N Q)(ho:cv lt a b out ia ib)(h1:ia+1<a.size)(h2:ib<b.size)(hN:N<=ia+ib)(hp:∀p,a[ia]?= some p->∀y∈b.toList.drop ib,Le lt p y) :
  wpS (model prog w) A E s (Au a b out ia ib g ac bc) Q st:=by
 unfold Au;refine ap (ZP (by lia) fun p4 h4 e4=>?_);have o4:=ho.kT SA e4 (hp p4 e4);by_cases f1:(ia+1+1 == a.size)=true
 ·rw[ah f1];exact ar (q.R _ _ _ _ _ _ _ (o4.wj SA SB LA f1))
 rw[af f1];have n4:ia+1+1<a.size:=by
  have : ¬ ia+1+1=a.size:=fun e=>f1 (by simp[<- e]);lia
 have z:=q.N _ _ _ g ac bc o4 n4 h2 (by lia);by_cases f2:(decide (ac<7)&&decide (bc<7))=true
 ·rw[ah f2];exact ar z.1
 ·rw[af f2];exact ar z.2
theorem yz(o:cL lt)(hc:iA prog w A s κ Ok lt)(hk:kindOf st= κ)(ha:∀p∈a.toList,Ok p)(hb:∀p∈b.toList,Ok p)(SA:So lt a.toList)(SB:So lt b.toList)(LA:∀x∈b.toList,∀q,a[a.size-1]?= some q->Le lt x q)(q:Bm lt a b st N Q)(ho:cv lt a b out ia ib)(h1:ia+1<a.size)(h2:ib<b.size)(hN:N<=ia+ib)(hp:∀p,b[ib]?= some p->∀y∈a.toList.drop ia,Le lt p y)
  {T:Keyed->Option Nat->StateT SortSt Sem (ForInStep uu)} (hT:∀p k,T p (some k)=if k > 0 then(if(ib+1+k == b.size)=true then pure (.done (some (out.push p++b.extract (ib+1) (ib+1+k)++a.extract ia a.size++b.extract (ib+1+k) b.size),out.push p++b.extract (ib+1) (ib+1+k),ia,ib+1+k,g,ac,k))
     else Au a b (out.push p++b.extract (ib+1) (ib+1+k)) ia (ib+1+k) g ac k)
    else Au a b (out.push p) ia (ib+1) g ac k) :
  wpS (model prog w) A E s (elem' b ib >>= fun p=>if(ib+1 == b.size)=true then pure (.done (some (out.push p++a.extract ia a.size++b.extract (ib+1) b.size),out.push p,ia,ib+1,g,ac,bc))
   else elem' a ia >>= fun q=>B_ true q b (ib+1) (b.size-(ib+1)) 0 >>= T p) Q st:=by
 refine ap (ZP (by lia) fun p3 h3 e3=>?_);have o2:=ho.kU SB e3 (hp p3 e3);by_cases c3:(ib+1 == b.size)=true
 ·rw[ah c3];exact ar (q.R _ _ _ _ _ _ _ (o2.sy SA c3))
 rw[af c3];have n3:ib+1<b.size:=by
  have : ¬ ib+1=b.size:=fun e=>c3 (by simp[<- e]);lia
 refine ap (ZP (by lia) fun q3 g3 u3=>?_);refine ap (mU o hc hk (ha q3 g3) hb (by lia) (by lia) (pQ SB _ _) fun k2 iI G1 G2=>?_);rw[hT];by_cases kS:k2 > 0
 ·rw[ah kS];have o3:=o2.pU SB (k:=k2) (by lia) (fun x hx=>uS o SA u3 (Wh G1 o x hx));by_cases c4:(ib+1+k2 == b.size)=true
  ·rw[ah c4];exact ar (q.R _ _ _ _ _ _ _ (o3.sy SA c4))
  rw[af c4];have n5:ib+1+k2<b.size:=by
   have : ¬ ib+1+k2=b.size:=fun e=>c4 (by simp[<- e]);lia
  exact LM SA SB LA q o3 h1 n5 (by lia) fun p e=>by rw[fN e u3];exact MD G2
 ·rw[af kS];exact LM SA SB LA q o2 h1 n3 (by lia) fun p e=>by rw[fN e u3];exact MD (k:=0) (fun i _ hi=>G2 i (by lia) hi)
end
set_option maxHeartbeats 2000000 in
theorem QX{a b:Array Keyed}{Q:Array Keyed->SortSt->Prop}(o:cL lt)(hc:iA prog w A s κ Ok lt)(hk:kindOf st= κ)(ha:∀p∈a.toList,Ok p)(hb:∀p∈b.toList,Ok p)(N1:1<=a.size)(kD:1<=b.size)(SA:So lt a.toList)(SB:So lt b.toList)(gB:∀p,b[0]?= some p->∀y∈a.toList,Le lt p y)(LA:∀x∈b.toList,∀q,a[a.size-1]?= some q->Le lt x q)
  (h:∀r ag,bU st ag->Rs lt a b r->Q r ag):wpS (model prog w) A E s (S_ a b) Q st:=by
 refine ap (wpS_lift (mI ⟨rfl,?_⟩));refine ap (ZP (by lia) fun p hp he=>?_)
 try dsimp -zeta only
 have o0:cv lt a b #[p] 0 1:=V3 SB he gB;by_cases c1:(1 == b.size)=true
 ·rw[ah c1];exact ar (h _ _ (bU.refl _) (o0.sy SA c1))
 rw[af c1];by_cases c2:(0+1 == a.size)=true
 ·rw[ah c2];exact ar (h _ _ (bU.refl _) (o0.wj SA SB LA c2))
 rw[af c2];have n1:1<b.size:=by
  have : ¬ 1=b.size:=fun e=>c1 (by simp[<- e]);lia
 have n2:1<a.size:=by
  have : ¬ 1=a.size:=fun e=>c2 (by simp[<- e]);lia
 refine ap (iU ?_);refine ap (dG (d0 (I:=fun x c ag=>bU st ag/\∃out ia ib g,c=(none,out,ia,ib,g)/\cv lt a b out ia ib/\ia+1<a.size/\ib<b.size/\x+1<=ia+ib)
  (Q:=fun c ag=>bU st ag/\∃r out ia ib g,c=(some r,out,ia,ib,g)/\Rs lt a b r) ?_ ?_ ⟨bU.refl _,_,0,1,_,rfl,o0,by lia,by lia,by lia⟩) ?_)
 ·rintro x c bz _ hx ⟨lk,out,ia,ib,g,rfl,ho,fY,fh,dS⟩
  try dsimp -zeta only
  refine ap (dG (d0 (I:=fun y c ag=>bU st ag/\∃out ia ib ac bc,c=(none,out,ia,ib,ac,bc)/\cv lt a b out ia ib/\ia+1<a.size/\ib<b.size/\x+1+(if y=0 then 0 else 1)<=ia+ib)
   (Q:=fun c ag=>bU st ag/\((∃r out ia ib ac bc,c=(some r,out,ia,ib,ac,bc)/\Rs lt a b r)\/∃out ia ib ac bc,c=(none,out,ia,ib,ac,bc)/\cv lt a b out ia ib/\ia+1<a.size/\ib<b.size/\x+2<=ia+ib)) ?_ ?_ ⟨lk,out,ia,ib,0,0,rfl,ho,fY,fh,by simp;lia⟩) ?_)
  ·rintro y c aG _ hy ⟨dj,out,ia,ib,ac,bc,rfl,ho,fY,fh,dS⟩;dsimp only;have Zsz:x+1<=ia+ib:=by split at dS <;> lia
   refine ap (ZP (by lia) fun p hp ep=>?_);refine ap (ZP (by lia) fun q hq eq=>?_);refine ap (uP hc (dj.kind.trans hk) (hb p hp) (ha q hq) ?_);cases vL:lt p q with
   | true =>
    try dsimp -zeta only
    rw[ah rfl];refine ap (ZP (by lia) fun p2 bH iC=>?_);have o1:=ho.kU SB iC (by rw[fN iC ep];exact uS o SA eq (o.gG vL));by_cases d1:(ib+1 == b.size)=true
    ·rw[ah d1];exact ar ⟨dj,.inl ⟨_,_,_,_,_,_,rfl,(o1.sy SA d1)⟩⟩
    rw[af d1];have m1:ib+1<b.size:=by
     have : ¬ ib+1=b.size:=fun e=>d1 (by simp[<- e]);lia
    by_cases d2:bc+1>=g
    ·rw[ah d2];exact ar ⟨dj,.inr ⟨_,_,_,_,_,rfl,o1,fY,m1,by lia⟩⟩
    ·rw[af d2];exact ar ⟨dj,_,_,_,_,_,rfl,o1,fY,m1,by rw[af (by lia)];lia⟩
   | false =>
    try dsimp -zeta only
    rw[af bf];refine ap (ZP (by lia) fun p2 bH iC=>?_);have o1:=ho.kT SA iC (by rw[fN iC eq];exact uS o SB ep vL);by_cases d1:(ia+1+1 == a.size)=true
    ·rw[ah d1];exact ar ⟨dj,.inl ⟨_,_,_,_,_,_,rfl,(o1.wj SA SB LA d1)⟩⟩
    rw[af d1];have m1:ia+1+1<a.size:=by
     have : ¬ ia+1+1=a.size:=fun e=>d1 (by simp[<- e]);lia
    by_cases d2:ac+1>=g
    ·rw[ah d2];exact ar ⟨dj,.inr ⟨_,_,_,_,_,rfl,o1,m1,fh,by lia⟩⟩
    ·rw[af d2];exact ar ⟨dj,_,_,_,_,_,rfl,o1,m1,fh,by rw[af (by lia)];lia⟩
  ·rintro c aG ⟨dj,out,ia,ib,ac,bc,rfl,ho,fY,fh,dS⟩;refine⟨dj,.inr ⟨_,_,_,_,_,rfl,ho,fY,fh,?_⟩⟩;rw[af (by lia)] at dS;lia
  ·rintro c aG ⟨dj,⟨r,out,ia,ib,ac,bc,rfl,hr⟩|⟨out,ia,ib,ac,bc,rfl,ho,fY,fh,dS⟩⟩
   ·exact ar ⟨dj,_,_,_,_,_,rfl,hr⟩
   try dsimp -zeta only
   refine ap (wpS_lift (mI ⟨rfl,?_⟩))
   try dsimp -zeta only
   refine ap (dG (d0 (I:=fun y c ag=>bU st ag/\∃out ia ib g ac bc,c=(none,out,ia,ib,g,ac,bc)/\cv lt a b out ia ib/\ia+1<a.size/\ib<b.size/\x+2<=ia+ib)
    (Q:=fun c ag=>bU st ag/\((∃r out ia ib g ac bc,c=(some r,out,ia,ib,g,ac,bc)/\Rs lt a b r)\/∃out ia ib g ac bc,c=(none,out,ia,ib,g,ac,bc)/\cv lt a b out ia ib/\ia+1<a.size/\ib<b.size/\x+2<=ia+ib)) ?_ ?_ ⟨dj,out,ia,ib,_,_,_,rfl,ho,fY,fh,dS⟩) ?_)
   ·rintro y c aT _ hy ⟨gH,out,ia,ib,g3,ac,bc,rfl,ho,fY,fh,dS⟩;dsimp only;refine dG (Q:=IU lt a b st x) ?_ (fun r ag h=>by cases r <;> exact h)
    have Av:∀{aV},bU st aV->Bm lt a b aV (ia+ib) (IU lt a b st x):=fun bJ=>⟨fun r out ia ib g ac bc hr=>⟨bJ,.inl ⟨r,out,ia,ib,g,ac,bc,rfl,hr⟩⟩,fun out ia ib g ac bc ho h1 h2 hN=>⟨⟨bJ,.inr ⟨out,ia,ib,g,ac,bc,rfl,ho,h1,h2,by lia⟩⟩,⟨bJ,out,ia,ib,g,ac,bc,rfl,ho,h1,h2,by lia⟩⟩⟩;by_cases g1:g3 > 1
    ·rw[ah g1];refine ap (gf ?_);have bJ:=gH.trans (rj aT (g3-1));refine ap (ZP (by lia) fun p0 h0 e0=>?_);refine ap (mU o hc (bJ.kind.trans hk) (hb p0 h0) ha (by lia) (by lia) (pQ SA _ _) fun k sS F1 F2=>?_)
     try dsimp -zeta only
     by_cases k0:k > 0
     ·rw[ah k0];have o1:=ho.lX SA (k:=k) (by lia) (fun x hx=>uS o SB e0 (Mp F1 x hx));by_cases c1:(ia+k+1 == a.size)=true
      ·rw[ah c1];exact ar ⟨bJ,.inl ⟨_,_,_,_,_,_,_,rfl,(o1.wj SA SB LA c1)⟩⟩
      rw[af c1];by_cases c2:(ia+k == a.size)=true
      ·rw[ah c2];exact ar ⟨bJ,.inl ⟨_,_,_,_,_,_,_,rfl,(o1.nq SB c2)⟩⟩
      rw[af c2];have n1:ia+k+1<a.size:=by
       have h1 : ¬ ia+k+1=a.size:=fun e=>c1 (by simp[<- e]);have h2 : ¬ ia+k=a.size:=fun e=>c2 (by simp[<- e]);lia
      refine yz o hc (bJ.kind.trans hk) ha hb SA SB LA (N:=ia+ib) (Av bJ) o1 n1 fh (by lia) (fun p e=>by rw[fN e e0];exact yN F2 o) ?_;exact fun _ _=>rfl
     ·rw[af k0];refine yz o hc (bJ.kind.trans hk) ha hb SA SB LA (N:=ia+ib) (Av bJ) ho fY fh (az _) (fun p e=>by rw[fN e e0];exact yN (k:=0) (fun i _ hi=>F2 i (by lia) hi) o) ?_;exact fun _ _=>rfl
    ·rw[af g1];refine ap (gf ?_);have bJ:=gH.trans (rj aT g3);refine ap (ZP (by lia) fun p0 h0 e0=>?_);refine ap (mU o hc (bJ.kind.trans hk) (hb p0 h0) ha (by lia) (by lia) (pQ SA _ _) fun k sS F1 F2=>?_)
     try dsimp -zeta only
     by_cases k0:k > 0
     ·rw[ah k0];have o1:=ho.lX SA (k:=k) (by lia) (fun x hx=>uS o SB e0 (Mp F1 x hx));by_cases c1:(ia+k+1 == a.size)=true
      ·rw[ah c1];exact ar ⟨bJ,.inl ⟨_,_,_,_,_,_,_,rfl,(o1.wj SA SB LA c1)⟩⟩
      rw[af c1];by_cases c2:(ia+k == a.size)=true
      ·rw[ah c2];exact ar ⟨bJ,.inl ⟨_,_,_,_,_,_,_,rfl,(o1.nq SB c2)⟩⟩
      rw[af c2];have n1:ia+k+1<a.size:=by
       have h1 : ¬ ia+k+1=a.size:=fun e=>c1 (by simp[<- e]);have h2 : ¬ ia+k=a.size:=fun e=>c2 (by simp[<- e]);lia
      refine yz o hc (bJ.kind.trans hk) ha hb SA SB LA (N:=ia+ib) (Av bJ) o1 n1 fh (by lia) (fun p e=>by rw[fN e e0];exact yN F2 o) ?_;exact fun _ _=>rfl
     ·rw[af k0];refine yz o hc (bJ.kind.trans hk) ha hb SA SB LA (N:=ia+ib) (Av bJ) ho fY fh (az _) (fun p e=>by rw[fN e e0];exact yN (k:=0) (fun i _ hi=>F2 i (by lia) hi) o) ?_;exact fun _ _=>rfl
   ·rintro c aT ⟨gH,out,ia,ib,g3,ac,bc,rfl,ho,fY,fh,dS⟩;exact⟨gH,.inr ⟨_,_,_,_,_,_,rfl,ho,fY,fh,dS⟩⟩
   ·rintro c aT ⟨gH,⟨r,out,ia,ib,g3,ac,bc,rfl,hr⟩|⟨out,ia,ib,g3,ac,bc,rfl,ho,fY,fh,dS⟩⟩
    ·exact ar ⟨gH,_,_,_,_,_,rfl,hr⟩
    ·try dsimp -zeta only
     refine ap (gf ?_);exact ar ⟨gH.trans (rj _ _),_,_,_,_,rfl,ho,fY,fh,by lia⟩
 ·rintro c bz ⟨lk,out,ia,ib,g,rfl,ho,fY,fh,hx⟩;exfalso;lia
 ·rintro c bz ⟨lk,r,out,ia,ib,g,rfl,hr⟩;exact ar (h r bz lk hr)
end
section
variable{lt:Keyed->Keyed->Bool}{a b out:Array Keyed}{na nb k:Nat}{p q:Keyed}
structure cu(lt:Keyed->Keyed->Bool)(a b out:Array Keyed)(na nb:Nat):Prop where
 perm:du a b out na nb
 sort:So lt out.toList.reverse
 nN:∀x∈out.toList,∀y∈a.toList.take na,Le lt y x
 nO:∀x∈out.toList,∀y∈b.toList.take nb,Le lt y x
theorem xO(h1:1<=na)(hp:a[na-1]?= some p):a.toList.take na=a.toList.take (na-1) ++ [p]:=by
 have:=BR (yL hp);rw[Nat.sub_add_cancel h1] at this;exact this
theorem So.take{l:List Keyed}(h:So lt l)(n:Nat):So lt (l.take n):=qN (xi n l) h
theorem So.last(h:So lt a.toList)(h1:1<=na)(hp:a[na-1]?= some p):∀y∈a.toList.take (na-1),Le lt y p:=fun y hy=>by
 have:=h.take na;rw[xO h1 hp] at this;exact(fb.mp this).2.2 y hy p (bi.mpr rfl)
theorem uW(o:cL lt)(h:So lt a.toList)(h1:1<=na)(hp:a[na-1]?= some p){x:Keyed}(hx:Le lt p x):∀y∈a.toList.take na,Le lt y x:=fun y hy=>by
 rw[xO h1 hp] at hy;rcases bL.mp hy with hy|hy
 ·exact o.le_trans (h.last h1 hp y hy) hx
 ·rw[bi.mp hy];exact hx
theorem yj{l:List Keyed}{i j:Nat}(h:i<=j){y:Keyed}(hy:y∈l.take i):y∈l.take j:=by
 rw[show i=min i j by lia,<- List.take_take] at hy;exact oH hy
theorem uB{l:List Keyed}{n:Nat}{y:Keyed}(h:y∈l.take n):∃i,i<n/\l[i]?= some y:=by
 obtain⟨i,hi⟩:=j4.mp h;have nP:i<n:=by
  have:=(cB.mp hi).1;rw[dN] at this;lia
 rw[qP nP] at hi;exact⟨i,nP,hi⟩
theorem mW{i j:Nat}{x:Keyed}(h:x∈(a.extract i j).toList):∃m,i<=m/\m<j/\a[m]?= some x:=by
 rw[fF,List.extract_eq_drop_take] at h;obtain⟨m,hm,e⟩:=uB h;rw[j3] at e;exact⟨i+m,by lia,by lia,by rw[<- bE];exact e⟩
theorem Mm(F:∀i,k<=i->i<na->BV lt false p a 0 i=false)(o:cL lt):∀x∈(a.extract k na).toList,Le lt p x:=fun x hx=>by
 obtain⟨m,h1,h2,e⟩:=mW hx;have h3:=F m h1 h2;unfold BV at h3;rw[mG,e] at h3;have h4:(!lt p x)=false:=h3;exact o.gG (by simpa using h4)
theorem ym(F:∀i,i<k->BV lt false p a 0 i=true):∀y∈a.toList.take k,Le lt y p:=fun y hy=>by
 obtain⟨i,hi,e⟩:=uB hy;have h3:=F i hi;unfold BV at h3;rw[mG,<- bE,e] at h3;have h4:(!lt p y)=true:=h3;show lt p y=false
 simpa using h4
theorem VT(F:∀i,k<=i->i<nb->BV lt true q b 0 i=false):∀x∈(b.extract k nb).toList,Le lt q x:=fun x hx=>by
 obtain⟨m,h1,h2,e⟩:=mW hx;have h3:=F m h1 h2;unfold BV at h3;rw[mG,e] at h3;exact h3
theorem Mg(F:∀i,i<k->BV lt true q b 0 i=true)(o:cL lt):∀y∈b.toList.take k,Le lt y q:=fun y hy=>by
 obtain⟨i,hi,e⟩:=uB hy;have h3:=F i hi;unfold BV at h3;rw[mG,<- bE,e] at h3;exact o.gG h3
theorem KZ(h:So lt out.toList.reverse)(hp:∀x∈out.toList,Le lt p x):So lt (out.push p).toList.reverse:=by
 rw[fm,List.reverse_append];exact A2.mpr ⟨fun x hx=>hp x (lc.mp hx),h⟩
theorem cu.kT(h:cu lt a b out na nb)(SA:So lt a.toList)(h1:1<=na)(hp:a[na-1]?= some p)(hb:∀y∈b.toList.take nb,Le lt y p):cu lt a b (out.push p) (na-1) nb:=by
 have hm:p∈a.toList.take na:=by rw[xO h1 hp];exact fu _ (bi.mpr rfl)
 refine⟨h.perm.kT h1 hp,KZ h.sort fun x hx=>h.nN x hx p hm,fun x hx y hy=>?_,fun x hx y hy=>?_⟩
 ·rcases mem_push hx with hx|rfl
  ·exact h.nN x hx y (yj (by lia) hy)
  ·exact SA.last h1 hp y hy
 ·rcases mem_push hx with hx|rfl
  ·exact h.nO x hx y hy
  ·exact hb y hy
theorem cu.kU(h:cu lt a b out na nb)(SB:So lt b.toList)(h1:1<=nb)(hp:b[nb-1]?= some p)(ha:∀y∈a.toList.take na,Le lt y p):cu lt a b (out.push p) na (nb-1):=by
 have hm:p∈b.toList.take nb:=by rw[xO h1 hp];exact fu _ (bi.mpr rfl)
 refine⟨h.perm.kU h1 hp,KZ h.sort fun x hx=>h.nO x hx p hm,fun x hx y hy=>?_,fun x hx y hy=>?_⟩
 ·rcases mem_push hx with hx|rfl
  ·exact h.nN x hx y hy
  ·exact ha y hy
 ·rcases mem_push hx with hx|rfl
  ·exact h.nO x hx y (yj (by lia) hy)
  ·exact SB.last h1 hp y hy
theorem LX(h:So lt a.toList)(i j:Nat):So lt (a.extract i j).toList:=by
 rw[fF,List.extract_eq_drop_take];exact(h.drop i).take _
theorem LK{i j:Nat}{x:Keyed}(h:x∈(a.extract i j).toList):x∈a.toList.take j:=by
 obtain⟨m,h1,h2,e⟩:=mW h;rw[<- bE] at e;refine j4.mpr ⟨m,?_⟩;rw[qP h2];exact e
theorem JB(h:So lt a.toList){i j:Nat}{x y:Keyed}(hy:y∈a.toList.take i)(hx:x∈(a.extract i j).toList):Le lt y x:=by
 obtain⟨m,h1,h2,e⟩:=mW hx;obtain⟨l,hl,e2⟩:=uB hy;rw[bE] at e2;exact pQ h 0 (m+1) l m _ _ (bj _) (by lia) (by lia) e2 e
theorem cu.lX(h:cu lt a b out na nb)(SA:So lt a.toList)(hk:k<=na)(hb:∀x∈(a.extract k na).toList,∀y∈b.toList.take nb,Le lt y x):cu lt a b (out++(a.extract k na).reverse) k nb:=by
 have hm:∀x,x∈(out++(a.extract k na).reverse).toList->x∈out.toList\/x∈(a.extract k na).toList:=fun x hx=>by
  rw[bO,kY] at hx;rcases bL.mp hx with hx|hx
  ·exact .inl hx
  ·exact .inr (lc.mp hx)
 refine⟨h.perm.lX hk,?_,fun x hx y hy=>?_,fun x hx y hy=>?_⟩
 ·rw[bO,kY,List.reverse_append,List.reverse_reverse];exact fb.mpr ⟨LX SA _ _,h.sort,fun x hx y hy=>h.nN y (lc.mp hy) x (LK hx)⟩
 ·rcases hm x hx with hx|hx
  ·exact h.nN x hx y (yj (by lia) hy)
  ·exact JB SA hy hx
 ·rcases hm x hx with hx|hx
  ·exact h.nO x hx y hy
  ·exact hb x hx y hy
theorem cu.pU(h:cu lt a b out na nb)(SB:So lt b.toList)(hk:k<=nb)(ha:∀x∈(b.extract k nb).toList,∀y∈a.toList.take na,Le lt y x):cu lt a b (out++(b.extract k nb).reverse) na k:=by
 have hm:∀x,x∈(out++(b.extract k nb).reverse).toList->x∈out.toList\/x∈(b.extract k nb).toList:=fun x hx=>by
  rw[bO,kY] at hx;rcases bL.mp hx with hx|hx
  ·exact .inl hx
  ·exact .inr (lc.mp hx)
 refine⟨h.perm.pU hk,?_,fun x hx y hy=>?_,fun x hx y hy=>?_⟩
 ·rw[bO,kY,List.reverse_append,List.reverse_reverse];exact fb.mpr ⟨LX SB _ _,h.sort,fun x hx y hy=>h.nO y (lc.mp hy) x (LK hx)⟩
 ·rcases hm x hx with hx|hx
  ·exact h.nN x hx y hy
  ·exact ha x hx y hy
 ·rcases hm x hx with hx|hx
  ·exact h.nO x hx y (yj (by lia) hy)
  ·exact JB SB hy hx
theorem cu.nq(h:cu lt a b out na nb)(SB:So lt b.toList)(e:(na == 0)=true):Rs lt a b (a.extract 0 na++b.extract 0 nb++out.reverse):=by
 refine⟨h.perm.done,?_⟩;rw[bO,bO,nu,nu,kY,eq_of_beq e,List.take_zero,qQ];exact fb.mpr ⟨SB.take nb,h.sort,fun x hx y hy=>h.nO y (lc.mp hy) x hx⟩
theorem cu.sy(h:cu lt a b out na nb)(SA:So lt a.toList)(e:(nb == 0)=true):Rs lt a b (a.extract 0 na++b.extract 0 nb++out.reverse):=by
 refine⟨h.perm.done,?_⟩;rw[bO,bO,nu,nu,kY,eq_of_beq e,List.take_zero,iP];exact fb.mpr ⟨SA.take na,h.sort,fun x hx y hy=>h.nN y (lc.mp hy) x hx⟩
theorem cu.zc(h:cu lt a b out na nb)(SA:So lt a.toList)(SB:So lt b.toList)(gB:∀p,b[0]?= some p->∀y∈a.toList,Le lt p y)(e:(nb == 1)=true):Rs lt a b (b.extract 0 nb++a.extract 0 na++out.reverse):=by
 refine⟨h.perm.first,?_⟩
 rw[bO,bO,nu,nu,kY];refine fb.mpr ⟨fb.mpr ⟨SB.take nb,SA.take na,fun x hx y hy=>?_⟩,h.sort,fun x hx y hy=>?_⟩
 ·obtain⟨i,hi,e2⟩:=uB hx;rw[eq_of_beq e] at hi;obtain rfl:i=0:=by lia
  rw[bE] at e2;exact gB x e2 y (oH hy)
 ·rcases bL.mp hx with hx|hx
  ·exact h.nO y (lc.mp hy) x hx
  ·exact h.nN y (lc.mp hy) x hx
theorem VF(SA:So lt a.toList)(h1:1<=a.size)(hp:a[a.size-1]?= some p)(LA:∀x∈b.toList,∀q,a[a.size-1]?= some q->Le lt x q):cu lt a b #[p] (a.size-1) b.size:=by
 refine⟨VS h1 hp,List.pairwise_singleton _ _,fun x hx y hy=>?_,fun x hx y hy=>?_⟩
 ·obtain rfl:x=p:=by simpa using hx
  exact SA.last h1 hp y hy
 ·obtain rfl:x=p:=by simpa using hx
  exact LA y (oH hy) x hp
end
section
variable{prog:Program}{w:World}{A:Around}{E:Value->Shared->Prop}{s:Shared}{κ : SortKind}{Ok:Keyed->Prop}{st:SortSt}{lt:Keyed->Keyed->Bool}
abbrev uo:=Option (Array Keyed)×Nat×Nat×Array Keyed×Nat×Nat×Nat
def zD(a b:Array Keyed)(na nb:Nat)(out:Array Keyed)(g ac bc:Nat):StateT SortSt Sem (ForInStep uo) :=
 elem' a (na-1) >>= fun p=>if(na-1 == 0)=true then pure (.done (some (a.extract 0 (na-1)++b.extract 0 nb++(out.push p).reverse),na-1,nb,out.push p,g,ac,bc))
  else if(decide (ac<7)&&decide (bc<7))=true then pure (.done (none,na-1,nb,out.push p,g,ac,bc)) else pure (.yield (none,na-1,nb,out.push p,g,ac,bc))
structure Bk(lt:Keyed->Keyed->Bool)(a b:Array Keyed)(st:SortSt)(N:Nat)(Q:ForInStep uo->SortSt->Prop):Prop where
 R:∀r na nb out g ac bc,Rs lt a b r->Q (.done (some r,na,nb,out,g,ac,bc)) st
 N:∀na nb out g ac bc,cu lt a b out na nb->1<=na->na<=a.size->2<=nb->nb<=b.size->na+nb<=N->Q (.done (none,na,nb,out,g,ac,bc)) st/\Q (.yield (none,na,nb,out,g,ac,bc)) st
def IT(lt:Keyed->Keyed->Bool)(a b:Array Keyed)(st:SortSt)(x:Nat):ForInStep uo->SortSt->Prop:=fun r ag=>match r with
 | .done c=>bU st ag/\((∃r na nb out g ac bc,c=(some r,na,nb,out,g,ac,bc)/\Rs lt a b r)\/∃na nb out g ac bc,c=(none,na,nb,out,g,ac,bc)/\cu lt a b out na nb/\1<=na/\na<=a.size/\2<=nb/\nb<=b.size/\na+nb+x+2<=a.size+b.size)
 | .yield c=>bU st ag/\∃na nb out g ac bc,c=(none,na,nb,out,g,ac,bc)/\cu lt a b out na nb/\1<=na/\na<=a.size/\2<=nb/\nb<=b.size/\na+nb+x+2<=a.size+b.size
section
variable{a b out:Array Keyed}{na nb g ac bc N:Nat}{Q:ForInStep uo->SortSt->Prop}
theorem LN(SA:So lt a.toList)(SB:So lt b.toList)(q:Bk lt a b st N Q)(ho:cu lt a b out na nb)(h1:1<=na)(h2:na<=a.size)(h3:2<=nb)(h4:nb<=b.size)(hN:na+nb<=N)(hp:∀p,a[na-1]?= some p->∀y∈b.toList.take nb,Le lt y p) :
  wpS (model prog w) A E s (zD a b na nb out g ac bc) Q st:=by
 unfold zD;refine ap (ZP (by lia) fun p4 w4 e4=>?_);have o4:=ho.kT SA h1 e4 (hp p4 e4);by_cases f1:(na-1 == 0)=true
 ·rw[ah f1];exact ar (q.R _ _ _ _ _ _ _ (o4.nq SB f1))
 rw[af f1];have n4 : ¬ na-1=0:=fun e=>f1 (by simp[e]);have z:=q.N _ _ _ g ac bc o4 (by lia) (by lia) h3 h4 (by lia);by_cases f2:(decide (ac<7)&&decide (bc<7))=true
 ·rw[ah f2];exact ar z.1
 ·rw[af f2];exact ar z.2
theorem yx(o:cL lt)(hc:iA prog w A s κ Ok lt)(hk:kindOf st= κ)(ha:∀p∈a.toList,Ok p)(hb:∀p∈b.toList,Ok p)(gB:∀p,b[0]?= some p->∀y∈a.toList,Le lt p y)(SA:So lt a.toList)(SB:So lt b.toList)(q:Bk lt a b st N Q)(ho:cu lt a b out na nb)(h1:1<=na)(h2:na<=a.size)(h3:2<=nb)(h4:nb<=b.size)(hN:na+nb<=N)(hp:∀p,b[nb-1]?= some p->∀y∈a.toList.take na,Le lt y p)
  {T:Keyed->Option Nat->StateT SortSt Sem (ForInStep uo)} (hT:∀p k,T p (some k)=if nb-1-k > 0 then(if(k == 1)=true then pure (.done (some (b.extract 0 k++a.extract 0 na++(out.push p++(b.extract k (nb-1)).reverse).reverse),na,k,out.push p++(b.extract k (nb-1)).reverse,g,ac,nb-1-k))
     else if(k == 0)=true then pure (.done (some (a.extract 0 na++b.extract 0 k++(out.push p++(b.extract k (nb-1)).reverse).reverse),na,k,out.push p++(b.extract k (nb-1)).reverse,g,ac,nb-1-k))
     else zD a b na k (out.push p++(b.extract k (nb-1)).reverse) g ac (nb-1-k))
    else zD a b na (nb-1) (out.push p) g ac (nb-1-k)) :
  wpS (model prog w) A E s (elem' b (nb-1) >>= fun p=>if(nb-1 == 1)=true then pure (.done (some (b.extract 0 (nb-1)++a.extract 0 na++(out.push p).reverse),na,nb-1,out.push p,g,ac,bc))
   else elem' a (na-1) >>= fun q=>B_ true q b 0 (nb-1) (nb-1-1) >>= T p) Q st:=by
 refine ap (ZP (by lia) fun p3 w3 e3=>?_);have o2:=ho.kU SB (by lia) e3 (hp p3 e3);by_cases c3:(nb-1 == 1)=true
 ·rw[ah c3];exact ar (q.R _ _ _ _ _ _ _ (o2.zc SA SB gB c3))
 rw[af c3];have n3 : ¬ nb-1=1:=fun e=>c3 (by simp[e]);refine ap (ZP (by lia) fun q3 v3 u3=>?_);refine ap (mU o hc hk (ha q3 v3) hb (by lia) (by lia) (pQ SB _ _) fun k2 iI G1 G2=>?_);rw[hT];by_cases kS:nb-1-k2 > 0
 ·rw[ah kS];have o3:=o2.pU SB (k:=k2) (by lia) (fun x hx=>uW o SA (by lia) u3 (VT G2 x hx));by_cases c4:(k2 == 1)=true
  ·rw[ah c4];exact ar (q.R _ _ _ _ _ _ _ (o3.zc SA SB gB c4))
  rw[af c4];by_cases c5:(k2 == 0)=true
  ·rw[ah c5];exact ar (q.R _ _ _ _ _ _ _ (o3.sy SA c5))
  rw[af c5];have n5 : ¬ k2=1:=fun e=>c4 (by simp[e]);have n6 : ¬ k2=0:=fun e=>c5 (by simp[e]);exact LN SA SB q o3 h1 h2 (by lia) (by lia) (by lia) fun p e=>by rw[fN e u3];exact Mg G1 o
 ·rw[af kS];exact LN SA SB q o2 h1 h2 (by lia) (by lia) (by lia) fun p e=>by rw[fN e u3];exact Mg (fun i hi=>G1 i (by lia)) o
end
set_option maxHeartbeats 2000000 in
theorem QQ{a b:Array Keyed}{Q:Array Keyed->SortSt->Prop}(o:cL lt)(hc:iA prog w A s κ Ok lt)(hk:kindOf st= κ)(ha:∀p∈a.toList,Ok p)(hb:∀p∈b.toList,Ok p)(N1:1<=a.size)(kD:1<=b.size)(SA:So lt a.toList)(SB:So lt b.toList)(gB:∀p,b[0]?= some p->∀y∈a.toList,Le lt p y)(LA:∀x∈b.toList,∀q,a[a.size-1]?= some q->Le lt x q)
  (h:∀r ag,bU st ag->Rs lt a b r->Q r ag):wpS (model prog w) A E s (Th a b) Q st:=by
 refine ap (wpS_lift (mI ⟨rfl,?_⟩));refine ap (ZP (by lia) fun p hp he=>?_)
 try dsimp -zeta only
 have o0:cu lt a b #[p] (a.size-1) b.size:=VF SA N1 he LA;by_cases c1:(a.size-1 == 0)=true
 ·rw[ah c1];exact ar (h _ _ (bU.refl _) (o0.nq SB c1))
 rw[af c1];by_cases c2:(b.size == 1)=true
 ·rw[ah c2];exact ar (h _ _ (bU.refl _) (o0.zc SA SB gB c2))
 rw[af c2];have n1:1<b.size:=by
  have : ¬ b.size=1:=fun e=>c2 (by simp[e]);lia
 have n2:1<a.size:=by
  have : ¬ a.size-1=0:=fun e=>c1 (by simp[e]);lia
 refine ap (iU ?_);refine ap (dG (d0 (I:=fun x c ag=>bU st ag/\∃na nb out g,c=(none,na,nb,out,g)/\cu lt a b out na nb/\1<=na/\na<=a.size/\2<=nb/\nb<=b.size/\na+nb+x+1<=a.size+b.size)
  (Q:=fun c ag=>bU st ag/\∃r na nb out g,c=(some r,na,nb,out,g)/\Rs lt a b r) ?_ ?_ ⟨bU.refl _,_,_,_,_,rfl,o0,by lia,by lia,by lia,by lia,by lia⟩) ?_)
 ·rintro x c bz _ hx ⟨lk,na,nb,out,g,rfl,ho,h1,h2,h3,h4,dS⟩
  try dsimp -zeta only
  refine ap (dG (d0 (I:=fun y c ag=>bU st ag/\∃na nb out ac bc,c=(none,na,nb,out,ac,bc)/\cu lt a b out na nb/\1<=na/\na<=a.size/\2<=nb/\nb<=b.size/\na+nb+x+1+(if y=0 then 0 else 1)<=a.size+b.size)
   (Q:=fun c ag=>bU st ag/\((∃r na nb out ac bc,c=(some r,na,nb,out,ac,bc)/\Rs lt a b r)\/∃na nb out ac bc,c=(none,na,nb,out,ac,bc)/\cu lt a b out na nb/\1<=na/\na<=a.size/\2<=nb/\nb<=b.size/\na+nb+x+2<=a.size+b.size)) ?_ ?_ ⟨lk,na,nb,out,0,0,rfl,ho,h1,h2,h3,h4,by simp;lia⟩) ?_)
  ·rintro y c aG _ hy ⟨dj,na,nb,out,ac,bc,rfl,ho,h1,h2,h3,h4,dS⟩;have Zsz:na+nb+x+1<=a.size+b.size:=by split at dS <;> lia
   try dsimp only
   refine ap (ZP (by lia) fun p hp ep=>?_);refine ap (ZP (by lia) fun q hq eq=>?_);refine ap (uP hc (dj.kind.trans hk) (hb p hp) (ha q hq) ?_);cases vL:lt p q with
   | true =>
    try dsimp only
    rw[ah rfl];refine ap (ZP (by lia) fun p2 bH iC=>?_);have o1:=ho.kT SA h1 iC (by rw[fN iC eq];exact uW o SB (by lia) ep (o.gG vL));by_cases d1:(na-1 == 0)=true
    ·rw[ah d1];exact ar ⟨dj,.inl ⟨_,_,_,_,_,_,rfl,(o1.nq SB d1)⟩⟩
    rw[af d1];have m1 : ¬ na-1=0:=fun e=>d1 (by simp[e]);by_cases d2:ac+1>=g
    ·rw[ah d2];exact ar ⟨dj,.inr ⟨_,_,_,_,_,rfl,o1,by lia,by lia,h3,h4,by lia⟩⟩
    ·rw[af d2];exact ar ⟨dj,_,_,_,_,_,rfl,o1,by lia,by lia,h3,h4,by rw[af (by lia)];lia⟩
   | false =>
    try dsimp only
    rw[af bf];refine ap (ZP (by lia) fun p2 bH iC=>?_);have o1:=ho.kU SB (by lia) iC (by rw[fN iC ep];exact uW o SA h1 eq vL);by_cases d1:(nb-1 == 1)=true
    ·rw[ah d1];exact ar ⟨dj,.inl ⟨_,_,_,_,_,_,rfl,(o1.zc SA SB gB d1)⟩⟩
    rw[af d1];have m1 : ¬ nb-1=1:=fun e=>d1 (by simp[e]);by_cases d2:bc+1>=g
    ·rw[ah d2];exact ar ⟨dj,.inr ⟨_,_,_,_,_,rfl,o1,h1,h2,by lia,by lia,by lia⟩⟩
    ·rw[af d2];exact ar ⟨dj,_,_,_,_,_,rfl,o1,h1,h2,by lia,by lia,by rw[af (by lia)];lia⟩
  ·rintro c aG ⟨dj,na,nb,out,ac,bc,rfl,ho,h1,h2,h3,h4,dS⟩;refine⟨dj,.inr ⟨_,_,_,_,_,rfl,ho,h1,h2,h3,h4,?_⟩⟩;rw[af (by lia)] at dS;lia
  ·rintro c aG ⟨dj,⟨r,na,nb,out,ac,bc,rfl,hr⟩|⟨na,nb,out,ac,bc,rfl,ho,h1,h2,h3,h4,dS⟩⟩
   ·exact ar ⟨dj,_,_,_,_,_,rfl,hr⟩
   try dsimp -zeta only
   refine ap (wpS_lift (mI ⟨rfl,?_⟩))
   try dsimp -zeta only
   refine ap (dG (d0 (I:=fun y c ag=>bU st ag/\∃na nb out g ac bc,c=(none,na,nb,out,g,ac,bc)/\cu lt a b out na nb/\1<=na/\na<=a.size/\2<=nb/\nb<=b.size/\na+nb+x+2<=a.size+b.size)
    (Q:=fun c ag=>bU st ag/\((∃r na nb out g ac bc,c=(some r,na,nb,out,g,ac,bc)/\Rs lt a b r)\/∃na nb out g ac bc,c=(none,na,nb,out,g,ac,bc)/\cu lt a b out na nb/\1<=na/\na<=a.size/\2<=nb/\nb<=b.size/\na+nb+x+2<=a.size+b.size)) ?_ ?_ ⟨dj,na,nb,out,_,_,_,rfl,ho,h1,h2,h3,h4,dS⟩) ?_)
   ·rintro y c aT _ hy ⟨gH,na,nb,out,g3,ac,bc,rfl,ho,h1,h2,h3,h4,dS⟩
    try dsimp only
    refine dG (Q:=IT lt a b st x) ?_ (fun r ag h=>by cases r <;> exact h)
    have nS:∀{aV},bU st aV->Bk lt a b aV (na+nb) (IT lt a b st x):=fun bJ=>⟨fun r na nb out g ac bc hr=>⟨bJ,.inl ⟨r,na,nb,out,g,ac,bc,rfl,hr⟩⟩,fun na nb out g ac bc ho h1 h2 h3 h4 hN=>⟨⟨bJ,.inr ⟨na,nb,out,g,ac,bc,rfl,ho,h1,h2,h3,h4,by lia⟩⟩,⟨bJ,na,nb,out,g,ac,bc,rfl,ho,h1,h2,h3,h4,by lia⟩⟩⟩;by_cases g1:g3 > 1
    ·rw[ah g1];refine ap (gf ?_);have bJ:=gH.trans (rj aT (g3-1));refine ap (ZP (by lia) fun p0 w0 e0=>?_);refine ap (mU o hc (bJ.kind.trans hk) (hb p0 w0) ha (by lia) (by lia) (pQ SA _ _) fun k sS F1 F2=>?_);dsimp only;by_cases k0:na-k > 0
     ·rw[ah k0];have o1:=ho.lX SA (k:=k) (by lia) (fun x hx=>uW o SB (by lia) e0 (Mm F2 o x hx));by_cases c1:(k == 0)=true
      ·rw[ah c1];exact ar ⟨bJ,.inl ⟨_,_,_,_,_,_,_,rfl,(o1.nq SB c1)⟩⟩
      rw[af c1];have n1 : ¬ k=0:=fun e=>c1 (by simp[e]);refine yx o hc (bJ.kind.trans hk) ha hb gB SA SB (N:=na+nb) (nS bJ) o1 (by lia) (by lia) h3 h4 (by lia) (fun p e=>by rw[fN e e0];exact ym F1) ?_;exact fun _ _=>rfl
     ·rw[af k0];refine yx o hc (bJ.kind.trans hk) ha hb gB SA SB (N:=na+nb) (nS bJ) ho h1 h2 h3 h4 (az _) (fun p e=>by rw[fN e e0];exact ym fun i hi=>F1 i (by lia)) ?_;exact fun _ _=>rfl
    ·rw[af g1];refine ap (gf ?_);have bJ:=gH.trans (rj aT g3);refine ap (ZP (by lia) fun p0 w0 e0=>?_);refine ap (mU o hc (bJ.kind.trans hk) (hb p0 w0) ha (by lia) (by lia) (pQ SA _ _) fun k sS F1 F2=>?_);dsimp only;by_cases k0:na-k > 0
     ·rw[ah k0];have o1:=ho.lX SA (k:=k) (by lia) (fun x hx=>uW o SB (by lia) e0 (Mm F2 o x hx));by_cases c1:(k == 0)=true
      ·rw[ah c1];exact ar ⟨bJ,.inl ⟨_,_,_,_,_,_,_,rfl,(o1.nq SB c1)⟩⟩
      rw[af c1];have n1 : ¬ k=0:=fun e=>c1 (by simp[e]);refine yx o hc (bJ.kind.trans hk) ha hb gB SA SB (N:=na+nb) (nS bJ) o1 (by lia) (by lia) h3 h4 (by lia) (fun p e=>by rw[fN e e0];exact ym F1) ?_;exact fun _ _=>rfl
     ·rw[af k0];refine yx o hc (bJ.kind.trans hk) ha hb gB SA SB (N:=na+nb) (nS bJ) ho h1 h2 h3 h4 (az _) (fun p e=>by rw[fN e e0];exact ym fun i hi=>F1 i (by lia)) ?_;exact fun _ _=>rfl
   ·rintro c aT ⟨gH,na,nb,out,g3,ac,bc,rfl,ho,h1,h2,h3,h4,dS⟩;exact⟨gH,.inr ⟨_,_,_,_,_,_,rfl,ho,h1,h2,h3,h4,dS⟩⟩
   ·rintro c aT ⟨gH,⟨r,na,nb,out,g3,ac,bc,rfl,hr⟩|⟨na,nb,out,g3,ac,bc,rfl,ho,h1,h2,h3,h4,dS⟩⟩
    ·exact ar ⟨gH,_,_,_,_,_,rfl,hr⟩
    ·try dsimp only
     refine ap (gf ?_);exact ar ⟨gH.trans (rj _ _),_,_,_,_,rfl,ho,h1,h2,h3,h4,by lia⟩
 ·rintro c bz ⟨lk,na,nb,out,g,rfl,ho,h1,h2,h3,h4,hx⟩;exfalso;lia
 ·rintro c bz ⟨lk,r,na,nb,out,g,rfl,hr⟩;exact ar (h r bz lk hr)
end
structure Pl(lo hi:Nat)(st ag:SortSt):Prop where
 pm:Pm st ag
 out:∀i,i<lo\/hi<=i->(arrOf ag)[i]?= (arrOf st)[i]?
theorem Pl.refl(lo hi:Nat)(st:SortSt):Pl lo hi st st:=⟨Pm.refl _,fun _ _=>rfl⟩
theorem Pl.trans{lo hi:Nat}{a b c:SortSt}(x:Pl lo hi a b)(y:Pl lo hi b c):Pl lo hi a c:=⟨x.pm.trans y.pm,fun i h=>(y.out i h).trans (x.out i h)⟩
theorem Pl.mirror{lo hi i j:Nat}(st:SortSt)(h1:lo<=i)(h2:j<=hi)(hj:j<=(arrOf st).size):Pl lo hi st (setArr st (mirror (arrOf st) i j ((j-i) / 2))):=⟨Pm.mirror st i j,fun k hk=>by
 show(PyProof.Rows.mirror (arrOf st) i j ((j-i) / 2))[k]?= _;rw[lj hj,af (by lia)]⟩
theorem Pl.bubble{lo hi src dst:Nat}(st:SortSt)(h1:lo<=dst)(h2:dst<=src)(h3:src<hi)(hs:src<(arrOf st).size):Pl lo hi st (setArr st (bubble (arrOf st) src (src-dst))):=⟨Pm.bubble st src dst,fun k hk=>by
 show(PyProof.Rows.bubble (arrOf st) src (src-dst))[k]?= _;rw[getElem?_bubble hs _ (by lia),af (by lia),af (by lia)]⟩
section
variable{lt:Keyed->Keyed->Bool}{arr:Array Keyed}{lo hi m:Nat}{p q:Keyed}
def Dn(lt:Keyed->Keyed->Bool)(arr:Array Keyed)(i j:Nat):Prop := ∀x y p q,i<=x->x<y->y<j->arr[x]?= some p->arr[y]?= some q->Le lt q p
def Eqv(lt:Keyed->Keyed->Bool)(arr:Array Keyed)(i j:Nat):Prop := ∀x y p q,i<=x->x<j->i<=y->y<j->arr[x]?= some p->arr[y]?= some q->Le lt p q
theorem L1:Up lt arr lo (lo+1):=fun x y _ _ h1 h2 h3=>by lia
theorem Vc:Dn lt arr lo (lo+1):=fun x y _ _ h1 h2 h3=>by lia
theorem Up.ext(o:cL lt)(h:Up lt arr lo m)(hm:lo<m)(hp:arr[m-1]?= some p)(hq:arr[m]?= some q)(hle:Le lt p q):Up lt arr lo (m+1):=fun x y u v h1 h2 h3 eu ev=>by
 by_cases hy:y<m
 ·exact h x y u v h1 h2 hy eu ev
 obtain rfl:y=m:=by lia
 rw[hq] at ev;cases ev;by_cases hx:x=y-1
 ·rw[hx,hp] at eu;cases eu;exact hle
 ·exact o.le_trans (h x (y-1) u p h1 (by lia) (by lia) eu hp) hle
theorem Dn.ext(o:cL lt)(h:Dn lt arr lo m)(hm:lo<m)(hp:arr[m-1]?= some p)(hq:arr[m]?= some q)(hle:Le lt q p):Dn lt arr lo (m+1):=fun x y u v h1 h2 h3 eu ev=>by
 by_cases hy:y<m
 ·exact h x y u v h1 h2 hy eu ev
 obtain rfl:y=m:=by lia
 rw[hq] at ev;cases ev;by_cases hx:x=y-1
 ·rw[hx,hp] at eu;cases eu;exact hle
 ·exact o.le_trans hle (h x (y-1) u p h1 (by lia) (by lia) eu hp)
theorem Dn.mirror(h:Dn lt arr lo hi)(hs:hi<=arr.size):Up lt (mirror arr lo hi ((hi-lo) / 2)) lo hi:=fun x y u v h1 h2 h3 eu ev=>by
 rw[lj hs,ah (by lia)] at eu ev;exact h (lo+hi-1-y) (lo+hi-1-x) v u (by lia) (by lia) (by lia) ev eu
theorem Up.mirror(h:Up lt arr lo hi)(hs:hi<=arr.size):Dn lt (mirror arr lo hi ((hi-lo) / 2)) lo hi:=fun x y u v h1 h2 h3 eu ev=>by
 rw[lj hs,ah (by lia)] at eu ev;exact h (lo+hi-1-y) (lo+hi-1-x) v u (by lia) (by lia) (by lia) ev eu
theorem Dn.turn(h:Dn lt arr lo hi)(he:Eqv lt arr m hi)(hm:lo<=m)(hs:hi<=arr.size):Dn lt (PyProof.Rows.mirror arr m hi ((hi-m) / 2)) lo hi:=fun x y u v h1 h2 h3 eu ev=>by
 rw[lj hs] at eu ev;by_cases hy:m<=y/\y<hi
 ·rw[ah hy] at ev;by_cases hx:m<=x/\x<hi
  ·rw[ah hx] at eu;exact he _ _ _ _ (by lia) (by lia) (by lia) (by lia) ev eu
  ·rw[af hx] at eu;exact h x (m+hi-1-y) u v h1 (by lia) (by lia) eu ev
 ·rw[af hy] at ev;rw[af (by lia)] at eu;exact h x y u v h1 h2 h3 eu ev
end
section
variable{prog:Program}{w:World}{A:Around}{E:Value->Shared->Prop}{s:Shared}{κ : SortKind}{Ok:Keyed->Prop}{st:SortSt}{lt:Keyed->Keyed->Bool}
theorem jv{i j:Nat}{Q:Option Bool->SortSt->Prop}(hc:iA prog w A s κ Ok lt)(hk:kindOf st= κ)(ho:∀p∈(arrOf st).toList,Ok p)(hi:i<(arrOf st).size)(hj:j<(arrOf st).size)(h:∀p q,(arrOf st)[i]?= some p->(arrOf st)[j]?= some q->Q (some (lt p q)) st):wpS (model prog w) A E s (ltAt' i j) Q st:=by
 rw[ltAt'_eq];refine ap (iU ?_);refine ap (ZP hi fun p hp e1=>ap (ZP hj fun q hq e2=>?_));exact uP hc hk (ho p hp) (ho q hq) (h p q e1 e2)
theorem lN{i j:Nat}{Q:PUnit->SortSt->Prop}(h:Q ⟨⟩ (setArr st (mirror (arrOf st) i j ((j-i) / 2)))):wpS (model prog w) A E s (reverseSlice' i j) Q st:=by
 rw[reverseSlice'_eq];exact gf h
theorem RZ{i j:Nat}{Q:PUnit->SortSt->Prop}(h:Q ⟨⟩ (setArr st (bubble (arrOf st) i (i-j)))):wpS (model prog w) A E s (moveDown' i j) Q st:=by
 rw[moveDown'_eq];exact gf h
theorem V5(o:cL lt){arr:Array Keyed}{lo k l:Nat}{pv:Keyed}(h:Up lt arr lo (lo+k))(hs:lo+k<arr.size)(hl:l<=k)(ep:arr[lo+k]?= some pv)(h1:∀i p,i<l->arr[lo+i]?= some p->Le lt p pv)(h2:∀i p,l<=i->i<k->arr[lo+i]?= some p->lt pv p=true) :
  Up lt (bubble arr (lo+k) (lo+k-(lo+l))) lo (lo+k+1):=fun x y u v a1 a2 a3 eu ev=>by
 rw[getElem?_bubble hs _ (by lia)] at eu ev;rw[show lo+k-(lo+k-(lo+l))=lo+l by lia] at eu ev;by_cases hy:y=lo+l
 ·rw[ah hy,ep] at ev;cases ev;rw[af (by lia),af (by lia)] at eu;exact h1 (x-lo) u (by lia) (by rw[show lo+(x-lo)=x by lia];exact eu)
 rw[af hy] at ev;by_cases hx:x=lo+l
 ·rw[ah hx,ep] at eu;cases eu;rw[ah (by lia)] at ev;exact o.gG (h2 (y-1-lo) v (by lia) (by lia) (by rw[show lo+(y-1-lo)=y-1 by lia];exact ev))
 rw[af hx] at eu;by_cases hU:lo+l<y/\y<=lo+k
 ·rw[ah hU] at ev;by_cases fD:lo+l<x/\x<=lo+k
  ·rw[ah fD] at eu;exact h (x-1) (y-1) u v (by lia) (by lia) (by lia) eu ev
  ·rw[af fD] at eu;exact h x (y-1) u v (by lia) (by lia) (by lia) eu ev
 ·rw[af hU] at ev;rw[af (by lia)] at eu;exact h x y u v (by lia) (by lia) (by lia) eu ev
set_option maxHeartbeats 1000000 in
theorem Q6{lo n ok:Nat}{Q:Bool->SortSt->Prop}(o:cL lt)(hc:iA prog w A s κ Ok lt)(hk:kindOf st= κ)(ho:∀p∈(arrOf st).toList,Ok p)(hn:lo+n<=(arrOf st).size)(aq:ok<=n)(FT:1<=n)(hu:Up lt (arrOf st) lo (lo+ok))(h:∀ag,Pl lo (lo+n) st ag->Up lt (arrOf ag) lo (lo+n)->Q true ag):wpS (model prog w) A E s (binarySort' lo n ok) Q st:=by
 have hu0:Up lt (arrOf st) lo (lo+max ok 1):=by
  by_cases h0:ok=0
  ·rw[h0];exact L1
  ·rw[show max ok 1=ok by lia];exact hu
 refine ap (dG (d0 (I:=fun x c ag=>c=(none,())/\Pl lo (lo+n) st ag/\Up lt (arrOf ag) lo (lo+x)) (Q:=fun c ag=>c=(none,())/\Pl lo (lo+n) st ag/\Up lt (arrOf ag) lo (lo+n)) ?_ ?_ ⟨rfl,Pl.refl _ _ _,hu0⟩) ?_)
 ·rintro k c bz sS mf ⟨rfl,pl,u1⟩
  try dsimp only
  have hsz:=pl.pm.size;obtain⟨pv,NG⟩:∃pv,(arrOf bz)[lo+k]?= some pv:=⟨_,jq _ (lo+k) (by lia)⟩;refine ap (dG (d0 (I:=fun y c ag=>ag=bz/\∃l r,c=(none,l,r)/\l<=r/\r<=k/\(∀i p,i<l->(arrOf bz)[lo+i]?= some p->Le lt p pv)/\(∀i p,r<=i->i<k->(arrOf bz)[lo+i]?= some p->lt pv p=true)/\r-l+y<=k)
   (Q:=fun c ag=>ag=bz/\∃l r,c=(none,l,r)/\l=r/\r<=k/\(∀i p,i<l->(arrOf bz)[lo+i]?= some p->Le lt p pv)/\(∀i p,r<=i->i<k->(arrOf bz)[lo+i]?= some p->lt pv p=true)) ?_ ?_ ⟨rfl,0,k,rfl,by lia,by lia,fun i p hi=>by lia,fun i p h1 h2=>by lia,by lia⟩) ?_)
  ·rintro y c aG _ _ ⟨rfl,l,r,rfl,h1,h2,h3,h4,h5⟩
   try dsimp only
   by_cases Oo:l>=r
   ·rw[ah Oo];exact ar ⟨rfl,l,r,rfl,by lia,h2,h3,h4⟩
   rw[af Oo];refine ap (jv hc (pl.pm.kind.trans hk) (pl.pm.ok ho) (by lia) (by lia) fun p q e1 e2=>?_);rw[NG] at e1;cases e1;cases hb:lt pv q with
   | true =>
    refine ar ⟨rfl,_,_,rfl,by lia,by lia,h3,fun i p kI FN ei=>?_,by lia⟩;by_cases e:i=(l+r) / 2
    ·rw[e,e2] at ei;cases ei;exact hb
    ·exact o.Ztt hb (u1 _ _ q p (by lia) (show lo+(l+r) / 2<lo+i by lia) (by lia) e2 ei)
   | false =>
    refine ar ⟨rfl,_,_,rfl,by lia,by lia,fun i p kI ei=>?_,h4,by lia⟩;by_cases e:i=(l+r) / 2
    ·rw[e,e2] at ei;cases ei;exact hb
    ·exact o.le_trans (u1 _ _ p q (by lia) (show lo+i<lo+(l+r) / 2 by lia) (by lia) ei e2) hb
  ·rintro c aG ⟨rfl,l,r,rfl,h1,h2,h3,h4,h5⟩;exact⟨rfl,l,r,rfl,by lia,h2,h3,h4⟩
  ·rintro c aG ⟨rfl,l,r,rfl,rfl,h2,h3,h4⟩
   try dsimp only
   refine ap (RZ ?_);exact ar ⟨rfl,pl.trans (Pl.bubble aG (by lia) (by lia) (by lia) (by lia)),V5 o u1 (by lia) h2 NG h3 h4⟩
 ·rintro c bz ⟨rfl,pl,u1⟩;rw[show max (max ok 1) n=n by lia] at u1;exact⟨rfl,pl,u1⟩
 ·rintro c bz ⟨rfl,pl,u1⟩;exact ar (h bz pl u1)
set_option maxHeartbeats 4000000 in
theorem Sa{lo bR:Nat}{Q:Option Nat->SortSt->Prop}(o:cL lt)(hc:iA prog w A s κ Ok lt)(hk:kindOf st= κ)(ho:∀p∈(arrOf st).toList,Ok p)(h1:1<=bR)(hn:lo+bR<=(arrOf st).size)(h:∀n ag,1<=n->n<=bR->Pl lo (lo+bR) st ag->Up lt (arrOf ag) lo (lo+n)->Q (some n) ag):wpS (model prog w) A E s (countRun' lo bR) Q st:=by
 refine ap (dG (d0 (I:=fun x c ag=>ag=st/\∃n,c=(none,n)/\n=x/\Up lt (arrOf st) lo (lo+n)) (Q:=fun c ag=>ag=st/\∃n,c=(none,n)/\1<=n/\n<=bR/\Up lt (arrOf st) lo (lo+n)/\(n=bR\/∀p q,(arrOf st)[lo+n]?= some p->(arrOf st)[lo+n-1]?= some q->lt p q=true)) ?_ ?_ ⟨rfl,1,rfl,rfl,L1⟩) ?_)
 ·rintro x c bz kN hx ⟨rfl,n,rfl,rfl,u1⟩
  try dsimp only
  refine ap (jv hc hk ho (by lia) (by lia) fun p q e1 e2=>?_);cases hb:lt p q with
  | true=>exact ar ⟨rfl,n,rfl,by lia,by lia,u1,.inr fun p' q' f1 f2=>by rw[e1] at f1;rw[e2] at f2;cases f1;cases f2;exact hb⟩
  | false=>exact ar ⟨rfl,n+1,rfl,rfl,u1.ext (m:=lo+n) o (by lia) e2 e1 hb⟩
 ·rintro c bz ⟨rfl,n,rfl,rfl,u1⟩;exact⟨rfl,_,rfl,by lia,by lia,u1,.inl (by lia)⟩
 ·rintro c bz ⟨rfl,n,rfl,n1,n2,u1,Zsf⟩
  try dsimp only
  by_cases e1:(n == bR)=true
  ·rw[ah e1];exact ar (h n bz n1 n2 (Pl.refl _ _ _) u1)
  rw[af e1];have n3:n<bR:=by
   have : ¬ n=bR:=fun e=>e1 (by simp[e]);lia
  have Zsg:=Zsf.resolve_left (by lia);obtain⟨pn,E2⟩:∃p,(arrOf bz)[lo+n]?= some p:=⟨_,jq _ (lo+n) (by lia)⟩;obtain⟨pm,EZ⟩:∃p,(arrOf bz)[lo+n-1]?= some p:=⟨_,jq _ (lo+n-1) (by lia)⟩;have Om:=Zsg pn pm E2 EZ;by_cases e2:n > 1
  ·rw[ah e2];refine ap (jv hc hk ho (by lia) (by lia) fun p q f1 f2=>?_);cases hb:lt p q with
   | true =>
    try dsimp only
    rw[ah rfl];exact ar (h n bz n1 n2 (Pl.refl _ _ _) u1)
   | false =>
    try dsimp only
    rw[af bf];refine ap (lN ?_);have p2:=Pl.mirror (lo:=lo) (hi:=lo+bR) (i:=lo) (j:=lo+n) bz (by lia) (by lia) (by lia);have d2:Dn lt (arrOf (setArr bz (mirror (arrOf bz) lo (lo+n) ((lo+n-lo) / 2)))) lo (lo+n):=u1.mirror (by lia);have d3:Dn lt (arrOf (setArr bz (mirror (arrOf bz) lo (lo+n) ((lo+n-lo) / 2)))) lo (lo+(n+1)):=by
     refine d2.ext (m:=lo+n) o (by lia) (p:=p) (q:=pn) ?_ ?_ ?_
     ·show(mirror (arrOf bz) lo (lo+n) ((lo+n-lo) / 2))[lo+n-1]?= some p;rw[lj (by lia),ah (by lia),show lo+(lo+n)-1-(lo+n-1)=lo by lia];exact f1
     ·show(mirror (arrOf bz) lo (lo+n) ((lo+n-lo) / 2))[lo+n]?= some pn;rw[lj (by lia),af (by lia)];exact E2
     ·rw[EZ] at f2;cases f2;exact o.le_trans (o.gG Om) hb
    generalize setArr bz (mirror (arrOf bz) lo (lo+n) ((lo+n-lo) / 2))=aG at p2 d3;refine ap (wpS_lift (mI ⟨rfl,?_⟩));refine ap (dG (d0 (I:=fun x c ag=>Pl lo (lo+bR) bz ag/\∃n q,c=(none,n,q)/\n=x/\1<=n/\q+1<=n/\Dn lt (arrOf ag) lo (lo+n)/\Eqv lt (arrOf ag) (lo+n-(q+1)) (lo+n)) (Q:=fun c ag=>Pl lo (lo+bR) bz ag/\∃n q,c=(none,n,q)/\1<=n/\n<=bR/\q+1<=n/\Dn lt (arrOf ag) lo (lo+n)/\Eqv lt (arrOf ag) (lo+n-(q+1)) (lo+n)) ?_ ?_ ⟨p2,n+1,0,rfl,rfl,by lia,by lia,d3,fun x y u v a1 a2 a3 a4 eu ev=>by obtain rfl:x=y:=(by lia);rw[eu] at ev;cases ev;exact o.le_refl _⟩) ?_)
    ·rintro x c aT kN hx ⟨p3,n,q,rfl,rfl,m1,m2,d3,q3⟩;have z3:=p3.pm.size
     try dsimp only
     refine ap (jv hc (p3.pm.kind.trans hk) (p3.pm.ok ho) (by lia) (by lia) fun p1 p0 e1 e0=>?_);cases hb:lt p1 p0 with
     | true =>
      try dsimp only
      rw[ah rfl];by_cases q0:q > 0
      ·rw[ah q0];refine ap (lN ?_);have p4:=Pl.mirror (lo:=lo) (hi:=lo+bR) (i:=lo+n-(q+1)) (j:=lo+n) aT (by lia) (by lia) (by lia);have d4:=d3.turn q3 (by lia) (by lia);refine ar ⟨p3.trans p4,n+1,0,rfl,rfl,by lia,by lia,?_,fun x y u v a1 a2 a3 a4 eu ev=>by obtain rfl:x=y:=(by lia);rw[eu] at ev;cases ev;exact o.le_refl _⟩;obtain⟨p5,e5⟩:∃p5,(arrOf (setArr aT (mirror (arrOf aT) (lo+n-(q+1)) (lo+n) ((lo+n-(lo+n-(q+1))) / 2))))[lo+n-1]?= some p5:=⟨_,jq _ (lo+n-1) (by show _<(mirror _ _ _ _).size;rw[mirror_size];lia)⟩;refine d4.ext (m:=lo+n) o (by lia) e5 (q:=p1) ?_ ?_
       ·show(mirror (arrOf aT) (lo+n-(q+1)) (lo+n) ((lo+n-(lo+n-(q+1))) / 2))[lo+n]?= some p1;rw[lj (by lia),af (by lia)];exact e1
       ·have e6:(mirror (arrOf aT) (lo+n-(q+1)) (lo+n) ((lo+n-(lo+n-(q+1))) / 2))[lo+n-1]?= some p5:=e5;rw[lj (by lia),ah (by lia)] at e6;exact o.le_trans (o.gG hb) (q3 _ _ p0 p5 (show lo+n-(q+1)<=lo+n-1 by lia) (by lia) (by lia) (by lia) e0 e6)
      ·rw[af q0];exact ar ⟨p3,n+1,0,rfl,rfl,by lia,by lia,d3.ext (m:=lo+n) o (by lia) e0 e1 (o.gG hb),fun x y u v a1 a2 a3 a4 eu ev=>by obtain rfl:x=y:=(by lia);rw[eu] at ev;cases ev;exact o.le_refl _⟩
     | false =>
      try dsimp only
      rw[af bf];refine ap (jv hc (p3.pm.kind.trans hk) (p3.pm.ok ho) (by lia) (by lia) fun Qc Qd mL mM=>?_);rw[e0] at mL;rw[e1] at mM;cases mL;cases mM;cases dy:lt p0 p1 with
      | true=>exact ar ⟨p3,n,q,rfl,m1,by lia,m2,d3,q3⟩
      | false =>
       refine ar ⟨p3,n+1,q+1,rfl,rfl,by lia,by lia,d3.ext (m:=lo+n) o (by lia) e0 e1 dy,fun x y u v a1 a2 a3 a4 eu ev=>?_⟩;have one:∀x u,lo+(n+1)-(q+1+1)<=x->x<lo+(n+1)->(arrOf aT)[x]?= some u->Le lt u p0/\Le lt p0 u:=fun x u a1 a2 eu=>by
        by_cases hx:x=lo+n
        ·rw[hx,e1] at eu;cases eu;exact⟨dy,hb⟩
        ·exact⟨q3 x (lo+n-1) u p0 (by lia) (by lia) (by lia) (by lia) eu e0,q3 (lo+n-1) x p0 u (by lia) (by lia) (by lia) (by lia) e0 eu⟩
       exact o.le_trans (one x u a1 a2 eu).1 (one y v a3 a4 ev).2
    ·rintro c aT ⟨p3,n',q,rfl,rfl,m1,m2,d3,q3⟩;exact⟨p3,_,q,rfl,m1,by lia,m2,d3,q3⟩
    ·rintro c aT ⟨p3,n,q,rfl,m1,mn,m2,d3,q3⟩;have z3:=p3.pm.size
     try dsimp only
     by_cases q0:q > 0
     ·rw[ah q0];refine ap (lN ?_);have p4:=Pl.mirror (lo:=lo) (hi:=lo+bR) (i:=lo+n-(q+1)) (j:=lo+n) aT (by lia) (by lia) (by lia);have d4:=d3.turn q3 (by lia) (by lia);have z4:=p4.pm.size;generalize Gd:setArr aT (mirror (arrOf aT) (lo+n-(q+1)) (lo+n) ((lo+n-(lo+n-(q+1))) / 2))=aV at p4 z4;have d5:Dn lt (arrOf aV) lo (lo+n):=by rw[<- Gd];exact d4
      refine ap (lN ?_);have p6:=(p3.trans p4).trans (Pl.mirror (lo:=lo) (hi:=lo+bR) (i:=lo) (j:=lo+n) aV (by lia) (by lia) (by lia));have u6:Up lt (arrOf (setArr aV (mirror (arrOf aV) lo (lo+n) ((lo+n-lo) / 2)))) lo (lo+n):=d5.mirror (by lia);have z6:=p6.pm.size;generalize setArr aV (mirror (arrOf aV) lo (lo+n) ((lo+n-lo) / 2))=cO at p6 u6 z6;refine ap (dG (d0 (I:=fun x c ag=>ag=cO/\∃k,c=(none,k)/\k=x/\Up lt (arrOf cO) lo (lo+k)) (Q:=fun c ag=>ag=cO/\∃k,c=(none,k)/\n<=k/\k<=bR/\Up lt (arrOf cO) lo (lo+k)) ?_ ?_ ⟨rfl,n,rfl,rfl,u6⟩) ?_)
      ·rintro x c gK kN fD ⟨rfl,k,rfl,rfl,u7⟩
       try dsimp only
       refine ap (jv hc (p6.pm.kind.trans hk) (p6.pm.ok ho) (by lia) (by lia) fun p q e1 e2=>?_);cases hb:lt p q with
       | true=>exact ar ⟨rfl,k,rfl,by lia,by lia,u7⟩
       | false=>exact ar ⟨rfl,k+1,rfl,rfl,u7.ext (m:=lo+k) o (by lia) e2 e1 hb⟩
      ·rintro c gK ⟨rfl,k,rfl,rfl,u7⟩;exact⟨rfl,max n bR,rfl,by lia,by lia,u7⟩
      ·rintro c gK ⟨rfl,k,rfl,k1,k2,u7⟩;exact ar (h k _ (by lia) k2 p6 u7)
     ·rw[af q0];refine ap (lN ?_);have p6:=p3.trans (Pl.mirror (lo:=lo) (hi:=lo+bR) (i:=lo) (j:=lo+n) aT (by lia) (by lia) (by lia));have u6:Up lt (arrOf (setArr aT (mirror (arrOf aT) lo (lo+n) ((lo+n-lo) / 2)))) lo (lo+n):=d3.mirror (by lia);have z6:=p6.pm.size;generalize setArr aT (mirror (arrOf aT) lo (lo+n) ((lo+n-lo) / 2))=cO at p6 u6 z6;refine ap (dG (d0 (I:=fun x c ag=>ag=cO/\∃k,c=(none,k)/\k=x/\Up lt (arrOf cO) lo (lo+k)) (Q:=fun c ag=>ag=cO/\∃k,c=(none,k)/\n<=k/\k<=bR/\Up lt (arrOf cO) lo (lo+k)) ?_ ?_ ⟨rfl,n,rfl,rfl,u6⟩) ?_)
      ·rintro x c gK kN fD ⟨rfl,k,rfl,rfl,u7⟩
       try dsimp only
       refine ap (jv hc (p6.pm.kind.trans hk) (p6.pm.ok ho) (by lia) (by lia) fun p q e1 e2=>?_);cases hb:lt p q with
       | true=>exact ar ⟨rfl,k,rfl,by lia,by lia,u7⟩
       | false=>exact ar ⟨rfl,k+1,rfl,rfl,u7.ext (m:=lo+k) o (by lia) e2 e1 hb⟩
      ·rintro c gK ⟨rfl,k,rfl,rfl,u7⟩;exact⟨rfl,max n bR,rfl,by lia,by lia,u7⟩
      ·rintro c gK ⟨rfl,k,rfl,k1,k2,u7⟩;exact ar (h k _ (by lia) k2 p6 u7)
  ·rw[af e2];have p2:=Pl.refl lo (lo+bR) bz;have d3:Dn lt (arrOf bz) lo (lo+(n+1)):=by
    obtain rfl:n=1:=by lia
    exact Vc.ext (m:=lo+1) o (by lia) EZ E2 (o.gG Om)
   refine ap (wpS_lift (mI ⟨rfl,?_⟩));refine ap (dG (d0 (I:=fun x c ag=>Pl lo (lo+bR) bz ag/\∃n q,c=(none,n,q)/\n=x/\1<=n/\q+1<=n/\Dn lt (arrOf ag) lo (lo+n)/\Eqv lt (arrOf ag) (lo+n-(q+1)) (lo+n)) (Q:=fun c ag=>Pl lo (lo+bR) bz ag/\∃n q,c=(none,n,q)/\1<=n/\n<=bR/\q+1<=n/\Dn lt (arrOf ag) lo (lo+n)/\Eqv lt (arrOf ag) (lo+n-(q+1)) (lo+n)) ?_ ?_ ⟨p2,n+1,0,rfl,rfl,by lia,by lia,d3,fun x y u v a1 a2 a3 a4 eu ev=>by obtain rfl:x=y:=(by lia);rw[eu] at ev;cases ev;exact o.le_refl _⟩) ?_)
   ·rintro x c aT kN hx ⟨p3,n,q,rfl,rfl,m1,m2,d3,q3⟩;have z3:=p3.pm.size
    try dsimp only
    refine ap (jv hc (p3.pm.kind.trans hk) (p3.pm.ok ho) (by lia) (by lia) fun p1 p0 e1 e0=>?_);cases hb:lt p1 p0 with
    | true =>
     try dsimp only
     rw[ah rfl];by_cases q0:q > 0
     ·rw[ah q0];refine ap (lN ?_);have p4:=Pl.mirror (lo:=lo) (hi:=lo+bR) (i:=lo+n-(q+1)) (j:=lo+n) aT (by lia) (by lia) (by lia);have d4:=d3.turn q3 (by lia) (by lia);refine ar ⟨p3.trans p4,n+1,0,rfl,rfl,by lia,by lia,?_,fun x y u v a1 a2 a3 a4 eu ev=>by obtain rfl:x=y:=(by lia);rw[eu] at ev;cases ev;exact o.le_refl _⟩;obtain⟨p5,e5⟩:∃p5,(arrOf (setArr aT (mirror (arrOf aT) (lo+n-(q+1)) (lo+n) ((lo+n-(lo+n-(q+1))) / 2))))[lo+n-1]?= some p5:=⟨_,jq _ (lo+n-1) (by show _<(mirror _ _ _ _).size;rw[mirror_size];lia)⟩;refine d4.ext (m:=lo+n) o (by lia) e5 (q:=p1) ?_ ?_
      ·show(mirror (arrOf aT) (lo+n-(q+1)) (lo+n) ((lo+n-(lo+n-(q+1))) / 2))[lo+n]?= some p1;rw[lj (by lia),af (by lia)];exact e1
      ·have e6:(mirror (arrOf aT) (lo+n-(q+1)) (lo+n) ((lo+n-(lo+n-(q+1))) / 2))[lo+n-1]?= some p5:=e5;rw[lj (by lia),ah (by lia)] at e6;exact o.le_trans (o.gG hb) (q3 _ _ p0 p5 (show lo+n-(q+1)<=lo+n-1 by lia) (by lia) (by lia) (by lia) e0 e6)
     ·rw[af q0];exact ar ⟨p3,n+1,0,rfl,rfl,by lia,by lia,d3.ext (m:=lo+n) o (by lia) e0 e1 (o.gG hb),fun x y u v a1 a2 a3 a4 eu ev=>by obtain rfl:x=y:=(by lia);rw[eu] at ev;cases ev;exact o.le_refl _⟩
    | false =>
     try dsimp only
     rw[af bf];refine ap (jv hc (p3.pm.kind.trans hk) (p3.pm.ok ho) (by lia) (by lia) fun Qc Qd mL mM=>?_);rw[e0] at mL;rw[e1] at mM;cases mL;cases mM;cases dy:lt p0 p1 with
     | true=>exact ar ⟨p3,n,q,rfl,m1,by lia,m2,d3,q3⟩
     | false =>
      refine ar ⟨p3,n+1,q+1,rfl,rfl,by lia,by lia,d3.ext (m:=lo+n) o (by lia) e0 e1 dy,fun x y u v a1 a2 a3 a4 eu ev=>?_⟩;have one:∀x u,lo+(n+1)-(q+1+1)<=x->x<lo+(n+1)->(arrOf aT)[x]?= some u->Le lt u p0/\Le lt p0 u:=fun x u a1 a2 eu=>by
       by_cases hx:x=lo+n
       ·rw[hx,e1] at eu;cases eu;exact⟨dy,hb⟩
       ·exact⟨q3 x (lo+n-1) u p0 (by lia) (by lia) (by lia) (by lia) eu e0,q3 (lo+n-1) x p0 u (by lia) (by lia) (by lia) (by lia) e0 eu⟩
      exact o.le_trans (one x u a1 a2 eu).1 (one y v a3 a4 ev).2
   ·rintro c aT ⟨p3,n',q,rfl,rfl,m1,m2,d3,q3⟩;exact⟨p3,_,q,rfl,m1,by lia,m2,d3,q3⟩
   ·rintro c aT ⟨p3,n,q,rfl,m1,mn,m2,d3,q3⟩;have z3:=p3.pm.size
    try dsimp only
    by_cases q0:q > 0
    ·rw[ah q0];refine ap (lN ?_);have p4:=Pl.mirror (lo:=lo) (hi:=lo+bR) (i:=lo+n-(q+1)) (j:=lo+n) aT (by lia) (by lia) (by lia);have d4:=d3.turn q3 (by lia) (by lia);have z4:=p4.pm.size;generalize Gd:setArr aT (mirror (arrOf aT) (lo+n-(q+1)) (lo+n) ((lo+n-(lo+n-(q+1))) / 2))=aV at p4 z4;have d5:Dn lt (arrOf aV) lo (lo+n):=by rw[<- Gd];exact d4
     refine ap (lN ?_);have p6:=(p3.trans p4).trans (Pl.mirror (lo:=lo) (hi:=lo+bR) (i:=lo) (j:=lo+n) aV (by lia) (by lia) (by lia));have u6:Up lt (arrOf (setArr aV (mirror (arrOf aV) lo (lo+n) ((lo+n-lo) / 2)))) lo (lo+n):=d5.mirror (by lia);have z6:=p6.pm.size;generalize setArr aV (mirror (arrOf aV) lo (lo+n) ((lo+n-lo) / 2))=cO at p6 u6 z6;refine ap (dG (d0 (I:=fun x c ag=>ag=cO/\∃k,c=(none,k)/\k=x/\Up lt (arrOf cO) lo (lo+k)) (Q:=fun c ag=>ag=cO/\∃k,c=(none,k)/\n<=k/\k<=bR/\Up lt (arrOf cO) lo (lo+k)) ?_ ?_ ⟨rfl,n,rfl,rfl,u6⟩) ?_)
     ·rintro x c gK kN fD ⟨rfl,k,rfl,rfl,u7⟩
      try dsimp only
      refine ap (jv hc (p6.pm.kind.trans hk) (p6.pm.ok ho) (by lia) (by lia) fun p q e1 e2=>?_);cases hb:lt p q with
      | true=>exact ar ⟨rfl,k,rfl,by lia,by lia,u7⟩
      | false=>exact ar ⟨rfl,k+1,rfl,rfl,u7.ext (m:=lo+k) o (by lia) e2 e1 hb⟩
     ·rintro c gK ⟨rfl,k,rfl,rfl,u7⟩;exact⟨rfl,max n bR,rfl,by lia,by lia,u7⟩
     ·rintro c gK ⟨rfl,k,rfl,k1,k2,u7⟩;exact ar (h k _ (by lia) k2 p6 u7)
    ·rw[af q0];refine ap (lN ?_);have p6:=p3.trans (Pl.mirror (lo:=lo) (hi:=lo+bR) (i:=lo) (j:=lo+n) aT (by lia) (by lia) (by lia));have u6:Up lt (arrOf (setArr aT (mirror (arrOf aT) lo (lo+n) ((lo+n-lo) / 2)))) lo (lo+n):=d3.mirror (by lia);have z6:=p6.pm.size;generalize setArr aT (mirror (arrOf aT) lo (lo+n) ((lo+n-lo) / 2))=cO at p6 u6 z6;refine ap (dG (d0 (I:=fun x c ag=>ag=cO/\∃k,c=(none,k)/\k=x/\Up lt (arrOf cO) lo (lo+k)) (Q:=fun c ag=>ag=cO/\∃k,c=(none,k)/\n<=k/\k<=bR/\Up lt (arrOf cO) lo (lo+k)) ?_ ?_ ⟨rfl,n,rfl,rfl,u6⟩) ?_)
     ·rintro x c gK kN fD ⟨rfl,k,rfl,rfl,u7⟩
      try dsimp only
      refine ap (jv hc (p6.pm.kind.trans hk) (p6.pm.ok ho) (by lia) (by lia) fun p q e1 e2=>?_);cases hb:lt p q with
      | true=>exact ar ⟨rfl,k,rfl,by lia,by lia,u7⟩
      | false=>exact ar ⟨rfl,k+1,rfl,rfl,u7.ext (m:=lo+k) o (by lia) e2 e1 hb⟩
     ·rintro c gK ⟨rfl,k,rfl,rfl,u7⟩;exact⟨rfl,max n bR,rfl,by lia,by lia,u7⟩
     ·rintro c gK ⟨rfl,k,rfl,k1,k2,u7⟩;exact ar (h k _ (by lia) k2 p6 u7)
end
theorem Co:∀{l:List (Nat×Nat×Nat)}{lo hi:Nat},cj l lo hi->∀z∈l,lo<=z.1
 | [],_,_,_,z,hz=>(nomatch hz)
 | x::r,lo,hi,⟨a,b,c⟩,z,hz=>by
  rcases aH.mp hz with rfl|hz
  ·lia
  ·have:=Co c z hz;lia
theorem L4:∀{l:List (Nat×Nat×Nat)}{lo hi:Nat},cj l lo hi->∀z∈l,z.1+z.2.1<=hi
 | [],_,_,_,z,hz=>(nomatch hz)
 | x::r,lo,hi,⟨a,b,c⟩,z,hz=>by
  rcases aH.mp hz with rfl|hz
  ·have:=c.le;lia
  ·exact L4 c z hz
theorem JP:∀{l:List (Nat×Nat×Nat)}{i lo hi sa na p sb nb q:Nat},cj l lo hi->l[i]?= some (sa,na,p)->l[i+1]?= some (sb,nb,q) ->
  ∀z∈(l.set i (sa,na+nb,p)).eraseIdx (i+1),z=(sa,na+nb,p)\/z∈l/\(z.1+z.2.1<=sa\/sb+nb<=z.1)
 | x::y::r,0,lo,hi,sa,na,p,sb,nb,q,⟨a,b,c1,c2,c3⟩,h1,h2,z,hz=>by
  have e1:x=(sa,na,p):=by simpa using h1
  have e2:y=(sb,nb,q):=by simpa using h2
  subst e1;subst e2;have d7:z∈(sa,na+nb,p)::r:=hz;rcases aH.mp d7 with hz|hz
  ·exact .inl hz
  ·refine .inr ⟨aX _ (aX _ hz),.inr ?_⟩;have:=Co c3 z hz;have oV:sb=lo+na:=c1;have Qe:lo+na+nb<=z.1:=this;lia
 | x::r,i+1,lo,hi,sa,na,p,sb,nb,q,⟨a,b,c⟩,h1,h2,z,hz=>by
  have ug:r[i]?= some (sa,na,p):=by simpa using h1
  have d7:z∈x::((r.set i (sa,na+nb,p)).eraseIdx (i+1)):=hz;rcases aH.mp d7 with rfl|hz
  ·refine .inr ⟨bb ..,.inl ?_⟩;have:=Co c _ (cQ ug);have Qe:lo+z.2.1<=sa:=this;lia
  ·rcases JP (l:=r) (i:=i) c ug (by simpa using h2) z hz with h|⟨h,h'⟩
   ·exact .inl h
   ·exact .inr ⟨aX _ h,h'⟩
 | [x],0,_,_,_,_,_,_,_,_,_,_,h2,_,_=>by simp at h2
 | [],_,_,_,_,_,_,_,_,_,_,h1,_,_,_=>by simp at h1
theorem Rq{L r:List Keyed}{m:Nat}(h:m+r.length<=L.length)(x:Nat):(L.take m++r++L.drop (m+r.length))[x]?= if x<m then L[x]? else if x<m+r.length then r[x-m]? else L[x]? := by
 have hm:(L.take m).length=m:=by rw[dN];lia
 by_cases h1:x<m
 ·rw[ah h1,bT,oF (by lia),qP h1]
 rw[af h1];by_cases h2:x<m+r.length
 ·rw[ah h2,oF (by rw[bw];lia),mF (by lia),hm]
 ·rw[af h2,mF (by rw[bw];lia),j3,bw,hm]
  congr 1
  lia
section
variable{lt:Keyed->Keyed->Bool}{κ : SortKind}
structure SBL(lt:Keyed->Keyed->Bool)(aA : Array Keyed)(κ : SortKind)(hi:Nat)(st:SortSt):Prop where
 sb:SB aA κ hi st
 ups:∀z∈(pendingOf st).toList,Up lt (arrOf st) z.1 (z.1+z.2.1)
theorem Up.same{arr mK:Array Keyed}{i j:Nat}(h:Up lt arr i j)(e:∀x,i<=x->x<j->mK[x]?= arr[x]?):Up lt mK i j:=fun x y p q h1 h2 h3 ep eq=>by
 rw[e x (by lia) (by lia)] at ep;rw[e y (by lia) (by lia)] at eq;exact h x y p q h1 h2 h3 ep eq
theorem SBL.pl{aA : Array Keyed}{hi cn:Nat}{st ag:SortSt}(x:SBL lt aA κ hi st)(p:Pl hi cn st ag):SBL lt aA κ hi ag:=⟨x.sb.pm p.pm,fun z hz=>by
 rw[p.pm.pend] at hz;have h1:=L4 x.sb.jb z hz;exact(x.ups z hz).same fun i _ h=>p.out i (.inl (by lia))⟩
end
section
variable{prog:Program}{w:World}{A:Around}{E:Value->Shared->Prop}{s:Shared}{κ : SortKind}{Ok:Keyed->Prop}{st:SortSt}{lt:Keyed->Keyed->Bool}
set_option maxHeartbeats 4000000 in
theorem Bw{aA : Array Keyed}{hi i:Nat}{Q:Bool->SortSt->Prop}(o:cL lt)(hc:iA prog w A s κ Ok lt)(h0:∀p∈aA.toList,Ok p)(hL:SBL lt aA κ hi st)(hh:hi<=aA.size)(kI:i+1<(pendingOf st).size)
  (h:∀ag,SBL lt aA κ hi ag->(∀x,hi<=x->(arrOf ag)[x]?= (arrOf st)[x]?)->(pendingOf ag).size+1=(pendingOf st).size->Q true ag):wpS (model prog w) A E s (mergeAt' i) Q st:=by
 have hB:=hL.sb;refine ap (iU ?_);obtain⟨⟨sa,na,p⟩,e1⟩:∃x,(pendingOf st)[i]?= some x:=⟨_,jq _ i (by lia)⟩;obtain⟨⟨sb,nb,q⟩,e2⟩:∃x,(pendingOf st)[i+1]?= some x:=⟨_,jq _ (i+1) kI⟩;obtain⟨k1,k2,k3,k4,k5⟩:=hB.jb.at (i:=i) (by rw[<- e1];simp) (by rw[<- e2];simp);have e3:((pendingOf st)[i]?,(pendingOf st)[i+1]?)=(some (sa,na,p),some (sb,nb,q)):=by rw[e1,e2]
 have hsz:=hB.size;have l1:(pendingOf st).toList[i]?= some (sa,na,p):=by rw[<- e1];simp
 have l2:(pendingOf st).toList[i+1]?= some (sb,nb,q):=by rw[<- e2];simp
 have ua:Up lt (arrOf st) sa (sa+na):=hL.ups _ (cQ l1);have ub:Up lt (arrOf st) sb (sb+nb):=hL.ups _ (cQ l2);have AD:=JP hB.jb l1 l2;show wpS _ _ _ _ (match ((pendingOf st)[i]?,(pendingOf st)[i+1]?) with|(some (sa,na,power),some (sb,nb,_))=>_|_=>_) Q st
 rw[e1,e2];dsimp only;have aS:(((pendingOf st).setIfInBounds i (sa,na+nb,p)).eraseIdxIfInBounds (i+1)).toList=((pendingOf st).toList.set i (sa,na+nb,p)).eraseIdx (i+1):=by
  simp
 have gF:((((pendingOf st).setIfInBounds i (sa,na+nb,p)).eraseIdxIfInBounds (i+1)).size+1=(pendingOf st).size):=by
  have:=congrArg List.length aS;rw[aB,List.length_eraseIdx,List.length_set,aB,ah kI] at this;lia
 have fB:SB aA κ hi (SortSt.mk' (kindOf st) (arrOf st) (((pendingOf st).setIfInBounds i (sa,na+nb,p)).eraseIdxIfInBounds (i+1)) (gallopOf st) (failedOf st)):=⟨hB.arr,hB.kind,hB.fail,by
  show cj (((pendingOf st).setIfInBounds i (sa,na+nb,p)).eraseIdxIfInBounds (i+1)).toList 0 hi;rw[aS];exact k5⟩
 have aq:=hB.ok h0;have fin:∀ag:SortSt,SB aA κ hi ag->(pendingOf ag).toList=((pendingOf st).toList.set i (sa,na+nb,p)).eraseIdx (i+1)->(∀x,x<sa\/sb+nb<=x->(arrOf ag)[x]?= (arrOf st)[x]?)->Up lt (arrOf ag) sa (sa+(na+nb))->SBL lt aA κ hi ag:=fun ag P8 hp he hu=>⟨P8,fun z hz=>by
  rw[hp] at hz;rcases AD z hz with rfl|⟨hz,hd⟩
  ·exact hu
  ·exact(hL.ups z hz).same fun x h1 h2=>he x (by lia)⟩
 have yW:∀(arr:Array Keyed)(x y:Nat){p:Keyed},p∈(arr.extract x y).toList->p∈arr.toList:=fun arr x y p hp=>by
  rw[fF,List.extract_eq_drop_take] at hp;exact tZ (oH hp)
 refine ap (Uu ?_);refine ap (ZP (arr:=arrOf st) (by lia) fun p1 m1 EY=>?_);refine ap (mU (a:=arrOf st) o hc fB.kind (aq p1 m1) aq (by lia) (by lia) ua fun k hk F1 F2=>?_);dsimp only;have O8:∀i u,i<k->(arrOf st)[sa+i]?= some u->Le lt u p1:=fun i u hi eu=>by
  have h3:=F1 i hi;unfold BV at h3;rw[eu] at h3;have h4:(!lt p1 u)=true:=h3;show lt p1 u=false
  simpa using h4
 have Zrn:∀i u,k<=i->i<na->(arrOf st)[sa+i]?= some u->Le lt p1 u:=fun i u h1 h2 eu=>by
  have h3:=F2 i h1 h2;unfold BV at h3;rw[eu] at h3;have h4:(!lt p1 u)=false:=h3;exact o.gG (by simpa using h4)
 have G_:∀y v,sb<=y->y<sb+nb->(arrOf st)[y]?= some v->Le lt p1 v:=fun y v h1 h2 ev=>by
  by_cases e:y=sb
  ·rw[e,EY] at ev;cases ev;exact o.le_refl _
  ·exact ub sb y p1 v (by lia) (by lia) h2 EY ev
 by_cases c1:(na-k == 0)=true
 ·rw[ah c1];have ek:k=na:=by
   have:=eq_of_beq c1;lia
  refine ar (h _ (fin _ fB aS (fun _ _=>rfl) ?_) (fun _ _=>rfl) gF);intro x y u v a1 a2 a3 eu ev;have oW:(arrOf st)[x]?= some u:=eu;have oX:(arrOf st)[y]?= some v:=ev;by_cases hy:y<sb
  ·exact ua x y u v a1 a2 (by lia) oW oX
  by_cases hx:sb<=x
  ·exact ub x y u v hx a2 (by lia) oW oX
  exact o.le_trans (O8 (x-sa) u (by lia) (by rw[show sa+(x-sa)=x by lia];exact oW)) (G_ y v (by lia) (by lia) oX)
 rw[af c1];have n1 : ¬ na-k=0:=fun e=>c1 (by simp[e]);refine ap (ZP (arr:=arrOf st) (by lia) fun p2 m2 iC=>?_);refine ap (mU (a:=arrOf st) o hc fB.kind (aq p2 m2) aq (by lia) (by lia) ub fun dH Oy G1 G2=>?_);dsimp only;have Ba:(arrOf st)[sb-1]?= some p2:=by
  rw[<- iC]
  congr 1
  lia
 have O3:∀x u,sa<=x->x<sb->(arrOf st)[x]?= some u->Le lt u p2:=fun x u h1 h2 eu=>by
  by_cases e:x=sb-1
  ·rw[e,Ba] at eu;cases eu;exact o.le_refl _
  ·exact ua x (sb-1) u p2 h1 (by lia) (by lia) eu Ba
 have Ztr:∀i u,i<dH->(arrOf st)[sb+i]?= some u->Le lt u p2:=fun i u hi eu=>by
  have h3:=G1 i hi;unfold BV at h3;rw[eu] at h3;exact o.gG h3
 have Od:∀i u,dH<=i->i<nb->(arrOf st)[sb+i]?= some u->Le lt p2 u:=fun i u h1 h2 eu=>by
  have h3:=G2 i h1 h2;unfold BV at h3;rw[eu] at h3;exact h3
 by_cases c2:(dH == 0)=true
 ·rw[ah c2];have ek:dH=0:=eq_of_beq c2;refine ar (h _ (fin _ fB aS (fun _ _=>rfl) ?_) (fun _ _=>rfl) gF);intro x y u v a1 a2 a3 eu ev;have oW:(arrOf st)[x]?= some u:=eu;have oX:(arrOf st)[y]?= some v:=ev;by_cases hy:y<sb
  ·exact ua x y u v a1 a2 (by lia) oW oX
  by_cases hx:sb<=x
  ·exact ub x y u v hx a2 (by lia) oW oX
  exact o.le_trans (O3 x u a1 (by lia) oW) (Od (y-sb) v (by lia) (by lia) (by rw[show sb+(y-sb)=y by lia];exact oX))
 rw[af c2];have n2 : ¬ dH=0:=fun e=>c2 (by simp[e]);have xs:((arrOf st).extract (sa+k) sb).size=na-k:=by
  rw[Array.size_extract];lia
 have ys:((arrOf st).extract sb (sb+dH)).size=dH:=by
  rw[Array.size_extract];lia
 have SX:So lt ((arrOf st).extract (sa+k) sb).toList:=lg.mpr fun x y hx hy kO=>by
  rw[aB] at hx hy;have ex:((arrOf st).extract (sa+k) sb)[x]?= (arrOf st)[sa+k+x]? := by rw[tO,ah (by lia)]
  have ey:((arrOf st).extract (sa+k) sb)[y]?= (arrOf st)[sa+k+y]? := by rw[tO,ah (by lia)]
  rw[<- bE,cI (by rw[aB];exact hx)] at ex;rw[<- bE,cI (by rw[aB];exact hy)] at ey;exact ua _ _ _ _ (by lia) (show sa+k+x<sa+k+y by lia) (by lia) ex.symm ey.symm
 have SY:So lt ((arrOf st).extract sb (sb+dH)).toList:=lg.mpr fun x y hx hy kO=>by
  rw[aB] at hx hy;have ex:((arrOf st).extract sb (sb+dH))[x]?= (arrOf st)[sb+x]? := by rw[tO,ah (by lia)]
  have ey:((arrOf st).extract sb (sb+dH))[y]?= (arrOf st)[sb+y]? := by rw[tO,ah (by lia)]
  rw[<- bE,cI (by rw[aB];exact hx)] at ex;rw[<- bE,cI (by rw[aB];exact hy)] at ey;exact ub _ _ _ _ (by lia) (show sb+x<sb+y by lia) (by lia) ex.symm ey.symm
 have IQ:∀p,((arrOf st).extract sb (sb+dH))[0]?= some p->∀y∈((arrOf st).extract (sa+k) sb).toList,Le lt p y:=fun p ep y hy=>by
  rw[tO,ah (by lia),Nat.add_zero,EY] at ep;cases ep;obtain⟨m,h1,h2,e⟩:=mW hy;exact Zrn (m-sa) y (by lia) (by lia) (by rw[show sa+(m-sa)=m by lia];exact e)
 have IS:∀x∈((arrOf st).extract sb (sb+dH)).toList,∀q,((arrOf st).extract (sa+k) sb)[((arrOf st).extract (sa+k) sb).size-1]?= some q->Le lt x q:=fun x hx q eq=>by
  rw[xs,tO,ah (by lia),show sa+k+(na-k-1)=sb-1 by lia,Ba] at eq;cases eq;obtain⟨m,h1,h2,e⟩:=mW hx;exact Ztr (m-sb) x (by lia) (by rw[show sb+(m-sb)=m by lia];exact e)
 have whole:∀(r:Array Keyed)(mK:Array Keyed),Rs lt ((arrOf st).extract (sa+k) sb) ((arrOf st).extract sb (sb+dH)) r->r.toList.length=(na-k)+dH->mK.toList=(arrOf st).toList.take (sa+k)++r.toList++(arrOf st).toList.drop (sa+k+r.toList.length) ->
   (∀x,x<sa\/sb+nb<=x->mK[x]?= (arrOf st)[x]?)/\Up lt mK sa (sa+(na+nb)):=fun r mK hr iK ha=>by
  have get:∀x,mK[x]?= if x<sa+k then(arrOf st)[x]? else if x<sa+k+r.toList.length then r.toList[x-(sa+k)]? else(arrOf st)[x]? := fun x=>by
   rw[<- bE,ha,Rq (by have zL:(arrOf st).toList.length=(arrOf st).size:=aB;lia),bE]
  have inr:∀u,u∈r.toList->(∃m,sa+k<=m/\m<sb/\(arrOf st)[m]?= some u)\/∃m,sb<=m/\m<sb+dH/\(arrOf st)[m]?= some u:=fun u hu=>by
   rcases bL.mp (hr.perm.mem_iff.mp hu) with hu|hu
   ·exact .inl (mW hu)
   ·exact .inr (mW hu)
  refine⟨fun x hx=>?_,fun x y u v a1 a2 a3 eu ev=>?_⟩
  ·rw[get];by_cases h1:x<sa+k
   ·rw[ah h1]
   ·rw[af h1,af (by lia)]
  rw[get] at eu ev;by_cases kN:x<sa+k
  ·rw[ah kN] at eu;have tw:=O8 (x-sa) u (by lia) (by rw[show sa+(x-sa)=x by lia];exact eu);by_cases Gk:y<sa+k
   ·rw[ah Gk] at ev;exact ua x y u v a1 a2 (by lia) eu ev
   rw[af Gk] at ev;by_cases hU:y<sa+k+r.toList.length
   ·rw[ah hU] at ev;rcases inr v (cQ ev) with⟨m,b1,b2,e⟩|⟨m,b1,b2,e⟩
    ·exact ua x m u v a1 (by lia) (by lia) eu e
    ·exact o.le_trans tw (G_ m v b1 (by lia) e)
   ·rw[af hU] at ev;exact o.le_trans tw (G_ y v (by lia) (by lia) ev)
  rw[af kN] at eu;rw[af (by lia)] at ev;by_cases fD:x<sa+k+r.toList.length
  ·rw[ah fD] at eu;by_cases hU:y<sa+k+r.toList.length
   ·rw[ah hU] at ev;obtain⟨hx3,rfl⟩:=cB.mp eu;obtain⟨hy3,rfl⟩:=cB.mp ev;exact(lg.mp hr.sort) _ _ hx3 hy3 (by lia)
   ·rw[af hU] at ev;rcases inr u (cQ eu) with⟨m,b1,b2,e⟩|⟨m,b1,b2,e⟩
    ·exact o.le_trans (O3 m u (by lia) b2 e) (Od (y-sb) v (by lia) (by lia) (by rw[show sb+(y-sb)=y by lia];exact ev))
    ·exact ub m y u v b1 (by lia) (by lia) e ev
  ·rw[af fD] at eu;rw[af (by lia)] at ev;exact ub x y u v (by lia) a2 (by lia) eu ev
 by_cases c3:na-k<=dH
 ·rw[ah c3];refine ap (QX (a:=(arrOf st).extract (sa+k) sb) (b:=(arrOf st).extract sb (sb+dH)) o hc fB.kind (fun p hp=>aq p (yW _ _ _ hp)) (fun p hp=>aq p (yW _ _ _ hp)) (by rw[xs];lia) (by rw[ys];lia) SX SY IQ IS fun r aG lk hr=>?_);refine ap (gf ?_);refine ap (iU ?_);have hf:failedOf aG=none:=lk.fail.trans hB.fail;have ml:r.toList.Perm (((arrOf st).toList.drop (sa+k)).take ((na-k)+dH)):=by
   refine hr.perm.trans (tS ?_);rw[fF,fF,L0 _ (by lia) (by lia)]
   congr 1
   lia
  have iK:r.toList.length=(na-k)+dH:=by
   rw[ml.length_eq,dN,dF,aB];lia
  show wpS _ _ _ _ (pure (failedOf aG).isNone) Q _;rw[hf];have nV:(List.foldl (fun(a:Array Keyed)(x:Keyed×Nat)=>a.setIfInBounds (sa+k+x.2) x.1) (arrOf aG) r.toList.zipIdx).toList=(arrOf st).toList.take (sa+k)++r.toList++(arrOf st).toList.drop (sa+k+r.toList.length):=by
   rw[lk.arr,K7 _ _ _ (by show sa+k+r.toList.length<=(arrOf st).size;lia)]
  obtain⟨w1,w2⟩:=whole r _ hr iK nV;refine ar (h _ (fin _ ⟨?_,lk.kind.trans hB.kind,hf,?_⟩ (by show(pendingOf aG).toList=_;rw[lk.pend];exact aS) w1 w2) (fun x hx=>w1 x (.inr (by lia))) ?_)
  ·show(List.foldl (fun(a:Array Keyed)(x:Keyed×Nat)=>a.setIfInBounds (sa+k+x.2) x.1) (arrOf aG) r.toList.zipIdx).toList.Perm aA.toList;rw[nV];exact(Kk ml iK).trans hB.arr
  ·show cj (pendingOf aG).toList 0 hi;rw[lk.pend];exact fB.jb
  ·show(pendingOf aG).size+1=_;rw[lk.pend];exact gF
 ·rw[af c3];refine ap (QQ (a:=(arrOf st).extract (sa+k) sb) (b:=(arrOf st).extract sb (sb+dH)) o hc fB.kind (fun p hp=>aq p (yW _ _ _ hp)) (fun p hp=>aq p (yW _ _ _ hp)) (by rw[xs];lia) (by rw[ys];lia) SX SY IQ IS fun r aG lk hr=>?_);refine ap (gf ?_);refine ap (iU ?_);have hf:failedOf aG=none:=lk.fail.trans hB.fail;have ml:r.toList.Perm (((arrOf st).toList.drop (sa+k)).take ((na-k)+dH)):=by
   refine hr.perm.trans (tS ?_);rw[fF,fF,L0 _ (by lia) (by lia)]
   congr 1
   lia
  have iK:r.toList.length=(na-k)+dH:=by
   rw[ml.length_eq,dN,dF,aB];lia
  show wpS _ _ _ _ (pure (failedOf aG).isNone) Q _;rw[hf];have nV:(List.foldl (fun(a:Array Keyed)(x:Keyed×Nat)=>a.setIfInBounds (sa+k+x.2) x.1) (arrOf aG) r.toList.zipIdx).toList=(arrOf st).toList.take (sa+k)++r.toList++(arrOf st).toList.drop (sa+k+r.toList.length):=by
   rw[lk.arr,K7 _ _ _ (by show sa+k+r.toList.length<=(arrOf st).size;lia)]
  obtain⟨w1,w2⟩:=whole r _ hr iK nV;refine ar (h _ (fin _ ⟨?_,lk.kind.trans hB.kind,hf,?_⟩ (by show(pendingOf aG).toList=_;rw[lk.pend];exact aS) w1 w2) (fun x hx=>w1 x (.inr (by lia))) ?_)
  ·show(List.foldl (fun(a:Array Keyed)(x:Keyed×Nat)=>a.setIfInBounds (sa+k+x.2) x.1) (arrOf aG) r.toList.zipIdx).toList.Perm aA.toList;rw[nV];exact(Kk ml iK).trans hB.arr
  ·show cj (pendingOf aG).toList 0 hi;rw[lk.pend];exact fB.jb
  ·show(pendingOf aG).size+1=_;rw[lk.pend];exact gF
end
section
variable{prog:Program}{w:World}{A:Around}{E:Value->Shared->Prop}{s:Shared}{κ : SortKind}{Ok:Keyed->Prop}{st:SortSt}{lt:Keyed->Keyed->Bool}
set_option maxHeartbeats 4000000 in
theorem RU{aA : Array Keyed}{Q:Unit->SortSt->Prop}(o:cL lt)(hc:iA prog w A s κ Ok lt)(h0:∀p∈aA.toList,Ok p)(hB:SBL lt aA κ 0 st)(h:∀ag,(arrOf ag).toList.Perm aA.toList->So lt (arrOf ag).toList->failedOf ag=none->Q () ag):wpS (model prog w) A E s sortRuns' Q st:=by
 refine ap (iU ?_);have hsz:=hB.sb.size;show wpS _ _ _ _ (forIn [:(arrOf st).size] _ _ >>= _) Q st;rw[hsz];refine ap (dG (d0 (I:=fun x c ag=>∃lo,c=(none,lo)/\lo<=aA.size/\SBL lt aA κ lo ag/\x<=lo) (Q:=fun c ag=>∃lo,c=(none,lo)/\lo=aA.size/\SBL lt aA κ lo ag) ?_ (fun c ag ⟨lo,z1,z2,z3,z4⟩=>⟨lo,z1,by lia,z3⟩) ⟨0,rfl,bj _,hB,az _⟩) ?_)
 ·rintro x c bz _ hx ⟨lo,rfl,kJ,fB,tx⟩
  try dsimp only
  by_cases c1:lo>=aA.size
  ·rw[ah c1];exact ar ⟨lo,rfl,by lia,fB⟩
  rw[af c1];have n8:=fB.sb.size;refine ap (Sa o hc fB.sb.kind (fB.sb.ok h0) (by lia) (by lia) fun n aG n1 n2 p2 u2=>?_);have gZ:=fB.pl p2;have sZ:=gZ.sb.size
  try dsimp only
  show wpS _ _ _ _ (if n<minRun' aA.size aA.size 0 then _ else _) _ aG
  by_cases c2:n<minRun' aA.size aA.size 0
  ·rw[ah c2];refine ap (wpS_lift (mI ⟨rfl,?_⟩));refine ap (Q6 o hc gZ.sb.kind (gZ.sb.ok h0) (by show lo+min (aA.size-lo) (minRun' aA.size aA.size 0)<=_;lia) (by show n<=min (aA.size-lo) (minRun' aA.size aA.size 0);lia) (by show 1<=min (aA.size-lo) (minRun' aA.size aA.size 0);lia) u2 fun aT p3 u3=>?_);rw[af (by decide)];have gz:=gZ.pl p3;have um:Up lt (arrOf aT) lo (lo+min (aA.size-lo) (minRun' aA.size aA.size 0)):=u3;have hN:1<=min (aA.size-lo) (minRun' aA.size aA.size 0):=by lia
   refine ap (iU ?_);cases hb:(pendingOf aT).back? with
   | none =>
    dsimp only;refine ap (gf ?_);refine ar ⟨lo+min (aA.size-lo) (minRun' aA.size aA.size 0),rfl,by lia,⟨⟨gz.sb.arr,gz.sb.kind,gz.sb.fail,?_⟩,fun z hz=>?_⟩,by lia⟩
    ·show cj ((pendingOf aT).push (lo,min (aA.size-lo) (minRun' aA.size aA.size 0),0)).toList 0 (lo+min (aA.size-lo) (minRun' aA.size aA.size 0));rw[fm];exact gz.sb.jb.push hN
    ·have d7:z∈((pendingOf aT).push (lo,min (aA.size-lo) (minRun' aA.size aA.size 0),0)).toList:=hz;rw[fm] at d7;rcases bL.mp d7 with d7|d7
     ·exact gz.ups z d7
     ·rw[bi.mp d7];exact um
   | some t =>
    obtain⟨s1,n1,q⟩:=t;dsimp only;refine wpS_bind (wpS_mono (wpS_forRange (I:=fun _ c ag=>c=(none,())/\SBL lt aA κ lo ag/\∀x,lo<=x->(arrOf ag)[x]?= (arrOf aT)[x]?) (Q:=fun c ag=>c=(none,())/\SBL lt aA κ lo ag/\∀x,lo<=x->(arrOf ag)[x]?= (arrOf aT)[x]?) ?_ (fun _ _ z=>z) ⟨rfl,gz,fun _ _=>rfl⟩) ?_)
    ·rintro y c aV _ _ ⟨rfl,eS,jQ⟩;refine ap (iU ?_);by_cases g1:(pendingOf aV).size > 1
     ·rw[ah g1];obtain⟨⟨a1,a2,Zu1⟩,e⟩:∃x,(pendingOf aV)[(pendingOf aV).size-2]?= some x:=⟨_,jq _ _ (by lia)⟩;rw[e];dsimp only
      split
      ·exact ar ⟨rfl,eS,jQ⟩
      ·refine ap (Bw o hc h0 eS kJ (by show(pendingOf aV).size-2+1<(pendingOf aV).size;lia) fun cO Fp Fs _=>?_);rw[af (by decide)];exact ar ⟨rfl,Fp,fun x hx=>(Fs x hx).trans (jQ x hx)⟩
     ·rw[af g1];exact ar ⟨rfl,eS,jQ⟩
    ·rintro c aV ⟨rfl,eS,jQ⟩;dsimp only;refine ap (gf ?_);refine ap (gf ?_);refine ar ⟨lo+min (aA.size-lo) (minRun' aA.size aA.size 0),rfl,by lia,⟨⟨eS.sb.arr,eS.sb.kind,eS.sb.fail,?_⟩,fun z hz=>?_⟩,by lia⟩
     ·show cj (Array.push ((pendingOf aV).modify _ _) (lo,min (aA.size-lo) (minRun' aA.size aA.size 0),0)).toList 0 (lo+min (aA.size-lo) (minRun' aA.size aA.size 0));rw[fm,AU];refine cj.push ?_ hN;refine cj.last _ (fun x=>?_) _ eS.sb.jb;exact⟨rfl,rfl⟩
     ·change z∈(Array.push ((pendingOf aV).modify _ _) (lo,min (aA.size-lo) (minRun' aA.size aA.size 0),0)).toList at hz;rw[fm,AU] at hz;rcases bL.mp hz with hz|hz
      ·obtain⟨i,hi⟩:=j4.mp hz;rw[List.getElem?_modify] at hi;obtain⟨z0,kQ,rfl⟩:=oK.mp hi;have h1:=eS.ups z0 (cQ kQ)
       split
       ·exact h1
       ·exact h1
      ·rw[bi.mp hz];exact um.same fun x h1 _=>jQ x h1
  ·rw[af c2];have gz:=gZ;have hN:=n1;have um:=u2;refine ap (iU ?_);cases hb:(pendingOf aG).back? with
   | none =>
    dsimp only;refine ap (gf ?_);refine ar ⟨lo+n,rfl,by lia,⟨⟨gz.sb.arr,gz.sb.kind,gz.sb.fail,?_⟩,fun z hz=>?_⟩,by lia⟩
    ·show cj ((pendingOf aG).push (lo,n,0)).toList 0 (lo+n);rw[fm];exact gz.sb.jb.push hN
    ·have d7:z∈((pendingOf aG).push (lo,n,0)).toList:=hz;rw[fm] at d7;rcases bL.mp d7 with d7|d7
     ·exact gz.ups z d7
     ·rw[bi.mp d7];exact um
   | some t =>
    obtain⟨s1,n1,q⟩:=t;dsimp only;refine wpS_bind (wpS_mono (wpS_forRange (I:=fun _ c ag=>c=(none,())/\SBL lt aA κ lo ag/\∀x,lo<=x->(arrOf ag)[x]?= (arrOf aG)[x]?) (Q:=fun c ag=>c=(none,())/\SBL lt aA κ lo ag/\∀x,lo<=x->(arrOf ag)[x]?= (arrOf aG)[x]?) ?_ (fun _ _ z=>z) ⟨rfl,gz,fun _ _=>rfl⟩) ?_)
    ·rintro y c aV _ _ ⟨rfl,eS,jQ⟩;refine ap (iU ?_);by_cases g1:(pendingOf aV).size > 1
     ·rw[ah g1];obtain⟨⟨a1,a2,Zu1⟩,e⟩:∃x,(pendingOf aV)[(pendingOf aV).size-2]?= some x:=⟨_,jq _ _ (by lia)⟩;rw[e];dsimp only
      split
      ·exact ar ⟨rfl,eS,jQ⟩
      ·refine ap (Bw o hc h0 eS kJ (by show(pendingOf aV).size-2+1<(pendingOf aV).size;lia) fun cO Fp Fs _=>?_);rw[af (by decide)];exact ar ⟨rfl,Fp,fun x hx=>(Fs x hx).trans (jQ x hx)⟩
     ·rw[af g1];exact ar ⟨rfl,eS,jQ⟩
    ·rintro c aV ⟨rfl,eS,jQ⟩;dsimp only;refine ap (gf ?_);refine ap (gf ?_);refine ar ⟨lo+n,rfl,by lia,⟨⟨eS.sb.arr,eS.sb.kind,eS.sb.fail,?_⟩,fun z hz=>?_⟩,by lia⟩
     ·show cj (Array.push ((pendingOf aV).modify _ _) (lo,n,0)).toList 0 (lo+n);rw[fm,AU];refine cj.push ?_ hN;refine cj.last _ (fun x=>?_) _ eS.sb.jb;exact⟨rfl,rfl⟩
     ·change z∈(Array.push ((pendingOf aV).modify _ _) (lo,n,0)).toList at hz;rw[fm,AU] at hz;rcases bL.mp hz with hz|hz
      ·obtain⟨i,hi⟩:=j4.mp hz;rw[List.getElem?_modify] at hi;obtain⟨z0,kQ,rfl⟩:=oK.mp hi;have h1:=eS.ups z0 (cQ kQ)
       split
       ·exact h1
       ·exact h1
      ·rw[bi.mp hz];exact um.same fun x h1 _=>jQ x h1
 ·rintro c bz ⟨lo,rfl,rfl,fB⟩
  try dsimp only
  refine ap (dG (d0 (I:=fun x c ag=>c=(none,())/\SBL lt aA κ aA.size ag/\(pendingOf ag).size+x<=aA.size+1) (Q:=fun c ag=>c=(none,())/\SBL lt aA κ aA.size ag/\(pendingOf ag).size<=1) ?_ (fun c ag ⟨z1,z2,z3⟩=>⟨z1,z2,by lia⟩) ⟨rfl,fB,by have:=fB.sb.jb.le;rw[aB] at this;lia⟩) ?_)
  ·rintro x c aG _ _ ⟨rfl,gZ,bH⟩
   try dsimp only
   refine ap (iU ?_)
   try dsimp only
   by_cases c2:(pendingOf aG).size<=1
   ·rw[ah c2];exact ar ⟨rfl,gZ,c2⟩
   ·rw[af c2];have hx:∀b:Bool,(if b=true then(pendingOf aG).size-2-1 else(pendingOf aG).size-2)+1<(pendingOf aG).size:=fun b=>by
     cases b
     ·rw[af bf];lia
     ·rw[ah rfl];lia
    refine ap (Bw o hc h0 gZ (az _) (hx _) fun aT gz _ zX=>?_);rw[af (by decide)];exact ar ⟨rfl,gz,by lia⟩
  ·rintro c aG ⟨rfl,gZ,bH⟩;refine ar (h aG gZ.sb.arr ?_ gZ.sb.fail);have jh:=gZ.sb.size;have zw:=gZ.sb.jb;have OU:=gZ.ups;have aS:(pendingOf aG).toList.length<=1:=by rw[aB];exact bH
   match hl:(pendingOf aG).toList,aS with
   | [],_ =>
    rw[hl] at zw;have h0:0=aA.size:=zw;refine Mt (n:=0) (fun x y _ _ _ _ h3=>by lia) (by lia)
   | [z],_ =>
    rw[hl] at zw OU;obtain⟨z1,z2,z3⟩:=zw;have Qh:0+z.2.1=aA.size:=z3;have hu:=OU z (bi.mpr rfl);rw[z1,Qh] at hu;exact Mt hu (by lia)
end
end bo
namespace bo
open PySem PyProof.Rows ux PySem.W
section
variable{prog:Program}{w:World}{A:Around}{E:Value->Shared->Prop}{s:Shared}
def BN(prog:Program)(w:World)(A:Around)(lv:Value->Value->Bool)(vs:List Value)(s:Shared):Prop :=
 ∃ κ,(∀(Q:SortKind->Shared->Prop)(E:Value->Shared->Prop),Q κ s->wpAny (model prog w) A (keyKind' vs.toArray) Q E s)/\iA prog w A s κ (fun p=>p∈(pairsOf vs).toList) fun x y=>lv x.1 y.1
theorem Jn{vs:List Value}{p:Keyed}(h:p∈(pairsOf vs).toList):p.1=p.2:=by
 rw[pairsOf_toList] at h;obtain⟨i,hi⟩:=j4.mp h;rw[List.getElem?_zip_eq_some] at hi;have:=hi.1.symm.trans hi.2;exact dm this
theorem T8{lt:Keyed->Keyed->Bool}{vs:List Value}(h:vs.length<2):So lt (pairsOf vs).toList:=lg.mpr fun i j hi hj eU=>by
 rw[aB,pairsOf_size] at hi hj;lia
theorem La{lv:Value->Value->Bool}{vs:List Value}{xs:Array Keyed}(hp:xs.toList.Perm (pairsOf vs).toList)(h:So (fun x y=>lv x.1 y.1) xs.toList):(xs.map (·.2)).toList.Pairwise (fun u v=>lv v u=false):=by
 rw[Array.toList_map,A3];refine List.Pairwise.imp_of_mem (fun{x y} hx hy kO=>?_) h;have Ij:lv y.1 x.1=false:=kO;rw[Jn (hp.mem_iff.mp hx),Jn (hp.mem_iff.mp hy)] at Ij;exact Ij
theorem Rg{lv:Value->Value->Bool}(o:cL fun x y=>lv x.1 y.1){a:Addr}{vs:List Value}{n:Nat}{P:Fin->Shared->Prop}(ho:s.heap.get? a=some (seqObj "list" vs.toArray n)) (hlen:vs.length<=90000)
  (hc:∀h6:Heap,(∀b o,b≠a->s.heap.get? b=some o->h6.get? b=some o)->2<=vs.length->BN prog w A lv vs { s with heap:=h6 })
  (h:∀out:Array Value,out.toList.Perm vs->out.toList.Pairwise (fun u v=>lv v u=false)->P (.done (.ret .none)) { s with heap:=sortedHeap s.heap a vs out }):wpAny (model prog w) A (Builtin.«list.sort» ⟨[.ref a],[]⟩) P E s:=by
 have hv:vs.toArray.size<=sizeLine:=by rw[bX,fI];lia
 have ha:a<s.heap.objs.size:=aU ho;obtain⟨e1,gE⟩:∃e1,(s.heap.update a (Obj.mapSeq fun _=>#[])).get? a=some (seqObj "list" #[] e1):=⟨_,get?_update_seq ho (fun _=>#[])⟩;rw[list_sort_plain];refine ae (listItems_at ho rfl (ae (listUpdate_at ho rfl (ae (seqEpoch_at gE rfl (ae (wpAny_newTuple (ae (wpAny_newList (iS ?_)))))))  hv (bj _))));have nT:a≠(s.heap.update a (Obj.mapSeq fun _=>#[])).objs.size:=by rw[Heap.size_update];exact bY ha
 have nL:a≠((s.heap.update a (Obj.mapSeq fun _=>#[])).push (seqObj "tuple" vs.toArray 0)).objs.size:=by rw[size_push',Heap.size_update];exact bY (Nat.lt_succ_of_lt ha)
 have sX:(((s.heap.update a (Obj.mapSeq fun _=>#[])).push (seqObj "tuple" vs.toArray 0)).push (seqObj "list" #[] 0)).get? a=some (seqObj "list" #[] e1):=by
  rw[Heap.get?_push_ne _ _ _ nL,Heap.get?_push_ne _ _ _ nT];exact gE
 have Zrx:∀b o,b≠a->s.heap.get? b=some o->(((s.heap.update a (Obj.mapSeq fun _=>#[])).push (seqObj "tuple" vs.toArray 0)).push (seqObj "list" #[] 0)).get? b=some o:=fun b o hb e=>by
  refine aK _ (aK _ ?_);rw[hX _ _ hb.symm];exact e
 show wpAny (model prog w) A _ P E { s with heap:=((s.heap.update a (Obj.mapSeq fun _=>#[])).push (seqObj "tuple" vs.toArray 0)).push (seqObj "list" #[] 0) };dsimp only;by_cases h2:vs.toArray.size<2
 ·rw[ah h2,ah h2];refine ae (ai ?_);rw[StateT.run_pure];refine ae (ai (ae (seqEpoch_at sX rfl (ae (listUpdate_at sX rfl ?_ (bj _) ?_)))))
  ·simp only[bne_self_eq_false,qK,ig];exact ai (h _ (J5 (xs:=pairsOf vs) (jo _)) (La (xs:=pairsOf vs) (jo _) (T8 (by rw[bX] at h2;exact h2))))
  ·show((pairsOf vs).map (·.2)).size<=_;rw[wY,pairsOf_size,fI];lia
 ·rw[af h2,af h2];rw[bX] at h2;obtain⟨κ,qh,hcm⟩:=hc _ Zrx (by lia);refine ae (qh _ _ ?_);refine ae (eJ (RU (aA := pairsOf vs) (Q:=fun _ ag=>(arrOf ag).toList.Perm (pairsOf vs).toList/\So (fun x y=>lv x.1 y.1) (arrOf ag).toList/\failedOf ag=none) o hcm (fun p hp=>hp) ⟨⟨jo _,rfl,rfl,rfl⟩,fun z hz=>(nomatch hz)⟩ fun ag a1 a3 a2=>⟨a1,a3,a2⟩) ?_ fun _ _ e=>e)
  rintro⟨⟨⟩,ag⟩ s' ⟨rfl,hp,qu,hf⟩;dsimp only;refine ae (seqEpoch_at sX rfl (ae (listUpdate_at sX rfl ?_ (bj _) ?_)))
  ·rw[hf];simp only[bne_self_eq_false,qK,ig];exact ai (h _ (J5 hp) (La hp qu))
  ·have lC:(arrOf ag).toList.Perm (pairsOf vs).toList:=hp;have:=lC.length_eq;rw[aB,aB,pairsOf_size] at this;show((arrOf ag).map (·.2)).size<=_;rw[wY,fI];lia
theorem Jt{lv:Value->Value->Bool}(o:cL fun x y=>lv x.1 y.1){v:Value}{C:List Value->Prop}{Q:Value->Shared->Prop}
  (Zq6:∀(Q':List Value->Shared->Prop)(E':Value->Shared->Prop),(∀(ys:List Value)(h':Heap)(tk:Nat)(d:Drawn),(∀b o,s.heap.get? b=some o->h'.get? b=some o)->C ys->ys.length<=90000->s.heap.objs.size<=h'.objs.size->Q' ys { s with heap:=h',toks:=tk,drawn:=d })->wpAny (model prog w) A.in1 (collect v) Q' E' s)
  (hc:∀(ys:List Value)(h6:Heap)(tk:Nat)(d:Drawn),C ys->(∀b o,s.heap.get? b=some o->h6.get? b=some o)->2<=ys.length->BN prog w A.in1.in1 lv ys { s with heap:=h6,toks:=tk,drawn:=d })
  (q:∀(p:Addr)(ys:List Value)(out:Array Value)(h':Heap)(tk:Nat)(d:Drawn)(c:Nat),C ys->out.toList.Perm ys->out.toList.Pairwise (fun u v=>lv v u=false)->(∀b o,s.heap.get? b=some o->h'.get? b=some o)->h'.get? p=some (seqObj "list" out c)->s.heap.objs.size<=p->out.size<=90000->Q (.ref p) { s with heap:=h',toks:=tk,drawn:=d }) :
  wpAny (model prog w) A (call (.builtin "sorted") [v]) Q E s:=by
 refine Calls.call_function_entry kind_sorted plain_sorted entry_sorted (args_sorted1 _) ?_;unfold Builtin.«sorted»;refine ae (m:=checkCount "sorted" 1 1 _) (ai (ae (Zq6 _ _ fun ys h1 tk d k1 hC kP hle=>ae (wpAny_newList ?_ (by rw[fI];lia)))));have qj:(h1.push (seqObj "list" ys.toArray 0)).get? h1.objs.size=some (seqObj "list" ys.toArray 0):=cf _ rfl;have keep:∀b o,s.heap.get? b=some o->(h1.push (seqObj "list" ys.toArray 0)).get? b=some o:=fun b o e=>aK _ (k1 b o e);have FC:∀b o,s.heap.get? b=some o->h1.objs.size≠b:=fun b o e=>qR (cR (aU e) hle);change wpAny _ _ _ _ _ { s with heap:=h1.push (seqObj "list" ys.toArray 0),toks:=tk,drawn:=d };refine ae (iS (lm slot_list_sort ⟨_,qj,rfl⟩ entry_list_sort (Rg (s:={ s with heap:=h1.push (seqObj "list" ys.toArray 0),toks:=tk,drawn:=d }) o qj (by lia) (fun h6 k6 h2=>hc ys h6 tk d hC (fun b o e=>k6 b o (FC b o e).symm (keep b o e)) h2) fun out hp qu=>⟨_,rfl,?_⟩) (args_list_sort _)));generalize h1.push (seqObj "list" ys.toArray 0)=h5 at qj keep;obtain⟨e1,gE⟩:∃e1,(h5.update h1.objs.size (Obj.mapSeq fun _=>#[])).get? h1.objs.size=some (seqObj "list" #[] e1):=⟨_,get?_update_seq qj (fun _=>#[])⟩;have sX:=aK (seqObj "list" #[] 0) (aK (seqObj "tuple" ys.toArray 0) gE);have qk:out.size<=90000:=by rw[<- aB,hp.length_eq];exact kP
 refine ai ⟨_,rfl,q h1.objs.size ys out (sortedHeap h5 h1.objs.size ys out) tk d _ hC hp qu (fun b o e=>?_) (get?_update_seq sX (fun _=>out)) hle qk⟩;unfold sortedHeap;rw[hX _ _ (FC b o e)];refine aK _ (aK _ ?_);rw[hX _ _ (FC b o e)];exact keep b o e
end
end bo
namespace L2
open PySem PySem.Spec PyProof.Rows
def notStar:Expr->Bool
 | .Starred ..=>false
 | _=>true
theorem SQ{e:Expr}(es:List Expr)(env:Env)(h:notStar e=true):starEach (e::es) env=(false,eval e env)::starEach es env:=by
 cases e <;> first|rfl|(exact absurd h bf)
section
variable{X:Cx}{x:Str}{ps:List Str}{j k:Nat}{sp:Sp}{e:Expr}{es:List Expr}{t:TA}{te:TE}{p pos:Pos}
theorem S6(ha:PE X e te)(hr:PA X es t)(hn:notStar e=true:=by rfl):PA X (e::es) (va te t):=Za ha hr (SQ es X.env hn)
end
@[irreducible] def fJ(X:Cx)(e:Expr)(t:TE):Prop:=PE X e t
@[irreducible] def iW(X:Cx)(es:List Expr)(t:TA):Prop:=PA X es t
section
variable{X:Cx}{x:Str}{ps:List Str}{j k:Nat}{sp:Sp}{e:Expr}{es:List Expr}{t:TA}{te:TE}{p pos:Pos}
theorem fJ.to(h:fJ X e te):PE X e te:=by unfold fJ at h;exact h
theorem fJ.of(h:PE X e te):fJ X e te:=by unfold fJ;exact h
theorem iW.to(h:iW X es t):PA X es t:=by unfold iW at h;exact h
theorem iW.of(h:PA X es t):iW X es t:=by unfold iW;exact h
theorem pH{x:Str}{j:Nat}:fJ X (.Constant (.str x) j pos) (tC (.str x)):=.of Zm
theorem LJ:iW X [] sv:=.of Zb
theorem mY(ha:fJ X e te)(hr:iW X es t)(hn:notStar e=true:=by rfl):iW X (e::es) (va te t):=.of (S6 ha.to hr.to hn)
theorem yl(h:iW X es t):fJ X (.List es pos) (MG t):=.of (dA h.to)
end
end L2
namespace pe
open PySem iY
def tm(m:Nat):SetTable:={ mask:=m,place :=#[],dummies :=#[],finger:=0,led:=true,moves:=0,plain:=true }
theorem S4{t t':SetTable}(e:t.mask=t'.mask)(p:SetTable.Probe):t.advance p=t'.advance p:=by
 unfold SetTable.advance;rw[e]
theorem J_{t t':SetTable}(e:t.mask=t'.mask):∀(n:Nat)(p:SetTable.Probe),bA t n p=bA t' n p
 | 0,_=>rfl
 | n+1,p=>by
  show bA t n (t.advance p)=bA t' n (t'.advance p);rw[S4 e,J_ e n]
theorem Zip{t t':SetTable}(e:t.mask=t'.mask)(h:Int):t.probeStart h=t'.probeStart h:=by
 unfold SetTable.probeStart;rw[e]
def jn(m:Nat)(h:Int)(n:Nat):Nat:=(bA (tm m) n ((tm m).probeStart h)).j
theorem V0(t:SetTable)(h:Int)(n:Nat):(bA t n (t.probeStart h)).j=jn t.mask h n:=by
 unfold jn;rw[Zip (t:=t) (t':=tm t.mask) rfl,J_ (t:=t) (t':=tm t.mask) rfl]
theorem J9{m i:Nat}(h:i<=m):SetTable.runEnd m i<=m:=by
 unfold SetTable.runEnd
 split <;> lia
theorem Cp(m i:Nat):i<=SetTable.runEnd m i:=by
 unfold SetTable.runEnd
 split <;> lia
theorem Vd{m:Nat}{p:SetTable.Probe}(h:p.j+p.more<=m):((tm m).advance p).j+((tm m).advance p).more<=m:=by
 unfold SetTable.advance
 split
 ·show p.j+1+(p.more-1)<=m;lia
 ·have h1:(p.i*5+1+p.perturb / 32) % (m+1)<=m:=xk (t4 _ (t5 m));have h2:=J9 h1;have h3:=Cp m ((p.i*5+1+p.perturb / 32) % (m+1));show(p.i*5+1+p.perturb / 32) % (m+1)+(SetTable.runEnd m ((p.i*5+1+p.perturb / 32) % (m+1))-(p.i*5+1+p.perturb / 32) % (m+1))<=m;lia
theorem Ln{m:Nat}:∀(n:Nat){p:SetTable.Probe},p.j+p.more<=m->(bA (tm m) n p).j+(bA (tm m) n p).more<=m
 | 0,_,h=>h
 | n+1,p,h=>Ln n (Vd h)
theorem S1(m:Nat)(h:Int):((tm m).probeStart h).j+((tm m).probeStart h).more<=m:=by
 have h1:SetTable.bits h % (m+1)<=m:=xk (t4 _ (t5 m));have h2:=J9 h1;have h3:=Cp m (SetTable.bits h % (m+1));show SetTable.bits h % (m+1)+(SetTable.runEnd m (SetTable.bits h % (m+1))-SetTable.bits h % (m+1))<=m;lia
theorem VN(m:Nat)(h:Int)(n:Nat):jn m h n<=m:=by
 have:=Ln n (S1 m h);unfold jn;lia
def Way(m:Nat)(U:Nat->Prop)(h:Int)(j:Nat):Prop := ∃n,jn m h n=j/\∀k,k<n->U (jn m h k)
theorem Way.mono{m:Nat}{U U':Nat->Prop}{h:Int}{j:Nat}(w:Way m U h j)(hu:∀y,y<=m->U y->U' y):Way m U' h j:=by
 obtain⟨n,e,hk⟩:=w;exact⟨n,e,fun k mf=>hu _ (VN _ _ _) (hk k mf)⟩
theorem yI(t:SetTable):∀(k:Nat)(p:SetTable.Probe),k<=p.more->(bA t k p).j=p.j+k
 | 0,_,_=>rfl
 | k+1,p,h=>by
  show(bA t k (t.advance p)).j=p.j+(k+1);have e:t.advance p= { p with j:=p.j+1,more:=p.more-1 }:=by
   unfold SetTable.advance;rw[ah (by lia)]
  rw[e,yI t k _ (show k<=p.more-1 by lia)];show p.j+1+k=_;lia
theorem Kf{m:Nat}{owner:Array (Option Nat)}:∀(cW:Nat)(p:SetTable.Probe)(j:Nat),SetTable.layClean.free m owner cW p.i p.perturb=some j->p.j=p.i->p.more=SetTable.runEnd m p.i-p.i ->
  ∃n,(bA (tm m) n p).j=j/\∀k,k<n->owner.getD (bA (tm m) k p).j (some 0)≠none
 | 0,p,j,h,_,_=>by
  unfold SetTable.layClean.free at h;cases h
 | cW+1,p,j,h,hj,hm=>by
  unfold SetTable.layClean.free at h;have hge:=Cp m p.i;cases hf:(List.range (SetTable.runEnd m p.i+1-p.i)).find? fun k=>(owner.getD (p.i+k) (some 0)).isNone with
  | some k' =>
   rw[hf] at h;have e:p.i+k'=j:=dm h;obtain⟨h1,h2,h3⟩:=List.find?_range_eq_some.mp hf;have iV:k'<=p.more:=by
    have:=h_.mp h2;lia
   refine⟨k',by rw[yI _ _ _ iV,hj];exact e,fun k hk hn=>?_⟩;rw[yI _ _ _ (by lia),hj] at hn;have h4:=h3 k hk;rw[hn] at h4;cases h4
  | none =>
   rw[hf] at h;have h':SetTable.layClean.free m owner cW (lp (tm m) p).i (lp (tm m) p).perturb=some j:=h;obtain⟨n',e,hk⟩:=Kf cW (lp (tm m) p) j h' rfl rfl;have N2:=CB (tm m) p.more p rfl;refine⟨p.more+1+n',by rw[pC,N2];exact e,fun k mf=>?_⟩;by_cases aD:k<=p.more
   ·rw[yI _ _ _ aD,hj];have:=List.find?_eq_none.mp hf k (h_.mpr (by lia));intro hn;rw[hn] at this;exact this rfl
   ·have e2:k=p.more+1+(k-(p.more+1)):=by lia
    rw[e2,pC,N2];exact hk _ (by lia)
def WO(m:Nat)(all:List Int)(owner:Array (Option Nat)):Prop := ∀j k,owner.getD j none=some k->∃x,all[k]?= some x/\Way m (fun y=>owner.getD y (some 0)≠none) x j
theorem KH{owner:Array (Option Nat)}{j y:Nat}{v d:Option Nat}(hy:y≠j):(owner.setIfInBounds j v).getD y d=owner.getD y d:=by
 simp only[Array.getD,AS]
 split
 ·rename_i hU
  exact Array.getElem_setIfInBounds_ne (by simpa using hU) (fH hy)
 ·rfl
theorem JU{m:Nat}(hg:Good m)(all:List Int):∀(hs pre:List Int)(owner:Array (Option Nat)),all=pre++hs->Own m owner pre.length->WO m all owner->pre.length+hs.length<=m ->
  ∃kf,hs.foldl (fun(acc:Option (Array (Option Nat)×Nat)) h=>do
   let (owner,k) <- acc
   let j <- SetTable.layClean.free m owner (SetTable.turns m) (SetTable.bits h % (m+1)) (SetTable.bits h)
   pure (owner.setIfInBounds j (some k),k+1)) (some (owner,pre.length))=some (kf,pre.length+hs.length)/\Own m kf (pre.length+hs.length)/\WO m all kf
 | [],pre,owner,_,h,hw,_=>⟨owner,rfl,h,hw⟩
 | x::hs,pre,owner,ha,h,hw,hl=>by
  rw[aO] at hl;obtain⟨j,hj,ho⟩:=KU h (by lia);have hb:SetTable.bits x<2 ^ 64:=(xZ (SetTable.fresh 0 0 true) x).2.1;obtain⟨n,hn,e⟩:=JY (t:=tm m) (p:={ j:=0,more:=0,i:=SetTable.bits x % (m+1),perturb:=SetTable.bits x,dummy:=none }) hg hb hj;obtain⟨j',hf,cp⟩:=BL ho n (SetTable.turns m) _ (by unfold SetTable.turns;have:n<=13+m:=hn;lia) e;have xy:SetTable.layClean.free m owner (SetTable.turns m) (SetTable.bits x % (m+1)) (SetTable.bits x)=some j':=hf;obtain⟨nw,ew,hkw⟩:=Kf (m:=m) (owner:=owner) (SetTable.turns m) ((tm m).probeStart x) j' xy rfl rfl;have o6:j'<owner.size:=by
   apply AV;intro hn;rw[Array.getD,dif_neg hn] at cp;cases cp
  have grow:∀y,owner.getD y (some 0)≠none->(owner.setIfInBounds j' (some pre.length)).getD y (some 0)≠none:=fun y hy=>by
   by_cases ey:y=j'
   ·rw[ey] at hy;exact absurd cp hy
   ·rw[KH ey];exact hy
  have ka:WO m all (owner.setIfInBounds j' (some pre.length)):=fun y k Ae=>by
   by_cases ey:y=j'
   ·subst ey;have hk:k=pre.length:=by
     have:(owner.setIfInBounds y (some pre.length)).getD y none=some pre.length:=by simp[Array.getD,o6]
     rw[this] at Ae;exact(dm Ae).symm
    subst hk;refine⟨x,by rw[ha];simp,nw,ew,fun k hk=>grow _ (hkw k hk)⟩
   ·rw[KH ey] at Ae;obtain⟨z,e1,e2⟩:=hw y k Ae;exact⟨z,e1,e2.mono fun y _ hy=>grow y hy⟩
  have hlen:(pre ++ [x]).length=pre.length+1:=by rw[bw,List.length_singleton]
  obtain⟨kf,h1,h2,h3⟩:=JU hg all hs (pre ++ [x]) _ (by rw[ha];simp) (by rw[hlen];exact Ly h cp) ka (by rw[hlen];lia);rw[hlen] at h1 h2;refine⟨kf,?_,by rw[aO,show pre.length+(hs.length+1)=pre.length+1+hs.length by lia];exact h2,h3⟩;rw[List.foldl_cons];simp only[Option.bind_eq_bind,Option.bind_some,xy,Option.pure_def];rw[aO,show pre.length+(hs.length+1)=pre.length+1+hs.length by lia];exact h1
theorem Kv{m:Nat}{owner:Array (Option Nat)}{j k:Nat}:(j,k)∈df m owner↔j<=m/\owner.getD j none=some k:=by
 unfold df;rw[List.mem_filterMap];constructor
 ·rintro⟨y,hy,e⟩;cases ho:owner.getD y none with
  | none=>rw[ho] at e;cases e
  | some v =>
   rw[ho] at e;have e':(y,v)=(j,k):=dm e;cases e';exact⟨xk (h_.mp hy),ho⟩
 ·rintro⟨hj,ho⟩;exact⟨j,h_.mpr (Nat.lt_succ_of_le hj),by rw[ho];rfl⟩
theorem Ta{m:Nat}(hg:Good m)(fi mo:Nat)(led plain:Bool)(hs:Array Int)(hl:hs.size<=m){t:SetTable}{order:Array Nat}(e:SetTable.laid m fi mo led plain hs=some (t,order)) :
  ∀(i j k:Nat),t.place[i]?= some j->order[i]?= some k->∃x,hs[k]?= some x/\Way m (· ∈ t.place.toList) x j:=by
 have h0:Own m (Array.replicate (m+1) none) 0:=by
  refine⟨Array.size_replicate,?_⟩;have:df m (Array.replicate (m+1) none)=[]:=by
   unfold df;rw[List.filterMap_eq_nil_iff];intro j hj;have:(Array.replicate (m+1) (none:Option Nat)).getD j none=none:=by
    simp[Array.getD]
   rw[this];rfl
  rw[this];exact jo _
 have hw0:WO m hs.toList (Array.replicate (m+1) none):=fun j k Og=>by
  have:(Array.replicate (m+1) (none:Option Nat)).getD j none=none:=by simp[Array.getD]
  rw[this] at Og;cases Og
 obtain⟨owner,h1,h2,h3⟩:=JU hg hs.toList hs.toList [] _ rfl h0 hw0 (by show 0+hs.toList.length<=m;rw[aB];lia);have hc:SetTable.layClean m hs=some owner:=by
  unfold SetTable.layClean;rw[<- Array.foldl_toList];have:=congrArg (Option.map (·.1)) h1;exact this
 have e2:t= { mask:=m,place:=((df m owner).map (·.1)).toArray,dummies :=#[],finger:=fi,led:=led,moves:=mo,plain:=plain }/\order=((df m owner).map (·.2)).toArray:=by
  unfold SetTable.laid at e;rw[hc] at e;have e':=dm e;exact⟨(congrArg Prod.fst e').symm,(congrArg Prod.snd e').symm⟩
 obtain⟨rfl,rfl⟩:=e2;intro i j k hj hk;have lB:(df m owner)[i]?.map (·.1)=some j:=by
  rw[<- f_,<- hj];simp
 have iV:(df m owner)[i]?.map (·.2)=some k:=by
  rw[<- f_,<- hk];simp
 cases hp:(df m owner)[i]? with
 | none=>rw[hp] at lB;cases lB
 | some pr =>
  rw[hp] at lB iV;have ej:pr.1=j:=dm lB;have ek:pr.2=k:=dm iV;have hm:(j,k)∈df m owner:=by
   rw[<- ej,<- ek];exact cQ hp
  obtain⟨x,e1,w⟩:=h3 j k (Kv.mp hm).2;refine⟨x,by rw[<- bE];exact e1,w.mono fun y hy hu=>?_⟩;show y∈((df m owner).map (·.1)).toArray.toList;have hsz:=h2.size;have aD:y<owner.size:=by lia
  cases ho:owner.getD y none with
  | none =>
   exfalso;apply hu;simp only[Array.getD,aD,dif_pos] at ho ⊢;exact ho
  | some v=>exact gM.mpr ⟨(y,v),Kv.mpr ⟨hy,ho⟩,rfl⟩
theorem Fi{t:SetTable}(hd:t.dummies=#[])(ha:Nat->Int)(h:Int):∀(n cW:Nat)(p:SetTable.Probe),p.dummy=none->n<cW->t.slot (bA t n p).j=.empty ->
  (∃k,k<=n/\SetTable.probe.go t ha h cW p=some (.empty (bA t k p).j none)/\t.slot (bA t k p).j=.empty/\∀m,m<k->∃i,t.slot (bA t m p).j=.live i/\(ha i == h)=false) \/
  ∃k i,k<n/\SetTable.probe.go t ha h cW p=some (.candidate (bA t k p).j i (bA t (k+1) p))/\t.slot (bA t k p).j=.live i/\∀m,m<k->∃i,t.slot (bA t m p).j=.live i/\(ha i == h)=false
 | n,0,_,_,hn,_=>absurd hn (ie _)
 | n,cW+1,p,hp,hn,he=>by
  unfold SetTable.probe.go;cases hs:t.slot p.j with
  | empty=>exact .inl ⟨0,bj _,by rw[hp];rfl,hs,fun m hm=>absurd hm (ie _)⟩
  | dummy =>
   exfalso;unfold SetTable.slot at hs;dsimp only at hs
   split at hs
   ·cases hs
   ·rw[hd] at hs;exact SetTable.Slot.noConfusion hs
  | live i =>
   dsimp only;cases n with
   | zero =>
    rw[show(bA t 0 p).j=p.j from rfl,hs] at he;cases he
   | succ n =>
    by_cases hh:(ha i == h)=true
    ·rw[ah hh];exact .inr ⟨0,i,t5 _,rfl,hs,fun m hm=>absurd hm (ie _)⟩
    ·rw[af hh];have xA:(ha i == h)=false:=by
      cases e:(ha i == h) with
      | true=>exact absurd e hh
      | false=>rfl
     have vQ:(t.advance p).dummy=none:=by
      unfold SetTable.advance
      split
      ·exact hp
      ·exact hp
     have ext:∀k,(∀m,m<k->∃i,t.slot (bA t m (t.advance p)).j=.live i/\(ha i == h)=false)->∀m,m<k+1->∃i,t.slot (bA t m p).j=.live i/\(ha i == h)=false:=fun k hk m hm=>by
      cases m with
      | zero=>exact⟨i,hs,xA⟩
      | succ m=>exact hk m (by lia)
     rcases Fi hd ha h n cW (t.advance p) vQ (by lia) he with⟨k,hk,e,h1,h2⟩|⟨k,i',hk,e,h1,h2⟩
     ·exact .inl ⟨k+1,by lia,e,h1,ext k h2⟩
     ·exact .inr ⟨k+1,i',by lia,e,h1,ext k h2⟩
theorem LL{t:SetTable}{j i:Nat}(h:t.slot j=.live i):t.place[i]?= some j:=by
 unfold SetTable.slot at h;dsimp only at h
 split at h
 ·rename_i h2
  cases h;exact eq_of_beq h2
 ·split at h <;> cases h
section
variable{prog:Program}{w:World}{K:Type}[DecidableEq K]{knd:KeyKind prog w K}{A:Around}{E:Value->Shared->Prop}{s:Shared}
theorem rS{h:Heap}{x y:List K}{b:Addr}(h1:IsTupleKey knd h x b)(h2:IsTupleKey knd h y b):x=y:=by
 obtain⟨o,its,n,e1,_,e3,e4⟩:=h1;obtain⟨o',its',n',f1,_,f3,f4⟩:=h2;rw[e1] at f1;cases f1;rw[e3] at f3;cases f3;exact e4.inj f4
def dr(knd:KeyKind prog w K)(h:Heap)(ks:List K)(e:Int×Value):Prop := ∃b,e.2=.ref b/\IsTupleKey knd h ks b
structure pf(knd:KeyKind prog w K)(h:Heap)(es:Array (Int×Value))(t:SetTable):Prop where
 tab:Tab es t
 ent:∀e∈es.toList,∃ks,dr knd h ks e/\e.1=tupleKeyHash knd ks
 way:∀(i:Nat) e j,es[i]?= some e->t.place[i]?= some j->Way t.mask (· ∈ t.place.toList) e.1 j
 one:es.toList.Pairwise fun e e'=>∀ks,dr knd h ks e -> ¬ dr knd h ks e'
theorem pf.ents{h:Heap}{es:Array (Int×Value)}{t:SetTable}(x:pf knd h es t):Wl knd false h es:=fun e he=>by
 obtain⟨ks,⟨b,e1,e2⟩,_⟩:=x.ent e he;exact⟨ks,b,e1,e2⟩
theorem pf.none{h:Heap}{es:Array (Int×Value)}{t:SetTable}(x:pf knd h es t){ks:List K}{N:Nat}(he:t.slot (jn t.mask (tupleKeyHash knd ks) N)=.empty)
  (hp:∀m,m<N->∃i e,t.slot (jn t.mask (tupleKeyHash knd ks) m)=.live i/\es[i]?= some e /\ ¬ dr knd h ks e):∀e∈es.toList,¬ dr knd h ks e:=fun e N' hb=>by
 obtain⟨i0,sR⟩:=j4.mp N';rw[bE] at sR;have aD:=(mD.mp sR).1;obtain⟨kc,gg,hh⟩:=x.ent e N';have ek:kc=ks:=by
  obtain⟨b,e1,e2⟩:=hb;obtain⟨b',f1,f2⟩:=gg;rw[e1] at f1;cases f1;exact rS f2 e2
 subst ek;have hsz:=x.tab.size;have hj:t.place[i0]?= some t.place[i0]:=eY (by lia);obtain⟨n,en,hn⟩:=x.way i0 e _ sR hj;rw[hh] at en hn;have fZ:t.place[i0]∈t.place.toList:=Array.getElem_mem_toList (by lia);rcases xm n N with ZrE|jT|nM
 ·obtain⟨i,e',h1,h2,h3⟩:=hp n ZrE;have h4:=LL h1;rw[en] at h4;have hi:i=i0:=by
   have l1:=(mD.mp h4).1;have e5:t.place[i]=t.place[i0]:=(mD.mp h4).2;rcases xm i i0 with z|z|z
   ·have:=rQ x.tab.my z (by lia);lia
   ·exact z
   ·have:=rQ x.tab.my z l1;lia
  rw[hi,sR] at h2;cases h2;exact h3 hb
 ·rw[<- jT,en] at he;exact BM x.tab.my he fZ
 ·exact BM x.tab.my he (hn N nM)
set_option maxHeartbeats 1000000 in
theorem LD{S a:Addr}{o:Obj}{es:Array (Int×Value)}{ep:Nat}{t:SetTable}{ks:List K}(hu:A.units<cLine)(ho:s.heap.get? S=some o)(hd:o.data=.set es ep t)(vJ:pf knd s.heap es t)(hk:IsTupleKey knd s.heap ks a){Q:SetFound->Shared->Prop}
  (q0:(∃e∈es.toList,dr knd s.heap ks e)->Q (.there none) s) (q1:∀j,t.slot j=.empty->(∀e∈es.toList,¬ dr knd s.heap ks e)->Way t.mask (· ∈ t.place.toList) (tupleKeyHash knd ks) j->Q (.free j false) s) :
  ∀(cW n c:Nat)(ot:Option SetTable.Probe),ot.getD (t.probeStart (tupleKeyHash knd ks))=bA t c (t.probeStart (tupleKeyHash knd ks))->(∀m,m<c->∃i e,t.slot (jn t.mask (tupleKeyHash knd ks) m)=.live i/\es[i]?= some e /\ ¬ dr knd s.heap ks e) ->
   t.slot (bA t n (ot.getD (t.probeStart (tupleKeyHash knd ks)))).j=.empty->n<10*SetTable.turns t.mask->n<cW ->
  wpAny (model prog w) A (setSearchFrom S (.ref a) (tupleKeyHash knd ks) true cW ot) Q E s
 | 0,n,_,_,_,_,_,_,hn=>absurd hn (ie _)
 | cW+1,n,c,ot,zY,OE,he,FT,hn=>by
  have hT:=vJ.tab;have hE:=vJ.ents;have vQ:(ot.getD (t.probeStart (tupleKeyHash knd ks))).dummy=none:=by rw[zY];exact Jy t c _ (xZ t _).2.2
  unfold setSearchFrom;refine ae (jr ho hd hT.fits ?_);dsimp only;have hgw:t.gaveWay=false:=by
   unfold SetTable.gaveWay;rw[TB hT.good];rfl
  rw[hgw,af (by decide)];have kC:∀m,(bA t m (ot.getD (t.probeStart (tupleKeyHash knd ks)))).j=jn t.mask (tupleKeyHash knd ks) (c+m):=fun m=>by rw[zY,<- pC,V0]
  have O4:∀{j i},t.slot j=.live i->∃e,es[i]?= some e:=fun{j i} hl=>⟨_,eY (by have:=LC hl;rw[hT.size] at this;exact this)⟩;have bQ:∀{i:Nat}{e:Int×Value},es[i]?= some e->(((es[i]?.map (·.1)).getD 0 == tupleKeyHash knd ks)=false) -> ¬ dr knd s.heap ks e:=fun{i e} qg hh hb=>by
   rw[qg] at hh;obtain⟨kc,gg,e2⟩:=vJ.ent e (by rw[<- bE] at qg;exact cQ qg);have ek:kc=ks:=by
    obtain⟨b,f1,f2⟩:=hb;obtain⟨b',g1,g2⟩:=gg;rw[f1] at g1;cases g1;exact rS g2 f2
   rw[ek] at e2;have xA:(e.1 == tupleKeyHash knd ks)=false:=hh;rw[e2] at xA;simp at xA
  generalize di:ot.getD (t.probeStart (tupleKeyHash knd ks))=p at vQ he kC zY
  split
  ·rename_i met hm
   unfold SetTable.probe at hm;rcases Fi hT.none _ (tupleKeyHash knd ks) n _ p vQ FT he with⟨k,mf,e,hj,nY⟩|⟨k,i,mf,e,hl,nY⟩
   ·rw[e] at hm;cases hm;rw[kC k] at hj;have cy:∀m,m<c+k->∃i e,t.slot (jn t.mask (tupleKeyHash knd ks) m)=.live i/\es[i]?= some e /\ ¬ dr knd s.heap ks e:=fun m hm=>by
     by_cases FR:m<c
     ·exact OE m FR
     ·obtain⟨i,h1,h2⟩:=nY (m-c) (by lia);rw[kC,show c+(m-c)=m by lia] at h1;obtain⟨e,me⟩:=O4 h1;exact⟨i,e,h1,me,bQ me h2⟩
    refine ai ?_;rw[kC k];refine q1 _ hj (vJ.none hj cy) ⟨c+k,rfl,fun m hm=>?_⟩;obtain⟨i,_,h1,_⟩:=cy m hm;have:=LL h1;rw[<- bE] at this;exact cQ this
   ·rw[e] at hm;cases hm;have hi:=LC hl;rw[hT.size] at hi;obtain⟨kc,b,dy,hb⟩:=hE es[i] (Array.getElem_mem_toList hi);have Ot:es[i]∈es.toList:=Array.getElem_mem_toList hi;have nK:es[i]?= some (es[i].1,Value.ref b):=by rw[eY hi,<- dy]
    have qt:t.sameMemory t.moves t.mask=some true:=by
     unfold SetTable.sameMemory;rw[ah (beq_self_eq_true _)]
    have again:kc≠ks->wpAny (model prog w) A (setSearchFrom S (.ref a) (tupleKeyHash knd ks) true cW (some (bA t (k+1) p))) Q E s:=fun ZrH=>by
     refine LD hu ho hd vJ hk q0 q1 cW (n-(k+1)) (c+(k+1)) (some (bA t (k+1) p)) (by show bA t (k+1) p=_;rw[zY,<- pC]) (fun m hm=>?_) (by
      show t.slot (bA t (n-(k+1)) (bA t (k+1) p)).j=.empty;rw[<- pC,show k+1+(n-(k+1))=n by lia];exact he) (by lia) (by lia)
     by_cases FR:m<c
     ·exact OE m FR
     by_cases hmk:m<c+k
     ·obtain⟨i',h1,h2⟩:=nY (m-c) (by lia);rw[kC,show c+(m-c)=m by lia] at h1;obtain⟨e,me⟩:=O4 h1;exact⟨i',e,h1,me,bQ me h2⟩
     ·have em:m=c+k:=by lia
      rw[kC k,<- em] at hl;refine⟨i,es[i],hl,eY hi,fun⟨b',f1,f2⟩=>?_⟩;rw[dy] at f1;cases f1;exact ZrH (rS hb f2)
    dsimp only;rw[nK];dsimp only;have Gb:∀v∈(Array.filter (fun x=>x.fst == tupleKeyHash knd ks) es).toList.map (fun x=>x.snd),∃ks b,v=Value.ref b/\IsTupleKey knd s.heap ks b:=fun v hv=>by
     obtain⟨x,hx,rfl⟩:=gM.mp hv;rw[Array.toList_filter] at hx;exact hE x (List.mem_filter.mp hx).1
    cases g9:t.led with
    | false =>
     rw[ah (by decide)];refine ae (Vw hk _ Gb ?_);rw[af (by decide)];refine ae (iS (wpAny_eqBool_tuple hu hb hk (ae (jr ho hd hT.fits ?_))));by_cases jT:kc=ks
     ·rw[aR jT,ah (by decide)];exact ai (q0 ⟨es[i],Ot,b,dy,jT ▸ hb⟩)
     ·rw[a_ jT,af (by decide)];dsimp only;rw[qt];dsimp only;rw[if_pos rfl,hl];dsimp only;rw[nK];dsimp only;refine wpAny_bind (wpAny_isSame_ref_self (wpAny_bind (wpAny_pure ?_)));rw[if_pos rfl];dsimp only;rw[if_neg (by decide)];exact again jT
    | true =>
     rw[af (by decide)];refine ae (iS (wpAny_eqBool_tuple hu hb hk (ae (jr ho hd hT.fits ?_))));by_cases jT:kc=ks
     ·rw[aR jT,ah (by decide)];exact ai (q0 ⟨es[i],Ot,b,dy,jT ▸ hb⟩)
     ·rw[a_ jT,af (by decide)];dsimp only;rw[qt];dsimp only;rw[if_pos rfl,hl];dsimp only;rw[nK];dsimp only;refine wpAny_bind (wpAny_isSame_ref_self (wpAny_bind (wpAny_pure ?_)));rw[if_pos rfl];dsimp only;rw[if_neg (by decide)];exact again jT
  ·rename_i hm
   exfalso;unfold SetTable.probe at hm;rcases Fi hT.none _ (tupleKeyHash knd ks) n _ p vQ FT he with⟨k,mf,e,hj,nY⟩|⟨k,i,mf,e,hl,nY⟩
   ·exact hm _ e
   ·exact hm _ e
end
theorem pF{α : Type}(xs:Array α){p:Nat}(hp:p<=xs.size)(x : α)(i:Nat):(SetTable.insertAt xs p x)[i]?= if i<p then xs[i]? else if i=p then some x else xs[i-1]? := by
 have hl:(xs.toList.take p).length=p:=by rw[dN,aB];lia
 rw[<- bE,Jh];by_cases h1:i<p
 ·rw[ah h1,oF (by lia),qP h1,bE]
 rw[af h1,mF (by lia),hl];by_cases h2:i=p
 ·rw[ah h2,h2,Nat.sub_self];rfl
 ·rw[af h2,show i-p=(i-1-p)+1 by lia,List.getElem?_cons_succ,j3,show p+(i-1-p)=i-1 by lia,bE]
section
variable{prog:Program}{w:World}{K:Type}[DecidableEq K]{knd:KeyKind prog w K}{A:Around}{E:Value->Shared->Prop}{s:Shared}
abbrev One(knd:KeyKind prog w K)(h:Heap)(l:List (Int×Value)):Prop:=l.Pairwise fun e e'=>∀ks,dr knd h ks e -> ¬ dr knd h ks e'
theorem One.perm{h:Heap}{l l':List (Int×Value)}(x:One knd h l)(p:l'.Perm l):One knd h l':=(p.pairwise_iff fun{a b} jS ks hb ha=>jS ks ha hb).mpr x
theorem R4{h h':Heap}{S:Addr}{o o':Obj}{es c_:Array (Int×Value)}{ep ly:Nat}{t t':SetTable}(ho:h.get? S=some o)(hd:o.data=.set es ep t)(cp:h'.get? S=some o')(gh:o'.data=.set c_ ly t')(sb:Heap.SameBut S h h')(ks:List K)(e:Int×Value):dr knd h ks e↔dr knd h' ks e:=by
 constructor
 ·rintro⟨b,e1,e2⟩;exact⟨b,e1,U3 ho hd sb e2⟩
 ·rintro⟨b,e1,o2,items,n,h1,h2,h3,h4⟩;have bQ:b≠S:=fun z=>by
   rw[z,cp] at h1;cases h1;rw[gh] at h3;cases h3
  exact⟨b,e1,o2,items,n,(sb.2 b bQ).symm.trans h1,h2,h3,h4⟩
def pN(knd:KeyKind prog w K)(h:Heap)(S:Addr)(vs:Value->Prop)(P:List K->Prop)(n:Nat)(led:Bool):Prop :=
 ∃o es ep t,h.get? S=some o/\o.ExactSet/\o.data=.set es ep t/\pf knd h es t/\es.size<=n/\t.led=led/\(∀e∈es.toList,vs e.2)/\∀ks,(∃e∈es.toList,dr knd h ks e)↔P ks
theorem Ve{order:Array Nat}{es:Array (Int×Value)}(cy:∀k∈order.toList,k<es.size)(i:Nat):(order.filterMap (es[·]?))[i]?= order[i]?.bind (es[·]?):=by
 rw[<- bE,Array.toList_filterMap,<- bE];generalize order.toList=l at cy
 induction l generalizing i with
 | nil=>simp
 | cons k l ih =>
  have hk:=cy k (bb ..);rw[oE (b:=es[k]) (eY hk)];cases i with
  | zero =>
   rw[List.getElem?_cons_zero,List.getElem?_cons_zero];exact(eY hk).symm
  | succ i =>
   rw[List.getElem?_cons_succ,List.getElem?_cons_succ];exact ih i fun z hz=>cy z (aX _ hz)
set_option maxHeartbeats 1000000 in
theorem Vr{S:Addr}{o:Obj}{es:Array (Int×Value)}{ep:Nat}{t:SetTable}{Q:Unit->Shared->Prop}(ho:s.heap.get? S=some o)(hd:o.data=.set es ep t)(hf:t.fits es.size=true)(h1:1<=es.size)(hn:es.size<=1000)
  (h:∀(c_:Array (Int×Value))(t':SetTable)(h':Heap),c_.toList.Perm es.toList->Tab c_ t'->(∀(i:Nat) e j,c_[i]?= some e->t'.place[i]?= some j->Way t'.mask (· ∈ t'.place.toList) e.1 j)->t'.led=t.led->h'.get? S=some { o with data:=.set c_ (ep+1) t' }->Heap.SameBut S s.heap h'->Q () { s with heap:=h' }) :
  wpAny (model prog w) A (setRelay S (SetTable.grown es.size)) Q E s:=by
 have qf:SetTable.grown es.size=es.size*4:=by unfold SetTable.grown;rw[af (by lia)]
 rw[qf];obtain⟨g1,g2,g3⟩:=above (n:=es.size*4) (by lia);unfold setRelay;refine ae (jr ho hd hf ?_);dsimp only;rw[if_neg (by rw[sizeLine_eq];lia)];obtain⟨t',order,e,m1,m2,m3,m4,m5,m6,m7,m8⟩:=U1 g1 t.finger (t.movedTo (SetTable.sizeAbove (es.size*4)-1)) t.led t.plain (es.map (·.1)) (by rw[wY];lia);have qv:=Ta g1 t.finger (t.movedTo (SetTable.sizeAbove (es.size*4)-1)) t.led t.plain (es.map (·.1)) (by rw[wY];lia) e;rw[wY] at m3 m4;have e2:t.relaid (es.map (·.1)) (es.size*4)=some (t',order):=e;rw[e2];have jV:(order.filterMap (es[·]?)).toList.Perm es.toList:=by
  rw[Array.toList_filterMap];exact(m4.filterMap _).trans (tS (filterMap_getElem?_range es))
 have hsz:(order.filterMap (es[·]?)).size=es.size:=by
  rw[<- aB,jV.length_eq,aB]
 have Gi:∀(i:Nat) e j,(order.filterMap (es[·]?))[i]?= some e->t'.place[i]?= some j->Way t'.mask (· ∈ t'.place.toList) e.1 j:=fun i e j hi hj=>by
  rw[Ve (fun k hk=>h_.mp (m4.mem_iff.mp hk))] at hi;cases kK:order[i]? with
  | none=>rw[kK] at hi;cases hi
  | some k =>
   rw[kK] at hi;have cn:es[k]?= some e:=hi;obtain⟨x,hx,hwx⟩:=qv i j k hj kK;rw[Array.getElem?_map,cn] at hx;have ex:e.1=x:=dm hx;rw[m1,ex];exact hwx
 refine ae (wpAny_of_eq (a:=(order.filterMap (es[·]?),t')) ?_ ?_)
 ·change (ite (((order.filterMap (es[·]?)).size != es.size)=true) _ _:Sem (Array (Int×Value)×SetTable))=_;rw[af (by rw[hsz];simp)]
 dsimp only;refine wpAny_storeSet_of ho hd (h _ t' _ jV ⟨by rw[m3,hsz],m2,by rw[m1];exact g1,?_,m8⟩ Gi m5 (iY.stored ho hd _ _) (w6 ..)) (by rw[hsz,fI];lia);unfold SetTable.fill;rw[m1,m2,m3];show(es.size+0)*5<_;lia
set_option maxHeartbeats 2000000 in
theorem B0{S a:Addr}{o:Obj}{es:Array (Int×Value)}{ep:Nat}{t t2:SetTable}{vs:Value->Prop}{P:List K->Prop}{n j:Nat}{led:Bool}{ks:List K}{Q:Bool->Shared->Prop}(ho:s.heap.get? S=some o)(hx:o.ExactSet)(hd:o.data=.set es ep t)(jc:pf knd s.heap es t)(hsz:es.size<=n)(g9:t.led=led)(oa:∀e∈es.toList,vs e.2)
  (hP:∀ks,(∃e∈es.toList,dr knd s.heap ks e)↔P ks) (hn:n<=900) (hk:IsTupleKey knd s.heap ks a) (hv:vs (.ref a)) (hj:t.slot j=.empty) (g_:∀e∈es.toList,¬ dr knd s.heap ks e) (qv:Way t.mask (· ∈ t.place.toList) (tupleKeyHash knd ks) j) (e1:t2.mask=t.mask) (e2:t2.place=SetTable.insertAt t.place (SetTable.below t.place j) j) (e3:t2.dummies=#[]) (e4:t2.led=t.led)
  (q:∀b h',Heap.SameBut S s.heap h'->pN knd h' S vs (fun k=>P k\/k=ks) (n+1) led->Q b { s with heap:=h' }) :
  wpAny (model prog w) A (do
   storeSet S (SetTable.insertAt es (SetTable.below t.place j) (tupleKeyHash knd ks,Value.ref a)) t2
   if(!false&&t2.tooFull)=true then do
     setRelay S (SetTable.grown (es.size+1))
     pure true
    else pure true) Q E s:=by
 have hT:=jc.tab;have hr:=hT.room;have hfe:=hT.fill_eq;have sJ:=(uD hT.my j).1;have Oe:=SetTable.insertAt_perm es (SetTable.below t.place j) (tupleKeyHash knd ks,Value.ref a);have aS:(SetTable.insertAt es (SetTable.below t.place j) (tupleKeyHash knd ks,Value.ref a)).toList.Perm ((tupleKeyHash knd ks,Value.ref a)::es.toList):=by
  refine Oe.trans ?_;rw[fm];exact j5 (oj := es.toList) (qA :=[_])
 have n8:(SetTable.insertAt es (SetTable.below t.place j) (tupleKeyHash knd ks,Value.ref a)).size=es.size+1:=by
  rw[<- aB,Oe.length_eq,aB,Array.size_push]
 have je:t2.place.size=es.size+1:=by
  have:=(SetTable.insertAt_perm t.place (SetTable.below t.place j) j).length_eq;rw[aB,aB,Array.size_push,hT.size] at this;rw[e2];exact this
 have Zrh:t2.fill=es.size+1:=by
  unfold SetTable.fill;rw[je,e3];rfl
 have Zr3:iX t2.place:=by
  rw[e2];exact R9 hT.my (BM hT.my hj)
 have FK:∀y,y∈t.place.toList->y∈t2.place.toList:=fun y hy=>by
  rw[e2];refine(SetTable.insertAt_perm t.place (SetTable.below t.place j) j).mem_iff.mpr ?_;rw[fm];exact oG _ hy
 have OX:∀(i:Nat) e y,(SetTable.insertAt es (SetTable.below t.place j) (tupleKeyHash knd ks,Value.ref a))[i]?= some e->t2.place[i]?= some y->Way t2.mask (· ∈ t2.place.toList) e.1 y:=fun i e y hi hy=>by
  rw[pF es (by rw[<- hT.size];exact sJ)] at hi;rw[e2,pF t.place sJ] at hy;rw[e1];by_cases c1:i<SetTable.below t.place j
  ·rw[ah c1] at hi hy;exact(jc.way i e y hi hy).mono fun z _ hz=>FK z hz
  rw[af c1] at hi hy;by_cases c2:i=SetTable.below t.place j
  ·rw[ah c2] at hi hy;cases hi;cases hy;exact qv.mono fun z _ hz=>FK z hz
  ·rw[af c2] at hi hy;exact(jc.way (i-1) e y hi hy).mono fun z _ hz=>FK z hz
 generalize SetTable.insertAt es (SetTable.below t.place j) (tupleKeyHash knd ks,Value.ref a)=jN at aS n8 OX;have OJ:dr knd s.heap ks (tupleKeyHash knd ks,Value.ref a):=⟨a,rfl,hk⟩;have ZrN:One knd s.heap jN.toList:=by
  refine One.perm (A2.mpr ⟨fun e he kc kD dy=>?_,jc.one⟩) aS;obtain⟨b,f1,f2⟩:=kD;cases f1;have:kc=ks:=rS f2 hk;subst this;exact g_ e he dy
 have Zrd:∀e∈jN.toList,∃ks,dr knd s.heap ks e/\e.1=tupleKeyHash knd ks:=fun e he=>by
  rcases aH.mp (aS.mem_iff.mp he) with rfl|he
  ·exact⟨ks,OJ,rfl⟩
  ·exact jc.ent e he
 have Zsp:∀e∈jN.toList,vs e.2:=fun e he=>by
  rcases aH.mp (aS.mem_iff.mp he) with rfl|he
  ·exact hv
  ·exact oa e he
 have hP1:∀k,(∃e∈jN.toList,dr knd s.heap k e)↔(P k\/k=ks):=fun k=>by
  constructor
  ·rintro⟨e,he,hb⟩;rcases aH.mp (aS.mem_iff.mp he) with rfl|he
   ·obtain⟨b,f1,f2⟩:=hb;cases f1;exact .inr (rS f2 hk)
   ·exact .inl ((hP k).mp ⟨e,he,hb⟩)
  ·rintro(iV|rfl)
   ·obtain⟨e,he,hb⟩:=(hP k).mpr iV;exact⟨e,aS.mem_iff.mpr (aX _ he),hb⟩
   ·exact⟨_,aS.mem_iff.mpr (bb ..),OJ⟩
 have fin:∀(h':Heap)(o':Obj)(c_:Array (Int×Value))(ly:Nat)(t':SetTable),Heap.SameBut S s.heap h'->h'.get? S=some o'->o'.ExactSet->o'.data=.set c_ ly t'->c_.toList.Perm jN.toList->Tab c_ t'->(∀(i:Nat) e j,c_[i]?= some e->t'.place[i]?= some j->Way t'.mask (· ∈ t'.place.toList) e.1 j)->t'.led=led->pN knd h' S vs (fun k=>P k\/k=ks) (n+1) led:=fun h' o' c_ ly t' sb cp o7 gh hp uh ka Bd=>by
  have vk:=fun k e=>R4 (knd:=knd) ho hd cp gh sb k e;have hl:c_.size=jN.size:=by rw[<- aB,hp.length_eq,aB]
  refine⟨o',c_,ly,t',cp,o7,gh,⟨uh,fun e he=>?_,ka,?_⟩,by lia,Bd,fun e he=>Zsp e (hp.mem_iff.mp he),fun k=>?_⟩
  ·obtain⟨k,hb,e5⟩:=Zrd e (hp.mem_iff.mp he);exact⟨k,(vk k e).mp hb,e5⟩
  ·refine(ZrN.perm hp).imp fun{x y} kO k h1 h2=>kO k ((vk k x).mpr h1) ((vk k y).mpr h2)
  ·refine Iff.trans ?_ (hP1 k);constructor
   ·rintro⟨e,he,hb⟩;exact⟨e,hp.mem_iff.mp he,(vk k e).mpr hb⟩
   ·rintro⟨e,he,hb⟩;exact⟨e,hp.mem_iff.mpr he,(vk k e).mp hb⟩
 refine ae (wpAny_storeSet_of ho hd ?_ (by rw[n8,fI];lia));have gE:=iY.stored ho hd jN t2;have ji:Heap.SameBut S s.heap (s.heap.update S (Obj.putSet jN t2)):=w6 ..;generalize s.heap.update S (Obj.putSet jN t2)=h1 at gE ji;have Zri:t2.fits jN.size=true:=by
  unfold SetTable.fits;rw[je,n8,Zrh,e1];simp;lia
 by_cases Ob:t2.tooFull=true
 ·rw[Ob,ah (by decide),<- n8];refine ae (Vr (s:={ s with heap:=h1 }) gE rfl Zri (by lia) (by lia) fun c_ t' h' hp uh ka Bd cp xB=>ai ?_);exact q true h' (ji.trans xB) (fin h' _ c_ _ t' (ji.trans xB) cp hx rfl hp uh ka (by rw[Bd,e4,g9]))
 ·have FW:t2.tooFull=false:=by
   cases hc:t2.tooFull with
   | true=>exact absurd hc Ob
   | false=>rfl
  rw[FW,af (by decide)];refine ai (q true h1 ji (fin h1 _ jN _ t2 ji gE hx rfl (jo _) ⟨by rw[je,n8],e3,by rw[e1];exact hT.good,?_,Zr3⟩ OX (by rw[e4,g9])));unfold SetTable.tooFull at FW;have:=of_decide_eq_false FW;lia
set_option maxHeartbeats 2000000 in
theorem RM{S a:Addr}{vs:Value->Prop}{P:List K->Prop}{n:Nat}{led:Bool}{ks:List K}{Q:Bool->Shared->Prop}(hu:A.units<cLine)(hS:pN knd s.heap S vs P n led)(hn:n<=900)(hk:IsTupleKey knd s.heap ks a)(hv:vs (.ref a))
  (q:∀b h',Heap.SameBut S s.heap h'->pN knd h' S vs (fun k=>P k\/k=ks) (n+1) led->Q b { s with heap:=h' }):wpAny (model prog w) A (setAddHashed S (.ref a) (tupleKeyHash knd ks)) Q E s:=by
 obtain⟨o,es,ep,t,ho,hx,hd,jc,hsz,g9,oa,hP⟩:=hS;have hT:=jc.tab;have hr:=hT.room;have hfe:=hT.fill_eq;unfold setAddHashed;refine iS ?_;unfold setAddHashedIn;refine ae (jr ho hd hT.fits ?_);have hbs:byScan (.ref a) es=false:=rfl;dsimp only;rw[hbs,if_neg (by decide)];obtain⟨m,hm1,zM⟩:=Q_ hT (tupleKeyHash knd ks);have qt:=Q7 hT.good;unfold setSearch;refine ae (LD (knd:=knd) hu ho hd jc hk (fun hex=>?_) (fun j hj g_ qv=>?_) 100000 m 0 none rfl (fun m hm=>absurd hm (ie _)) zM hm1 (by lia))
 ·refine ai (q false s.heap (Heap.SameBut.refl ..) ⟨o,es,ep,t,ho,hx,hd,jc,by lia,g9,oa,fun k=>(hP k).trans ⟨.inl,fun z=>?_⟩⟩);rcases z with z|rfl
  ·exact z
  ·exact(hP k).mp hex
 dsimp only;refine wpAny_bind (wpAny_setState_of ho hd hT.fits ?_);dsimp only;have kH:SetTable.has t.dummies j=false:=by rw[hT.none];rfl
 have ZrT:t.put j=({ t with place:=SetTable.insertAt t.place (SetTable.below t.place j) j },SetTable.below t.place j):=by
  unfold SetTable.put;rw[kH];rfl
 rw[ZrT];dsimp only;cases aS:t.plain with
 | true =>
  rw[ah rfl];refine ae (Sj hk fun b=>?_);cases b with
  | true =>
   rw[ah rfl];exact B0 ho hx hd jc hsz g9 oa hP hn hk hv hj g_ qv rfl rfl hT.none rfl q
  | false =>
   rw[af (by decide)];exact B0 ho hx hd jc hsz g9 oa hP hn hk hv hj g_ qv rfl rfl hT.none rfl q
 | false =>
  rw[af (by decide)];refine ae (ai ?_);rw[ah rfl];exact B0 ho hx hd jc hsz g9 oa hP hn hk hv hj g_ qv rfl rfl hT.none rfl q
theorem WN{S a:Addr}{vs:Value->Prop}{P:List K->Prop}{n:Nat}{led:Bool}{ks:List K}{Q:Bool->Shared->Prop}(hu:A.units<cLine)(hS:pN knd s.heap S vs P n led)(hn:n<=900)(hk:IsTupleKey knd s.heap ks a)(hv:vs (.ref a))
  (q:∀b h' tk,s.toks<=tk->Heap.SameBut S s.heap h'->pN knd h' S vs (fun k=>P k\/k=ks) (n+1) led->Q b { s with heap:=h',toks:=tk }):wpAny (model prog w) A (setAdd S (.ref a)) Q E s:=by
 unfold setAdd;refine iS (ae (wpAny_pyHash_tuple hu hk ?_));exact RM (s:={ s with toks:=_ }) hu hS hn hk hv fun b h' sb xx=>q b h' _ (Nat.le_add_right _ _) sb xx
end
end pe
namespace bo
open PySem PyProof.Rows ux PySem.W
structure gm{α : Type}(lt : α -> α -> Bool):Prop where
 tD:∀a,lt a a=false
 trans:∀a b c,lt a b=true->lt b c=true->lt a c=true
 wV:∀a b,lt a b=false->lt b a=false->a=b
section
variable{α β : Type}{lt : α -> α -> Bool}{qz : β -> β -> Bool}
theorem gm.yS(o:gm lt){a b : α}(h:lt a b=true):lt b a=false:=by
 cases e:lt b a with
 | false=>rfl
 | true =>
  have:=o.trans a b a h e;rw[o.tD] at this;cases this
theorem gm.neg(o:gm lt){x y z : α}(h1:lt x y=false)(h2:lt y z=false):lt x z=false:=by
 cases e:lt x z with
 | false=>rfl
 | true =>
  cases e2:lt y x with
  | true=>rw[o.trans y x z e2 e] at h2;cases h2
  | false =>
   have:=o.wV x y h1 e2;subst this;rw[e] at h2;cases h2
theorem gm.PF(o:gm lt)(f:Value -> α):cL fun x y=>lt (f x.1) (f y.1):=⟨fun _ _ h=>o.yS h,fun _ _ _ h1 h2=>o.neg h1 h2⟩
def vf[DecidableEq α](lt : α -> α -> Bool)(qz : β -> β -> Bool)(x y : α × β):Bool:=lt x.1 y.1 || (decide (x.1=y.1)&&qz x.2 y.2)
theorem gm.lex[DecidableEq α](o:gm lt)(o2:gm qz):gm (vf lt qz) where
 tD:=fun a=>by unfold vf;rw[o.tD,o2.tD];simp
 trans:=fun a b c h1 h2=>by
  unfold vf at *;simp only[qL,cP,cC] at *;rcases h1 with h1|⟨e1,h1⟩
  ·rcases h2 with h2|⟨e2,h2⟩
   ·exact .inl (o.trans _ _ _ h1 h2)
   ·exact .inl (e2 ▸ h1)
  ·rcases h2 with h2|⟨e2,h2⟩
   ·exact .inl (e1.symm ▸ h2)
   ·exact .inr ⟨e1.trans e2,o2.trans _ _ _ h1 h2⟩
 wV:=fun a b h1 h2=>by
  unfold vf at *;simp only[Bool.or_eq_false_iff,Bool.and_eq_false_imp,cC] at *;have e1:=o.wV _ _ h1.1 h2.1;have e2:=o2.wV _ _ (h1.2 e1) (h2.2 e1.symm);exact Prod.ext e1 e2
theorem Uh:gm fun a b:Int=>decide (a<b):=⟨fun a=>by simp,fun a b c h1 h2=>by simp only[cC] at *;lia,fun a b h1 h2=>by simp only[decide_eq_false_iff_not] at *;lia⟩
theorem Ju:∀a b:List Nat,¬ a<b -> ¬ b<a->a=b
 | [],[],_,_=>rfl
 | [],b::bs,h,_=>absurd (List.nil_lt_cons b bs) h
 | a::as,[],_,h=>absurd (List.nil_lt_cons a as) h
 | a::as,b::bs,h1,h2=>by
  rw[w8] at h1 h2;have e:a=b:=by
   rcases xm a b with z|z|z
   ·exact absurd (.inl z) h1
   ·exact z
   ·exact absurd (.inl z) h2
  subst e;rw[Ju as bs (fun z=>h1 (.inr ⟨rfl,z⟩)) (fun z=>h2 (.inr ⟨rfl,z⟩))]
theorem xK:∀a:List Nat,¬ a<a
 | [],h=>by cases h
 | a::as,h=>by
  rw[w8] at h;rcases h with h|⟨_,h⟩
  ·lia
  ·exact xK as h
theorem Jj:∀a b c:List Nat,a<b->b<c->a<c
 | [],_,[],_,h2=>by cases h2
 | [],_,c::cs,_,_=>List.nil_lt_cons c cs
 | a::as,[],_,h1,_=>by cases h1
 | a::as,b::bs,[],_,h2=>by cases h2
 | a::as,b::bs,c::cs,h1,h2=>by
  rw[w8] at *;rcases h1 with h1|⟨e1,h1⟩
  ·rcases h2 with h2|⟨e2,h2⟩
   ·exact .inl (by lia)
   ·exact .inl (by lia)
  ·rcases h2 with h2|⟨e2,h2⟩
   ·exact .inl (by lia)
   ·exact .inr ⟨by lia,Jj as bs cs h1 h2⟩
theorem Um{x y:Str}(h:x.cps.toList=y.cps.toList):x=y:=by
 cases x;cases y
 congr 1
 exact Array.toList_inj.mp h
theorem UU:gm fun a b:Str=>decide (a.cps.toList<b.cps.toList):=⟨fun a=>a_ (xK _),fun a b c h1 h2=>aR (Jj _ _ _ (ii h1) (ii h2)),fun a b h1 h2=>Um (Ju _ _ (of_decide_eq_false h1) (of_decide_eq_false h2))⟩
end
end bo
namespace pe
open PySem PyProof.Rows PySem.W iY
section
variable{prog:Program}{w:World}{A:Around}{E:Value->Shared->Prop}{s:Shared}
theorem R1(es:Array (Int×Value)):(List.range es.size).map (fun j=>(es.getD j (0,.none)).2)=es.toList.map (·.2):=by
 refine List.ext_getElem? fun i=>?_;rw[f_,f_];by_cases hi:i<es.size
 ·rw[List.getElem?_range hi,bE,eY hi];simp[Array.getD,hi]
 ·rw[AX (by rw[tX];lia),AX (by rw[aB];lia)];rfl
set_option maxHeartbeats 1000000 in
theorem Ur{S:Addr}{o:Obj}{es:Array (Int×Value)}{ep:Nat}{t:SetTable}{Q:Value->Shared->Prop}(ho:s.heap.get? S=some o)(hx:o.ExactSet)(hd:o.data=.set es ep t)(hT:Tab es t)(g9:t.led=vb w)(hn:es.size<=900)
  (q:∀(I T:Addr)(ys:List Value)(h':Heap)(d:Drawn),(∀b o,s.heap.get? b=some o->h'.get? b=some o)->lH w h' I S T es ep t ys 0->ys.length=es.size->S≠I->T≠I->ys.Perm (es.toList.map (·.2))->s.heap.objs.size<=I->(T=S\/s.heap.objs.size<=T)->Q (.ref I) { s with heap:=h',drawn:=d }) :
  wpAny (model prog w) A (pyIter (.ref S)) Q E s:=by
 have kM:s.TypeIs (.ref S) "set" := ⟨o,ho,hx.1⟩;have hf:=hT.fits;refine wpAny_pyIter_slot kM PySem.F.slot_set_iter (lm PySem.F.slot_set_iter kM Q2 ?_ (PySem.F.args_set_iter_1 _));unfold Builtin.«frozenset.__iter__»;refine ae ?_;unfold Builtin.Frozenset.slot0;refine ae (ai ?_);change wpAny _ A.in1 (pure S) _ _ s;refine ai (ae ?_);unfold Builtin.Frozenset.sizeOf;refine ae (Cb ho hd hf (ai (ae (TZ ho hd hf ?_))));have NF:∀{s1:Shared}{Q1:Nat->Shared->Prop}{E1:Value->Shared->Prop},s1.heap.get? S=some o->Q1 ep s1->wpAny (model prog w) A.in1 (setEpoch S) Q1 E1 s1:=fun gE h=>by
  unfold setEpoch;exact ae (jr gE hd hf (ai h))
 cases zy:(!w.params.followText "set-order" && (!t.plain&&decide (es.size > 1))) with
 | true =>
  rw[ah rfl];have hf0:w.params.followText "set-order" = false:=by
   cases hc:w.params.followText "set-order" with
   | false=>rfl
   | true=>rw[hc] at zy;cases zy
  refine ae (Lx es.size (List.range es.size) s tX fun perm d hp=>?_);have aS:perm.length=es.size:=by rw[hp.length_eq,tX]
  refine ae (wpAny_newTuple ?_ (by rw[aW,aS,fI];lia));dsimp only;refine ae (NF (aK _ ho) ?_);unfold newFields;refine ae (iT (ai ⟨_,rfl,"set_iterator",_,⟨_,cf _ rfl,rfl⟩,pw.lookup,?_⟩));have tf:(s.heap.push { cls:=.type "tuple",data:=.seq (perm.map fun(i:Nat)=>rawInt (i:Int)).toArray }).objs.size=s.heap.objs.size+1:=iO ..;refine q _ s.heap.objs.size (perm.map fun j=>(es.getD j (0,.none)).2) _ d (fun b o e=>aK _ (aK _ e)) ⟨⟨o,aK _ (aK _ ho),hd⟩,hf,_,_,cf _ rfl,rfl,rfl,.inr (.inr ⟨_,_,_,rfl,aK _ (cf _ rfl),rfl,?_,fun k v hk=>?_⟩)⟩ (by rw[aW,aS]) ?_ ?_ ?_ ?_ (.inr (az _))
  ·rw[aW,aS]
  ·have iV:(perm.map fun(i:Nat)=>rawInt (i:Int))[k]?= some v:=by rw[<- hk];simp
   rw[f_] at iV;obtain⟨j,hj,rfl⟩:=oK.mp iV;have nU:j<es.size:=h_.mp (hp.mem_iff.mp (cQ hj));refine⟨j,0,rfl,?_,nU⟩;rw[f_,hj,eY nU];simp[Array.getD,nU]
  ·rw[tf];exact bY (Nat.lt_succ_of_lt (aU ho))
  ·rw[tf];exact bY (gP _)
  ·exact(hp.map _).trans (tS (R1 es))
  ·rw[tf];exact ic _
 | false =>
  rw[af (by decide)];refine ae (ai ?_);dsimp only;refine ae (NF ho ?_);unfold newFields;refine ae (iT (ai ⟨_,rfl,"set_iterator",_,⟨_,cf _ rfl,rfl⟩,pw.lookup,?_⟩));have nI:S≠s.heap.objs.size:=bY (aU ho);cases zB:w.params.followText "set-order" with
  | true =>
   have nY:(pickOrder (w.params.setOrder S ep) es).toList.Perm es.toList:=by
    have:=J6 (w.params.setOrder S ep) es.size 0 es.toList #[] (aB)
    simpa[pickOrder] using this
   refine q _ S ((pickOrder (w.params.setOrder S ep) es).toList.map (·.2)) _ s.drawn (fun b o e=>aK _ e) ⟨⟨o,aK _ ho,hd⟩,hf,_,_,cf _ rfl,rfl,rfl,.inl ⟨0,rfl,zB,rfl⟩⟩ (by rw[aW,nY.length_eq,aB]) nI nI (nY.map _) (az _) (.inl rfl)
  | false =>
   rw[zB] at zy;have dh:t.led=true:=by rw[g9];show(!w.params.followText "set-order")=true;rw[zB];rfl
   refine q _ S (es.toList.map (·.2)) _ s.drawn (fun b o e=>aK _ e) ⟨⟨o,aK _ ho,hd⟩,hf,_,_,cf _ rfl,rfl,rfl,.inr (.inl ⟨0,rfl,zB,zy,dh,RL hT.my,hT.my,rfl⟩)⟩ (by rw[aW,aB]) nI nI (jo _) (az _) (.inl rfl)
set_option maxHeartbeats 1000000 in
theorem QV{S:Addr}{oS:Obj}{es:Array (Int×Value)}{ep:Nat}{t:SetTable}{Q:List Value->Shared->Prop}(hh:A.handled=none)(fk:s.heap.get? S=some oS)(Gj:oS.ExactSet)(hd:oS.data=.set es ep t)(hT:Tab es t)(g9:t.led=vb w)(hn:es.size<=900)
  (q:∀(ys:List Value)(h':Heap)(tk:Nat)(d:Drawn),(∀b o,s.heap.get? b=some o->h'.get? b=some o)->ys.Perm (es.toList.map (·.2))->s.heap.objs.size<=h'.objs.size->Q ys { s with heap:=h',toks:=tk,drawn:=d }):wpAny (model prog w) A (collect (.ref S)) Q E s:=by
 unfold collect;refine ae (wpAny_runValue (uc entry_proto_collect' ?_));change wpAny _ _ (do again (.builtin "list.__iadd__" ⟨[<- newList [],.ref S],[]⟩)) _ _ s;refine ae (wpAny_newList (ai ⟨Code.quiet_builtin _ (by decide +kernel),uc entry_list_iadd' ?_⟩));change wpAny _ _ (Builtin.List.listExtendWith (.ref s.heap.objs.size) (.ref S) (.ref s.heap.objs.size)) _ _ { s with heap:=s.heap.push (seqObj "list" #[] 0) };have ZqP:=aU fk;have hL:(s.heap.push (seqObj "list" #[] 0)).get? s.heap.objs.size=some (seqObj "list" #[] 0):=cf _ rfl;have kM:Shared.TypeIs { s with heap:=s.heap.push (seqObj "list" #[] 0) } (.ref S) "set" := ⟨oS,aK _ fk,Gj.1⟩;unfold Builtin.List.listExtendWith;refine ae (qT (T := "set") kM ?_);have G0:s.heap.objs.size≠S:=qR ZqP;have h1:Builtin.List.listSameRef (.ref s.heap.objs.size) (.ref S)=false:=by simp[Builtin.List.listSameRef,G0]
 rw[h1,af (by decide)];refine ae (Ur (s:={ s with heap:=s.heap.push (seqObj "list" #[] 0) }) (aK _ fk) Gj hd hT g9 hn fun I T ys h2 d k2 x hy Ax nTI oa hI sI=>?_);have NV:s.heap.objs.size<I:=by
  refine cR ?_ hI;show s.heap.objs.size<(s.heap.push (seqObj "list" #[] 0)).objs.size;rw[iO];exact gP _
 have p9:=k2 _ _ hL;have nTL:s.heap.objs.size≠T:=by
  rcases sI with rfl|sI
  ·exact G0
  ·refine bY (cR ?_ sI);show s.heap.objs.size<(s.heap.push (seqObj "list" #[] 0)).objs.size;rw[iO];exact gP _
 have NX:s.heap.objs.size ∉ [I,S,T]:=by
  simp only[aH,xg,or_false,not_or];exact⟨bY NV,G0,nTL⟩
 have W:=TN (prog:=prog) (w:=w) (A:=A.in1) (t:=t) (ep:=ep) hh Ax nTI hy;have Zth:∀b o,s.heap.get? b=some o->h2.get? b=some o:=fun b o e=>k2 b o (aK _ e);have kD:∀b o,s.heap.get? b=some o->b≠s.heap.objs.size:=fun b o e=>bY (aU e);have hbI:∀b o,s.heap.get? b=some o->b≠I:=fun b o e=>bY (Nat.lt_trans (aU e) NV);have key:∀(h:Heap)(D4 tk:Nat),lH w h I S T es ep t ys 0->(∀b o,b≠s.heap.objs.size->h2.get? b=some o->h.get? b=some o)->h.get? s.heap.objs.size=some { cls:=.type "list",data:=.seq #[] D4 } ->
   codeAny (model prog w) A (.builtin "list.extend.loop" ⟨[.ref s.heap.objs.size,.ref I,.ref s.heap.objs.size],[]⟩) (wants (fun v s'=>wpAny (model prog w) A (match v with
     | Value.ref a=>do
      let o <- load a
      match o.data with
      | .seq xs _=>pure xs.toList
      | _=>unsupported "internal:collect"
     | _=>unsupported "internal:collect") Q E s') E) { s with heap:=h,drawn:=d,toks:=tk }:=by
  intro h D4 tk di hk p_;refine codeAny_extend_loopS W.toS (by rw[fI];lia) s.heap.objs.size NX _ ys.length 0 _ #[] D4 rfl (bj _) di p_ (ItemsOf.nil _) fun s' oU c' hm jP nG=>?_;rw[Moved.eq_with hm];refine ae (wpAny_load jP ?_);refine ai ?_;have ZqS:oU.toList=ys:=by
   refine List.ext_getElem? fun j=>?_;rw[bE];cases hj:oU[j]? with
   | none =>
    have h3:oU.size<=j:=Array.getElem?_eq_none_iff.mp hj;rw[nG.1] at h3;rw[AX h3]
   | some v=>rw[nG.2 j v hj]
  rw[ZqS];refine q ys s'.heap s'.toks d (fun b o e=>hm.heap b o (fun fZ=>?_) (hk b o (kD b o e) (Zth b o e))) oa (lh (aU jP));rcases aH.mp fZ with z|z
  ·exact kD b o e z
  ·exact hbI b o e (bi.mp z)
 refine ae (iS (Tf ⟨oS,k2 S oS (aK _ fk),Gj.1⟩ ?_));refine wpAny_ite_split (fun _=>?_) (fun _=>ai ⟨plainId_quiet PySem.F.plain_extend_loop _,key h2 0 _ x (fun b o _ e=>e) p9⟩);refine ae (mI (ae ?_));change wpAny _ _ (updateSeq s.heap.objs.size (·.push .none) >>= fun _=>updateSeq s.heap.objs.size (·.pop)) _ _ _;refine ae (wpAny_updateSeq p9 rfl ?_);have p_:=qM (Obj.mapSeq (·.push Value.none)) p9 rfl;refine wpAny_updateSeq (hz:=by seq_fits) p_ rfl ?_;have jP:=qM (Obj.mapSeq (·.pop)) p_ rfl;have AD:∀b o,b≠s.heap.objs.size->h2.get? b=some o->((h2.update s.heap.objs.size (Obj.mapSeq (·.push Value.none))).update s.heap.objs.size (Obj.mapSeq (·.pop))).get? b=some o:=fun b o hb e=>(hX _ _ (fH hb)).trans ((hX _ _ (fH hb)).trans e);exact ai ⟨plainId_quiet PySem.F.plain_extend_loop _,key _ _ _ (W.frame 0 _ _ x fun b hb o e=>AD b o (fun z=>NX (z ▸ hb)) e) AD jP⟩
end
end pe
namespace pe
open PySem PyProof.Rows iY
section
variable{prog:Program}{w:World}{A:Around}{R:Result->Shared->Prop}
structure Goes(prog:Program)(w:World)(A:Around)(S:Addr)(items:Array Value)(J:Nat->Heap->Prop):Prop where
 keep:∀i h h',J i h->(∀b o,b<=S->h.get? b=some o->h'.get? b=some o)->J i h'
 add:∀(i:Nat) v (s:Shared) (Q:Bool->Shared->Prop) (E:Value->Shared->Prop),items[i]?= some v->J i s.heap->(∀b h' tk,Heap.SameBut S s.heap h'->J (i+1) h'->Q b { s with heap:=h',toks:=tk })->wpAny (model prog w) A (setAdd S v) Q E s
theorem Tt{S I l:Addr}{items:Array Value}{J:Nat->Heap->Prop}(hh:A.in1.handled=none)(g:Goes prog w A.in1 S items J)(Fu:S<I)(hlI:l≠I):∀(k i:Nat)(s:Shared),items.size-i=k->i<=items.size->(s.heap.IsListIter I l i/\s.heap.IsList l items)->l<S->J i s.heap ->
   (∀h' tk,J items.size h'->(∀b o,b<S->s.heap.get? b=some o->h'.get? b=some o)->R (.ok (.ret .none)) { s with heap:=h',toks:=tk })->codeAny (model prog w) A (.builtin "set.update.loop" ⟨[.ref S,.ref I],[]⟩) R s:=by
 have W:=Walks.list (prog:=prog) (w:=w) (A:=A.in1) hh I l hlI items;intro k
 induction k with
 | zero =>
  intro i s hk hi di sU hw hR;obtain rfl:i=items.size:=by lia
  refine uc F.entry_set_update_loop ?_;rw[Around.under_plainId F.plain_set_update_loop _];change wpAny _ A.in1 (pyNext (.ref I) >>= _) _ _ s;refine ae (W.done s _ _ di fun h' tk hm=>?_);change wpAny _ A.in1 (ret Value.none) _ _ _;have qh:∀b o,b<=S->s.heap.get? b=some o->h'.get? b=some o:=fun b o hb e=>hm b o (fun z=>gO _ (xl (bi.mp z ▸ hb) Fu)) e;exact ai (hR h' tk (g.keep _ _ _ hw qh) fun b o hb e=>qh b o (lh hb) e)
 | succ k ih =>
  intro i s hk hi di sU hw hR;have aD:i<items.size:=by lia
  refine uc F.entry_set_update_loop ?_;rw[Around.under_plainId F.plain_set_update_loop _];change wpAny _ A.in1 (pyNext (.ref I) >>= _) _ _ s;refine ae (W.item i s _ _ aD di fun v h' tk hP Qa hm=>?_);have qh:∀b o,b<=S->s.heap.get? b=some o->h'.get? b=some o:=fun b o hb e=>hm b o (fun z=>gO _ (xl (bi.mp z ▸ hb) Fu)) e;have ka:=g.keep _ _ _ hw qh;change wpAny _ A.in1 (holding [v] (setAdd S v) >>= _) _ _ _;refine ae (iS (g.add i v { s with heap:=h',toks:=tk } _ _ hP ka fun b1 h2 tk2 sb Ft=>?_));have iI:∀b o,b≠S->h'.get? b=some o->h2.get? b=some o:=fun b o hb e=>(sb.2 b hb).trans e;refine ai ⟨plainId_quiet F.plain_set_update_loop _,ih (i+1) _ (by lia) aD ?_ sU Ft fun h3 wO hw3 hb3=>hR h3 wO hw3 fun b o hb e=>hb3 b o hb (iI b o (bY hb) (qh b o (lh hb) e))⟩;refine W.frame _ h' h2 Qa fun b hb o e=>iI b o (fun z=>?_) e;simp only[aH,xg,or_false] at hb;rcases hb with rfl|rfl
  ·exact gO _ (z ▸ Fu)
  ·exact gO _ (z ▸ sU)
end
section
variable{prog:Program}{w:World}{A:Around}{E:Value->Shared->Prop}{s:Shared}
set_option maxRecDepth 100000 in
set_option maxHeartbeats 3200000 in
theorem Ss{l:Addr}{items:Array Value}{J:Nat->Heap->Prop}{Q:Value->Shared->Prop}(hh:A.handled=none)(hu:A.units+100<cLine)(hl:s.heap.IsList l items)(g:∀B:Around,B.units<cLine->Goes prog w B s.heap.objs.size items J)(j0:∀h:Heap,h.get? s.heap.objs.size=some (iq w)->(∀b o,b<s.heap.objs.size->s.heap.get? b=some o->h.get? b=some o)->J 0 h)
  (q:∀(h':Heap)(tk:Nat),J items.size h'->(∀b o,b<s.heap.objs.size->s.heap.get? b=some o->h'.get? b=some o)->Q (.ref s.heap.objs.size) { s with heap:=h',toks:=tk }) :
  wpAny (model prog w) A (call (.type "set") [.ref l]) Q E s:=by
 obtain⟨c,tl,Ov⟩:=oM.mro;have ZxE:=oM.made;have s_:=oM.sub;refine wpAny_call (codeAny_of_tree ?_);change wpAny _ _ (callAny (.type "set") _) _ _ _;refine ai ⟨Code.quiet_builtin _ (by decide +kernel),uc PySem.F.entry_type_call ?_⟩;rw[Around.under_plain (weight_type_call_type "set" [.ref l] []) rfl];have Zx5:=oM.notType;have canMake:=oM.canCreate;have Zxi:=PySem.F.typeCall_set_1 (.ref l)
 repeat (any_goals (first|assumption|wp_step))
 refine oP (T4 (.ref l) (E:=E) (xG := fun obj ba=>obj=.ref s.heap.objs.size/\ba = { s with heap:=s.heap.push (iq w) }) ⟨rfl,rfl⟩) fun r ba hr=>?_;cases r with
 | error e=>exact hr
 | ok fl =>
  cases fl with
  | ret obj =>
   obtain⟨rfl,rfl⟩:=hr;have hS:(s.heap.push (iq w)).get? s.heap.objs.size=some (iq w):=cf _ rfl;have hT:Shared.TypeIs { s with heap:=s.heap.push (iq w) } (.ref s.heap.objs.size) "set" := ⟨_,hS,rfl⟩;have hli:=oM.init.lookup;have hbi:=oM.init.bind (.ref s.heap.objs.size)
   repeat (any_goals (first|assumption|wp_step))
   refine oP (codeAny_call_builtin (R:=wants (fun r jY=>r=.none/\∃h' tk,jY = { s with heap:=h',toks:=tk }/\J items.size h'/\∀b o,b<s.heap.objs.size->s.heap.get? b=some o->h'.get? b=some o) E) oM.init.plain PySem.F.entry_set_init (check_set_init_1 hT ?_)) fun ZvB jY F'=>?_
   ·obtain⟨ol,qk,bN,nl,N8⟩:=hl;obtain⟨Zx6,ZuZ,Zx7,Zu2⟩:=ol;simp only at bN N8;subst bN;subst N8;have ZrM:(s.heap.push (iq w)).get? l=some { cls:=.type "list",dict:=ZuZ,data:=.seq items nl,slots:=Zu2 }:=aK _ qk;have ZxO:=PySem.F.sub_list_set;have ZxN:=PySem.F.sub_list_frozenset;have bQ:(Value.type "list" == Value.type "dict")=false:=by decide
    have dh:(s.heap.push (iq w)).IsList l items:=⟨_,ZrM,rfl,nl,rfl⟩;unfold Builtin.«set.__init__» noKeywords Builtin.Frozenset.updateFrom;generalize hPI:pyIter=PI
    wp_walk
    subst hPI;refine wpAny_pyIter_list dh (ae (wpAny_runValue ?_));have sU:l<s.heap.objs.size:=aU qk;have hsz:(s.heap.push (iq w)).objs.size=s.heap.objs.size+1:=iO ..;have zm:((s.heap.push (iq w)).push { cls:=.type "list_iterator",data:=.fields #[.ref l,.int 0 0] }).get? s.heap.objs.size=some (iq w):=aK _ hS;have kk:∀b o,b<s.heap.objs.size->s.heap.get? b=some o->((s.heap.push (iq w)).push { cls:=.type "list_iterator",data:=.fields #[.ref l,.int 0 0] }).get? b=some o:=fun b o hb e=>aK _ (aK _ e);refine Tt (J:=J) (by simp[hh]) (g _ (by simp only[Around.in1_units];lia)) (by rw[hsz];exact gP _) (by rw[hsz];exact bY (Nat.lt_succ_of_lt sU)) (items.size-0) 0 _ rfl (bj _)
     ⟨⟨_,cf _ rfl,rfl,rfl⟩,dh.push _⟩ sU (j0 _ zm kk) fun h' tk hw hb=>?_
    change wpAny _ _ _ _ _ _;refine ai ?_;change wpAny _ _ (ret Value.none) _ _ _;exact ai ⟨rfl,h',tk,rfl,hw,fun b o aD e=>hb b o aD (kk b o aD e)⟩
   ·cases ZvB with
    | error e=>exact F'
    | ok ZpS =>
     cases ZpS with
     | ret r =>
      obtain⟨rfl,h',tk,rfl,hw⟩:=F'
      repeat (any_goals (first|assumption|wp_step))
      exact q _ _ hw.1 hw.2
     | _=>exact F'.elim
  | _=>exact hr.elim
end
end pe
namespace bo
theorem gm.strict{α : Type}{lt : α -> α -> Bool}(o:gm lt){l:List α}(h:l.Pairwise (fun a b=>lt b a=false))(hn:l.Nodup):l.Pairwise (fun a b=>lt a b=true):=by
 refine lg.mpr fun i j hi hj eU=>?_;have h1:=(lg.mp h) i j hi hj eU;have h2:=(lg.mp hn) i j hi hj eU;cases e:lt l[i] l[j] with
 | true=>rfl
 | false=>exact absurd (o.wV _ _ e h1) h2
end bo
namespace L2
open PySem PySem.Spec PyProof.Rows PySem.W bo iY pe
theorem KQ:∀{vs:List V}{us:List Value},Vals vs us->∀(i:Nat) u,us[i]?= some u->∃v,vs[i]?= some v/\RelV v u
 | _,_,.cons r t,i,u,h=>by
  cases i with
  | zero =>
   injection h with h;subst h;exact⟨_,rfl,r⟩
  | succ i=>exact KQ t i u h
end L2
namespace L2
open PySem PySem.Spec PyProof.Rows PySem.W bo
section
variable{X:Cx}
theorem Ti{prog:Program}{w:World}{A:Around}{s:Shared}{l:Addr}{vs:List Value}(hl:s.heap.IsList l vs.toArray)(hn:vs.length<=90000){Q':List Value->Shared->Prop}{E':Value->Shared->Prop}
  (hq:∀(ys:List Value)(h':Heap)(tk:Nat)(d:Drawn),(∀b o,s.heap.get? b=some o->h'.get? b=some o)->ys=vs->ys.length<=90000->s.heap.objs.size<=h'.objs.size->Q' ys { s with heap:=h',toks:=tk,drawn:=d }):wpAny (model prog w) A (collect (.ref l)) Q' E' s:=by
 refine collect_list hl ?_ (by rw[fI];lia);refine hq _ _ s.toks s.drawn (fun b o e=>?_) rfl hn ?_
 ·rw[hX _ _ (qR (aU e))];exact aK _ e
 ·rw[Heap.size_update,iO];exact ic _
end
end L2
namespace Fg
open PySem L2 jt
theorem Uw{X:Cx}{K:PySem.W.Frag}{es:List Expr}{k:Nat}{t:mR}{n:Nat}{pos:Pos}(hK:X.K=K)(hc:X.calm=true)(h:uw X es t)(hn:(assignEach es X.env).length=n:=by rfl)(di:(assignEach es X.env).findIdx? (·.1)=none:=by rfl):PG X (.Tuple es k pos) (MQ K n t):=by
 subst hK;exact uY hc h hn di
theorem SF:bootBuiltins "sorted" = some (.builtin "sorted"):=by decide +kernel
theorem uE{α : Type}{l:List α}{i:Nat}{x : α}(h:l[i]?= some x):l.take (i+1)=l.take i ++ [x]:=by
 rw[List.take_add_one,h];rfl
end Fg
namespace L2
open PySem PySem.Spec PyProof.Rows PySem.W bo
def KL(H:Hp)(ys:List V)(ks:List (List Key)):Prop:=Paired (fun z k=>∃b,z=V.ref b/\H b=some (.tup (k.map kV))) ys ks
theorem Ul{H:Hp}{aj:List (List Key×V)}{xs:List (List Key×Addr×Value)}(h:Paired (fun(p:List Key×V)(q:List Key×Addr×Value)=>p.1=q.1/\H q.2.1=some (.tup (p.1.map kV))/\RelV p.2 q.2.2) aj xs):∃ys,Vals ys (xs.map fun x=>Value.ref x.2.1)/\KL H ys (aj.map (·.1)):=by
 induction h with
 | nil=>exact⟨[],.nil,.nil⟩
 | @cons p q l m r t ih =>
  obtain⟨ys,h1,h2⟩:=ih;exact⟨.ref q.2.1::ys,.cons rfl h1,.cons ⟨q.2.1,rfl,r.2.1⟩ h2⟩
section
variable{X:Cx}
theorem Ru{es:Array DictEntry}{acc:Array Value}(hit:ItemsOf (fun i v=>∃e,es[i]?= some e/\v=e.key) acc es.size):acc.toList=es.toList.map (·.key):=by
 refine List.ext_getElem? fun j=>?_;rw[bE,f_,bE];cases hj:acc[j]? with
 | none =>
  have h3:acc.size<=j:=Array.getElem?_eq_none_iff.mp hj;rw[hit.1] at h3;rw[tN h3];rfl
 | some v =>
  obtain⟨e,h1,rfl⟩:=hit.2 j v hj;rw[h1];rfl
theorem QK(hc:X.calm=true):fP X (.type "list") (fun xs H Q=>∃(d:Addr)(aj:List (List Key×V)),xs=[.ref d]/\H d=some (.dT aj)/\∀l ys,H l=none->KL H ys (aj.map (·.1))->Q (.ref l) (upd H l (.lst ys))):=by
 intro pins s σ H xs us Q I r h;obtain⟨d,aj,rfl,hd,q⟩:=h;obtain⟨u,rfl,rx⟩:=vals1 r;obtain rfl:u=.ref d:=rx;obtain⟨hl,lo,xs,rel,o,es,ep,ho,hx,zx,nK,zO⟩:=(show bM X.prog X.w H s.heap d (.dT aj) from I.aq d _ hd);obtain⟨ys,rv,kl⟩:=Ul rel;have hek:es.toList.map (·.key)=xs.map fun x=>Value.ref x.2.1:=by
  rw[nK,xf];rfl
 have tx:aj.length=xs.length:=rel.length;have hel:es.size=xs.length:=by rw[<- aB,nK,aW]
 have kP:=rv.length;rw[aW] at kP;refine kdl_call (UP lo) (I.ok.hd hc) (⟨o,ho,hx,zx⟩:jH s.heap d es ep) (by rw[hel,<- tx];exact hl) fun h' tk acc c k e hit=>?_;have nG:=Ru hit;have I2:=I.laid (h':=h') (t':=tk) (a:=s.heap.objs.size) (o:=.lst ys) k (az _) (show bM X.prog X.w _ h' _ (.lst ys) from⟨by rw[kP,<- tx];exact hl,acc.toList,c,by rw[nG,hek];exact rv,e⟩);exact⟨.ref s.heap.objs.size,_,I2,rfl,q _ _ (I.aq.fresh (az _)) kl⟩
end
end L2
namespace L2
open PySem PySem.Spec PyProof.Rows
section
variable{X:Cx}{C:Addr}{m x:Str}{ps:List Str}{j k:Nat}{sp:Sp}{o e:Expr}{es:List Expr}{ta:TE}{t:TA}{p pos apos:Pos}
theorem U0(G:Bj X.prog X.w X.K X.mg X.base C x ps j sp)(hr:ck k X.A)(hg:Gl X x)(ha:PA X (e::es) t)(hk:j+1<=k:=by decide)(gC:(x == ("__debug__" : Str))=false:=by decide)
  (he:starEach (e::es) X.env=(false,eval e X.env)::starEach es X.env:=by rfl) (aS:(backTo pos (starEach es X.env)).any (·.1)=false:=by rfl):PE X (.Call (.Name x p) (e::es) [] pos) (Ml C sp [] E0 t):=by
 obtain⟨f,fd,F,b,M,hm⟩:=G.ex;exact UW M F (hr.mono hk) hg hm b .nil yM ha gC he aS
end
theorem TY{X:Cx}:bC X (compareOp .IsNot) (fun x y H Q=>∃a b,x=.bl a/\y=.bl b/\Q (.bl (!decide (a=b))) H):=by
 intro pins s σ H x y v u Q I rx ry h;obtain⟨a,b,rfl,rfl,q⟩:=h;cases rx;cases ry;cases a <;> cases b <;> exact ai (Z5 I q rfl)
end L2
namespace Fg
open PySem L2 jt
theorem via{u t:TS}{D:Ends}{σ : St}{H:Hp}(R:St->Hp->Prop)(h2:∀ ao H',R ao H'->t D ao H')(h1:(∀ ao H',R ao H'->t D ao H')->u D σ H):u D σ H:=h1 h2
theorem making{H:Hp}{x dx C:Addr}(hx:H x=none)(FE:H dx=none)(bQ:dx≠x):ZD H (upd (upd H dx (.own x)) x (.ins C dx [])):=(ZD.new FE).trans (ZD.new (by
 rw[Zi bQ.symm];exact hx))
theorem Ro{t:Str}(h:jI t):PyData.strOk t=true:=by
 unfold PyData.strOk;rw[Array.all_eq_true'];intro c hc;have:=h c (Array.mem_toList_iff.mpr hc);exact aR (by lia)
end Fg
namespace bo
open PySem PyProof.Rows ux PySem.W
abbrev Ps:=Int×Str
def cU:Ps->Ps->Bool:=vf (fun a b:Int=>decide (a<b)) fun a b:Str=>decide (a.cps.toList<b.cps.toList)
theorem mZ:gm cU:=Uh.lex UU
def gr(h:Heap)(v:Value)(q:Ps):Prop := ∃a o t u n,v=.ref a/\h.get? a=some o/\o.cls=.type "tuple" /\ o.data=.seq #[.int q.1 t,.str q.2 u] n
theorem gr.inj{h:Heap}{v:Value}{q q':Ps}(x:gr h v q)(y:gr h v q'):q=q':=by
 obtain⟨a,o,t,u,n,rfl,h1,_,h3⟩:=x;obtain⟨a',o',t',u',n',e,ug,_,oZ⟩:=y;cases e;rw[h1] at ug;cases ug;rw[h3] at oZ;obtain⟨q1,q2⟩:=q;obtain⟨r1,r2⟩:=q';simp only[Data.seq.injEq,Array.mk.injEq,List.cons.injEq,Value.int.injEq,Value.str.injEq,and_true] at oZ;obtain⟨⟨⟨e1,_⟩,⟨e2,_⟩⟩,_⟩:=oZ;rw[e1,e2]
theorem gr.keep{h h':Heap}{v:Value}{q:Ps}(x:gr h v q)(k:∀b o,h.get? b=some o->h'.get? b=some o):gr h' v q:=by
 obtain⟨a,o,t,u,n,rfl,h1,r⟩:=x;exact⟨a,o,t,u,n,rfl,k _ _ h1,r⟩
open Classical in
noncomputable def dM(h:Heap)(v:Value):Ps:=if x:∃q,gr h v q then x.choose else(0,Str.empty)
theorem uX{h:Heap}{v:Value}{q:Ps}(x:gr h v q):dM h v=q:=by
 unfold dM;rw[dif_pos ⟨q,x⟩];exact(Exists.choose_spec (⟨q,x⟩:∃q,gr h v q)).inj x
section
variable{prog:Program}{w:World}{A:Around}{s:Shared}
theorem KO{h:Heap}:∀{vs:List Value},(∀v∈vs,∃q,gr h v q)->∃fs,KatTups h vs fs/\fs.length=vs.length/\∀f∈fs,∃i t,f=.int i t
 | [],_=>⟨[],trivial,rfl,fun _ h=>nomatch h⟩
 | v::vs,hv=>by
  obtain⟨q,a,o,t,u,n,rfl,ho,hc,hd⟩:=hv v (bb ..);obtain⟨fs,kt,hl,hf⟩:=KO (vs:=vs) fun x hx=>hv x (aX _ hx);refine⟨.int q.1 t::fs,KatTups.cons ho hc hd rfl kt,by simp[hl],fun f hm=>?_⟩;rcases aH.mp hm with rfl|hm
  ·exact⟨_,t,rfl⟩
  ·exact hf f hm
theorem Jb{h0:Heap}{vs:List Value}(hv:∀v∈vs,∃q,gr h0 v q)(k0:∀b o,h0.get? b=some o->s.heap.get? b=some o)(h2:2<=vs.length):BN prog w A (fun u v=>cU (dM h0 u) (dM h0 v)) vs s:=by
 have uj:∀v∈vs,∃q,gr s.heap v q:=fun v hm=>let ⟨q,x⟩:=hv v hm;⟨q,x.keep k0⟩;obtain⟨fs,k,hl,hf⟩:=KO uj;refine⟨tuples' true,fun Q E hq=>?_,?_⟩
 ·refine kat_kind (T:=.type "int") k (by lia) (fun v hm=>?_) rfl hq;obtain⟨i,t,rfl⟩:=hf v hm;exact Looks.of_pure rfl
 ·intro x y hx hy E;rw[pairsOf_toList] at hx hy;obtain⟨q,xq⟩:=hv _ (mem_zip_self hx).2;obtain⟨q',yq⟩:=hv _ (mem_zip_self hy).2;have e1:(fun x y:Keyed=>cU (dM h0 x.1) (dM h0 y.1)) x y=cU q q':=by
   show cU (dM h0 x.1) (dM h0 y.1)=_;have kN:=(mem_zip_self hx);have Gk:=(mem_zip_self hy);rw[uX xq,uX yq]
  rw[e1];obtain⟨a,o,t,u,n,e,ho,hc,hd⟩:=xq.keep k0;obtain⟨a',o',t',u',n',e',cp,qU,gh⟩:=yq.keep k0;rw[e,e'];obtain⟨q1,q2⟩:=q;obtain⟨r1,r2⟩:=q';refine kat_lt ho hd cp gh ?_;have Hr:cU (q1,q2) (r1,r2)=(decide (q1<r1) || (decide (q1=r1)&&decide (q2.cps.toList<r2.cps.toList))):=rfl;rw[Hr];refine kat_cons (wpAny_eqBool_int (kat_go (fun c1=>kat_yes ?_) (fun c1=>kat_no ?_)))
  ·have oV:q1=r1:=eq_of_beq c1;refine kat_cons (wpAny_eqBool_str (kat_go (fun c4=>kat_yes (kat_nil ⟨rfl,?_⟩)) (fun c4=>kat_no ?_)))
   ·have P4:q2=r2:=eq_of_beq c4;subst oV P4;simp[xK]
   ·refine kat_one _ _ (PyProof.Rows.lt_str ⟨rfl,?_⟩);subst oV;simp
  ·refine oneLt_int ⟨rfl,?_⟩;have oV : ¬ q1=r1:=fun z=>by rw[z] at c1;simp at c1
   simp[oV]
end
end bo
namespace L2
open PySem PySem.Spec PyProof.Rows PySem.W bo
def wU(q:Ps):HO:=.tup [.int q.1,.str q.2]
def bS(q:Ps):List Key:=[Sum.inl q.1,Sum.inr q.2]
def cE(H:Hp)(zs:List V)(qs:List Ps):Prop:=Paired (fun z q=>∃p,z=V.ref p/\H p=some (wU q)) zs qs
theorem cE.mem{H:Hp}:∀{zs:List V}{qs:List Ps},cE H zs qs->∀z∈zs,∃p,∃q∈qs,z=V.ref p/\H p=some (wU q)
 | _,_,.cons ⟨p,e1,e2⟩ t,z,hz=>by
  rcases aH.mp hz with rfl|hz
  ·exact⟨p,_,bb ..,e1,e2⟩
  ·obtain⟨p,q,hq,r⟩:=cE.mem t z hz;exact⟨p,q,aX _ hq,r⟩
theorem cE.length{H:Hp}:∀{zs:List V}{qs:List Ps},cE H zs qs->zs.length=qs.length
 | _,_,.nil=>rfl
 | _,_,.cons _ t=>by rw[aO,aO,cE.length t]
theorem cE.get{H:Hp}:∀{zs:List V}{qs:List Ps},cE H zs qs->∀(i:Nat) z,zs[i]?= some z->∃p q,qs[i]?= some q/\z=V.ref p/\H p=some (wU q)
 | _,_,.cons ⟨p,e1,e2⟩ t,i,z,hz=>by
  cases i with
  | zero =>
   injection hz with hz;subst hz;exact⟨p,_,rfl,e1,e2⟩
  | succ i=>exact cE.get t i z hz
theorem cE.keep{H H':Hp}:∀{zs:List V}{qs:List Ps},cE H zs qs->(∀b xs,H b=some (.tup xs)->H' b=some (.tup xs))->cE H' zs qs
 | _,_,.nil,_=>.nil
 | _,_,.cons ⟨p,e1,e2⟩ t,k=>.cons ⟨p,e1,k _ _ e2⟩ (cE.keep t k)
theorem cE.snoc{H:Hp}{q:Ps}{p:Addr}(e:H p=some (wU q)):∀{zs:List V}{qs:List Ps},cE H zs qs->cE H (zs ++ [.ref p]) (qs ++ [q])
 | _,_,.nil=>.cons ⟨p,rfl,e⟩ .nil
 | _,_,.cons r t=>.cons r (cE.snoc e t)
theorem yd{P:Program}{w:World}{H:Hp}{h:Heap}{t:Addr}{q:Ps}(ok:bF P w H h)(e:H t=some (wU q)):gr h (.ref t) q:=by
 obtain⟨_,us,wK,o,ho,qU,n,hd⟩:=ok t _ e;obtain⟨u1,us,rfl,r1,wK⟩:=Vals.inv wK;obtain⟨u2,us,rfl,r2,wK⟩:=Vals.inv wK;obtain rfl:=Vals.end_ wK;obtain⟨t1,rfl⟩:=r1;obtain⟨t2,rfl⟩:=r2;exact⟨t,o,t1,t2,n,rfl,ho,qU,hd⟩
theorem B1{P:Program}{w:World}{H:Hp}{h0:Heap}(ok:bF P w H h0){ys:List V}{its:List Value}{qs:List Ps}(rv:Vals ys its)(ql:cE H ys qs):∀us:List Value,(∀u∈us,u∈its)->∃zs,Vals zs us/\cE H zs (us.map (dM h0))
 | [],_=>⟨[],.nil,.nil⟩
 | u::us,h=>by
  obtain⟨y,hy,ry⟩:=BX rv u (h u (bb ..));obtain⟨zs,rz,hz⟩:=B1 ok rv ql us fun x hx=>h x (aX _ hx);obtain⟨t,q,_,rfl,e2⟩:=ql.mem y hy;have hu:u=Value.ref t:=ry;subst hu;exact⟨_,.cons ry rz,.cons ⟨t,rfl,by rw[uX (yd ok e2)];exact e2⟩ hz⟩
theorem Lw{P:Program}{w:World}{H:Hp}{h0:Heap}(ok:bF P w H h0):∀{ys:List V}{its:List Value}{qs:List Ps},Vals ys its->cE H ys qs->its.map (dM h0)=qs
 | _,_,_,.nil,.nil=>rfl
 | _,_,_,.cons (b:=u) r rr,.cons ⟨p,e1,e2⟩ t=>by
  subst e1;have hu:u=Value.ref p:=r;subst hu;rw[bt,Lw ok rr t,uX (yd ok e2)]
end L2
namespace Fg
open PySem L2 jt
inductive Pa where
 | nil
 | kids (m:Int) (o:Pa)
 | tag (t:Str) (w o:Pa)
inductive br(H:Hp):List V->Pa->Prop
 | nil:br H [] .nil
 | kids {a:Addr} {m:Int} {vs:List V} {o:Pa}:H a=some (.tup [.str "kids",.int m])->br H vs o->br H (.ref a::vs) (.kids m o)
 | tag {a q:Addr} {t:Str} {ys vs:List V} {w o:Pa}:H a=some (.tup [.str "tag",.str t,.ref q])->H q=some (.tup ys)->br H ys w->br H vs o->br H (.ref a::vs) (.tag t w o)
theorem br.mono{H H':Hp}(k:TK H H'):∀{vs:List V}{g:Pa},br H vs g->br H' vs g
 | _,_,.nil=>.nil
 | _,_,.kids h1 h2=>.kids (k _ _ h1) (h2.mono k)
 | _,_,.tag h1 h2 h3 h4=>.tag (k _ _ h1) (k _ _ h2) (h3.mono k) (h4.mono k)
namespace Pa
def app:Pa->Pa->Pa
 | .nil,q=>q
 | .kids m o,q=>.kids m (app o q)
 | .tag t w o,q=>.tag t w (app o q)
def sz:Pa->Nat
 | .nil=>0
 | .kids _ o=>1+sz o
 | .tag _ w o=>1+sz w+sz o
def dep:Pa->Nat
 | .nil=>0
 | .kids _ o=>dep o
 | .tag _ w o=>max (dep w+1) (dep o)
theorem uU:∀p:Pa,dep p<=sz p
 | .nil=>az _
 | .kids m o=>by have:=uU o;simp only[dep,sz];lia
 | .tag t w o=>by have:=uU w;have:=uU o;simp only[dep,sz];lia
theorem yg:∀p:Pa,app p .nil=p
 | .nil=>rfl
 | .kids m o=>by simp[app,yg o]
 | .tag t w o=>by simp[app,yg o]
theorem iw:∀p q:Pa,sz (app p q)=sz p+sz q
 | .nil,q=>by simp[app,sz]
 | .kids m o,q=>by simp only[app,sz,iw o q];lia
 | .tag t w o,q=>by simp only[app,sz,iw o q];lia
def take:Nat->Pa->Pa
 | 0,_=>.nil
 | _+1,.nil=>.nil
 | i+1,.kids m o=>.kids m (take i o)
 | i+1,.tag t w o=>.tag t w (take i o)
end Pa
theorem br.app{H:Hp}:∀{xs ys:List V}{p q:Pa},br H xs p->br H ys q->br H (xs++ys) (p.app q)
 | _,_,_,_,.nil,h=>h
 | _,_,_,_,.kids h1 h2,h=>.kids h1 (h2.app h)
 | _,_,_,_,.tag h1 h2 h3 h4,h=>.tag h1 h2 h3 (h4.app h)
theorem br.length{H:Hp}:∀{xs:List V}{p:Pa},br H xs p->xs.length<=p.sz
 | _,_,.nil=>az _
 | _,_,.kids _ h=>by have:=h.length;simp only[Pa.sz,aO];lia
 | _,_,.tag _ _ _ h=>by have:=h.length;simp only[Pa.sz,aO];lia
theorem br.at{H:Hp}:∀{xs:List V}{p:Pa},br H xs p->∀(i:Nat) z,xs[i]?= some z->∃a,z=V.ref a/\((∃m,H a=some (.tup [.str "kids",.int m])/\p.take (i+1)=(p.take i).app (Pa.kids m Pa.nil))\/∃t q ys w,H a=some (.tup [.str "tag",.str t,.ref q])/\H q=some (.tup ys)/\br H ys w/\p.take (i+1)=(p.take i).app (Pa.tag t w Pa.nil)/\w.dep<p.dep/\w.sz<p.sz)
 | _,_,.kids h1 h2,i,z,hz=>by
  cases i with
  | zero =>
   injection hz with hz;subst hz;exact⟨_,rfl,.inl ⟨_,h1,rfl⟩⟩
  | succ i =>
   obtain⟨a,e,h⟩:=h2.at i z hz;refine⟨a,e,?_⟩;rcases h with⟨m,g1,g2⟩|⟨t,q,ys,w,g1,g2,g3,g4,g5,g6⟩
   ·exact .inl ⟨m,g1,by show Pa.kids _ (Pa.take (i+1) _)=Pa.kids _ ((Pa.take i _).app _);rw[g2]⟩
   ·exact .inr ⟨t,q,ys,w,g1,g2,g3,by show Pa.kids _ (Pa.take (i+1) _)=Pa.kids _ ((Pa.take i _).app _);rw[g4],g5,by simp only[Pa.sz];lia⟩
 | _,_,.tag h1 h2 h3 h4,i,z,hz=>by
  cases i with
  | zero =>
   injection hz with hz;subst hz;exact⟨_,rfl,.inr ⟨_,_,_,_,h1,h2,h3,rfl,by simp only[Pa.dep];lia,by simp only[Pa.sz];lia⟩⟩
  | succ i =>
   obtain⟨a,e,h⟩:=h4.at i z hz;refine⟨a,e,?_⟩;rcases h with⟨m,g1,g2⟩|⟨t,q,ys,w,g1,g2,g3,g4,g5,g6⟩
   ·exact .inl ⟨m,g1,by show Pa.tag _ _ (Pa.take (i+1) _)=Pa.tag _ _ ((Pa.take i _).app _);rw[g2]⟩
   ·exact .inr ⟨t,q,ys,w,g1,g2,g3,by show Pa.tag _ _ (Pa.take (i+1) _)=Pa.tag _ _ ((Pa.take i _).app _);rw[g4],by simp only[Pa.dep];lia,by simp only[Pa.sz];lia⟩
theorem br.take_all{H:Hp}:∀{xs:List V}{p:Pa},br H xs p->p.take xs.length=p
 | _,_,.nil=>rfl
 | _,_,.kids _ h=>by show Pa.kids _ (Pa.take _ _)=_;rw[h.take_all]
 | _,_,.tag _ _ _ h=>by show Pa.tag _ _ (Pa.take _ _)=_;rw[h.take_all]
theorem JM{z:Str}(h:pR z)(h8:z.length<=8):gv z=true:=by
 have h1:1<=z.length:=by
  have:0<z.cps.toList.length:=List.length_pos_iff.mpr h.1;rw[aB] at this;exact this
 unfold gv;rw[aR h1,aR h8,wZ,wZ,e_];intro c hc;have:=h.2 c hc;unfold dv;simp;lia
end Fg
namespace L2
open PySem PySem.Spec PyProof.Rows
def WJ(tv:TE):TE:=fun σ H Q=>tv σ H fun v H1=>∃z,v=.str z/\(reprText z).length<=sizeLine/\Q (.str (reprText z)) H1
section
variable{X:Cx}{e:Expr}{te:TE}{pos:Pos}
theorem Cu(he:PE X e te):PE X (.FormattedValue e 114 none pos) (WJ te):=by
 intro pins s σ H Q I h;refine wpAny_FormattedValue_repr (aw (he pins s σ H _ I h) fun u s1 ⟨v,H1,I1,r,z,ev,hz,q⟩=>?_);subst ev;obtain⟨tk,rfl⟩:=r;refine pyReprObj_str ?_ hz;exact formatField_str (fun t' tk=>⟨.str (reprText z),H1,(I1.tok _).tok _,⟨_,rfl⟩,q⟩) hz
end
end L2
namespace L2
open PySem PySem.Spec PyProof.Rows PySem.W
section
open bo
variable{X:Cx}
theorem QG(hc:X.calm=true):fP X (.builtin "sorted") (fun xs H Q=>∃(l:Addr)(ys:List V)(ps:List Ps),xs=[.ref l]/\ak X.K H l ys/\ys.length<=90000/\cE H ys ps/\∀(r:Addr)(zs:List V)(ms:List Ps),H r=none->ms.Perm ps->ms.Pairwise (fun a b=>cU b a=false)->cE H zs ms->Q (.ref r) (upd H r (.lst zs))):=by
 intro pins s σ H xs us Q I r h;obtain⟨l,ys,ps,rfl,hq,hlen,aS,q⟩:=h;obtain⟨u,rfl,ru⟩:=vals1 r;obtain rfl:u=.ref l:=ru;obtain⟨its,rv,pl,hz⟩:=I.list hq;have hl:=rv.length;refine Jt (lv:=fun u v=>cU (dM s.heap u) (dM s.heap v)) (C:=fun ys=>ys=its) (mZ.PF (dM s.heap)) (fun Q' E' lD=>?_) (fun lF h6 tk6 d6 hC k6 Fn=>?_) fun pa lF out h3 wO d3 c hC jV qu k3 e3 hle mj=>?_
 ·exact Ti pl.isList (by lia) lD
 ·subst hC;refine Jb (h0:=s.heap) (fun v hv=>?_) k6 Fn;obtain⟨y,hy,ry⟩:=BX rv v hv;obtain⟨t,q1,_,rfl,e2⟩:=aS.mem y hy;obtain rfl:v=Value.ref t:=ry;exact⟨q1,yd I.aq e2⟩
 ·subst hC;obtain⟨zs,rz,Gr⟩:=B1 I.aq rv aS out.toList fun u hu=>jV.mem_iff.mp hu;have iL:zs.length=out.size:=rz.length.trans (aB ..);have I2:=I.laid (h':=h3) (t':=wO) (a:=pa) (o:=.lst zs) (fun b o e=>k3 b o e) hle (show bM X.prog X.w _ h3 _ (.lst zs) from⟨by rw[fI];lia,out.toList,c,rz,e3⟩);refine⟨.ref pa,_,I2.draws (d:=d3),rfl,q pa zs _ (I.aq.fresh hle) ?_ (A3.mpr qu) Gr⟩;rw[<- Lw I.aq rv aS];exact jV.map _
end
theorem QS{a b c:Int}(ha : -1000000<=a)(ha':a<=1000000)(hb : -1000000<=b)(gg:b<=1000000)(hc:0<c)(qU:c<=1000):Builtin.Range.small a b c=true:=by
 unfold Builtin.Range.small Builtin.Range.rangeSize;simp only[Builtin.Range.rangeFitsLong,cP,qL,cC,j9];simp only[show c > 0 from hc,gR];have h1:a<b->0<=(b-a-1) / c:=fun z=>Int.ediv_nonneg (by lia) (by lia);have h2:a<b->(b-a-1) / c<=b-a-1:=fun z=>Int.ediv_le_self _ (by lia)
 split <;> refine⟨⟨⟨⟨⟨?_,?_⟩,?_,?_⟩,by lia,by lia⟩,?_,?_⟩,?_⟩ <;> first|lia|(right;simp;lia)|(left;rfl)
def Wi(ta:TA):TI:=fun σ H R=>ta σ H fun vs H1=>∃a b c:Int,vs=[.int a,.int b,.int c]/\(-1000000<=a/\a<=1000000 /\ -1000000<=b/\b<=1000000)/\(0<c/\c<=1000)/\R (ve a c (Builtin.Range.rangeSize a b c).toNat) H1
section
variable{X:Cx}{tg:Expr}
theorem Sn{a b c:Expr}{ta:TA}{p pos:Pos}(hg:Gl X "range") (hm:X.mg "range" = none) (ha:PA X [a,b,c] ta) (hs:starEach [a,b,c] X.env=[(false,eval a X.env),(false,eval b X.env),(false,eval c X.env)]:=by rfl)
  (sZ:starEach [b,c] X.env=[(false,eval b X.env),(false,eval c X.env)]:=by rfl) (zX:starEach [c] X.env=[(false,eval c X.env)]:=by rfl):PI X tg (.Call (.Name "range" p) [a,b,c] [] pos) (Wi ta):=by
 intro pins s σ H R I h;refine Call_ (lR I hg hm boot_range (t6 (aw (ha pos pins s σ H _ I h) fun us s1 ⟨vs,H1,I1,r1,q1⟩=>?_) (by rw[hs,sZ]) (by rw[sZ];rfl)));obtain⟨x,y,z,e,⟨q1,q2,q3,q4⟩,⟨hz,d7⟩,q⟩:=q1;subst e;have kQ:z≠0:=by lia
 have f':z.natAbs<1073741824:=by lia
 cases r1 with
 | cons r rr =>
  cases rr with
  | cons r2 rr =>
   cases rr with
   | cons r3 rr =>
    cases rr;obtain⟨t,rfl⟩:=r;obtain⟨t2,rfl⟩:=r2;obtain⟨t3,rfl⟩:=r3;refine call_range_3 kQ ?_ (.inl (PyProof.noPylong_small f'));refine wpAny_pyIter_range (IsRange.new ..) (QS q1 q2 q3 q4 hz d7) ?_;have I2:Inv X pins σ H1 { s1 with heap:=s1.heap.push { cls:=.type "range",data:=.fields #[.int x t,.int y t2,.int z t3] } }:=I1.kept (t':=s1.toks) fun b o e=>aK _ e;refine⟨_,[_],_,_,H1,rfl,I2.kept (t':=s1.toks) fun b o e=>aK _ e,RI _ x z (Builtin.Range.rangeSize x y z).toNat,?_,fun b hb=>?_,q⟩
    ·have hn:0<=Builtin.Range.rangeSize x y z:=by
      unfold Builtin.Range.rangeSize;rw[ah hz]
      split
      ·have:=Int.ediv_nonneg (a:=y-x-1) (b:=z) (by lia) (by lia);lia
      ·lia
     show IsRangeIter _ _ (x+((0:Nat):Int)*z) (((Builtin.Range.rangeSize x y z).toNat:Int)-((0:Nat):Int)) z;rw[Int.toNat_of_nonneg hn,show x+((0:Nat):Int)*z=x by simp,show Builtin.Range.rangeSize x y z-((0:Nat):Int)=Builtin.Range.rangeSize x y z by simp];exact cf _ rfl
    ·obtain rfl:=bi.mp hb;exact I2.ny (az _) (I2.aq.fresh (az _))
end
end L2
namespace L2
open PySem PySem.Spec PyProof.Rows
@[irreducible] def xF(X:Cx)(st:Stmt)(t:TS):Prop:=PS X st t
@[irreducible] def ky(X:Cx)(ss:List Stmt)(t:TS):Prop:=cK X ss t
section
variable{X:Cx}
theorem To{st:Stmt}{t:TS}(h:xF X st t):ky X [st] t:=by
 unfold xF at h;unfold ky;exact Zf h
theorem VR{b:List Stmt}{D:Ends}{σ : St}{H:Hp}(s:List Stmt){t:TS}(h:ky X s t)(k:∀u,ky X s u->u=t->∃t,cK X b t/\t D σ H):∃t,cK X b t/\t D σ H:=k t h rfl
theorem WE{b:List Stmt}{D:Ends}{σ : St}{H:Hp}{u:TS}(h:ky X b u)(q:u D σ H):∃t,cK X b t/\t D σ H:=⟨u,by unfold ky at h;exact h,q⟩
theorem Vl{r:R2}{a b:Expr}{ta tb:TE}{pos:Pos}(hr:qX X r)(ha:fJ X a ta)(hb:PE X b tb)(hs:K4 b):fJ X (.Subscript a b pos) (wN r ta tb):=.of (bp hr ha.to hb hs)
theorem ir{st:Stmt}{ss:List Stmt}{t u:TS}(h:PS X st t)(k:ky X ss u):cK X (st::ss) (MC t u):=by
 unfold ky at k;exact Ze h k
end
theorem RQ(T p:Str)(n:Nat)(hn:n<=T.length):(decide (fromIndex T.length (n:Int)+p.length<=T.length)&&Builtin.Str.subAt T p (fromIndex T.length (n:Int)))=decide (p.cps.toList <+: T.cps.toList.drop n):=by
 have e:fromIndex T.length (n:Int)=n:=by
  unfold fromIndex;rw[af (by lia)];lia
 rw[e,StrLaws.subAt_eq,jm,cP,cC,cC,j9,List.prefix_iff_eq_take];have hp:p.cps.toList.length=p.length:=aB ..;have hT:T.cps.toList.length=T.length:=aB ..;rw[hp];constructor
 ·rintro⟨_,h⟩;exact h.symm
 ·intro h;refine⟨?_,h.symm⟩;have:=congrArg List.length h;rw[hp,dN,dF,hT] at this;lia
section
variable{X:Cx}
theorem Sq:qY X "str.startswith" (fun x vs H Q=>∃(T p:Str)(n:Nat),x=.str T/\vs=[.str p,.int (n:Int)]/\n<=T.length/\Q (.bl (decide (p.cps.toList <+: T.cps.toList.drop n))) H):=by
 intro pins s σ H x vs v us Q I rx rv h;obtain⟨T,p,n,rfl,rfl,hn,q⟩:=h;obtain⟨t,rfl⟩:=rx;obtain⟨u1,u2,rfl,⟨t1,rfl⟩,⟨t2,rfl⟩⟩:=vals2 rv;have g:=gives_str_startswith_from T p (n:Int) t t1 t2;have e:=RQ T p n hn;have e':((fromIndex T.length (n:Int)+p.length<=T.length:Bool)&&Builtin.Str.subAt T p (fromIndex T.length (n:Int)))=decide (p.cps.toList <+: T.cps.toList.drop n):=e;rw[e'] at g;exact call_gives PySem.F.slot_str_startswith (oQ _ _ _) PySem.F.entry_str_startswith (PySem.F.args_str_startswith_3 _ _ _) g ⟨.bl _,H,I,rfl,q⟩
theorem xR:bC X (compareOp .LtE) (fun x y H Q=>∃i j:Str,x=.str i/\y=.str j/\Q (.bl (!decide (j.cps.toList<i.cps.toList))) H):=by
 intro pins s σ H x y v u Q I rx ry h;obtain⟨i,j,rfl,rfl,q⟩:=h;obtain⟨t,rfl⟩:=rx;obtain⟨t',rfl⟩:=ry;exact CU ⟨.bl _,H,I,rfl,q⟩
theorem si(a b:Nat):(!decide (([b]:List Nat) < [a]))=decide (a<=b):=by
 by_cases h:a<=b
 ·rw[aR h,a_ (by simp[w8];lia)];rfl
 ·rw[a_ h,aR (by simp[w8];lia)];rfl
end
section
variable{X:Cx}{e:Expr}{es:List Expr}{te:TE}{ta:TA}{pos:Pos}
theorem Uj(he:fJ X e te):xF X (.Return (some e) pos) (C6 te):=by
 unfold xF;exact Zz he.to
end
section
variable{X:Cx}
theorem ix{b:List Stmt}{D:Ends}{σ : St}{H:Hp}(s:List Stmt){t:TS}(h:cK X s t)(k:∀u,ky X s u->u=t->∃t,cK X b t/\t D σ H):∃t,cK X b t/\t D σ H:=k t (by unfold ky;exact h) rfl
end
end L2
namespace PySem.SeqAt
open AutoSeq1 (wpAny_loadPart')
open MeetsSeq MeetsSeq2 MeetsSeq3 SeqRoads2
def yQ(A:Around)(s:Shared)(y x:Value)(b:Bool):Prop :=
 ∀(prog:Program)(w:World)(E:Value->Shared->Prop)(Q:Value->Shared->Prop),Q (.bool b) s->wpAny (model prog w) A (richCompare .GtE y x) Q E s
inductive pb(A:Around)(s:Shared):List Value->List Value->Bool->Prop
 | nn:pb A s [] [] true
 | eq {x y:Value} {xs ys:List Value} {b:Bool}:EqAt A s x y true->pb A s xs ys b->pb A s (x::xs) (y::ys) b
 | ge {x y:Value} {xs ys:List Value} {b:Bool}:EqAt A s x y false->yQ A s x y b->pb A s (x::xs) (y::ys) b
theorem Rw(l b:Addr)(items mr:Array Value)(n n2:Nat)(dd ER:Option Addr)(sl wM:Array (Option Value))(v:Bool) :
  Meets (Builtin.«tuple.__ge__» ⟨[.ref l,.ref b],[]⟩)
   (fun A R s=>s.heap.get? l=some { cls:=.type "tuple",dict:=dd,data:=.seq items n,slots:=sl }/\s.heap.get? b=some { cls:=.type "tuple",dict:=ER,data:=.seq mr n2,slots:=wM } /\
    items.size=mr.size/\pb A.in1 s items.toList mr.toList v/\R (.ok (.ret (.bool v))) s) :=
 .of_wp fun prog w A R s h=>by
  obtain⟨hp,g,d,tk,os⟩:=s;obtain⟨hl,hb,kQ,he,h⟩:=h;have f2:=AutoSeq1.sub_tuple_tuple
  wp_walk using wpAny_loadPart' hl,wpAny_loadPart' hb,wpAny_forIn_list _ (fun rest b s'=>b.1=none/\s'=⟨hp,g,d,tk,os⟩/\∃(vs ws:List Value),rest=vs.zip ws /\
   pb A.in1 ⟨hp,g,d,tk,os⟩ vs ws v) _
  case turn =>
   rintro⟨y,x⟩ rest b s' ⟨gg,rfl,vs,ws,hz,hL⟩;cases hL with
   | nn=>rw[List.zip_nil_left] at hz;cases hz
   | eq h1 h2 =>
    rw[A5] at hz;injection hz with Gn vZ;injection Gn with hy hx;subst hy hx;refine ae (h1 prog w _ _ ?_)
    wp_walk
    exact⟨rfl,rfl,_,_,vZ,h2⟩
   | ge h1 h2 =>
    rw[A5] at hz;injection hz with Gn vZ;injection Gn with hy hx;subst hy hx;refine ae (h1 prog w _ _ ?_);have hri:=h2 prog w
    wp_walk using hri
    exact⟨_,rfl,h⟩
  case fin =>
   rintro⟨b1,b2⟩ s' ⟨gg,rfl,vs,ws,hz,hL⟩;simp only at gg;subst gg;have hv:v=true:=by
    cases hL with
    | nn=>rfl
    | eq _ _=>rw[A5] at hz;cases hz
    | ge _ _=>rw[A5] at hz;cases hz
   subst hv
   wp_walk
   exact⟨_,rfl,by simpa[Builtin.Tuple.tupleCompareSizes,kQ] using h⟩
  case h =>
   exact⟨rfl,rfl,items.toList,mr.toList,rfl,he⟩
theorem yQ.tuples{A:Around}{s:Shared}{l b:Addr}{items mr:Array Value}{v:Bool}(hl:s.heap.IsTuple l items)(hb:s.heap.IsTuple b mr)(hu:A.units<cLine)(hz:items.size=mr.size)(he:pb A.in1 s items.toList mr.toList v) :
  yQ A s (.ref l) (.ref b) v:=fun prog w E Q h=>by
 obtain⟨⟨cls,dd,data,sl⟩,ho,hc,n,hd⟩:=id hl;obtain⟨⟨Zxh,ER,data2,wM⟩,kK,fX,n2,hd2⟩:=id hb;simp only at hc hd fX hd2;subst hc hd fX hd2;exact richCompare_meets_room (op:=.GtE) ⟨_,ho,rfl⟩ ⟨_,kK,rfl⟩ F.slot_tuple_ge F.entry_tuple_ge (F.args_tuple_ge_2 _ _) (Rw l b items mr n n2 dd ER sl wM v)
  ⟨ho,kK,hz,he,show Value.bool v≠Value.notImplemented/\Q (.bool v) s from⟨(fun x=>nomatch x),h⟩⟩ hu
end PySem.SeqAt
namespace L2
open PySem PySem.Spec PyProof.Rows PySem.SeqAt bo
section
variable{X:Cx}
theorem Ue(hu:X.A.units+200<cLine){K:PySem.W.Frag}(hK:X.K=K):bC X (compareOp .GtE) (fun x y H Q=>∃(a b:Addr)(p q:Ps),x=.ref a/\y=.ref b/\aM K H a [.int p.1,.str p.2]/\aM K H b [.int q.1,.str q.2]/\Q (.bl (!cU p q)) H):=by
 subst hK;intro pins s σ H x y v u Q I rx ry h;obtain⟨a,b,⟨p1,p2⟩,⟨q1,q2⟩,rfl,rfl,ha,hb,q⟩:=h;cases rx;cases ry;obtain⟨its,r1,t1,z1⟩:=I.tuple ha;obtain⟨mv,r2,t2,z2⟩:=I.tuple hb;obtain⟨u1,us,rfl,e1,r1⟩:=Vals.inv r1;obtain⟨u2,us,rfl,e2,r1⟩:=Vals.inv r1;obtain rfl:=Vals.end_ r1;obtain⟨w1,us,rfl,f1,r2⟩:=Vals.inv r2;obtain⟨w2,us,rfl,f2,r2⟩:=Vals.inv r2;obtain rfl:=Vals.end_ r2;obtain⟨Im,rfl⟩:=e1;obtain⟨Io,rfl⟩:=e2;obtain⟨Ip,rfl⟩:=f1;obtain⟨Iq,rfl⟩:=f2;have Hr:cU (p1,p2) (q1,q2)=(decide (p1<q1) || (decide (p1=q1)&&decide (p2.cps.toList<q2.cps.toList))):=rfl;refine yQ.tuples t1 t2 (by lia) rfl (v := !cU (p1,p2) (q1,q2)) ?_ X.prog X.w _ _ ⟨.bl _,H,I,rfl,q⟩;have NH:∀(i j:Int)(t t':Tok)(A:Around),EqAt A s (.int i t) (.int j t') (decide (i=j)):=fun i j t t' A=>by
  intro prog w E Q h;refine wpAny_eqBool_int ?_;have:(i == j)=decide (i=j):=by by_cases z:i=j <;> simp[z]
  rw[this];exact h
 have eqs:∀(i j:Str)(t t':Tok)(A:Around),EqAt A s (.str i t) (.str j t') (decide (i=j)):=fun i j t t' A=>by
  intro prog w E Q h;exact wpAny_eqBool_str h
 rw[Hr];by_cases c1:p1=q1
 ·subst c1;refine .eq (by have:=NH p1 p1 Im Ip X.A.in1;rw[aR rfl] at this;exact this) ?_;by_cases c2:p2=q2
  ·subst c2;refine .eq (by have:=eqs p2 p2 Io Iq X.A.in1;rw[aR rfl] at this;exact this) ?_;have:(!(decide (p1<p1) || (decide (p1=p1)&&decide (p2.cps.toList<p2.cps.toList))))=true:=by
    simp[xK]
   rw[this];exact .nn
  ·refine .ge (by have:=eqs p2 q2 Io Iq X.A.in1;rw[a_ c2] at this;exact this) (fun prog w E Q h=>?_);refine(PySem.P.ge_str ?_:wpAny (model prog w) X.A.in1 (compareOp .GtE (.str _ _) (.str _ _)) Q E s);have:(!(decide (p1<p1) || (decide (p1=p1)&&decide (p2.cps.toList<q2.cps.toList))))=(!(decide (p2.cps.toList<q2.cps.toList))):=by simp
   rw[this] at h
   simpa using h
 ·refine .ge (by have:=NH p1 q1 Im Ip X.A.in1;rw[a_ c1] at this;exact this) (fun prog w E Q h=>?_);refine(ge_int ?_:wpAny (model prog w) X.A.in1 (compareOp .GtE (.int _ _) (.int _ _)) Q E s);have:(!(decide (p1<q1) || (decide (p1=q1)&&decide (p2.cps.toList<q2.cps.toList))))=decide (p1>=q1):=by
   rw[a_ c1,qJ,Bool.or_false,jm];simp
  rw[this] at h;exact h
theorem K1:∀l:List (Str×Tok),Vals ((l.map (·.1)).map V.str) (strValues l)
 | []=>.nil
 | p::r=>.cons ⟨p.2,rfl⟩ (K1 r)
open Builtin Builtin.Str in
theorem Te:qY X "str.split" (fun x vs H Q=>∃z y:Str,x=.str z/\vs=[.str y]/\(y.length == 0)=false/\z.length<=90000/\∀r,H r=none->Q (.ref r) (upd H r (.lst ((Txt.split z y).map V.str)))):=by
 intro pins s σ H x vs v us Q I rx rv h;obtain⟨z,y,rfl,rfl,hy,hz,q⟩:=h;obtain⟨t,rfl⟩:=rx;obtain⟨u,rfl,ru⟩:=rv.one;obtain⟨u,rfl⟩:=ru;have d7:z.length+2<=sizeLine:=by rw[fI];lia
 have hn:(partsBetween z (occurrences z y 0 z.length (z.length+1)) y.length).length<=sizeLine:=by
  have e1:=StrLaws.occ_length_le z y 0 z.length (z.length+1);rw[length_partsBetween];lia
 have qe:∀(l:List (Str×Tok))(k:Nat),l.map (·.1)=Txt.split z y->l.length<=sizeLine->EP X pins σ Q (.ref s.heap.objs.size) { s with toks:=k,heap:=s.heap.push { cls:=.type "list",data:=.seq (strValues l).toArray } }:=fun l k e hl=>by
  refine⟨.ref s.heap.objs.size,_,I.laid (t':=k) (o:=.lst ((Txt.split z y).map V.str)) (fun b ob q=>aK _ q) (az _) ?_,rfl,q _ (I.aq.fresh (az _))⟩;refine⟨by rw[<- e,aW,aW];exact hl,_,0,by rw[<- e];exact K1 l,cf _ rfl⟩
 cases h1:(decide (z.length<y.length) || decide (strKind z<strKind y))
 ·cases hf:(occurrences z y 0 z.length (z.length+1)).isEmpty
  ·refine call_meets F.slot_str_split (oQ _ _ _) F.entry_str_split (F.args_str_split_2 _ _) (meets_str_split_sep z y t u h1 hy hf (by lia) hn) ?_;show wants _ _ _ { s with toks:=_,heap:=s.heap.push { cls:=.type "list",data:=.seq (strsFrom s.toks (partsBetween z (occurrences z y 0 z.length (z.length+1)) y.length)).toArray } };rw[strsFrom_eq];exact qe (numbered s.toks _) _ ((numbered_texts _ _).trans ((af (ne_true_of_eq_false h1)).trans (af (ne_true_of_eq_false hf))).symm) (by
    have:=congrArg List.length (numbered_texts s.toks (partsBetween z (occurrences z y 0 z.length (z.length+1)) y.length));rw[aW] at this;lia)
  ·exact call_meets F.slot_str_split (oQ _ _ _) F.entry_str_split (F.args_str_split_2 _ _) (meets_str_split_not_found z y t u h1 hy hf)
    (qe [(z,t)] s.toks ((af (ne_true_of_eq_false h1)).trans (ah hf)).symm (by show 1<=sizeLine;decide))
 ·exact call_meets F.slot_str_split (oQ _ _ _) F.entry_str_split (F.args_str_split_2 _ _) (meets_str_split_cannot_occur z y t u h1)
   (qe [(z,t)] s.toks (ah h1).symm (by show 1<=sizeLine;decide))
open Builtin Builtin.Str in
theorem UO:qY X "str.partition" (fun x vs H Q=>∃z y:Str,x=.str z/\vs=[.str y]/\(y.length == 0)=false/\z.length<=90000/\∀r,H r=none->Q (.ref r) (upd H r (.tup [.str (Txt.partition z y).1,.str (Txt.partition z y).2.1,.str (Txt.partition z y).2.2]))):=by
 intro pins s σ H x vs v us Q I rx rv h;obtain⟨z,y,rfl,rfl,hy,hz,q⟩:=h;obtain⟨t,rfl⟩:=rx;obtain⟨u,rfl,ru⟩:=rv.one;obtain⟨u,rfl⟩:=ru;have qe:∀(k ta tb tc:Nat),EP X pins σ Q (.ref s.heap.objs.size) { s with toks:=k,heap:=s.heap.push { cls:=.type "tuple",data:=.seq [.str (Txt.partition z y).1 ta,.str (Txt.partition z y).2.1 tb,.str (Txt.partition z y).2.2 tc].toArray } }:=fun k ta tb tc=>by
  refine⟨.ref s.heap.objs.size,_,I.laid (t':=k) (o:=.tup [.str (Txt.partition z y).1,.str (Txt.partition z y).2.1,.str (Txt.partition z y).2.2]) (fun b ob q=>aK _ q) (az _) ?_,rfl,q _ (I.aq.fresh (az _))⟩;exact⟨by show 3<=sizeLine;decide,[.str (Txt.partition z y).1 ta,.str (Txt.partition z y).2.1 tb,.str (Txt.partition z y).2.2 tc],.cons ⟨_,rfl⟩ (.cons ⟨_,rfl⟩ (.cons ⟨_,rfl⟩ .nil)),⟨_,cf _ rfl,rfl,_,rfl⟩⟩
 refine call_meets F.slot_str_partition (oQ _ _ _) F.entry_str_partition (F.args_str_partition_2 _ _) (meets_str_partition z y t u hy (by rw[fI];lia)) ?_;have h':=qe;unfold Txt.partition at h'
 revert h'
 cases occurrences z y 0 z.length 1 with
 | nil=>intro h';exact h' _ _ _ _
 | cons i r=>intro h';exact h' _ _ _ _
theorem pE:fP X (.type "int") (fun xs H Q=>∃(x:Str)(n:Int),xs=[.str x]/\PySem.intText? x=some n/\x.length<=640/\Q (.int n) H):=by
 intro pins s σ H xs us Q I r h;obtain⟨x,n,rfl,hn,hl,q⟩:=h;obtain⟨u,rfl,ru⟩:=vals1 r;obtain⟨t,rfl⟩:=ru;exact PySem.W.KIN.call_text hn hl ⟨.int n,H,I.tok _,⟨_,rfl⟩,q⟩
end
end L2
namespace Fg
open PySem L2 jt PySem.StrLaws
theorem yw(x:Str)(i j:Nat):cs (Builtin.Str.strSub x i j)=((cs x).drop i).take (j-i):=by
 unfold cs Builtin.Str.strSub;simp[List.extract_eq_take_drop]
theorem cN(s:Str):(cs s).length=s.length:=aB
theorem yi{x y:Str}{k q c:Nat}(h:At x y x.length k)(hq:(cs y)[q]?= some c):(cs x)[k+q]?= some c:=by
 have h2:=h.2;rw[subAt_eq,j9] at h2;have h2:((cs x).drop k).take y.length=cs y:=h2;rw[<- h2,List.getElem?_take] at hq
 split at hq
 ·rw[j3] at hq;exact hq
 ·cases hq
theorem at_of{x y:Str}{k:Nat}{r:List Nat}(hk:k<=x.length)(h:(cs x).drop k=cs y++r):At x y x.length k:=by
 have e:((cs x).drop k).take y.length=cs y:=by
  rw[h,<- cN y,List.take_left]
 have:=congrArg List.length h;rw[dF,bw,cN,cN] at this;exact⟨by lia,by rw[subAt_eq,j9];exact e⟩
theorem JF{l r y t:List Nat}{a j q c:Nat}(e:l.drop a=r++(y++t))(h1:c∉r)(h2:c∉y.take q)(hq:q<=y.length)(ha:a<=j)(hj:l[j]?= some c):a+r.length+q<=j:=by
 have e1:(l.drop a)[j-a]?= some c:=by
  rw[j3,show a+(j-a)=j by lia];exact hj
 rw[e] at e1;refine Nat.le_of_not_lt fun aD=>?_;by_cases z:j-a<r.length
 ·rw[oF z] at e1;exact h1 (cQ e1)
 ·rw[mF (by lia),oF (by lia)] at e1;refine h2 (cQ (i:=j-a-r.length) ?_);rw[List.getElem?_take,ah (by lia)];exact e1
theorem KD{x y:Str}{c q:Nat}(hq:(cs y)[q]?= some c)(hy:c∉(cs y).take q):∀(rs:List Str)(r:Str)(a:Nat)(kA:List Nat)(f:Nat),(∀z∈r::rs,c∉cs z)->(cs x).drop a=jn y (r::rs)->a<=x.length ->
  ChainG x y x.length a kA f->(∀k,f<=k -> ¬ At x y x.length k)->partsFrom x y.length a kA=r::rs
 | [],r,a,kA,f,hz,e,ha,hC,hf=>by
  have e:(cs x).drop a=cs r:=e;have fj:∀k,a<=k -> ¬ At x y x.length k:=fun k hk hA=>by
   have h1:=yi hA hq;have h2:((cs x).drop a)[k+q-a]?= some c:=by
    rw[j3,show a+(k+q-a)=k+q by lia];exact h1
   rw[e] at h2;exact hz r (bb ..) (cQ h2)
  cases kA with
  | nil =>
   show [Builtin.Str.strSub x a x.length] =[r];refine congrArg (fun z=>[z]) (jC ?_);rw[yw,e];refine j7 ?_;have:=congrArg List.length e;rw[dF,cN] at this;lia
  | cons d kA=>exact absurd hC.2.1 (fj d hC.1)
 | r2::rs,r,a,kA,f,hz,e,ha,hC,hf=>by
  have e:(cs x).drop a=cs r++(cs y++jn y (r2::rs)):=e;have kL:q<(cs y).length:=(cB.mp hq).1;have hlen:=congrArg List.length e;rw[dF,bw,bw,cN,cN,cN] at hlen;have ed:(cs x).drop (a+r.length)=cs y++jn y (r2::rs):=by
   rw[<- la,e,<- cN r,tT]
  have hA:At x y x.length (a+r.length):=at_of (by lia) ed;have hle:∀k,a<=k->At x y x.length k->a+r.length<=k:=fun k hk iI=>by
   have h1:=yi iI hq;have:=JF e (hz r (bb ..)) hy (lh kL) (show a<=k+q by lia) h1;rw[cN] at this;lia
  cases kA with
  | nil =>
   have hC:f=a:=hC;exact absurd hA (hf _ (by lia))
  | cons d kA =>
   obtain⟨h1,h2,h3,h4⟩:=hC;have iF:=hle d h1 h2;have hd2:d=a+r.length:=by
    refine Nat.le_antisymm (Nat.le_of_not_lt fun aD=>h3 _ (by lia) aD hA) iF
   subst hd2;show Builtin.Str.strSub x a (a+r.length)::partsFrom x y.length (a+r.length+y.length) kA=r::r2::rs;have e1:Builtin.Str.strSub x a (a+r.length)=r:=by
    apply jC;rw[yw,e,Nat.add_sub_cancel_left,<- cN r,List.take_left]
   rw[e1,KD hq hy rs r2 _ kA f (fun z h=>hz z (aX _ h)) (by
    rw[<- la,ed,<- cN y,tT]) (by rw[cN] at kL;lia) h4 hf]
theorem Ry{y:Str}{c q:Nat}(hq:(cs y)[q]?= some c)(hy:c∉(cs y).take q)(hk:Builtin.Str.strKind y=1)(r:Str)(rs:List Str)(hz:∀z∈r::rs,c∉cs z):Txt.split (Txt.join y (r::rs)) y=r::rs:=by
 obtain⟨x,hx⟩:∃x,Txt.join y (r::rs)=x:=⟨_,rfl⟩;have e:cs x=jn y (r::rs):=by rw[<- hx,rV]
 rw[hx];have kL:q<(cs y).length:=(cB.mp hq).1;rw[cN] at kL;obtain⟨f,hC,hf⟩:=occ_tight x y (by lia);have key:=KD hq hy rs r 0 _ f hz (by rw[qO];exact e) (bj _) hC hf;unfold Txt.split
 split
 ·rename_i h
  cases rs with
  | nil=>exact congrArg (fun z=>[z]) (jC e)
  | cons r2 rs =>
   exfalso;have e:cs x=cs r++(cs y++jn y (r2::rs)):=e;have:=congrArg List.length e;rw[bw,bw,cN,cN,cN] at this;rw[qL,cC,cC,hk] at h;rcases h with h|h
   ·lia
   ·unfold Builtin.Str.strKind at h
    split at h
    ·lia
    ·split at h <;> lia
 ·split
  ·rename_i h
   rw[List.isEmpty_iff] at h;rw[h] at key;rw[<- key];show [x] =[Builtin.Str.strSub x 0 x.length];rw[sub_whole]
  ·rw[partsBetween_eq];exact key
theorem UD{y:Str}{c q:Nat}(hq:(cs y)[q]?= some c)(hy:c∉(cs y).take q)(h t:Str)(hh:c∉cs h)(ht:∀k,At (h++y++t) y (h++y++t).length k->k<=h.length):Txt.partition (h++y++t) y=(h,y,t):=by
 obtain⟨x,hx⟩:∃x,h++y++t=x:=⟨_,rfl⟩;have e:cs x=cs h++(cs y++cs t):=by rw[<- hx,Z2,Z2,bT]
 rw[hx] at ht ⊢;have kL:q<(cs y).length:=(cB.mp hq).1;have hlen:=congrArg List.length e;rw[bw,bw,cN,cN,cN,cN] at hlen;have ed:(cs x).drop h.length=cs y++cs t:=by rw[e,<- cN h,tT]
 have hA:At x y x.length h.length:=at_of (by lia) ed;have iH:∀i∈Builtin.Str.occurrences x y 0 x.length 1,i=h.length:=fun i hi=>by
  have NS:=PySem.StrLaws.occ_spec x y 0 x.length 1 i hi;have h1:=yi NS hq;have:=JF (a:=0) (j:=i+q) (by rw[qO];exact e) hh hy (lh kL) (bj _) h1;rw[cN] at this;have:=ht i NS;lia
 have bQ:(!(Builtin.Str.occurrences x y 0 x.length 1).isEmpty)=true:=(found_iff x y).mpr ⟨_,hA⟩;unfold Txt.partition;cases ho:Builtin.Str.occurrences x y 0 x.length 1 with
 | nil=>rw[ho] at bQ;cases bQ
 | cons i r =>
  rw[ho] at iH;obtain rfl:=iH i (bb ..);show(Builtin.Str.strSub x 0 h.length,y,Builtin.Str.strSub x (h.length+y.length) x.length)=(h,y,t);have e1:Builtin.Str.strSub x 0 h.length=h:=by
   apply jC;rw[yw,e,qO,Nat.sub_zero,<- cN h,List.take_left]
  have e2:Builtin.Str.strSub x (h.length+y.length) x.length=t:=by
   apply jC;rw[yw,<- la,ed,<- cN y,tT];exact j7 (by rw[cN,cN];lia)
  rw[e1,e2]
theorem T9{y:Str}{c q:Nat}(hq:(cs y)[q]?= some c)(hy:c∉(cs y).take q)(hU:c∉(cs y).drop (q+1))(h t:Str)(hh:c∉cs h)(ht:c∉cs t):Txt.partition (h++y++t) y=(h,y,t):=by
 refine UD hq hy h t hh fun k hA=>Nat.le_of_not_lt fun aD=>?_;have kL:q<(cs y).length:=(cB.mp hq).1;have h1:=yi hA hq;rw[Z2,Z2,bT,mF (by rw[cN];lia),cN] at h1;by_cases z:k+q-h.length<(cs y).length
 ·rw[oF z] at h1;refine hU (cQ (i:=k+q-h.length-(q+1)) ?_);rw[j3,show q+1+(k+q-h.length-(q+1))=k+q-h.length by lia];exact h1
 ·rw[mF (by lia)] at h1;exact ht (cQ h1)
theorem K0(x y:Str):(Txt.partition x y).1.length<=x.length/\(Txt.partition x y).2.2.length<=x.length:=by
 unfold Txt.partition
 split
 ·exact⟨strSub_length_le ..,strSub_length_le ..⟩
 ·exact⟨az _,bj _⟩
end Fg
namespace L2
open PySem PySem.Spec PyProof.Rows PySem.W bo iY pe
section
variable{X:Cx}{e:Expr}{te:TE}{p p' pos pos':Pos}
theorem uM{q q':Ps}(h:bS q=bS q'):q=q':=by
 obtain⟨a,b⟩:=q;obtain⟨a',b'⟩:=q';simp only[bS,List.cons.injEq,Sum.inl.injEq,Sum.inr.injEq,and_true] at h;obtain⟨rfl,rfl⟩:=h;rfl
theorem By{P:Program}{w:World}{h0 h:Heap}{S t:Addr}{q:Ps}{x:Int}(hk:IsTupleKey (Z9 P w) h0 (bS q) t)(aD:t<S)(k:∀b o,b<S->h0.get? b=some o->h.get? b=some o)(ks:List Key):dr (Z9 P w) h ks (x,.ref t)↔ks=bS q:=by
 obtain⟨o,its,n,h1,h2⟩:=hk;have iV:IsTupleKey (Z9 P w) h (bS q) t:=⟨o,its,n,k t o aD h1,h2⟩;constructor
 ·rintro⟨b,e,hb⟩;cases e;exact rS hb iV
 ·rintro rfl;exact⟨t,rfl,iV⟩
def nj(P:Program)(w:World)(h0:Heap)(items:List Value)(qs:List Ps):Prop:=items.length=qs.length/\∀(i:Nat) v q,items[i]?= some v->qs[i]?= some q->∃t,v=.ref t/\IsTupleKey (Z9 P w) h0 (bS q) t/\gr h0 v q
theorem nj.of{P:Program}{w:World}{H:Hp}{h:Heap}{zs:List V}{qs:List Ps}{us:List Value}(ok:bF P w H h)(r:Vals zs us)(ql:cE H zs qs):nj P w h us qs:=by
 refine⟨by rw[<- r.length,ql.length],fun i v q hv hq=>?_⟩;obtain⟨z,hz,rz⟩:=KQ r i v hv;obtain⟨t,q',h1,rfl,h3⟩:=ql.get i z hz;rw[hq] at h1;cases h1;obtain rfl:v=Value.ref t:=rz;exact⟨t,rfl,yB ok (ks:=bS q) h3,yd ok h3⟩
theorem nj.mem{P:Program}{w:World}{h0:Heap}{items:List Value}{qs:List Ps}(x:nj P w h0 items qs){v:Value}(hv:v∈items):∃t,∃q∈qs,v=.ref t/\IsTupleKey (Z9 P w) h0 (bS q) t/\gr h0 v q:=by
 obtain⟨i,hi⟩:=j4.mp hv;have aD:=(cB.mp hi).1;rw[x.1] at aD;obtain⟨t,h1,h2,h3⟩:=x.2 i v qs[i] hi (cI aD);exact⟨t,qs[i],xa aD,h1,h2,h3⟩
def lG(P:Program)(w:World)(h0:Heap)(S:Addr)(items:Array Value)(qs:List Ps)(i:Nat)(h:Heap):Prop :=
 pN (Z9 P w) h S (· ∈ items.toList) (fun ks=>∃(j:Nat)(q:Ps),j<i/\qs[j]?= some q/\ks=bS q) i (vb w)/\∀b o,b<S->h0.get? b=some o->h.get? b=some o
theorem lG.ZpY{P:Program}{w:World}{A:Around}{h0:Heap}{S:Addr}{items:Array Value}{qs:List Ps}(hu:A.units<cLine)(x:nj P w h0 items.toList qs)(hS:h0.objs.size<=S)(hn:items.size<=900):Goes P w A S items (lG P w h0 S items qs) where
 keep:=fun i h h' ⟨⟨o,es,ep,t,ho,hx,hd,hT,hsz,hl,hv,hP⟩,hb⟩ k=>by
  have gg:∀b o,b<S->h0.get? b=some o->h'.get? b=some o:=fun b o aD e=>k b o (lh aD) (hb b o aD e);have key:∀e∈es.toList,∀ks,dr (Z9 P w) h ks e↔dr (Z9 P w) h' ks e:=fun e he ks=>by
   obtain⟨tt,q,_,h1,h2,_⟩:=x.mem (hv e he);obtain⟨e1,e2⟩:=e;dsimp only at h1;subst h1;have aD:tt<S:=by
    obtain⟨o2,_,_,g1,_⟩:=h2;exact cR (aU g1) hS
   rw[By h2 aD hb,By h2 aD gg]
  refine⟨⟨o,es,ep,t,k S o (az _) ho,hx,hd,⟨hT.tab,fun e he=>?_,hT.way,?_⟩,hsz,hl,hv,fun ks=>?_⟩,gg⟩
  ·obtain⟨ks,h1,h2⟩:=hT.ent e he;exact⟨ks,(key e he ks).mp h1,h2⟩
  ·exact List.Pairwise.imp_of_mem (fun{a b} ha gg jS ks h1 h2=>jS ks ((key a ha ks).mpr h1) ((key b gg ks).mpr h2)) hT.one
  ·rw[<- hP ks];constructor
   ·rintro⟨e,he,h1⟩;exact⟨e,he,(key e he ks).mpr h1⟩
   ·rintro⟨e,he,h1⟩;exact⟨e,he,(key e he ks).mp h1⟩
 add:=fun i v s Q E hi ⟨zo,hb⟩ q=>by
  have nQ:i<items.size:=(mD.mp hi).1;have nS:i<qs.length:=by rw[<- x.1,aB];exact nQ
  have cn:items.toList[i]?= some v:=by rw[bE];exact hi
  obtain⟨t,rfl,h2,_⟩:=x.2 i v qs[i] cn (cI nS);obtain⟨o2,mv,n2,g1,g2⟩:=h2;have aD:t<S:=cR (aU g1) hS;have hk:IsTupleKey (Z9 P w) s.heap (bS qs[i]) t:=⟨o2,mv,n2,hb t o2 aD g1,g2⟩;refine WN hu zo (by lia) hk (cQ cn) fun b h' tk _ sb Ft=>q b h' tk sb ⟨?_,fun b o aD e=>(sb.2 b (bY aD)).trans (hb b o aD e)⟩;have e:(fun ks=>(∃(j:Nat)(q:Ps),j<i/\qs[j]?= some q/\ks=bS q)\/ks=bS qs[i])=fun ks=>∃(j:Nat)(q:Ps),j<i+1/\qs[j]?= some q/\ks=bS q:=funext fun ks=>propext (by
   constructor
   ·rintro(⟨j,q,h1,h2,h3⟩|h)
    ·exact⟨j,q,by lia,h2,h3⟩
    ·exact⟨i,qs[i],by lia,cI nS,h⟩
   ·rintro⟨j,q,h1,h2,h3⟩;by_cases c:j<i
    ·exact .inl ⟨j,q,c,h2,h3⟩
    ·have:j=i:=by lia
     subst this;rw[cI nS] at h2;cases h2;exact .inr h3)
  rw[<- e];exact Ft
theorem lG.zero{P:Program}{w:World}{h0 h:Heap}{S:Addr}{items:Array Value}{qs:List Ps}(hS:h.get? S=some (iq w))(k:∀b o,b<S->h0.get? b=some o->h.get? b=some o):lG P w h0 S items qs 0 h :=
 ⟨⟨_,#[],0,_,hS,⟨rfl,rfl,rfl⟩,rfl,⟨⟨rfl,rfl,.inl rfl,(by show(0:Nat)*5<7*3;decide),List.Pairwise.nil⟩,(fun _ h=>(nomatch h)),(fun i e j h=>(nomatch h)),List.Pairwise.nil⟩,az _,rfl,(fun _ h=>(nomatch h)),fun ks=>⟨fun⟨_,h,_⟩=>(nomatch h),fun⟨_,_,h,_⟩=>absurd h (ie _)⟩⟩,k⟩
theorem lG.out{P:Program}{w:World}{h0 h:Heap}{S:Addr}{items:Array Value}{qs:List Ps}(x:nj P w h0 items.toList qs)(hS:h0.objs.size<=S)(j:lG P w h0 S items qs items.size h) :
  ∃o es ep t,h.get? S=some o/\o.ExactSet/\o.data=.set es ep t/\Tab es t/\es.size<=items.size/\t.led=vb w/\(∀e∈es.toList,e.2∈items.toList)/\(es.toList.map fun e=>dM h0 e.2).Nodup/\∀q,q∈(es.toList.map fun e=>dM h0 e.2)↔q∈qs:=by
 obtain⟨⟨o,es,ep,t,ho,hx,hd,hT,hsz,hl,hv,hP⟩,hb⟩:=j;have key:∀e∈es.toList,∀ks,dr (Z9 P w) h ks e↔ks=bS (dM h0 e.2):=fun e he ks=>by
  obtain⟨tt,q,_,h1,h2,h3⟩:=x.mem (hv e he);have hq:=uX h3;obtain⟨e1,e2⟩:=e;dsimp only at h1 hq ⊢;subst h1;have aD:tt<S:=by
   obtain⟨o2,_,_,g1,_⟩:=h2;exact cR (aU g1) hS
  rw[By h2 aD hb,hq]
 refine⟨o,es,ep,t,ho,hx,hd,hT.tab,hsz,hl,hv,?_,fun q=>?_⟩
 ·refine A3.mpr (List.Pairwise.imp_of_mem (fun{a b} ha gg jS z=>?_) hT.one);exact jS _ ((key a ha _).mpr rfl) ((key b gg _).mpr (by rw[z]))
 ·have h1:=hP (bS q);constructor
  ·intro hq;obtain⟨e,he,rfl⟩:=gM.mp hq;obtain⟨j,q',_,h2,h3⟩:=h1.mp ⟨e,he,(key e he _).mpr rfl⟩;rw[uM h3];exact cQ h2
  ·intro hq;obtain⟨j,hj⟩:=j4.mp hq;have zF:=(cB.mp hj).1;obtain⟨e,he,hbr⟩:=h1.mpr ⟨j,q,by rw[<- aB,x.1];exact zF,hj,rfl⟩;exact gM.mpr ⟨e,he,(uM ((key e he _).mp hbr)).symm⟩
def JJ(K:PySem.W.Frag)(v:V)(H:Hp)(Q:VK):Prop :=
 ∃l ys qs,v=.ref l/\ak K H l ys/\ys.length<=900/\cE H ys qs/\∀r zs ms,H r=none->ms.Pairwise (fun a b=>cU a b=true)->(∀q,q∈ms↔q∈qs)->cE H zs ms->Q (.ref r) (upd H r (.lst zs))
set_option maxHeartbeats 1000000 in
theorem QI(hc:X.calm=true)(hu:X.A.units+200<cLine)(hg:Gl X "sorted") (hm:X.mg "sorted" = none) (gi:Gl X "set") (ui:X.mg "set" = none) (pa:PA X [e] (va te sv))
  (hs:starEach [e] X.env=[(false,eval e X.env)]:=by rfl) (o6:starEach [.Call (.Name "set" p') [e] [] pos'] X.env=[(false,eval (.Call (.Name "set" p') [e] [] pos') X.env)]:=by rfl) :
  PE X (.Call (.Name "sorted" p) [.Call (.Name "set" p') [e] [] pos'] [] pos) (fun σ H Q=>te σ H fun v H1=>JJ X.K v H1 Q):=by
 intro pins s σ H Q I h;refine ll (lR I hg hm RD ?_);refine PyProof.Rows.callWith_builtin1 ?_ o6 rfl;rw[o6];refine Calls.spliced_cons ?_;refine ll (lR I gi ui U8 ?_);refine t6 (aw (pa pos' pins s σ H (fun vs H1=>match vs with | [v]=>JJ X.K v H1 Q|_=>False) I h) fun us s1 ⟨vs,H1,I1,r,q⟩=>?_) hs rfl
 match vs,r,q with
 | [v],r,q =>
  obtain⟨u,rfl,ru⟩:=r.one;obtain⟨l,ys,qs,rfl,hq,Ol,kL,q⟩:=q;cases ru;obtain⟨its,rv,pl,hz⟩:=I1.list hq;have hlen:=rv.length;have x:nj X.prog X.w s1.heap its.toArray.toList qs:=nj.of I1.aq rv kL;refine Ss (J:=lG X.prog X.w s1.heap s1.heap.objs.size its.toArray qs) (I1.ok.hd hc) (by lia) pl.isList (fun B hB=>lG.ZpY hB x (az _) (by rw[bX];lia)) (fun h h1 h2=>lG.zero h1 h2) fun h2 tk hJ k2=>?_;refine Calls.spliced_nil ?_;have Ik:∀b o,s1.heap.get? b=some o->h2.get? b=some o:=fun b o e=>k2 b o (aU e) e;obtain⟨o,es,ep,t,ho,hx,hd,hT,hsz,g9,hv,zO,fZ⟩:=hJ.out x (az _);have Zw2:es.size<=its.length:=by simpa using hsz
  refine Jt (lv:=fun u v=>cU (dM s1.heap u) (dM s1.heap v)) (s:={ s1 with heap:=h2,toks:=tk }) (C:=fun ys=>ys.Perm (es.toList.map (·.2))) (mZ.PF (dM s1.heap)) (fun Q' E' lD=>?_) (fun lF h6 tk6 d6 hC k6 Fn=>?_) fun pa lF out h3 wO d3 c hC jV qu k3 e3 hle mj=>?_
  ·refine QV (I1.ok.hd hc) ho hx hd hT g9 (by lia) fun lF h' Qf d' k' hp hle=>lD lF h' Qf d' k' hp ?_ hle;rw[hp.length_eq,aW,aB];lia
  ·refine Jb (h0:=s1.heap) (fun v uj=>?_) (fun b o e=>k6 b o (Ik b o e)) Fn;obtain⟨e,he,rfl⟩:=gM.mp (hC.mem_iff.mp uj);obtain⟨tt,q,_,h1,_,h3⟩:=x.mem (hv e he);exact⟨q,h3⟩
  ·have qr:out.toList.Perm (es.toList.map (·.2)):=jV.trans hC;obtain⟨zs,rz,Gr⟩:=B1 I1.aq rv kL out.toList fun u hu=>by
    obtain⟨e,he,rfl⟩:=gM.mp (qr.mem_iff.mp hu);exact hv e he
   have iL:zs.length=out.size:=rz.length.trans (aB ..);have zm:s1.heap.objs.size<=pa:=cZ (lh (aU ho)) hle;have I2:=I1.laid (h':=h3) (t':=wO) (a:=pa) (o:=.lst zs) (fun b o e=>k3 b o (Ik b o e)) zm (show bM X.prog X.w _ h3 _ (.lst zs) from⟨by rw[fI];lia,out.toList,c,rz,e3⟩);have Ou:(out.toList.map (dM s1.heap)).Perm (es.toList.map fun e=>dM s1.heap e.2):=by
    have:=qr.map (dM s1.heap);rw[xf] at this;exact this
   refine⟨.ref pa,_,I2.draws (d:=d3),rfl,q pa zs _ (I1.aq.fresh zm) (mZ.strict ?_ (Ou.nodup_iff.mpr zO)) (fun q=>Ou.mem_iff.trans (fZ q)) Gr⟩;exact A3.mpr qu
end
end L2
namespace cD
open PySem L2 jt Fg
def top(i:Nat):Stmt:=PySem.Challenge.pw_formgrove_k80_changers_read.main.body.getD i (.Pass ⟨0,0,0,0⟩)
abbrev rD:Stmt:=top 19
abbrev ro:Stmt:=inClass (top 22) 0
abbrev rk:Stmt:=inClass (top 22) 1
abbrev rA:Stmt:=inClass (top 22) 2
abbrev rq:Stmt:=inClass (top 22) 4
abbrev ZQ:Stmt:=inClass (top 22) 5
abbrev r8:Stmt:=top 24
abbrev pB:Stmt:=top 25
abbrev rl:Stmt:=top 26
abbrev rJ:Stmt:=top 27
abbrev r_:Stmt:=top 28
abbrev rh:Stmt:=top 29
abbrev Zu:Stmt:=top 30
abbrev rN:Stmt:=top 31
abbrev ri:Stmt:=top 33
abbrev rg:Stmt:=top 34
abbrev rT:Stmt:=top 35
abbrev ZS:Stmt:=top 36
abbrev i5:Stmt:=top 37
abbrev rC:Stmt:=top 38
abbrev i4:Stmt:=top 39
abbrev rK:Stmt:=top 40
abbrev Zj:Stmt:=top 41
abbrev Zn:Stmt:=top 42
abbrev Zt:Stmt:=top 43
abbrev rB:Stmt:=top 44
abbrev rF:Stmt:=top 45
abbrev dC:Stmt:=top 46
theorem Sk:bZ ["text"] ["text"] (Zh rD):=⟨rfl,rfl,rfl,by decide +kernel,rfl,by decide +kernel,by decide +kernel⟩
theorem Qv:bZ ["self","text"] ["self","text"] (Zh ro):=⟨rfl,rfl,rfl,by decide +kernel,rfl,by decide +kernel,by decide +kernel⟩
theorem QO:bZ ["self","piece"] ["self","piece"] (Zh rk):=⟨rfl,rfl,rfl,by decide +kernel,rfl,by decide +kernel,by decide +kernel⟩
theorem Qz:bZ ["self","piece"] ["self","piece"] (Zh rA):=⟨rfl,rfl,rfl,by decide +kernel,rfl,by decide +kernel,by decide +kernel⟩
theorem Qu:bZ ["self"] ["self"] (Zh rq):=⟨rfl,rfl,rfl,by decide +kernel,rfl,by decide +kernel,by decide +kernel⟩
theorem IY:bZ ["self","first","last","begin"] ["self","first","last"] (Zh ZQ):=⟨rfl,rfl,rfl,by decide +kernel,rfl,by decide +kernel,by decide +kernel⟩
theorem UJ:bZ ["text"] ["text"] (Zh r8):=⟨rfl,rfl,rfl,by decide +kernel,rfl,by decide +kernel,by decide +kernel⟩
theorem xH:bZ ["source","modes","rules","rule"] ["source"] (Zh pB):=⟨rfl,rfl,rfl,by decide +kernel,rfl,by decide +kernel,by decide +kernel⟩
theorem Jf:bZ ["source","least","greatest","figures"] ["source","least","greatest"] (Zh rl):=⟨rfl,rfl,rfl,by decide +kernel,rfl,by decide +kernel,by decide +kernel⟩
theorem Jm:bZ ["source","tag"] ["source"] (Zh rJ):=⟨rfl,rfl,rfl,by decide +kernel,rfl,by decide +kernel,by decide +kernel⟩
theorem Uz:bZ ["source","piece"] ["source","piece"] (Zh r_):=⟨rfl,rfl,rfl,by decide +kernel,rfl,by decide +kernel,by decide +kernel⟩
theorem Bv:bZ ["source","modes","mode","tag"] ["source","modes"] (Zh rh):=⟨rfl,rfl,rfl,by decide +kernel,rfl,by decide +kernel,by decide +kernel⟩
theorem uA:bZ ["source","modes","tags","rows","going"] ["source","modes"] (Zh Zu):=⟨rfl,rfl,rfl,by decide +kernel,rfl,by decide +kernel,by decide +kernel⟩
theorem JC:bZ ["tags","rows","parts"] ["tags","rows"] (Zh rN):=⟨rfl,rfl,rfl,by decide +kernel,rfl,by decide +kernel,by decide +kernel⟩
theorem QZ:bZ ["_law_script","_law_k"] ["_law_script","_law_k"] (Zh ri):=⟨rfl,rfl,rfl,by decide +kernel,rfl,by decide +kernel,by decide +kernel⟩
theorem rm:bZ ["_law_script","_law_first","_law_many","_law_found","_law_number","_law_k","_law_cell"] ["_law_script","_law_first","_law_many"] (Zh rg):=⟨rfl,rfl,rfl,by decide +kernel,rfl,by decide +kernel,by decide +kernel⟩
theorem rE:bZ ["_law_number","_law_some","_law_tag_here","_law_k"] ["_law_number"] (Zh rT):=⟨rfl,rfl,rfl,by decide +kernel,rfl,by decide +kernel,by decide +kernel⟩
theorem pj:bZ ["_law_numbers_here","_law_modes","_law_names","_law_rows_here","_law_number","_law_turn","_law_inner"] ["_law_numbers_here","_law_modes"] (Zh ZS):=⟨rfl,rfl,rfl,by decide +kernel,rfl,by decide +kernel,by decide +kernel⟩
theorem xI:bZ ["_law_modes","_law_numbers_here","_law_known_here","_law_k","_law_parts_here"] ["_law_modes","_law_numbers_here"] (Zh i5):=⟨rfl,rfl,rfl,by decide +kernel,rfl,by decide +kernel,by decide +kernel⟩
theorem BD:bZ ["_law_parts_here","_law_found","_law_part"] ["_law_parts_here"] (Zh rC):=⟨rfl,rfl,rfl,by decide +kernel,rfl,by decide +kernel,by decide +kernel⟩
theorem pD:bZ ["_law_modes","_law_rules","_law_rows_here","_law_mode","_law_tag_here","_law_parts_here","_law_text_here"] ["_law_modes","_law_rules"] (Zh i4):=⟨rfl,rfl,rfl,by decide +kernel,rfl,by decide +kernel,by decide +kernel⟩
theorem Js:bZ ["_law_word","_law_sign"] ["_law_word"] (Zh rK):=⟨rfl,rfl,rfl,by decide +kernel,rfl,by decide +kernel,by decide +kernel⟩
theorem Z4:bZ ["_law_text_here","_law_modes","_law_names","_law_rows_here","_law_word","_law_sign","_law_inner"] ["_law_text_here","_law_modes"] (Zh Zj):=⟨rfl,rfl,rfl,by decide +kernel,rfl,by decide +kernel,by decide +kernel⟩
theorem ZJ:bZ ["_law_text_here","_law_rows_here","_law_modes","_law_rules","_law_row","_law_head","_law_middle","_law_tail","_law_parts_here","_law_pairs"] ["_law_text_here"] (Zh Zn):=⟨rfl,rfl,rfl,by decide +kernel,rfl,by decide +kernel,by decide +kernel⟩
theorem pq:bZ ["_law_rows_here","_law_modes","_law_cell","_law_some","_law_text_here","_law_way","_law_sign","_law_at","_law_row"] ["_law_rows_here","_law_modes","_law_cell"] (Zh Zt):=⟨rfl,rfl,rfl,by decide +kernel,rfl,by decide +kernel,by decide +kernel⟩
theorem I_:bZ ["_law_found","_law_due","_law_k"] ["_law_found","_law_due"] (Zh rB):=⟨rfl,rfl,rfl,by decide +kernel,rfl,by decide +kernel,by decide +kernel⟩
theorem rG:bZ ["_law_text_here","_law_found","_law_refused","e"] ["_law_text_here"] (Zh rF):=⟨rfl,rfl,rfl,by decide +kernel,rfl,by decide +kernel,by decide +kernel⟩
theorem i7:bZ ["_law_script","_law_first","_law_modes","_law_known_here","_law_rules","_law_rows_here","_law_text_here","_law_due","_law_found","_law_refused"] ["_law_script"] (Zh dC):=⟨rfl,rfl,rfl,by decide +kernel,rfl,by decide +kernel,by decide +kernel⟩
structure XC(K:PySem.W.Frag)(mg:Str->Option Value)(b_ eh d_ eF eE eA ee eG eo eC d8 au eB ef et:Addr):Prop where
 ZtJ:mg "GroveError" = some (.ref b_)
 ZtM:mg "NoGrove" = some (.ref eh)
 ZtI:mg "BadForm" = some (.ref d_)
 ZtT:mg "TooMany" = some (.ref eF)
 ZtS:mg "TooBig" = some (.ref eE)
 ZtP:mg "NoneFits" = some (.ref eA)
 ZtK:mg "NoBook" = some (.ref ee)
 ZtU:mg "TwiceNamed" = some (.ref eG)
 ZtN:mg "NoName" = some (.ref eo)
 ZtR:mg "Ring" = some (.ref eC)
 ZtH:mg "BadChanger" = some (.ref d8)
 qB:mg "NoRecipe" = some (.ref au)
 ZtQ:mg "NotStraight" = some (.ref eB)
 ZtL:mg "NoChange" = some (.ref ef)
 ZtO:mg "NoRow" = some (.ref et)
 bas:Qq K b_
 isG:PySem.W.isClsIn K b_=true
 tyG:PySem.W.typeIn K (.ref b_)=some (.type "type")
 Zxe:eL K b_
 XM:eL K eh
 XF:eL K d_
 XY:eL K eF
 XX:eL K eE
 XS:eL K eA
 XI:eL K ee
 XZ:eL K eG
 XN:eL K eo
 XW:eL K eC
 XE:eL K d8
 XQ:eL K au
 XU:eL K eB
 XJ:eL K ef
 XR:eL K et
 tI:ph K au b_
 tB:PySem.W.findIn K (.ref au) "__init__" = some (some (.builtin "ValueError.__init__"))
 Ztu:PySem.W.mroIn K au (.type "ValueError")=some true
 ZtX:au≠b_
 wo:PySem.W.mroIn K au (.ref b_)=some true
 wu:PySem.W.mroIn K au (.ref eh)=some false
 wm:PySem.W.mroIn K au (.ref d_)=some false
 wD:PySem.W.mroIn K au (.ref eF)=some false
 wC:PySem.W.mroIn K au (.ref eE)=some false
 wz:PySem.W.mroIn K au (.ref eA)=some false
 wq:PySem.W.mroIn K au (.ref ee)=some false
 wF:PySem.W.mroIn K au (.ref eG)=some false
 ww:PySem.W.mroIn K au (.ref eo)=some false
 wB:PySem.W.mroIn K au (.ref eC)=some false
 wk:PySem.W.mroIn K au (.ref d8)=some false
 wx:PySem.W.mroIn K au (.ref au)=some true
 wA:PySem.W.mroIn K au (.ref eB)=some false
 wt:PySem.W.mroIn K au (.ref ef)=some false
 wy:PySem.W.mroIn K au (.ref et)=some false
abbrev cG:List Str:=["ValueError","all","bool","int","isinstance","len","list","max","min","range","reversed","set","sorted","str","tuple"]
section
variable{P:Program}{w:World}{K:PySem.W.Frag}{mg:Str->Option Value}{base:Heap}{f:Addr}{fd:FuncData}{b_ eh d_ eF eE eA ee eG eo eC d8 au eB ef et:Addr}
theorem Sz(B:∀x∈cG,mg x=none)(Cc:∃t:Tok,mg "LONGEST_TAG" = some (.int 8 t)) (F:bP K "is_tag" "is_tag" rD f fd):aY P w K mg base cq 1 f fd ["text"] Cn:=by
 refine F.ok Sk (fun vs H Q E h=>?_) (fun aL A outer s H vs Q E hr h=>?_)
 ·obtain⟨z,rfl,_⟩:=h;rfl
 obtain⟨z,rfl,hz,q⟩:=h;obtain⟨t8,XG⟩:=Cc;unfold gv at q;refine⟨_,(Zf (Zz (r6 (Kq sk sk Zg (ZF pz rfl (B "len" (by decide)) gc (Za (pv 0) Zb)) (fv (v:=.int 8) rfl XG ⟨_,rfl⟩)) (uR (ZF (TM rfl) rfl (B "all" (by decide)) Vy (Za (Sd (pv 0) rfl (by decide) (by decide) rfl (by decide) rfl (by decide) (fun _=>rfl)) Zb)))))),?_⟩;refine⟨_,rfl,z,rfl,Zk (by lia),_,_,rfl,rfl,_,rfl,?_⟩;refine dD (fun c=>?_) (fun c=>?_)
 ·have c1:1<=z.length:=by
   have:=ii c;lia
  rw[aR c1,wZ] at q;refine⟨_,_,rfl,rfl,_,rfl,?_⟩;refine dD (fun c=>?_) (fun c=>?_)
  ·have c2:z.length<=8:=by
    have:=ii c;lia
   rw[aR c2,wZ] at q;refine⟨_,rfl,z,rfl,Zk (by lia),fun p hp=>⟨p,z.cps.toList.map dv,rfl,ak.of ?_,?_⟩⟩
   ·rw[Zc,xf];rfl
   ·have e:(z.cps.toList.map dv).all id=z.cps.toList.all dv:=by
     rw[List.all_map];rfl
    rw[e];exact q _ (ZD.new hp)
  ·have c2 : ¬ z.length<=8:=fun h=>c (aR (by show((z.length:Nat):Int)<=8;lia));rw[a_ c2,qJ] at q;exact q H (ZD.refl H)
 ·have c1 : ¬ 1<=z.length:=fun h=>c (aR (by show(1:Int)<=((z.length:Nat):Int);lia));rw[a_ c1,qJ,qJ] at q;exact⟨_,rfl,aF (q H (ZD.refl H))⟩
def bV(c:Nat):Bool:=decide (97<=c)&&decide (c<=122)
def bB(c:Nat):Bool:=decide (48<=c)&&decide (c<=57)
def aN(z:List Nat):Str:=⟨z.toArray⟩
theorem dg(z:List Nat):cs (aN z)=z:=by unfold cs aN;exact xj
theorem sf(s:Str):aN (cs s)=s:=jC (dg _)
theorem ZR(s:Str):(cs s).length=s.length:=aB
theorem Cd(z:List Nat):(aN z).length=z.length:=by rw[<- ZR,dg]
def fR(t:Str):Prop:=(cs t).all bV=true/\1<=(cs t).length/\(cs t).length<=8
def aC:Pa->Bool
 | .nil=>true
 | _=>false
theorem km{p:Pa}:aC p=true↔p=.nil:=by cases p <;> simp[aC]
def bh(m:Nat):Pa->Prop
 | .nil=>True
 | .kids n o=>(0<=n/\n<(m:Int))/\bh m o
 | .tag t w o=>fR t/\bh m w/\bh m o
theorem kn{m:Nat}:∀{p q:Pa},bh m p->bh m q->bh m (p.app q)
 | .nil,_,_,h=>h
 | .kids _ _,_,h,k=>⟨h.1,kn h.2 k⟩
 | .tag _ _ _,_,h,k=>⟨h.1,h.2.1,kn h.2.2 k⟩
theorem pL{p q:Pa}(h:aC q=false):aC (p.app q)=false:=by cases p <;> first|exact h|rfl
theorem mT:∀p q r:Pa,(p.app q).app r=p.app (q.app r)
 | .nil,_,_=>rfl
 | .kids _ o,q,r=>congrArg _ (mT o q r)
 | .tag _ _ o,q,r=>congrArg _ (mT o q r)
def tP:Pa->List Nat
 | .nil=>[]
 | .kids n o=>(48+n.toNat)::(if aC o=true then [] else 32::tP o)
 | .tag t w o=>cs t++((if aC w=true then [] else 40::(tP w ++ [41]))++(if aC o=true then [] else 32::tP o))
def spT(p:Pa):List Nat:=tP p++(if aC p=true then [] else [32])
theorem uZ:∀p q:Pa,aC q=false->tP (p.app q)=spT p++tP q
 | .nil,q,_=>rfl
 | .kids n o,q,h=>by
  have e:=pL (p:=o) h;show(48+n.toNat)::(if aC (o.app q)=true then [] else 32::tP (o.app q))=((48+n.toNat)::(if aC o=true then [] else 32::tP o) ++ [32])++tP q
  rw[e,af (by decide),uZ o q h];unfold spT;cases ho:aC o with
  | true =>
   obtain rfl:=km.mp ho;simp[tP]
  | false=>simp
 | .tag t w o,q,h=>by
  have e:=pL (p:=o) h;show cs t++((if aC w=true then [] else 40::(tP w ++ [41]))++(if aC (o.app q)=true then [] else 32::tP (o.app q)))=(cs t++((if aC w=true then [] else 40::(tP w ++ [41]))++(if aC o=true then [] else 32::tP o)) ++ [32])++tP q
  rw[e,af (show ¬ (false=true) from bf),uZ o q h];unfold spT;cases ho:aC o with
  | true =>
   obtain rfl:=km.mp ho;simp[tP]
  | false=>simp
abbrev aZ:=List (Str×Pa)
def iz:aZ->Pa->List Nat
 | [],cur=>tP cur
 | (w,o)::st,cur=>iz st o++(if aC o=true then [] else [32])++cs w++40::tP cur
def spS(st:aZ)(cur:Pa):List Nat:=iz st cur++(if aC cur=true then [] else [32])
theorem BY(st:aZ)(cur q:Pa)(h:aC q=false):iz st (cur.app q)=spS st cur++tP q:=by
 cases st with
 | nil=>exact uZ cur q h
 | cons x st =>
  obtain⟨w,o⟩:=x;unfold spS;show iz st o++(if aC o=true then [] else [32])++cs w++40::tP (cur.app q)=iz st o++(if aC o=true then [] else [32])++cs w++40::tP cur++(if aC cur=true then [] else [32])++tP q
  rw[uZ cur q h];unfold spT;simp[bT]
theorem RR(st:aZ)(w:Str)(o cur:Pa)(h:aC cur=false):iz st (o.app (.tag w cur .nil))=iz ((w,o)::st) cur ++ [41]:=by
 rw[BY st o _ rfl];show spS st o++(cs w++((if aC cur=true then [] else 40::(tP cur ++ [41])) ++ []))=iz st o++(if aC o=true then [] else [32])++cs w++40::tP cur ++ [41]
 rw[h,af bf];unfold spS;simp[bT]
def pNum(lo hi:Nat)(t:List Nat):Option (Nat×List Nat) :=
 if(t.takeWhile bB).length=1/\lo<=(t.takeWhile bB).headD 0-48/\(t.takeWhile bB).headD 0-48<=hi then some ((t.takeWhile bB).headD 0-48,t.drop 1) else none
def kz(t:List Nat):Option (Str×List Nat):=if 1<=(t.takeWhile bV).length/\(t.takeWhile bV).length<=8 then some (aN (t.takeWhile bV),t.drop (t.takeWhile bV).length) else none
def ja(p t:List Nat):Option (List Nat):=if p <+: t then some (t.drop p.length) else none
def cF:List Nat->Pa->aZ->List Nat×Pa×aZ
 | 41::t,cur,(w,o)::st=>cF t (o.app (.tag w cur .nil)) st
 | t,cur,st=>(t,cur,st)
def cA(next:List Nat->Pa->aZ->Option (Pa×List Nat))(t:List Nat)(cur:Pa)(st:aZ):Option (Pa×List Nat) :=
 if [32] <+: (cF t cur st).1 then next ((cF t cur st).1.drop 1) (cF t cur st).2.1 (cF t cur st).2.2
 else if(cF t cur st).2.2=[] then some ((cF t cur st).2.1,(cF t cur st).1) else none
def C5:List Nat->Bool
 | c::_=>bB c
 | []=>false
def bW(m:Nat):Nat->List Nat->Pa->aZ->Option (Pa×List Nat)
 | 0,_,_,_=>none
 | k+1,t,cur,st =>
  if C5 t=true then
   match pNum 0 (m-1) t with
   | none=>none
   | some x=>cA (bW m k) x.2 (cur.app (.kids (x.1:Int) .nil)) st
  else
   match kz t with
   | none=>none
   | some x=>if [40] <+: x.2 then bW m k (x.2.drop 1) .nil ((x.1,cur)::st) else cA (bW m k) x.2 (cur.app (.tag x.1 .nil .nil)) st
abbrev Rl:=Int×Str×Pa
def kx(m:Nat)(t:List Nat):Option (Rl×List Nat) :=
 match pNum 0 (m-1) t with
 | none=>none
 | some n =>
  match ja [32] n.2 with
  | none=>none
  | some t1 =>
   match kz t1 with
   | none=>none
   | some g =>
    match ja [32,61,32] g.2 with
    | none=>none
    | some t2=>if [123,125] <+: t2 then some (((n.1:Int),g.1,.nil),t2.drop 2) else(bW m (t2.length+1) t2 .nil []).map fun x=>(((n.1:Int),g.1,x.1),x.2)
def aJ(r:Rl):bo.Ps:=(r.1,r.2.1)
def iu(acc:List Rl)(r:Rl):Bool:=match acc.getLast? with
 | none=>true
 | some l=>bo.cU (aJ l) (aJ r)
def i6(m:Nat):Nat->List Rl->List Nat->Option (List Rl)
 | 0,_,_=>none
 | k+1,acc,t =>
  if [59,32] <+: t then
   match kx m (t.drop 2) with
   | none=>none
   | some x=>if iu acc x.1=true then i6 m k (acc ++ [x.1]) x.2 else none
  else if t=[] then some acc else none
def gI(t:List Nat):Option (Nat×List Rl) :=
 match pNum 1 4 t with
 | none=>none
 | some x=>(i6 x.1 (x.2.length+1) [] x.2).map fun y=>(x.1,y)
def tR(r:Rl):List Nat:=(48+r.1.toNat)::32::(cs r.2.1++(32::61::32::(if aC r.2.2=true then [123,125] else tP r.2.2)))
def cm:List Rl->List Nat
 | []=>[]
 | r::rs=>59::32::(tR r++cm rs)
def tC(m:Nat)(rs:List Rl):List Nat:=(48+m)::cm rs
def gL(m:Nat)(r:Rl):Prop:=(0<=r.1/\r.1<(m:Int))/\fR r.2.1/\bh m r.2.2
def oA(m:Nat)(rs:List Rl):Prop:=(1<=m/\m<=4)/\(∀r∈rs,gL m r)/\(rs.map aJ).Pairwise (fun a b=>bo.cU a b=true)
theorem KP(P:Nat->Bool)(t:List Nat):t=t.takeWhile P++t.drop (t.takeWhile P).length:=by
 have h:=List.takeWhile_append_dropWhile (p:=P) (l:=t);have:t.drop (t.takeWhile P).length=t.dropWhile P:=by
  conv=>lhs;rw[<- h]
  rw[List.drop_append_of_le_length (by simp)];simp[h]
 rw[this,h]
theorem x_{P:Nat->Bool}{t:List Nat}{c:Nat}(h:c∈t.takeWhile P):P c=true:=by
 induction t with
 | nil=>cases h
 | cons a t ih =>
  rw[xh] at h
  split at h
  ·rcases aH.mp h with rfl|h
   ·assumption
   ·exact ih h
  ·cases h
theorem uC{lo hi:Nat}{t:List Nat}{x}(h:pNum lo hi t=some x):t=(48+x.1)::x.2/\lo<=x.1/\x.1<=hi/\x.1<=9:=by
 unfold pNum at h
 split at h
 ·rename_i hc
  cases h;obtain⟨h1,h2,h3⟩:=hc;have e:=KP bB t;rw[h1] at e;cases hz:t.takeWhile bB with
  | nil=>rw[hz] at h1;cases h1
  | cons c z =>
   rw[hz] at h1 h2 h3 e;obtain rfl:z=[]:=lb (by simpa using h1);have hd:bB c=true:=x_ (P:=bB) (t:=t) (by rw[hz];exact bb ..);unfold bB at hd;rw[cP,cC,cC] at hd;refine⟨?_,h2,h3,?_⟩
   ·show t=(48+(c-48))::t.drop 1;rw[show 48+(c-48)=c by lia];exact e
   ·show c-48<=9;lia
 ·cases h
theorem BO{t:List Nat}{x}(h:kz t=some x):t=cs x.1++x.2/\fR x.1:=by
 unfold kz at h
 split at h
 ·rename_i hc
  cases h;refine⟨?_,?_⟩
  ·show t=cs (aN _)++_;rw[dg];exact KP bV t
  ·unfold fR;dsimp only;rw[dg];exact⟨e_.mpr fun c hc=>x_ hc,hc.1,hc.2⟩
 ·cases h
theorem uT{p t:List Nat}(h:p <+: t):t=p++t.drop p.length:=by
 obtain⟨r,rfl⟩:=h;rw[tT]
theorem JD{p t r:List Nat}(h:ja p t=some r):t=p++r:=by
 unfold ja at h
 split at h
 ·cases h;exact uT (by assumption)
 ·cases h
theorem Bx(t:List Nat)(cur:Pa)(w:Str)(o:Pa)(st:aZ):cF (41::t) cur ((w,o)::st)=cF t (o.app (.tag w cur .nil)) st:=by
 rw[cF]
def mC(m:Nat)(st:aZ):Prop := ∀x∈st,fR x.1/\bh m x.2
theorem JN{m:Nat}:∀(t:List Nat)(cur:Pa)(st:aZ),aC cur=false->bh m cur->mC m st ->
  iz st cur++t=iz (cF t cur st).2.2 (cF t cur st).2.1++(cF t cur st).1/\aC (cF t cur st).2.1=false/\bh m (cF t cur st).2.1/\mC m (cF t cur st).2.2
 | [],cur,st,h,hw,hs=>by rw[cF];exact⟨rfl,h,hw,hs⟩;simp
 | c::t,cur,[],h,hw,hs=>by rw[cF];exact⟨rfl,h,hw,hs⟩;simp
 | c::t,cur,(w,o)::st,h,hw,hs=>by
  by_cases hc:c=41
  ·subst hc;rw[Bx];have hx:=hs (w,o) (bb ..);obtain⟨e,r⟩:=JN (m:=m) t (o.app (.tag w cur .nil)) st (pL rfl) (kn hx.2 ⟨hx.1,hw,trivial⟩) fun x hx=>hs x (aX _ hx);refine⟨?_,r⟩;rw[<- e,RR st w o cur h];simp
  ·rw[cF]
   ·exact⟨rfl,h,hw,hs⟩
   ·intro t' w' o' ag e;injection e with e;exact absurd e hc
theorem KY{m:Nat}{next}(ih:∀t cur st x,next t cur st=some x->bh m cur->mC m st->spS st cur++t=tP x.1++x.2/\aC x.1=false/\bh m x.1)
  (t:List Nat) (cur:Pa) (st:aZ) (x) (h:cA next t cur st=some x) (hn:aC cur=false) (hw:bh m cur) (hs:mC m st):iz st cur++t=tP x.1++x.2/\aC x.1=false/\bh m x.1:=by
 obtain⟨e,n2,w2,s2⟩:=JN (m:=m) t cur st hn hw hs;unfold cA at h
 split at h
 ·rename_i hp
  obtain⟨e3,r⟩:=ih _ _ _ _ h w2 s2;refine⟨?_,r⟩;rw[<- e3,e];unfold spS;rw[n2,af (by decide),bT];exact congrArg _ (uT hp)
 ·split at h
  ·rename_i _ h0
   cases h;rw[h0] at e;exact⟨e,n2,w2⟩
  ·cases h
theorem xM{m:Nat}(hm:1<=m):∀(k:Nat)(t:List Nat)(cur:Pa)(st:aZ)(x),bW m k t cur st=some x->bh m cur->mC m st->spS st cur++t=tP x.1++x.2/\aC x.1=false/\bh m x.1
 | 0,t,cur,st,x,h,_,_=>by cases h
 | k+1,t,cur,st,x,h,hw,hs=>by
  unfold bW at h
  split at h
  ·split at h
   ·cases h
   ·rename_i y hy
    obtain⟨e,l1,l2,l3⟩:=uC hy;obtain⟨e2,r⟩:=KY (xM hm k) _ _ _ _ h (pL rfl) (kn hw ⟨⟨by lia,by lia⟩,trivial⟩) hs;refine⟨?_,r⟩;rw[<- e2,BY _ _ _ rfl,e,bT];rfl
  ·split at h
   ·cases h
   ·rename_i y hy
    obtain⟨e,hT⟩:=BO hy
    split at h
    ·rename_i hp
     obtain⟨e2,r⟩:=xM hm k _ _ _ _ h (show bh m .nil from trivial) (fun z hz=>by
      rcases aH.mp hz with rfl|hz
      ·exact⟨hT,hw⟩
      ·exact hs z hz)
     refine⟨?_,r⟩;rw[<- e2,e];have:=uT hp;unfold spS;show iz st cur++(if aC cur=true then [] else [32])++(cs y.1++y.2)=iz st cur++(if aC cur=true then [] else [32])++cs y.1++40 :: [] ++ []++y.2.drop 1
     conv=>lhs;rw[this]
     simp[bT]
    ·obtain⟨e2,r⟩:=KY (xM hm k) _ _ _ _ h (pL rfl) (kn hw ⟨hT,trivial,trivial⟩) hs;refine⟨?_,r⟩;rw[<- e2,BY _ _ _ rfl,e,bT];show spS st cur++(cs y.1++y.2)=spS st cur++((cs y.1++([] ++ []))++y.2);simp
theorem JQ{m:Nat}(hm:1<=m){t:List Nat}{x}(h:kx m t=some x):t=tR x.1++x.2/\gL m x.1:=by
 unfold kx at h
 split at h
 ·cases h
 ·rename_i n hn
  obtain⟨e1,_,l2,_⟩:=uC hn
  split at h
  ·cases h
  ·rename_i t1 ON
   have e2:=JD ON
   split at h
   ·cases h
   ·rename_i g hg
    obtain⟨e3,hT⟩:=BO hg
    split at h
    ·cases h
    ·rename_i t2 ht2
     have e4:=JD ht2;have hk:(0:Int)<=(n.1:Int)/\((n.1:Nat):Int)<(m:Int):=⟨by lia,by lia⟩
     split at h
     ·rename_i hp
      cases h;refine⟨?_,hk,hT,trivial⟩;have e5:=uT hp;show t=(48+n.1)::32::(cs g.1++(32::61::32 :: [123,125]))++t2.drop 2;rw[e1,e2,e3,e4]
      conv=>lhs;rw[e5]
      simp
     ·obtain⟨y,hy,rfl⟩:=oK.mp h;obtain⟨e5,n5,w5⟩:=xM hm _ _ _ _ _ hy (show bh m .nil from trivial) (fun _ h=>nomatch h)
      refine⟨?_,hk,hT,w5⟩;have e5:t2=tP y.1++y.2:=e5;show t=(48+n.1)::32::(cs g.1++(32::61::32::(if aC y.1=true then [123,125] else tP y.1)))++y.2
      rw[n5,af (by decide),e1,e2,e3,e4,e5];simp
theorem Kt:∀(a:List Rl)(r:Rl)(t:List Nat),cm (a ++ [r])++t=cm a++59::32::(tR r++t)
 | [],r,t=>by simp[cm]
 | x::a,r,t=>by
  show 59::32::(tR x++cm (a ++ [r]))++t=59::32::(tR x++cm a)++59::32::(tR r++t);rw[k_,k_,bT,Kt a r t];simp
theorem Ug{l:List Rl}{r:Rl}(h:(l.map aJ).Pairwise (fun a b=>bo.cU a b=true))(hl:iu l r=true):((l ++ [r]).map aJ).Pairwise (fun a b=>bo.cU a b=true):=by
 rw[fG,fb];refine⟨h,by simp,fun a ha b hb=>?_⟩;obtain rfl:b=aJ r:=by simpa using hb
 unfold iu at hl;cases hg:l.getLast? with
 | none =>
  rw[List.getLast?_eq_none_iff] at hg;subst hg;cases ha
 | some z =>
  rw[hg] at hl;have hl:bo.cU (aJ z) (aJ r)=true:=hl;obtain⟨ys,rfl⟩:=List.getLast?_eq_some_iff.mp hg;rw[fG,fb] at h;rw[fG] at ha;rcases bL.mp ha with ha|ha
  ·exact bo.mZ.trans _ _ _ (h.2.2 a ha (aJ z) (by simp)) hl
  ·obtain rfl:a=aJ z:=by simpa using ha
   exact hl
theorem Jw{m:Nat}(hm:1<=m):∀(k:Nat)(acc:List Rl)(t:List Nat)(x),i6 m k acc t=some x->(∀r∈acc,gL m r)->(acc.map aJ).Pairwise (fun a b=>bo.cU a b=true) ->
  cm acc++t=cm x/\(∀r∈x,gL m r)/\(x.map aJ).Pairwise (fun a b=>bo.cU a b=true)
 | 0,_,_,_,h,_,_=>by cases h
 | k+1,acc,t,x,h,ha,hp=>by
  unfold i6 at h
  split at h
  ·rename_i sY
   split at h
   ·cases h
   ·rename_i y hy
    obtain⟨e1,hw⟩:=JQ hm hy
    split at h
    ·rename_i hl
     obtain⟨e2,r⟩:=Jw hm k _ _ _ h (fun z hz=>by
      rcases bL.mp hz with hz|hz
      ·exact ha z hz
      ·rw[bi.mp hz];exact hw) (Ug hp hl)
     refine⟨?_,r⟩;rw[<- e2,Kt,<- e1];exact congrArg _ (uT sY)
    ·cases h
  ·split at h
   ·rename_i h0
    cases h;subst h0;exact⟨iP _,ha,hp⟩
   ·cases h
theorem SS{t:List Nat}{x}(h:gI t=some x):t=tC x.1 x.2/\oA x.1 x.2:=by
 unfold gI at h
 split at h
 ·cases h
 ·rename_i y hy
  obtain⟨e1,l1,l2,_⟩:=uC hy;obtain⟨z,hz,rfl⟩:=oK.mp h;obtain⟨e2,r⟩:=Jw l1 _ _ _ _ hz (fun _ h=>nomatch h) (by simp)
  refine⟨?_,⟨l1,l2⟩,r⟩;rw[e1];exact congrArg _ e2
theorem Md{P:Nat->Bool}{l r:List Nat}(h1:∀c∈l,P c=true)(h2:∀c r',r=c::r'->P c=false):(l++r).takeWhile P=l:=by
 induction l with
 | nil =>
  cases r with
  | nil=>rfl
  | cons c r =>
   rw[qQ,xh,h2 c r rfl];rfl
 | cons a l ih =>
  rw[k_,xh,h1 a (bb ..),ah rfl,ih fun c hc=>h1 c (aX _ hc)]
def sq(r:List Nat):Prop := ∀c r',r=c::r'->bV c=false/\bB c=false/\c≠40
theorem BC{c:Nat}{r:List Nat}(h:bV c=false/\bB c=false/\c≠40:=by decide):sq (c::r):=fun c' r' e=>by cases e;exact h
theorem CF{lo hi n:Nat}{r:List Nat}(h1:lo<=n)(h2:n<=hi)(h9:n<=9)(hr:∀c r',r=c::r'->bB c=false):pNum lo hi ((48+n)::r)=some (n,r):=by
 have e:((48+n)::r).takeWhile bB=[48+n]:=Md (l:=[48+n]) (fun c hc=>by
  rw[bi.mp hc];unfold bB;simp;lia) hr
 unfold pNum;rw[e];have e2:List.headD [48+n] 0-48=n:=by show 48+n-48=n;lia
 rw[e2,ah ⟨rfl,h1,h2⟩];rfl
theorem Ct{g:Str}{r:List Nat}(h:fR g)(hr:∀c r',r=c::r'->bV c=false):kz (cs g++r)=some (g,r):=by
 have e:(cs g++r).takeWhile bV=cs g:=Md (e_.mp h.1) hr;unfold kz;rw[e,ah ⟨h.2.1,h.2.2⟩,tT,sf]
theorem LU{g:Str}(h:fR g):∃c z,cs g=c::z/\bV c=true:=by
 cases hg:cs g with
 | nil =>
  have:=h.2.1;rw[hg] at this;cases this
 | cons c z=>exact⟨c,z,rfl,e_.mp h.1 c (by rw[hg];exact bb ..)⟩
theorem Mv{c:Nat}(h:bV c=true):bB c=false:=by
 unfold bV at h;unfold bB;simp at h ⊢;lia
theorem VZ{next}{c:Nat}{t:List Nat}{cur:Pa}{st:aZ}(h:c=32):cA next (c::t) cur st=next t cur st:=by
 subst h;have e:cF (32::t) cur st=(32::t,cur,st):=by
  rw[cF];intro t' w' o' ag e;cases e
 unfold cA;rw[e];rw[ah ⟨t,rfl⟩];rfl
def XT(o:Pa):List Nat:=if aC o=true then [] else 32::tP o
def MN(m:Nat)(p:Pa):Prop := ∀(k:Nat)(r:List Nat)(cur:Pa)(st:aZ),sq r->(tP p++r).length<k->∃k',r.length<k'/\bW m k (tP p++r) cur st=cA (bW m k') r (cur.app p) st
theorem Cg{m:Nat}{o:Pa}(ih:aC o=false->MN m o)(k:Nat)(r:List Nat)(cur:Pa)(st:aZ)(hr:sq r)(hk:(XT o++r).length<k):∃k',r.length<k'/\cA (bW m k) (XT o++r) cur st=cA (bW m k') r (cur.app o) st:=by
 unfold XT at hk ⊢;cases ho:aC o with
 | true =>
  obtain rfl:=km.mp ho;rw[ho,ah rfl] at hk;exact⟨k,hk,by rw[ah rfl,Pa.yg];rfl⟩
 | false =>
  rw[ho,af (by decide)] at hk;rw[af (by decide)];obtain⟨k',h1,h2⟩:=ih ho k r cur st hr (by simp only[k_,aO] at hk;lia);refine⟨k',h1,?_⟩;rw[k_,VZ rfl,h2]
theorem K5{o:Pa}{r:List Nat}(hr:sq r):sq (XT o++r):=by
 unfold XT
 split
 ·exact hr
 ·exact BC
theorem yD{n:Nat}(h:n<=9):bB (48+n)=true:=by
 unfold bB;simp;lia
theorem vc{m:Nat}(hm:m<=9):∀(p:Pa),aC p=false->bh m p->MN m p
 | .nil,h,_=>by cases h
 | .kids n o,_,hw=>by
  intro k r cur st hr hk;cases k with
  | zero=>exact absurd hk (ie _)
  | succ k =>
   have n0:=hw.1.1;have n1:=hw.1.2;have e:tP (.kids n o)++r=(48+n.toNat)::(XT o++r):=rfl;rw[e] at hk ⊢;have hx:=K5 (o:=o) hr;obtain⟨k',h1,h2⟩:=Cg (fun h=>vc hm o h hw.2) k r (cur.app (.kids n .nil)) st hr (by simp only[aO] at hk;lia);refine⟨k',h1,?_⟩;unfold bW;rw[ah (show C5 ((48+n.toNat)::(XT o++r))=true from yD (by lia)),CF (bj _) (by lia) (by lia) (fun c r' e=>(hx c r' e).2.1)];show cA (bW m k) (XT o++r) (cur.app (.kids ((n.toNat:Nat):Int) .nil)) st=_;rw[show((n.toNat:Nat):Int)=n by lia,h2,mT];rfl
 | .tag g w o,_,hw=>by
  intro k r cur st hr hk;cases k with
  | zero=>exact absurd hk (ie _)
  | succ k =>
   have hx:=K5 (o:=o) hr;obtain⟨c0,z0,hg,nH⟩:=LU hw.1;have jU:=hw.1.2.1;cases qw:aC w with
   | true =>
    obtain rfl:=km.mp qw;have e:tP (.tag g .nil o)++r=cs g++(XT o++r):=by
     show cs g++([]++XT o)++r=_;simp
    rw[e] at hk ⊢;obtain⟨k',h1,h2⟩:=Cg (fun h=>vc hm o h hw.2.2) k r (cur.app (.tag g .nil .nil)) st hr (by rw[bw] at hk;lia);refine⟨k',h1,?_⟩;unfold bW;rw[af (by rw[hg];show ¬ bB c0=true;rw[Mv nH];decide),Ct hw.1 (fun c r' e=>(hx c r' e).1)];show(if [40] <+: XT o++r then _ else cA (bW m k) (XT o++r) (cur.app (.tag g .nil .nil)) st)=_
    rw[af (fun⟨t',e⟩=>(hx 40 t' e.symm).2.2 rfl),h2,mT];rfl
   | false =>
    have e:tP (.tag g w o)++r=cs g++(40::(tP w++(41::(XT o++r)))):=by
     show cs g++((if aC w=true then [] else 40::(tP w ++ [41]))++XT o)++r=_
     rw[qw,af (by decide)];simp
    rw[e] at hk ⊢;obtain⟨k1,h1,h2⟩:=vc hm w qw hw.2.1 k (41::(XT o++r)) .nil ((g,cur)::st) BC (by simp only[bw,aO] at hk ⊢;lia);obtain⟨k',h3,h4⟩:=Cg (fun h=>vc hm o h hw.2.2) k1 r (cur.app (.tag g w .nil)) st hr (by simp only[aO] at h1;lia);refine⟨k',h3,?_⟩;unfold bW;rw[af (by rw[hg];show ¬ bB c0=true;rw[Mv nH];decide),Ct hw.1 (fun c r' e=>by cases e;decide)];show(if [40] <+: 40::(tP w++(41::(XT o++r))) then bW m k (tP w++(41::(XT o++r))) .nil ((g,cur)::st) else _)=_
    rw[ah ⟨_,rfl⟩,h2];have e5:cA (bW m k1) (41::(XT o++r)) (Pa.nil.app w) ((g,cur)::st)=cA (bW m k1) (XT o++r) (cur.app (.tag g w .nil)) st:=by
     unfold cA;rw[Bx];rfl
    rw[e5,h4,mT];rfl
def yH(r:List Nat):Prop:=r=[]\/∃r',r=59::r'
theorem yH.c{r:List Nat}(h:yH r):sq r:=by
 rcases h with rfl|⟨r',rfl⟩
 ·intro c r' e;cases e
 ·exact BC
theorem Mz{p:Pa}{m:Nat}(hm:m<=9)(h:aC p=false)(hw:bh m p):∃c z,tP p=c::z/\(bV c=true\/bB c=true):=by
 cases p with
 | nil=>cases h
 | kids n o=>exact⟨_,_,rfl,.inr (yD (by have:=hw.1.1;have:=hw.1.2;lia))⟩
 | tag g w o =>
  obtain⟨c0,z0,hg,nH⟩:=LU hw.1;refine⟨c0,z0++((if aC w=true then [] else 40::(tP w ++ [41]))++(if aC o=true then [] else 32::tP o)),?_,.inl nH⟩
  show cs g++_=_;rw[hg];rfl
theorem Ut{m:Nat}(hm:m<=9){r:Rl}{t:List Nat}(hw:gL m r)(ht:yH t):kx m (tR r++t)=some (r,t):=by
 obtain⟨n,g,p⟩:=r;obtain⟨⟨n0,n1⟩,hT,hp⟩:=hw;have n0:0<=n:=n0;have n1:n<m:=n1;have hT:fR g:=hT;have hp:bh m p:=hp;have e:tR (n,g,p)++t=(48+n.toNat)::32::(cs g++(32::61::32::((if aC p=true then [123,125] else tP p)++t))):=by
  unfold tR;simp
 rw[e];have hn:((n.toNat:Nat):Int)=n:=by lia
 unfold kx;rw[CF (bj _) (by lia) (by lia) (fun c r' e=>by cases e;decide)];dsimp only;have s1:ja [32] (32::(cs g++(32::61::32::((if aC p=true then [123,125] else tP p)++t))))=some (cs g++(32::61::32::((if aC p=true then [123,125] else tP p)++t))):=ah ⟨_,rfl⟩
 rw[s1];dsimp only;rw[Ct hT (fun c r' e=>by cases e;decide)];dsimp only;have s2:ja [32,61,32] (32::61::32::((if aC p=true then [123,125] else tP p)++t))=some ((if aC p=true then [123,125] else tP p)++t):=ah ⟨_,rfl⟩
 rw[s2];dsimp only;cases iJ:aC p with
 | true =>
  obtain rfl:=km.mp iJ;rw[ah rfl,ah ⟨t,rfl⟩,hn];rfl
 | false =>
  rw[af (show ¬ (false=true) from bf)];obtain⟨c,z,hc,kJ⟩:=Mz hm iJ hp;rw[af (show ¬ [123,125] <+: tP p++t from fun⟨t',e'⟩=>by
   rw[hc] at e';injection e' with e' _;subst e';exact absurd kJ (by decide))]
  obtain⟨k',h1,h2⟩:=vc hm p iJ hp ((tP p++t).length+1) t .nil [] ht.c (gP _);have e6:cF t p []=(t,p,[]):=by
   cases t with
   | nil=>rw[cF];simp
   | cons c t=>rw[cF];simp
  have e7:cA (bW m k') t (Pa.nil.app p) []=some (p,t):=by
   show cA (bW m k') t p []=some (p,t);unfold cA;rw[e6,af,ah rfl];rintro⟨t',e'⟩;rcases ht with rfl|⟨r',rfl⟩
   ·cases e'
   ·injection e' with e' _;cases e'
  rw[h2,e7,hn];rfl
theorem Ke(rs:List Rl):yH (cm rs):=by
 cases rs with
 | nil=>exact .inl rfl
 | cons r rs=>exact .inr ⟨_,rfl⟩
theorem Ku{m:Nat}(hm:m<=9):∀(rs acc:List Rl)(k:Nat),(cm rs).length<k->(∀r∈rs,gL m r)->((acc++rs).map aJ).Pairwise (fun a b=>bo.cU a b=true)->i6 m k acc (cm rs)=some (acc++rs)
 | [],acc,0,h,_,_=>absurd h (ie _)
 | [],acc,k+1,_,_,_=>by
  unfold i6;rw[af (fun⟨t',e⟩=>by cases e),ah (show cm [] =[] from rfl),iP]
 | r::rs,acc,0,h,_,_=>absurd h (ie _)
 | r::rs,acc,k+1,h,hw,hp=>by
  have e:cm (r::rs)=59::32::(tR r++cm rs):=rfl;rw[e] at h ⊢;unfold i6;rw[ah ⟨_,rfl⟩];show(match kx m (tR r++cm rs) with|none=>none|some x=>if iu acc x.1=true then i6 m k (acc ++ [x.1]) x.2 else none)=_
  rw[Ut hm (hw r (bb ..)) (Ke rs)];dsimp only;have hl:iu acc r=true:=by
   unfold iu;cases hg:acc.getLast? with
   | none=>rfl
   | some z =>
    obtain⟨ys,rfl⟩:=List.getLast?_eq_some_iff.mp hg;rw[fG,fb] at hp;exact hp.2.2 (aJ z) (by simp) (aJ r) (by simp)
  rw[ah hl,Ku hm rs (acc ++ [r]) k (by simp only[aO,bw] at h;lia) (fun x hx=>hw x (aX _ hx)) (by rw[bT];exact hp),bT];rfl
theorem MI{m:Nat}{rs:List Rl}(h:oA m rs):gI (tC m rs)=some (m,rs):=by
 obtain⟨⟨h1,h4⟩,hw,hp⟩:=h;have hs:=Ke rs;unfold gI tC;rw[CF h1 h4 (by lia) (fun c r' e=>(hs.c c r' e).2.1)];dsimp only;rw[Ku (by lia) rs [] _ (gP _) hw (by rw[qQ];exact hp)];rfl
def eI(wd:List Nat):Bool:=wd.all bV&&decide (1<=wd.length)&&decide (wd.length<=8)
def gq(m:Nat)(wd:List Nat):Bool:=decide (wd.length=1)&&decide (48<=wd.headD 0)&&decide (wd.headD 0<=51)&&decide (wd.headD 0-48<m)
def eN(m:Nat)(wd:List Nat)(cur:Pa):Option Pa :=
 if gq m wd=true then some (cur.app (.kids ((wd.headD 0-48:Nat):Int) .nil)) else if eI wd=true then some (cur.app (.tag (aN wd) .nil .nil)) else if wd=[] then some cur else none
abbrev Qs:=List Nat×Pa×aZ
def CZ(cur:Pa):aZ->Option Qs
 | []=>none
 | (w,o)::st=>some ([],o.app (.tag w cur .nil),st)
def da(m c:Nat)(wd:List Nat)(cur:Pa)(st:aZ):Option Qs :=
 if(bV c || bB c)=true then some (wd ++ [c],cur,st)
 else if ¬ (c=32\/c=40\/c=41)\/(c≠41/\wd=[]/\aC cur=true) then none
 else if(c=40/\eI wd=false)\/(c=41/\(st=[]\/(wd=[]/\aC cur=true))) then none
 else if c=40 then some ([],.nil,(aN wd,cur)::st)
 else match eN m wd cur with
  | none=>none
  | some bg=>if c=41 then CZ bg st else some ([],bg,st)
def bK(m:Nat):List Nat->List Nat->Pa->aZ->Option Qs
 | [],wd,cur,st=>some (wd,cur,st)
 | c::t,wd,cur,st=>match da m c wd cur st with
  | none=>none
  | some x=>bK m t x.1 x.2.1 x.2.2
def fE(m:Nat)(t:List Nat):Option Pa:=match bK m (t ++ [32]) [] .nil [] with
 | some (_,cur,[])=>some cur
 | _=>none
theorem uI{g:Str}:eI (cs g)=true↔fR g:=by
 unfold eI fR;rw[cP,cP,cC,cC,and_assoc]
theorem Cj{wd:List Nat}(h:eI wd=true):fR (aN wd):=uI.mp (by rw[dg];exact h)
theorem V2{m:Nat}{wd:List Nat}(h:eI wd=true):gq m wd=false:=by
 cases hn:gq m wd with
 | false=>rfl
 | true =>
  unfold gq at hn;unfold eI at h;simp only[cP,cC] at hn h;cases wd with
  | nil=>simp at hn
  | cons c z =>
   have:=e_.mp h.1.1 c (bb ..);unfold bV at this;simp only[cP,cC] at this;have h2:c<=51:=hn.1.2;lia
def nh(c:Nat)(cur:Pa)(st:aZ):Qs:=if c=41 then(match st with | []=>([],cur,[])|(w,o)::st=>([],o.app (.tag w cur .nil),st)) else([],cur,st)
def EW(c:Nat)(st:aZ):Prop:=c=32\/(c=41/\st ≠ [])
theorem Ks{m c:Nat}{wd:List Nat}{cur bg:Pa}{st:aZ}(hc:EW c st)(hn : ¬ (wd=[]/\aC cur=true))(hw:eN m wd cur=some bg):da m c wd cur st=some (nh c bg st):=by
 unfold da nh;rcases hc with rfl|⟨rfl,di⟩
 ·rw[af (by decide),af (by rintro(h|h);exact h (.inl rfl);exact hn h.2),af (by rintro(⟨h,_⟩|⟨h,_⟩) <;> cases h),af (by decide),hw]
  rfl
 ·rw[af (by decide),af (by rintro(h|h);exact h (.inr (.inr rfl));exact h.1 rfl),af (by rintro(⟨h,_⟩|⟨_,h⟩);cases h;rcases h with h|h;exact di h;exact hn h),af (by decide),hw];cases st with
  | nil=>exact absurd rfl di
  | cons x st=>rfl
theorem BJ{m:Nat}:∀(l r wd:List Nat)(cur:Pa)(st:aZ),(∀c∈l,bV c=true)->bK m (l++r) wd cur st=bK m r (wd++l) cur st
 | [],r,wd,cur,st,_=>by rw[qQ,iP]
 | c::l,r,wd,cur,st,h=>by
  have e:da m c wd cur st=some (wd ++ [c],cur,st):=by
   unfold da;rw[ah (by rw[h c (bb ..)];rfl)]
  rw[k_,bK,e];show bK m (l++r) (wd ++ [c]) cur st=_;rw[BJ l r (wd ++ [c]) cur st fun x hx=>h x (aX _ hx),bT];rfl
def MF(m:Nat)(p:Pa):Prop := ∀(c:Nat)(r:List Nat)(cur:Pa)(st:aZ),EW c st->bK m (tP p++c::r) [] cur st=bK m r (nh c (cur.app p) st).1 (nh c (cur.app p) st).2.1 (nh c (cur.app p) st).2.2
theorem CA{m:Nat}{o:Pa}(ih:aC o=false->MF m o)(c:Nat)(r wd:List Nat)(cur bg:Pa)(st:aZ)(hc:EW c st)(hn : ¬ (wd=[]/\aC cur=true))(hw:eN m wd cur=some bg) :
  bK m (XT o++c::r) wd cur st=bK m r (nh c (bg.app o) st).1 (nh c (bg.app o) st).2.1 (nh c (bg.app o) st).2.2:=by
 unfold XT;cases ho:aC o with
 | true =>
  obtain rfl:=km.mp ho;rw[ah rfl,qQ,bK,Ks hc hn hw,Pa.yg]
 | false =>
  rw[af (by decide),k_,bK,Ks (.inl rfl) hn hw];exact ih ho c r bg st hc
theorem vh{m:Nat}(hm:m<=4):∀(p:Pa),aC p=false->bh m p->MF m p
 | .nil,h,_=>by cases h
 | .kids n o,_,hw=>by
  intro c r cur st hc;have n0:=hw.1.1;have n1:=hw.1.2;have e:tP (.kids n o)++c::r=(48+n.toNat)::(XT o++c::r):=rfl;have e1:da m (48+n.toNat) [] cur st=some ([48+n.toNat],cur,st):=by
   unfold da;rw[ah (by rw[yD (show n.toNat<=9 by lia),Bool.or_true])];rfl
  have e2:eN m [48+n.toNat] cur=some (cur.app (.kids n .nil)):=by
   unfold eN;have:gq m [48+n.toNat]=true:=by
    unfold gq;simp;lia
   rw[ah this];show some (cur.app (.kids ((48+n.toNat-48:Nat):Int) .nil))=_;rw[show((48+n.toNat-48:Nat):Int)=n by lia]
  rw[e,bK,e1];show bK m (XT o++c::r) [48+n.toNat] cur st=_;rw[CA (fun h=>vh hm o h hw.2) c r _ cur _ st hc (fun h=>by cases h.1) e2,mT];rfl
 | .tag g w o,_,hw=>by
  intro c r cur st hc;have hg:=uI.mpr hw.1;have bQ:cs g ≠ []:=fun z=>by
   have:=hw.1.2.1;rw[z] at this;cases this
  cases qw:aC w with
  | true =>
   obtain rfl:=km.mp qw;have e:tP (.tag g .nil o)++c::r=cs g++(XT o++c::r):=by
    show cs g++([]++XT o)++c::r=_;simp
   have e2:eN m (cs g) cur=some (cur.app (.tag g .nil .nil)):=by
    unfold eN;rw[V2 hg,af (by decide),ah hg,sf]
   rw[e,BJ _ _ _ _ _ (e_.mp hw.1.1),qQ,CA (fun h=>vh hm o h hw.2.2) c r _ cur _ st hc (fun h=>bQ h.1) e2,mT];rfl
  | false =>
   have e:tP (.tag g w o)++c::r=cs g++(40::(tP w++(41::(XT o++c::r)))):=by
    show cs g++((if aC w=true then [] else 40::(tP w ++ [41]))++XT o)++c::r=_
    rw[qw,af (by decide)];simp
   have e1:da m 40 (cs g) cur st=some ([],.nil,(g,cur)::st):=by
    unfold da;rw[af (by decide),af (by rintro(h|h);exact h (.inr (.inl rfl));exact bQ h.2.1),af (by rintro(⟨_,h⟩|⟨h,_⟩);rw[hg] at h;cases h;cases h),ah rfl,sf]
   have e3:eN m [] (cur.app (.tag g w .nil))=some (cur.app (.tag g w .nil)):=by
    unfold eN;rw[af (show ¬ gq m []=true from bf),af (show ¬ eI []=true from bf),ah rfl]
   rw[e,BJ _ _ _ _ _ (e_.mp hw.1.1),qQ,bK,e1];show bK m (tP w++(41::(XT o++c::r))) [] .nil ((g,cur)::st)=_;rw[vh hm w qw hw.2.1 41 _ .nil ((g,cur)::st) (.inr ⟨rfl,List.cons_ne_nil _ _⟩)];show bK m (XT o++c::r) [] (cur.app (.tag g w .nil)) st=_;rw[CA (fun h=>vh hm o h hw.2.2) c r [] _ _ st hc (fun h=>by rw[pL rfl] at h;cases h.2) e3,mT];rfl
theorem L3{m:Nat}(hm:m<=4){p:Pa}(h:aC p=false)(hw:bh m p):fE m (tP p)=some p:=by
 unfold fE;rw[vh hm p h hw 32 [] .nil [] (.inl rfl)];rfl
theorem SU{m:Nat}{wd:List Nat}{cur bg:Pa}(h:eN m wd cur=some bg)(hw:bh m cur):bh m bg:=by
 unfold eN at h
 split at h
 ·rename_i hn
  cases h;unfold gq at hn;simp only[cP,cC] at hn;exact kn hw ⟨⟨by lia,by lia⟩,trivial⟩
 ·split at h
  ·rename_i hg
   cases h;exact kn hw ⟨Cj hg,trivial,trivial⟩
  ·split at h
   ·cases h;exact hw
   ·cases h
theorem Tw{m c:Nat}{wd:List Nat}{cur:Pa}{st:aZ}{x:Qs}(h:da m c wd cur st=some x)(hw:bh m cur)(hs:mC m st):bh m x.2.1/\mC m x.2.2:=by
 unfold da at h
 split at h
 ·cases h;exact⟨hw,hs⟩
 ·split at h
  ·cases h
  ·split at h
   ·cases h
   ·rename_i fj
    split at h
    ·rename_i fA
     cases h;refine⟨trivial,fun z hz=>?_⟩;rcases aH.mp hz with rfl|hz
     ·refine⟨Cj ?_,hw⟩;cases ht:eI wd with
      | true=>rfl
      | false=>exact absurd (.inl ⟨fA,ht⟩) fj
     ·exact hs z hz
    ·split at h
     ·cases h
     ·rename_i bg hq
      have ka:=SU hq hw
      split at h
      ·cases st with
       | nil=>cases h
       | cons y st =>
        cases h;have hy:=hs y (bb ..);exact⟨kn hy.2 ⟨hy.1,ka,trivial⟩,fun z hz=>hs z (aX _ hz)⟩
      ·cases h;exact⟨ka,hs⟩
theorem JZ{m:Nat}:∀(t wd:List Nat)(cur:Pa)(st:aZ)(x:Qs),bK m t wd cur st=some x->bh m cur->mC m st->bh m x.2.1/\mC m x.2.2
 | [],wd,cur,st,x,h,hw,hs=>by
  cases h;exact⟨hw,hs⟩
 | c::t,wd,cur,st,x,h,hw,hs=>by
  rw[bK] at h
  split at h
  ·cases h
  ·rename_i y hy
   obtain⟨h1,h2⟩:=Tw hy hw hs;exact JZ t _ _ _ _ h h1 h2
theorem SM{m:Nat}{t:List Nat}{p:Pa}(h:fE m t=some p):bh m p:=by
 unfold fE at h
 split at h
 ·rename_i wd cur hq
  cases h;exact(JZ _ _ _ _ _ hq trivial (fun _ h=>nomatch h)).1
 ·cases h
structure bq(H H1:Hp)(R T:Addr)(as:List Addr)(gs:List Pa)(ts:List Str):Prop where
 sm:ZD H H1
 hT:H1 T=some (.lst ((ts.map V.str).reverse))
 hR:H1 R=some (.lst ((as.map V.ref).reverse))
 rows:Paired (fun a g=>∃xs,H1 a=some (.lst xs)/\br H1 xs g) as gs
 nd:(R::T::as).Nodup
 fr:∀b∈R::T::as,H b=none
 gl:gs.length=ts.length+1
section
variable{H H1:Hp}{R T:Addr}{as:List Addr}{gs:List Pa}{ts:List Str}
theorem Jq{H1:Hp}:∀{as:List Addr}{gs:List Pa},Paired (fun a g=>∃xs,H1 a=some (.lst xs)/\br H1 xs g) as gs->∀b∈as,∃o,H1 b=some o
 | _,_,.cons ⟨xs,h,_⟩ t,b,hb=>by
  rcases aH.mp hb with rfl|hb
  ·exact⟨_,h⟩
  ·exact Jq t b hb
theorem pA{H1 H2:Hp}(k:TK H1 H2):∀{as:List Addr}{gs:List Pa},Paired (fun a g=>∃xs,H1 a=some (.lst xs)/\br H1 xs g) as gs->(∀b∈as,∀o,H1 b=some o->H2 b=some o)->Paired (fun a g=>∃xs,H2 a=some (.lst xs)/\br H2 xs g) as gs
 | _,_,.nil,_=>.nil
 | _,_,.cons ⟨xs,h,r⟩ t,kb=>.cons ⟨xs,kb _ (bb ..) _ h,r.mono k⟩ (pA k t fun b hb=>kb b (aX _ hb))
theorem bq.nR(h:bq H H1 R T as gs ts):∀b∈as,b≠R:=fun b hb e=>(dO.mp h.nd).1 (by rw[<- e];exact aX _ hb)
theorem bq.nT(h:bq H H1 R T as gs ts):∀b∈as,b≠T:=fun b hb e=>(dO.mp (dO.mp h.nd).2).1 (by rw[<- e];exact hb)
theorem bq.RT(h:bq H H1 R T as gs ts):R≠T:=fun e=>(dO.mp h.nd).1 (by rw[e];exact bb ..)
theorem bq.opened{wd:Str}{l:Addr}(h:bq H H1 R T as gs ts)(hl:(upd H1 T (.lst ((ts.map V.str).reverse ++ [.str wd]))) l=none):bq H (upd (upd (upd H1 T (.lst ((ts.map V.str).reverse ++ [.str wd]))) l (.lst [])) R (.lst ((as.map V.ref).reverse ++ [.ref l]))) R T (l::as) (.nil::gs) (wd::ts):=by
 obtain⟨Az,dh⟩:=Z1 hl;have qC:R≠l:=Zo h.hR dh;have qc:=h.RT;have gA:(upd (upd H1 T (.lst ((ts.map V.str).reverse ++ [.str wd]))) l (.lst [])) R=some (.lst (as.map V.ref).reverse):=by
  rw[Zi qC,Zi qc];exact h.hR
 have tk:TK H1 (upd (upd (upd H1 T (.lst ((ts.map V.str).reverse ++ [.str wd]))) l (.lst [])) R (.lst ((as.map V.ref).reverse ++ [.ref l]))):=((TK.lst h.hT).trans (TK.new hl)).trans (TK.lst gA);have nla:l∉as:=fun hb=>by
  obtain⟨o,ho⟩:=Jq h.rows l hb;rw[dh] at ho;cases ho
 obtain⟨G5,G6⟩:=dO.mp h.nd;obtain⟨Bg,G4⟩:=dO.mp G6;refine⟨((h.sm.eW (h.fr T (by simp))).eW (h.sm.free dh)).eW (h.fr R (by simp)),?_,?_,.cons ⟨[],?_,.nil⟩ (pA tk h.rows fun b hb o ho=>?_),?_,?_,by rw[aO,aO,h.gl]⟩
 ·rw[Zi qc.symm,Zi Az.symm,Zc,bt,gN]
 ·rw[Zc,bt,gN]
 ·rw[Zi qC.symm];exact Zc
 ·rw[Zi (h.nR b hb),Zi (Zo ho dh),Zi (h.nT b hb)];exact ho
 ·refine dO.mpr ⟨fun h=>?_,dO.mpr ⟨fun h=>?_,dO.mpr ⟨nla,G4⟩⟩⟩
  ·rcases aH.mp h with h|h
   ·exact qc h
   ·rcases aH.mp h with h|h
    ·exact qC h
    ·exact G5 (aX _ h)
  ·rcases aH.mp h with h|h
   ·exact Az h.symm
   ·exact Bg h
 ·intro b hb;simp only[aH] at hb;rcases hb with rfl|rfl|rfl|hb
  ·exact h.fr _ (by simp)
  ·exact h.fr _ (by simp)
  ·exact h.sm.free dh
  ·exact h.fr b (by simp[hb])
theorem bq.put{b0 pt:Addr}{g0 q:Pa}{vs:List V}{a1:List Addr}{g1:List Pa}(h:bq H H1 R T (b0::a1) (g0::g1) ts)(h0:H1 b0=some (.lst vs))(r0:br H1 vs g0)(s:ZD H1 H2)(hq:br (upd H2 b0 (.lst (vs ++ [.ref pt]))) [.ref pt] q):bq H (upd H2 b0 (.lst (vs ++ [.ref pt]))) R T (b0::a1) (g0.app q::g1) ts:=by
 have tk:TK H1 (upd H2 b0 (.lst (vs ++ [.ref pt]))):=s.tk.trans (TK.lst (s _ _ h0));have nb:∀b∈a1,b≠b0:=fun b hb e=>(dO.mp (dO.mp (dO.mp h.nd).2).2).1 (by rw[<- e];exact hb);have cH:=h.rows;cases cH with
 | cons r t =>
  refine⟨(h.sm.trans s).eW (h.fr b0 (by simp)),?_,?_,.cons ⟨_,Zc,(r0.mono tk).app hq⟩ (pA tk t fun b hb o ho=>?_),h.nd,h.fr,h.gl⟩
  ·rw[Zi (h.nT b0 (bb ..)).symm];exact s _ _ h.hT
  ·rw[Zi (h.nR b0 (bb ..)).symm];exact s _ _ h.hR
  ·rw[Zi (nb b hb)];exact s _ _ ho
theorem bq.two(h:bq H H1 R T as gs (t::ts)):∃b0 b1 a2 g0 g1 g2 vs0 eX,as=b0::b1::a2/\gs=g0::g1::g2/\H1 b0=some (.lst vs0)/\br H1 vs0 g0/\H1 b1=some (.lst eX)/\br H1 eX g1/\H1 R=some (.lst (((b1::a2).map V.ref).reverse ++ [.ref b0]))/\H1 T=some (.lst ((ts.map V.str).reverse ++ [.str t])):=by
 have jU:=h.gl;have hR:=h.hR;have hT:=h.hT;have cH:=h.rows;cases gs with
 | nil=>simp at jU
 | cons g0 gs =>
  cases gs with
  | nil=>simp at jU
  | cons g1 gs =>
   cases cH with
   | @cons b0 _ as _ r0 cH =>
    cases cH with
    | @cons b1 _ as _ r1 cH =>
     obtain⟨vs0,cx,dU⟩:=r0;obtain⟨eX,eR,iN⟩:=r1;refine⟨b0,b1,as,g0,g1,gs,vs0,eX,rfl,rfl,cx,dU,eR,iN,?_,?_⟩
     ·rw[hR,bt,gN]
     ·rw[hT,bt,gN]
theorem bq.popped{b0:Addr}{g0:Pa}{a1:List Addr}{g1:List Pa}{t:Str}{l:Addr}{vs0:List V}(h:bq H H1 R T (b0::a1) (g0::g1) (t::ts))(hl:(upd H1 R (.lst ((a1.map V.ref).reverse))) l=none):bq H (upd (upd (upd H1 R (.lst ((a1.map V.ref).reverse))) l (.tup vs0)) T (.lst ((ts.map V.str).reverse))) R T a1 g1 ts:=by
 obtain⟨qC,dh⟩:=Z1 hl;have qc:=h.RT;have Az:T≠l:=Zo h.hT dh;have iD:(upd (upd H1 R (.lst ((a1.map V.ref).reverse))) l (.tup vs0)) T=some (.lst (((t::ts).map V.str).reverse)):=by
  rw[Zi Az,Zi qc.symm];exact h.hT
 have tk:TK H1 (upd (upd (upd H1 R (.lst ((a1.map V.ref).reverse))) l (.tup vs0)) T (.lst ((ts.map V.str).reverse))):=((TK.lst h.hR).trans (TK.new hl)).trans (TK.lst iD);have jU:=h.gl;have cH:=h.rows;have nRs:=h.nR;have nTs:=h.nT;cases cH with
 | cons r rt =>
  obtain⟨G5,G6⟩:=dO.mp h.nd;obtain⟨Bg,G4⟩:=dO.mp G6;refine⟨((h.sm.eW (h.fr R (by simp))).eW (h.sm.free dh)).eW (h.fr T (by simp)),Zc,?_,pA tk rt fun b hb o ho=>?_,?_,fun b hb=>h.fr b ?_,by simp at jU ⊢;lia⟩
  ·rw[Zi qc,Zi qC.symm];exact Zc
  ·rw[Zi (nTs b (aX _ hb)),Zi (Zo ho dh),Zi (nRs b (aX _ hb))];exact ho
  ·refine dO.mpr ⟨fun z=>G5 ?_,dO.mpr ⟨fun z=>Bg (aX _ z),(dO.mp G4).2⟩⟩;rcases aH.mp z with z|z
   ·exact absurd z qc
   ·exact aX _ (aX _ z)
  ·simp only[aH] at hb ⊢;rcases hb with h|h|h
   ·exact .inl h
   ·exact .inr (.inl h)
   ·exact .inr (.inr (.inr h))
end
theorem bq.AK{H H1:Hp}{R T b0 b1 l l2:Addr}{a2:List Addr}{g0 g1:Pa}{g2:List Pa}{t:Str}{ts:List Str}{vs0 eX:List V}(h:bq H H1 R T (b0::b1::a2) (g0::g1::g2) (t::ts))(h0:H1 b0=some (.lst vs0))(r0:br H1 vs0 g0)(h1:H1 b1=some (.lst eX))(r1:br H1 eX g1)
  (hl:(upd H1 R (.lst ((b1::a2).map V.ref).reverse)) l=none) (gD:(upd (upd (upd H1 R (.lst ((b1::a2).map V.ref).reverse)) l (.tup vs0)) T (.lst (ts.map V.str).reverse)) l2=none) :
  (upd H1 R (.lst ((b1::a2).map V.ref).reverse)) b0=some (.lst vs0)/\(upd (upd H1 R (.lst ((b1::a2).map V.ref).reverse)) l (.tup vs0)) R=some (.lst ((a2.map V.ref).reverse ++ [.ref b1]))/\(upd (upd H1 R (.lst ((b1::a2).map V.ref).reverse)) l (.tup vs0)) b1=some (.lst eX)/\(upd (upd H1 R (.lst ((b1::a2).map V.ref).reverse)) l (.tup vs0)) T=some (.lst ((ts.map V.str).reverse ++ [.str t])) /\
  (upd (upd (upd (upd H1 R (.lst ((b1::a2).map V.ref).reverse)) l (.tup vs0)) T (.lst (ts.map V.str).reverse)) l2 (.tup [.str "tag",.str t,.ref l])) b1=some (.lst eX) /\
  bq H (upd (upd (upd (upd (upd H1 R (.lst ((b1::a2).map V.ref).reverse)) l (.tup vs0)) T (.lst (ts.map V.str).reverse)) l2 (.tup [.str "tag",.str t,.ref l])) b1 (.lst (eX ++ [.ref l2]))) R T (b1::a2) (g1.app (.tag t g0 .nil)::g2) ts:=by
 have hp:=h.popped (vs0:=vs0) hl;obtain⟨qC,dh⟩:=Z1 hl;have n0R:=h.nR b0 (by simp);have n1R:=h.nR b1 (by simp);have n1T:=h.nT b1 (by simp);have n1l:b1≠l:=Zo h1 dh;have Pd:T≠l:=Zo h.hT dh;have NO:(upd (upd H1 R (.lst ((b1::a2).map V.ref).reverse)) l (.tup vs0)) b1=some (.lst eX):=by
  rw[Zi n1l,Zi n1R];exact h1
 have sI:(upd (upd H1 R (.lst ((b1::a2).map V.ref).reverse)) l (.tup vs0)) T=some (.lst ((ts.map V.str).reverse ++ [.str t])):=by
  rw[Zi Pd,Zi h.RT.symm,h.hT,bt,gN]
 have zj:(upd (upd (upd H1 R (.lst ((b1::a2).map V.ref).reverse)) l (.tup vs0)) T (.lst (ts.map V.str).reverse)) b1=some (.lst eX):=by
  rw[Zi n1T];exact NO
 have PN:TK H1 (upd (upd (upd H1 R (.lst ((b1::a2).map V.ref).reverse)) l (.tup vs0)) T (.lst (ts.map V.str).reverse)):=((TK.lst h.hR).trans (TK.new hl)).trans (TK.lst sI);have s2:ZD (upd (upd (upd H1 R (.lst ((b1::a2).map V.ref).reverse)) l (.tup vs0)) T (.lst (ts.map V.str).reverse)) (upd (upd (upd (upd H1 R (.lst ((b1::a2).map V.ref).reverse)) l (.tup vs0)) T (.lst (ts.map V.str).reverse)) l2 (.tup [.str "tag",.str t,.ref l])):=ZD.new gD;have n2b:l2≠b1:=fun z=>by rw[z,zj] at gD;cases gD
 have PM:=s2.tk.trans (TK.lst (o:=.lst (eX ++ [.ref l2])) (s2 _ _ zj));refine⟨by rw[Zi n0R];exact h0,?_,NO,sI,s2 _ _ zj,hp.put (pt:=l2) (q:=.tag t g0 .nil) zj (r1.mono PN) s2 (.tag (q:=l) ?_ ?_ ((r0.mono PN).mono PM) .nil)⟩
 ·rw[Zi qC.symm,Zc,bt,gN]
 ·rw[Zi n2b];exact Zc
 ·refine PM _ _ ?_;rw[Zi Pd.symm];exact Zc
theorem bq.Hg{H:Hp}{a0 R T:Addr}(hT:H T=none)(h0:(upd H T (.lst [])) a0=none)(hR:(upd (upd H T (.lst [])) a0 (.lst [])) R=none):bq H (upd (upd (upd H T (.lst [])) a0 (.lst [])) R (.lst [.ref a0])) R T [a0] [.nil] []:=by
 obtain⟨O_,oY⟩:=Z1 h0;obtain⟨Pb,hR1⟩:=Z1 hR;obtain⟨Pc,Ii⟩:=Z1 hR1;refine⟨((ZD.new hT).eW oY).eW Ii,?_,Zc,.cons ⟨[],?_,.nil⟩ .nil,?_,?_,rfl⟩
 ·rw[Zi Pc.symm,Zi O_.symm];exact Zc
 ·rw[Zi Pb.symm];exact Zc
 ·simp[Pc,Pb,O_.symm]
 ·intro b hb;simp only[aH,xg,or_false] at hb;rcases hb with rfl|rfl|rfl
  ·exact Ii
  ·exact hT
  ·exact oY
theorem bq.more{H H1 H2:Hp}{R T:Addr}{as:List Addr}{gs:List Pa}{ts:List Str}(h:bq H H1 R T as gs ts)(s:ZD H1 H2):bq H H2 R T as gs ts :=
 ⟨h.sm.trans s,s _ _ h.hT,s _ _ h.hR,pA s.tk h.rows fun b _ o e=>s b o e,h.nd,h.fr,h.gl⟩
structure il(K:PySem.W.Frag)(C:Addr):Prop where
 cls:gT K C
 nt:lQ K C "text"
 na:lQ K C "at"
def srF(T:Str)(n:Nat):List (Str×V):=[("text",.str T),("at",.int (n:Int))]
def cb(C:Addr)(H:Hp)(a dx:Addr)(T:Str)(n:Nat):Prop:=H a=some (.ins C dx (srF T n))
def av(T:Str)(n:Nat):List Nat:=(cs T).drop n
def aP(a:Addr)(H H':Hp):Prop := ∀b o,b≠a->H b=some o->H' b=some o
theorem aP.refl{a:Addr}{H:Hp}:aP a H H:=fun _ _ _ h=>h
theorem aP.trans{a:Addr}{H H1 H2:Hp}(x:aP a H H1)(y:aP a H1 H2):aP a H H2:=fun b o h1 h=>y b o h1 (x b o h1 h)
theorem aP.same{a:Addr}{H H1:Hp}(x:ZD H H1):aP a H H1:=fun b o _ h=>x b o h
theorem aP.up{a:Addr}{H:Hp}{o:HO}:aP a H (upd H a o):=fun b o' h1 h=>by rw[Zi h1];exact h
def Cm(C:Addr):Sp:=fun vs H Q _=>∃(a dx:Addr)(T:Str),vs=[.ref a,.str T]/\H a=some (.ins C dx [])/\∀H',aP a H H'->cb C H' a dx T 0->Q .aE H'
def CC(C:Addr):Sp:=fun vs H Q _=>∃(a dx:Addr)(T:Str)(n:Nat)(p:Str),vs=[.ref a,.str p]/\cb C H a dx T n/\n<=T.length/\Q (.bl (decide (cs p <+: av T n))) H
def rX(C:Addr):Sp:=fun vs H Q _=>∃(a dx:Addr)(T:Str)(n:Nat)(p:Str),vs=[.ref a,.str p]/\cb C H a dx T n/\n<=T.length/\p.length<=1000/\(¬ cs p <+: av T n->Q (.bl false) H)/\(cs p <+: av T n->∀H',aP a H H'->cb C H' a dx T (n+p.length)->Q (.bl true) H')
def yo(C:Addr):Sp:=fun vs H Q _=>∃(a dx:Addr)(T:Str)(n:Nat),vs=[.ref a]/\cb C H a dx T n/\T.length<=90000/\Q (.bl (decide (n=T.length))) H
variable{C:Addr}
theorem Qy(B:∀x∈cG,mg x=none)(c:il K C)(F:bP K "__init__" "Source.__init__" ro f fd):aY P w K mg base cq 1 f fd ["self","text"] (Cm C):=by
 refine F.ok Qv (fun vs H Q E h=>?_) (fun aL A outer s H vs Q E hr h=>?_)
 ·obtain⟨a,dx,T,rfl,_⟩:=h;rfl
 obtain⟨a,dx,T,rfl,ha,q⟩:=h;refine⟨_,(Ze (LY (pv 0) (pv 1) rfl)
  (Zf (LY (pv 0) Zg rfl))),?_⟩
 refine⟨_,rfl,_,rfl,a,C,dx,[],rfl,ha,c.cls,c.nt,by decide,?_⟩;refine⟨_,rfl,a,C,dx,_,rfl,Zc,c.cls,c.na,(show 1<1000 by decide),?_⟩;exact q _ (aP.up.trans aP.up) Zc
theorem QP(B:∀x∈cG,mg x=none)(c:il K C)(F:bP K "sees" "Source.sees" rk f fd):aY P w K mg base cq 1 f fd ["self","piece"] (CC C):=by
 refine F.ok QO (fun vs H Q E h=>?_) (fun aL A outer s H vs Q E hr h=>?_)
 ·obtain⟨a,dx,T,n,p,rfl,_⟩:=h;rfl
 obtain⟨a,dx,T,n,p,rfl,ha,hn,q⟩:=h;refine⟨_,(Zf (Zz (cw mH PySem.F.slot_str_startswith PySem.F.type_str_startswith Sq (i8 (pv 0) rfl) (Za (pv 1) (Za (i8 (pv 0) rfl) Zb))))),?_⟩;refine⟨_,rfl,a,C,dx,_,_,rfl,ha,c.cls,c.nt,rfl,rfl,_,rfl,_,rfl,a,C,dx,_,_,rfl,ha,c.cls,c.na,rfl,T,p,n,rfl,rfl,hn,q⟩
theorem QC(B:∀x∈cG,mg x=none)(bD:il K C)(E5:gk P w K mg base C "sees" ["self","piece"] 1 (CC C)) (F:bP K "skips" "Source.skips" rA f fd):aY P w K mg base cq 2 f fd ["self","piece"] (rX C):=by
 refine F.ok Qz (fun vs H Q E h=>?_) (fun aL A outer s H vs Q E hr h=>?_)
 ·obtain⟨a,dx,T,n,p,rfl,_⟩:=h;rfl
 obtain⟨a,dx,T,n,p,rfl,ha,hn,hp,q1,q2⟩:=h;have c:=bD;refine⟨_,(Ze (bu (jB (ZZ (lM E5 hr (pv 0) bD.cls (Za (pv 1) Zb)) (fun _=>rfl)))
   (Zf (Zz ku))
   ZC)
  (Ze (J0 (pv 0) (ZF pz rfl (B "len" (by decide)) gc (Za (pv 1) Zb)) Mc)
  (Zf (Zz ku)))),?_⟩
 refine⟨_,rfl,a,dx,_,rfl,ha,rfl,_,rfl,a,dx,T,n,p,rfl,ha,hn,_,rfl,?_⟩;by_cases e:cs p <+: av T n
 ·rw[aR e];refine aF ?_;refine⟨_,rfl,a,C,dx,_,_,rfl,ha,c.cls,c.na,rfl,_,rfl,p,rfl,Zk (by lia),_,_,rfl,rfl,dx,_,ha,(show 2<1000 by decide),?_⟩;exact q2 e _ aP.up Zc
 ·rw[a_ e];exact aI (q1 e)
theorem rM{a y:Addr}{H H1:Hp}{o:HO}(b:aP a H H1)(hy:H1 y=none):aP a H (upd H1 y o):=fun b' o' hb h=>by
 have:=b b' o' hb h;rw[Zi fun z=>by rw[z,hy] at this;cases this];exact this
theorem Qt(B:∀x∈cG,mg x=none)(c:il K C)(F:bP K "at_end" "Source.at_end" rq f fd):aY P w K mg base cq 1 f fd ["self"] (yo C):=by
 refine F.ok Qu (fun vs H Q E h=>?_) (fun aL A outer s H vs Q E hr h=>?_)
 ·obtain⟨a,dx,T,n,rfl,_⟩:=h;rfl
 obtain⟨a,dx,T,n,rfl,ha,hT,q⟩:=h;refine⟨_,(Zf (Zz (ye fw (i8 (pv 0) rfl) (ZF pz rfl (B "len" (by decide)) gc (Za (i8 (pv 0) rfl) Zb)) (ZK _)))),?_⟩;refine⟨_,rfl,a,C,dx,_,_,rfl,ha,c.cls,c.na,rfl,_,rfl,a,C,dx,_,_,rfl,ha,c.cls,c.nt,rfl,T,rfl,Zk (by lia),rfl,?_⟩;have e:decide (V.int (n:Int)=V.int ((T.length:Nat):Int))=decide (n=T.length):=by
  by_cases h:n=T.length
  ·rw[h,aR rfl,aR rfl]
  ·rw[a_ h];exact a_ fun z=>h (by injection z with z;lia)
 show Q (.bl (decide (V.int (n:Int)=V.int ((T.length:Nat):Int)))) H;rw[e];exact q
theorem Mw{P:Nat->Bool}:∀{l:List Nat}{i:Nat},(∀c∈l.take i,P c=true)->(∀c,l[i]?= some c->P c=false)->l.takeWhile P=l.take i
 | [],i,_,_=>by simp
 | x::l,0,_,h=>by
  rw[xh,h x rfl];rfl
 | x::l,i+1,h1,h2=>by
  have hx:P x=true:=h1 x (bb ..);rw[xh,ah hx,Mw (i:=i) (fun c hc=>h1 c (aX _ hc)) (fun c hc=>h2 c hc)];rfl
def xS(C:Addr):Sp:=fun vs H Q _=>∃(a dx:Addr)(T:Str)(n:Nat)(lo hi:Nat),vs=[.ref a,.str ⟨#[lo]⟩,.str ⟨#[hi]⟩]/\cb C H a dx T n/\n<=T.length/\T.length<=90000 /\
 ∀(z:Str)(H':Hp),cs z=(av T n).takeWhile (fun c=>decide (lo<=c)&&decide (c<=hi))->aP a H H'->cb C H' a dx T (n+z.length)->Q (.str z) H'
set_option maxHeartbeats 1000000 in
theorem Qr(B:∀x∈cG,mg x=none)(bD:il K C)(sA:gk P w K mg base C "at_end" ["self"] 1 (yo C)) (F:bP K "take_letters" "Source.take_letters" ZQ f fd):aY P w K mg base cq 2 f fd ["self","first","last"] (xS C):=by
 refine F.ok IY (fun vs H Q E h=>?_) (fun aL A outer s H vs Q E hr h=>?_)
 ·obtain⟨a,dx,T,n,lo,hi,rfl,_⟩:=h;rfl
 obtain⟨a,dx,T,n,lo,hi,rfl,ha,hn,hT,q⟩:=h;have c:=bD;have hl:(cs T).length=T.length:=aB;refine⟨_,(Ze (Zx (i:=3) IY.nd rfl (Or.inl rfl) (i8 (pv 0) rfl))
  (Ze (uG iR (PW.pt (jx (jB (ZZ (KN sA hr (pv 0) bD.cls) (fun _=>rfl))) (kq (BW xR xR (pv 1) (bp jz (i8 (pv 0) rfl) (i8 (pv 0) rfl) (fun _ _=>rfl)) (pv 2)))))
   (Zf (J0 (pv 0) Zg Mc)))
  (Zf (Zz (fM kr (i8 (pv 0) rfl) (eM (pv 3)) (eM (i8 (pv 0) rfl))))))),?_⟩
 refine⟨_,rfl,a,C,dx,_,_,rfl,ha,c.cls,c.na,rfl,?_⟩;have done:∀(i:Nat)(H1:Hp),aP a H H1->cb C H1 a dx T (n+i)->n+i<=T.length->(∀d∈(av T n).take i,(decide (lo<=d)&&decide (d<=hi))=true)->(∀d,(av T n)[i]?= some d->(decide (lo<=d)&&decide (d<=hi))=false) ->
   C6 (PL (fun x lo hi H Q=>∃z,x=V.str z/\z.length<=sizeLine/\Q (V.str (StrLaws.sliceText z lo hi)) H) (C_ K (vi 0) "text") (CN (vi 3)) (CN (C_ K (vi 0) "at"))) { nx:=fun _ H'=>Q .aE H',rt:=Q } [some (.ref a),some (.str ⟨#[lo]⟩),some (.str ⟨#[hi]⟩),some (.int (n:Int))] H1:=fun i H1 b1 h1 hle hp hq=>by
  refine⟨_,rfl,a,C,dx,_,_,rfl,h1,c.cls,c.nt,rfl,_,rfl,_,rfl,_,rfl,a,C,dx,_,_,rfl,h1,c.cls,c.na,rfl,((n+i:Nat):Int),rfl,T,rfl,Zk (by lia),?_⟩;have e:StrLaws.sliceText T (some (n:Int)) (some ((n+i:Nat):Int))=⟨((av T n).take i).toArray⟩:=by
   rw[StrLaws.sliceText_nat T (by lia) hle,Nat.add_sub_cancel_left];rfl
  rw[e];have ez:cs (⟨((av T n).take i).toArray⟩:Str)=(av T n).take i:=by unfold cs;exact xj
  have lz:(⟨((av T n).take i).toArray⟩:Str).length=i:=by
   have:(cs (⟨((av T n).take i).toArray⟩:Str)).length=(⟨((av T n).take i).toArray⟩:Str).length:=aB;rw[<- this,ez,dN];unfold av;rw[dF,hl];lia
  exact q _ H1 (ez.trans (Mw hp hq).symm) b1 (by rw[lz];exact h1)
 refine⟨fun m σ H1=>∃i:Nat,m=T.length-(n+i) /\ σ =[some (.ref a),some (.str ⟨#[lo]⟩),some (.str ⟨#[hi]⟩),some (.int (n:Int))]/\aP a H H1/\cb C H1 a dx T (n+i)/\n+i<=T.length/\∀d∈(av T n).take i,(decide (lo<=d)&&decide (d<=hi))=true,⟨_,0,rfl,rfl,aP.refl,ha,hn,fun _ h=>nomatch h⟩,?_⟩
 rintro m σ H1 ⟨i,rfl,rfl,b1,h1,hle,hp⟩;refine⟨_,rfl,a,dx,_,rfl,h1,rfl,a,dx,T,n+i,rfl,h1,hT,_,rfl,?_⟩;by_cases e:n+i=T.length
 ·rw[aR e];refine aF (aF ?_);refine done i H1 b1 h1 hle hp fun d hd=>?_;have:=(cB.mp hd).1;unfold av at this;rw[dF,hl] at this;lia
 ·rw[a_ e];have aD:n+i<(cs T).length:=by lia
  have nH:(cs T)[n+i]?= some (cs T)[n+i]:=cI aD;obtain⟨d,hd⟩:∃d,(cs T)[n+i]=d:=⟨_,rfl⟩;rw[hd] at nH;have sM:(av T n)[i]?= some d:=by unfold av;rw[j3];exact nH
  refine aI ?_;refine⟨_,rfl,_,rfl,a,C,dx,_,_,rfl,h1,c.cls,c.nt,rfl,_,rfl,a,C,dx,_,_,rfl,h1,c.cls,c.na,rfl,T,((n+i:Nat):Int),d,rfl,rfl,Zk (by lia),i9 nH,_,_,rfl,rfl,_,rfl,?_⟩;have e1:=si lo d;have e2:=si d hi;show if(!decide (([d]:List Nat) < [lo]))=true then _ else _
  rw[e1];by_cases l1:lo<=d
  ·rw[aR l1];refine aI ⟨_,rfl,_,_,rfl,rfl,_,rfl,?_⟩;show if(!decide (([hi]:List Nat) < [d]))=true then _ else _
   rw[e2];by_cases l2:d<=hi
   ·rw[aR l2];refine aI ⟨fun ao H'=>∃m',m'<T.length-(n+i)/\∃i:Nat,m'=T.length-(n+i) /\ ao=[some (.ref a),some (.str ⟨#[lo]⟩),some (.str ⟨#[hi]⟩),some (.int (n:Int))]/\aP a H H'/\cb C H' a dx T (n+i)/\n+i<=T.length/\∀d∈(av T n).take i,(decide (lo<=d)&&decide (d<=hi))=true,fun _ _ h=>h,?_⟩;refine⟨_,rfl,a,C,dx,_,_,rfl,h1,c.cls,c.na,rfl,_,_,rfl,rfl,dx,_,h1,(show 2<1000 by decide),?_⟩;refine⟨_,by show T.length-(n+(i+1))<_;lia,i+1,rfl,rfl,b1.trans aP.up,Zc,by lia,fun x hx=>?_⟩;rw[uE sM] at hx;rcases bL.mp hx with hx|hx
    ·exact hp x hx
    ·rw[bi.mp hx,aR l1,aR l2];rfl
   ·rw[a_ l2];refine aF (done i H1 b1 h1 hle hp fun x hx=>?_);rw[sM] at hx;injection hx with hx;rw[<- hx,a_ l2,Bool.and_false]
  ·rw[a_ l1];refine aF ⟨_,rfl,aF (done i H1 b1 h1 hle hp fun x hx=>?_)⟩;rw[sM] at hx;injection hx with hx;rw[<- hx,a_ l1,qJ]
theorem lL{T:Str}{n:Nat}(k:Nat):av T (n+k)=(av T n).drop k:=by
 unfold av;rw[la]
theorem Mj(p:Nat->Bool)(l:List Nat):(l.takeWhile p).length<=l.length:=(List.takeWhile_prefix p).length_le
theorem pI{T p:Str}{n:Nat}(h:cs p <+: av T n)(hn:n<=T.length):n+p.length<=T.length:=by
 obtain⟨r,e⟩:=h;have:=congrArg List.length e;unfold av at this;rw[bw,dF,ZR,ZR] at this;lia
theorem fO{T:Str}{n:Nat}:(av T n).length=T.length-n:=by unfold av;rw[dF,ZR]
theorem Km{z:Str}(h:z.length<=2000)(hc:∀c∈cs z,c<=122):(reprText z).length<=25000:=by
 have lr:=PySem.StrLaws.reprText_len z (fun c hx=>xl (hc c hx) (by decide));lia
theorem Nz{n:Nat}(h:n<=9):(Str.ofString (toString (n:Int))).length=1:=by
 have:n=0\/n=1\/n=2\/n=3\/n=4\/n=5\/n=6\/n=7\/n=8\/n=9:=by lia
 rcases this with rfl|rfl|rfl|rfl|rfl|rfl|rfl|rfl|rfl|rfl <;> decide
theorem rZ{n:Nat}(h:n<=9):(n:Int).natAbs.log2<1920:=by
 have:n=0\/n=1\/n=2\/n=3\/n=4\/n=5\/n=6\/n=7\/n=8\/n=9:=by lia
 rcases this with rfl|rfl|rfl|rfl|rfl|rfl|rfl|rfl|rfl|rfl <;> decide
theorem sh{n:Nat}(h:n<=9):PySem.intText? ⟨#[48+n]⟩=some (n:Int):=by
 have:n=0\/n=1\/n=2\/n=3\/n=4\/n=5\/n=6\/n=7\/n=8\/n=9:=by lia
 rcases this with rfl|rfl|rfl|rfl|rfl|rfl|rfl|rfl|rfl|rfl <;> decide +kernel
theorem Vp{z:Str}(h1:z.length=1)(hc:∀c∈cs z,bB c=true):∃n,n<=9/\z=⟨#[48+n]⟩/\cs z=[48+n]:=by
 have hl:(cs z).length=1:=by rw[ZR,h1]
 cases hz:cs z with
 | nil=>rw[hz] at hl;cases hl
 | cons c r =>
  rw[hz] at hl hc;obtain rfl:r=[]:=lb (by simpa using hl);have:=hc c (bb ..);unfold bB at this;rw[cP,cC,cC] at this;have e:48+(c-48)=c:=by lia
  refine⟨c-48,by lia,jC ?_,?_⟩
  ·rw[hz,e];rfl
  ·rw[e]
def u_(K:PySem.W.Frag)(C XB:Addr):Sp:=fun vs H Q E=>∃(a dx:Addr)(T:Str)(n lo hi:Nat),vs=[.ref a,.int (lo:Int),.int (hi:Int)]/\cb C H a dx T n/\n<=T.length/\T.length<=2000/\lo<=9/\hi<=9 /\
 (∀x,pNum lo hi (av T n)=some x->∀(n':Nat)(H':Hp),aP a H H'->cb C H' a dx T n'->n'<=T.length->av T n'=x.2->Q (.int (x.1:Int)) H') /\
 (pNum lo hi (av T n)=none->∀H',aP a H H'->E (.ref XB) none H')
set_option maxHeartbeats 1000000 in
theorem QN(B:∀x∈cG,mg x=none)(bD:il K C)(xc:XC K mg b_ eh d_ eF eE eA ee eG eo eC d8 au eB ef et)(sC:gk P w K mg base C "take_letters" ["self","first","last"] 2 (xS C)) (F:bP K "take_number" "take_number" rl f fd):aY P w K mg base (gS P w) 3 f fd ["source","least","greatest"] (u_ K C au):=by
 refine F.qE Jf (fun vs H Q E h=>?_) (fun aL A outer s H vs Q E hr h=>?_)
 ·obtain⟨a,dx,T,n,lo,hi,rfl,_⟩:=h;rfl
 obtain⟨a,dx,T,n,lo,hi,rfl,ha,hn,hT,l9,h9,q1,q2⟩:=h;refine⟨_,(Ze (Zx (i:=3) Jf.nd rfl (Or.inl rfl) (lM sC hr (pv 0) bD.cls (Za Zm (Za Zm Zb))))
  (Ze (bu (PW.pt (jF (Zr pO (ZF pz rfl (B "len" (by decide)) gc (Za (pv 3) Zb)) Zg (ZK _)) (lO (jB (BW sk sk (pv 1) (ZX pE rfl (B "int" (by decide)) m9 (Za (pv 3) Zb)) (pv 2))))))
   (Zf (rH xc.tI xc.tB xc.qB Z8 hr rfl (Za (BI (lK (Cu (pv 3)) (lK Zm (lK (MA (pv 1)) (lK Zm (lK (MA (pv 2)) Cs)))))) Zb)))
   ZC)
  (Zf (Zz (ZX pE rfl (B "int" (by decide)) m9 (Za (pv 3) Zb)))))),?_⟩
 refine⟨_,rfl,a,dx,_,rfl,ha,rfl,a,dx,T,n,48,57,rfl,ha,hn,by lia,fun z H' ez b1 h1=>?_⟩;have ez:cs z=(av T n).takeWhile bB:=ez;have iL:(cs z).length=z.length:=aB;have iK:(av T n).length=T.length-n:=fO;have hle:=Mj bB (av T n);rw[<- ez] at hle;have sP:∀c∈cs z,bB c=true:=fun c hc=>x_ (by rw[<- ez];exact hc);have hN:pNum lo hi (av T n)=if z.length=1/\lo<=(cs z).headD 0-48/\(cs z).headD 0-48<=hi then some ((cs z).headD 0-48,(av T n).drop 1) else none:=by
  unfold pNum;rw[<- ez,iL]
 have hR:=Km (z:=z) (by lia) fun c hc=>by
  have:=sP c hc;unfold bB at this;rw[cP,cC,cC] at this;lia
 have bad : ¬ (z.length=1/\lo<=(cs z).headD 0-48/\(cs z).headD 0-48<=hi)->∀y,H' y=none->∀o,E (.ref au) none (upd H' y o):=fun fj y hy o=>q2 (by rw[hN,af fj]) _ (rM b1 hy);have l0:(Str.empty++reprText z).length<=25000:=by rw[ZG];show 0+_<=_;lia
 have l1:(Str.empty++reprText z ++ " is no number from ").length<=25100:=by rw[ZG];show _+19<=_;lia
 have l2:(Str.empty++reprText z ++ " is no number from " ++ Str.ofString (toString (lo:Int))).length<=25200:=by rw[ZG,Nz l9];lia
 have l3:(Str.empty++reprText z ++ " is no number from " ++ Str.ofString (toString (lo:Int)) ++ " to ").length<=25300:=by rw[ZG];show _+4<=_;lia
 have l4:(Str.empty++reprText z ++ " is no number from " ++ Str.ofString (toString (lo:Int)) ++ " to " ++ Str.ofString (toString (hi:Int))).length<=25400:=by rw[ZG,Nz h9];lia
 have raise:∀(fj : ¬ (z.length=1/\lo<=(cs z).headD 0-48/\(cs z).headD 0-48<=hi)),∀y,H' y=none->E (.ref au) none (upd H' y (.ext (XO y (.ref au) none))):=fun fj y hy=>bad fj y hy _;refine⟨_,rfl,z,rfl,Zk (by lia),rfl,_,rfl,dD (fun c1=>?_) (fun c1=>?_)⟩
 ·refine⟨_,rfl,z,rfl,Zk (by lia),_,rfl,Zk (by lia),_,rfl,Zk (by lia),_,rfl,.inr ⟨_,rfl,rZ l9,_,rfl,Zk (by lia),_,rfl,Zk (by lia),_,rfl,.inr ⟨_,rfl,rZ h9,_,rfl,Zk (by lia),Zk (by lia),by show 1<=1000;decide,fun y hy=>raise (fun c=>?_) y hy⟩⟩⟩;rw[c.1] at c1;exact absurd c1 (by decide)
 ·have z1:z.length=1:=by
   by_cases h:z.length=1
   ·exact h
   ·refine absurd ?_ c1;simp;lia
  obtain⟨d,d9,rfl,ed⟩:=Vp z1 sP;have e0:(cs (⟨#[48+d]⟩:Str)).headD 0-48=d:=by rw[ed];show 48+d-48=d;lia
  simp only[e0] at hN raise;refine⟨_,rfl,_,rfl,_,_,rfl,sh d9,(by show 1<=640;decide),_,_,rfl,rfl,_,rfl,dD (fun c2=>?_) (fun c2=>?_)⟩
  ·have c2:(lo:Int)<=(d:Int):=ii c2;refine⟨_,rfl,_,_,rfl,rfl,_,rfl,?_⟩;show if(!(decide ((d:Int)<=(hi:Int))))=true then _ else _
   by_cases c3:d<=hi
   ·rw[aR (by lia)];rw[ah ⟨z1,by lia,c3⟩] at hN;exact aF ⟨_,rfl,_,_,rfl,sh d9,(by show 1<=640;decide),q1 _ hN (n+1) H' b1 h1 (by lia) (lL 1)⟩
   ·rw[a_ (by lia)];refine aI ⟨_,rfl,_,rfl,Zk (by lia),_,rfl,Zk (by lia),_,rfl,Zk (by lia),_,rfl,.inr ⟨_,rfl,rZ l9,_,rfl,Zk (by lia),_,rfl,Zk (by lia),_,rfl,.inr ⟨_,rfl,rZ h9,_,rfl,Zk (by lia),Zk (by lia),by show 1<=1000;decide,fun y hy=>raise (fun c=>c3 c.2.2) y hy⟩⟩⟩
  ·have c2 : ¬ (lo:Int)<=(d:Int):=fun c=>c2 (aR c);refine⟨false,rfl,aI ⟨_,rfl,_,rfl,Zk (by lia),_,rfl,Zk (by lia),_,rfl,Zk (by lia),_,rfl,.inr ⟨_,rfl,rZ l9,_,rfl,Zk (by lia),_,rfl,Zk (by lia),_,rfl,.inr ⟨_,rfl,rZ h9,_,rfl,Zk (by lia),Zk (by lia),by show 1<=1000;decide,fun y hy=>raise (fun c=>c2 (by lia)) y hy⟩⟩⟩⟩
theorem CV{c:Nat}(h:bV c=true):97<=c/\c<=122:=by
 unfold bV at h;rw[cP] at h;exact⟨ii h.1,ii h.2⟩
theorem rW{t:Str}:gv t=true↔fR t:=by
 have e:(cs t).all bV=(cs t).all dv:=by
  refine congrArg (fun f=>(cs t).all f) (funext fun c=>?_);unfold bV dv;rfl
 unfold gv fR;rw[e,ZR,cP,cP,cC,cC];exact⟨fun h=>⟨h.2,h.1.1,h.1.2⟩,fun h=>⟨⟨h.2.1,h.2.2⟩,h.1⟩⟩
def yF(K:PySem.W.Frag)(C XB:Addr):Sp:=fun vs H Q E=>∃(a dx:Addr)(T:Str)(n:Nat),vs=[.ref a]/\cb C H a dx T n/\n<=T.length/\T.length<=2000 /\
 (∀x,kz (av T n)=some x->∀(n':Nat)(H':Hp),aP a H H'->cb C H' a dx T n'->n'<=T.length->av T n'=x.2->Q (.str x.1) H') /\
 (kz (av T n)=none->∀H',aP a H H'->E (.ref XB) none H')
set_option maxHeartbeats 1000000 in
theorem Q8(B:∀x∈cG,mg x=none)(bD:il K C)(xc:XC K mg b_ eh d_ eF eE eA ee eG eo eC d8 au eB ef et)(sC:gk P w K mg base C "take_letters" ["self","first","last"] 2 (xS C)) (E6:bG P w K mg base "is_tag" ["text"] 1 Cn) (F:bP K "take_tag" "take_tag" rJ f fd):aY P w K mg base (gS P w) 3 f fd ["source"] (yF K C au):=by
 refine F.qE Jm (fun vs H Q E h=>?_) (fun aL A outer s H vs Q E hr h=>?_)
 ·obtain⟨a,dx,T,n,rfl,_⟩:=h;rfl
 obtain⟨a,dx,T,n,rfl,ha,hn,hT,q1,q2⟩:=h;refine⟨_,(Ze (Zx (i:=1) Jm.nd rfl (Or.inl rfl) (lM sC hr (pv 0) bD.cls (Za Zm (Za Zm Zb))))
  (Ze (bu (jB (ZZ (de E6 hr rfl (Za (pv 1) Zb)) (fun _=>rfl)))
   (Zf (rH xc.tI xc.tB xc.qB Z8 hr rfl (Za (BI (lK (Cu (pv 1)) (lK Zm Cs))) Zb)))
   ZC)
  (Zf (Zz (pv 1))))),?_⟩
 refine⟨_,rfl,a,dx,_,rfl,ha,rfl,a,dx,T,n,97,122,rfl,ha,hn,by lia,fun z H' ez b1 h1=>?_⟩;have ez:cs z=(av T n).takeWhile bV:=ez;have iK:(av T n).length=T.length-n:=fO;have hle:=Mj bV (av T n);rw[<- ez] at hle;have iL:(cs z).length=z.length:=aB;have kJ:∀c∈cs z,bV c=true:=fun c hc=>x_ (by rw[<- ez];exact hc);have hN:kz (av T n)=if 1<=z.length/\z.length<=8 then some (z,(av T n).drop z.length) else none:=by
  unfold kz;rw[<- ez,iL,sf]
 have hR:=Km (z:=z) (by lia) fun c hc=>(CV (kJ c hc)).2;have l0:(Str.empty++reprText z).length<=25000:=by rw[ZG];show 0+_<=_;lia
 have l1:(Str.empty++reprText z ++ " is no tag").length<=25100:=by rw[ZG];show _+10<=_;lia
 refine⟨_,rfl,z,rfl,by lia,fun H2 s2=>⟨_,rfl,?_⟩⟩;have h2:cb C H2 a dx T (n+z.length):=s2 _ _ h1;have ht:gv z=decide (1<=z.length/\z.length<=8):=by
  by_cases h:1<=z.length/\z.length<=8
  ·rw[aR h];exact rW.mpr ⟨e_.mpr kJ,by lia,by lia⟩
  ·rw[a_ h];cases hb:gv z with
   | false=>rfl
   | true =>
    have:=rW.mp hb;exact absurd ⟨by have:=this.2.1;lia,by have:=this.2.2;lia⟩ h
 rw[ht];by_cases h8:1<=z.length/\z.length<=8
 ·rw[aR h8];rw[ah h8] at hN;exact aF ⟨_,rfl,q1 _ hN _ H2 (b1.trans (aP.same s2)) h2 (by lia) (lL _)⟩
 ·rw[a_ h8];rw[af h8] at hN;exact aI ⟨_,rfl,z,rfl,Zk (by lia),_,rfl,Zk (by lia),_,rfl,Zk (by lia),Zk (by lia),by show 1<=1000;decide,fun y hy=>q2 hN _ (rM (b1.trans (aP.same s2)) hy)⟩
theorem S9{p:Str}(h:p.length<=20)(hc:∀c∈cs p,c<=126):(reprText p).length<=1000:=by
 have lr:=PySem.StrLaws.reprText_len p (fun c hx=>xl (hc c hx) (by decide));lia
def Cq(C XB:Addr):Sp:=fun vs H Q E=>∃(a dx:Addr)(T:Str)(n:Nat)(p:Str),vs=[.ref a,.str p]/\cb C H a dx T n/\n<=T.length/\p.length<=20/\(∀c∈cs p,c<=126)/\(cs p <+: av T n->∀H',aP a H H'->cb C H' a dx T (n+p.length)->Q .aE H')/\(¬ cs p <+: av T n->∀H',aP a H H'->E (.ref XB) none H')
theorem Uv(B:∀x∈cG,mg x=none)(bD:il K C)(xc:XC K mg b_ eh d_ eF eE eA ee eG eo eC d8 au eB ef et)(gY:gk P w K mg base C "skips" ["self","piece"] 2 (rX C)) (F:bP K "skip" "skip" r_ f fd):aY P w K mg base (gS P w) 3 f fd ["source","piece"] (Cq C au):=by
 refine F.qE Uz (fun vs H Q E h=>?_) (fun aL A outer s H vs Q E hr h=>?_)
 ·obtain⟨a,dx,T,n,p,rfl,_⟩:=h;rfl
 obtain⟨a,dx,T,n,p,rfl,ha,hn,hp,hc,q1,q2⟩:=h;have bH:=S9 hp hc;refine⟨_,(Zf (bu (jB (ZZ (lM gY hr (pv 0) bD.cls (Za (pv 1) Zb)) (fun _=>rfl)))
   (Zf (rH xc.tI xc.tB xc.qB Z8 hr rfl (Za (BI (lK (Cu (pv 1)) (lK Zm Cs))) Zb)))
   ZC)),?_⟩
 refine⟨_,rfl,a,dx,_,rfl,ha,rfl,_,rfl,a,dx,T,n,p,rfl,ha,hn,by lia,fun z=>⟨_,rfl,aI ?_⟩,fun z H' b h'=>⟨_,rfl,aF ?_⟩⟩
 ·have l0:(Str.empty++reprText p).length<=1000:=by rw[ZG];show 0+_<=_;lia
  have l1:((Str.empty++reprText p) ++ " is missing").length<=2000:=by rw[ZG];show _+11<=_;lia
  refine⟨_,rfl,p,rfl,Zk (by lia),_,rfl,Zk (by lia),_,rfl,Zk (by lia),Zk (by lia),by show 1<=1000;decide,fun y hy=>?_⟩;exact q2 z _ (rM aP.refl hy)
 ·exact q1 z H' b h'
def C0(K:PySem.W.Frag):Sp:=fun vs H Q _=>∃(H0:Hp)(R T:Addr)(as:List Addr)(gs:List Pa)(t:Str)(ts:List Str),vs=[.ref T,.ref R]/\bq H0 H R T as gs (t::ts)/\(∀g∈gs,g.sz<=5000) /\
 ∀H' b0 b1 a2 g0 g1 g2,as=b0::b1::a2->gs=g0::g1::g2->bq H0 H' R T (b1::a2) (g1.app (.tag t g0 .nil)::g2) ts->Q .aE H'
theorem Rp(B:∀x∈cG,mg x=none)(F:bP K "end_tag" "end_tag" rN f fd):aY P w K mg base cq 1 f fd ["tags","rows"] (C0 K):=by
 refine F.ok JC (fun vs H Q E h=>?_) (fun aL A outer s H vs Q E hr h=>?_)
 ·obtain⟨H0,R,T,as,gs,t,ts,rfl,_⟩:=h;rfl
 obtain⟨H0,R,T,as,gs,t,ts,rfl,hg,hsz,q⟩:=h;refine⟨_,(Ze (Zx (i:=2) JC.nd rfl (Or.inl rfl) (ZX Z0 rfl (B "tuple" (by decide)) iZ (Za (m_ cJ oN oO nc (pv 1)) Zb)))
  (Zf (Z7 (cw cJ dY dZ ZL (bp Z6 (pv 1) (jG jA Zg) (fun _ _=>rfl)) (Za (cT (Za Zm (Za (m_ cJ oN oO nc (pv 0)) (Za (pv 2) Zb)))) Zb))))),?_⟩
 obtain⟨b0,b1,a2,g0,g1,g2,vs0,eX,rfl,rfl,cx,dU,eR,iN,jR,iE⟩:=hg.two;have wb:=iN.length;have tf:=hsz g1 (by simp);refine⟨_,rfl,.inl ⟨rfl,_,ak.of jR⟩,R,_,_,rfl,rfl,jR,mS _ _,?_⟩;rw[mX];have pY:(upd H R (.lst ((b1::a2).map V.ref).reverse)) b0=some (.lst vs0):=by
  rw[Zi (hg.nR b0 (by simp))];exact cx
 refine⟨b0,vs0,rfl,.inl ⟨ak.of pY,fun l hl=>?_⟩⟩;have gA:(upd (upd H R (.lst ((b1::a2).map V.ref).reverse)) l (.tup vs0)) R=some (.lst ((a2.map V.ref).reverse ++ [.ref b1])):=by
  rw[Zi (Z1 hl).1.symm,Zc,bt,gN]
 have pZ:(upd (upd H R (.lst ((b1::a2).map V.ref).reverse)) l (.tup vs0)) b1=some (.lst eX):=by
  rw[Zi (Zo eR (Z1 hl).2),Zi (hg.nR b1 (by simp))];exact eR
 have iD:(upd (upd H R (.lst ((b1::a2).map V.ref).reverse)) l (.tup vs0)) T=some (.lst ((ts.map V.str).reverse ++ [.str t])):=by
  rw[Zi (Zo hg.hT (Z1 hl).2),Zi hg.RT.symm];exact iE
 refine⟨_,rfl,1,rfl,R,_,-1,.ref b1,rfl,rfl,ak.of gA,jw _ _,.inl ⟨rfl,_,ak.of pZ⟩,_,rfl,.inl ⟨rfl,_,ak.of iD⟩,T,_,_,rfl,rfl,iD,mS _ _,?_⟩;rw[mX];refine⟨_,rfl,(by show 3<=sizeLine;decide),fun l2 gD=>?_⟩;obtain⟨_,_,_,_,z5,z6⟩:=hg.AK cx dU eR iN hl gD;refine⟨b1,_,_,rfl,rfl,z5,ZW (by lia),?_⟩;exact q _ b0 b1 a2 g0 g1 g2 rfl rfl z6
theorem TK.bar{a C dx:Addr}{fs:List (Str×V)}{H H':Hp}(b:aP a H H')(ha:H a=some (.ins C dx fs)):TK H H':=fun p xs h=>b p _ (fun z=>by rw[z,ha] at h;cases h) h
theorem bq.bar{H H1 H2:Hp}{R T a C dx:Addr}{as:List Addr}{gs:List Pa}{ts:List Str}{fs:List (Str×V)}{o2:HO}(h:bq H H1 R T as gs ts)(ha:H a=some (.ins C dx fs))(b:aP a H1 H2)(h2:H2 a=some o2):bq (upd H a o2) H2 R T as gs ts:=by
 have na:∀x∈R::T::as,x≠a:=fun x hx z=>by
  have:=h.fr x hx;rw[z,ha] at this;cases this
 refine⟨fun x o hx=>?_,b _ _ (na T (by simp)) h.hT,b _ _ (na R (by simp)) h.hR,pA (TK.bar b (h.sm _ _ ha)) h.rows (fun x hx o ho=>b x o (na x (by simp[hx])) ho),h.nd,fun x hx=>?_,h.gl⟩
 ·by_cases e:x=a
  ·subst e;rw[Zc] at hx;rw[h2,<- hx]
  ·rw[Zi e] at hx;exact b x o e (h.sm x o hx)
 ·rw[Zi (na x hx)];exact h.fr x hx
theorem Ua{next}{t:List Nat}{cur o:Pa}{w:Str}{st:aZ}(h:[41] <+: t):cA next t cur ((w,o)::st)=cA next (t.drop 1) (o.app (.tag w cur .nil)) st:=by
 obtain⟨r,rfl⟩:=h;show cA next (41::r) cur ((w,o)::st)=cA next r (o.app (.tag w cur .nil)) st
 unfold cA;rw[Bx]
theorem T1{next}{t:List Nat}{cur:Pa}{st:aZ}(h:st=[] \/ ¬ [41] <+: t):cA next t cur st=if [32] <+: t then next (t.drop 1) cur st else if st=[] then some (cur,t) else none:=by
 have e:cF t cur st=(t,cur,st):=by
  cases t with
  | nil=>rw[cF];simp
  | cons c t =>
   cases st with
   | nil=>rw[cF];simp
   | cons x st =>
    obtain⟨w,o⟩:=x;rcases h with h|h
    ·cases h
    ·rw[cF];intro t' w' o' ag e;injection e with e;subst e;exact absurd ⟨t,rfl⟩ h
 unfold cA;rw[e]
theorem R6{x:Str}{l:Option Int}{j:Int}(h:(x.length:Int)<=j):PySem.StrLaws.sliceText x l (some j)=PySem.StrLaws.sliceText x l (some (x.length:Int)):=by
 have e:Builtin.Str.strSliceIndices l (some j) 1 x.length=Builtin.Str.strSliceIndices l (some (x.length:Int)) 1 x.length:=by
  unfold Builtin.Str.strSliceIndices;have h1 : ¬ j<0:=by lia
  have h2 : ¬ (x.length:Int)<0:=by lia
  simp only[h1,h2,ig,show(1:Int) > 0 from by decide,gR];rw[show max 0 (min j (x.length:Int))=max 0 (min (x.length:Int) (x.length:Int)) by lia]
 unfold PySem.StrLaws.sliceText;rw[e]
theorem Wg{t:Str}{i j:Nat}(eU:i<=j)(hi:i<=t.length):cs (PySem.StrLaws.sliceText t (some (i:Int)) (some (j:Int)))=((cs t).drop i).take (j-i):=by
 by_cases h:j<=t.length
 ·rw[PySem.StrLaws.sliceText_nat t eU h];exact xj
 ·rw[R6 (by lia),PySem.StrLaws.sliceText_nat t hi (az _)];show(((cs t).drop i).take (t.length-i)).toArray.toList=_;rw[xj,j7 (by rw[dF,ZR];lia),j7 (by rw[dF,ZR];lia)]
structure ju(C a dx:Addr)(T:Str)(H H1:Hp)(R Tg:Addr)(cur:Pa)(st:aZ)(n:Nat):Prop where
 src:cb C H1 a dx T n
 hn:n<=T.length
 pg:∃H0 fs as,aP a H H0/\H0 a=some (.ins C dx fs)/\bq H0 H1 R Tg as (cur::st.map Prod.snd) (st.map Prod.fst)
 sz:cur.sz+(st.map fun x=>x.2.sz).sum+st.length<=n
theorem ju.bar{C a dx:Addr}{T:Str}{H H1 H2:Hp}{R Tg:Addr}{cur:Pa}{st:aZ}{n n':Nat}(h:ju C a dx T H H1 R Tg cur st n)(b:aP a H1 H2)(h2:cb C H2 a dx T n')(hn:n<=n')(Be:n'<=T.length):ju C a dx T H H2 R Tg cur st n':=by
 obtain⟨H0,fs,as,b0,h0,pg⟩:=h.pg;exact⟨h2,Be,⟨_,_,as,b0.trans aP.up,Zc,pg.bar h0 b h2⟩,cZ h.sz hn⟩
theorem B8:∀{l:List Nat}{x:Nat},x∈l->x<=l.sum
 | y::l,x,h=>by
  rw[iQ];rcases aH.mp h with rfl|h
  ·lia
  ·have:=B8 h;lia
theorem ju.small{C a dx:Addr}{T:Str}{H H1:Hp}{R Tg:Addr}{cur:Pa}{st:aZ}{n:Nat}(h:ju C a dx T H H1 R Tg cur st n):∀g∈cur::st.map Prod.snd,g.sz<=n:=fun g hg=>by
 have:=h.sz;rcases aH.mp hg with rfl|hg
 ·lia
 ·obtain⟨x,hx,rfl⟩:=gM.mp hg;have:x.2.sz<=(st.map fun x=>x.2.sz).sum:=B8 (gM.mpr ⟨x,hx,rfl⟩);lia
def CQ(K:PySem.W.Frag)(C XB:Addr):Sp:=fun vs H Q E=>∃(a dx:Addr)(T:Str)(n m:Nat),vs=[.ref a,.int (m:Int)]/\cb C H a dx T n/\n<=T.length/\T.length<=2000/\1<=m/\m<=4 /\
 (∀x,bW m ((av T n).length+1) (av T n) .nil []=some x->∀(n':Nat)(H':Hp)(r:Addr)(ys:List V),aP a H H'->cb C H' a dx T n'->n'<=T.length->av T n'=x.2->H' r=some (.tup ys)->br H' ys x.1->Q (.ref r) H') /\
 (bW m ((av T n).length+1) (av T n) .nil []=none->∀H',aP a H H'->E (.ref XB) none H')
def uy(C a dx:Addr)(T:Str)(m:Nat)(H:Hp)(R Tg:Addr)(A:Option (Pa×List Nat))(k:Nat)(σ : St)(H2:Hp):Prop := ∃(cur:Pa)(st:aZ)(n:Nat)(b:Bool),σ =[some (.ref a),some (.int (m:Int)),some (.ref Tg),some (.ref R),some (.bl b)]/\ju C a dx T H H2 R Tg cur st n /\
 (b=true->bW m k (av T n) cur st=A/\(av T n).length<k)/\(b=false->(if st=[] then some (cur,av T n) else none)=A/\k=0)
set_option maxHeartbeats 4000000 in
theorem QL(B:∀x∈cG,mg x=none)(bD:il K C)(xc:XC K mg b_ eh d_ eF eE eA ee eG eo eC d8 au eB ef et)(lY:fc P w K mg base "take_number" ["source","least","greatest"] 3 (u_ K C au)) (sG:fc P w K mg base "take_tag" ["source"] 3 (yF K C au)) (gY:gk P w K mg base C "skips" ["self","piece"] 2 (rX C)) (ze:bG P w K mg base "end_tag" ["tags","rows"] 1 (C0 K)) (F:bP K "take_parts" "take_parts" Zu f fd):aY P w K mg base (gS P w) 4 f fd ["source","modes"] (CQ K C au):=by
 refine F.qE uA (fun vs H Q E h=>?_) (fun aL A outer s H vs Q E hr h=>?_)
 ·obtain⟨a,dx,T,n,m,rfl,_⟩:=h;rfl
 obtain⟨a,dx,T,n,m,rfl,ha,hn,hT,m1,m4,q1,q2⟩:=h;refine Zw ((Zd Zu).drop 5) (Zf (Zz (ZX Z0 rfl (B "tuple" (by decide)) iZ (Za (bp Z6 (pv 3) Zg (fun _ _=>rfl)) Zb)))) (fun u5 h5 e5=>?_);refine Zw ((Zd Zu).drop 4) (Ze (bu (ZZ (pv 2) (fun _=>rfl))
   (Zf (rH xc.tI xc.tB xc.qB Z8 hr rfl (Za Zm Zb)))
   ZC) h5) (fun u4 h4 e4=>?_)
 refine Zw ((ZV ((Zd Zu).getD 3 (.Pass ⟨0,0,0,0⟩))).drop 2) (Zf (Zx (i:=4) uA.nd rfl (Or.inl rfl) (lM gY hr (pv 0) bD.cls (Za Zm Zb)))) (fun Hq Fo EU=>?_);refine Zw ((ZV ((ZV ((Zd Zu).getD 3 (.Pass ⟨0,0,0,0⟩))).getD 1 (.Pass ⟨0,0,0,0⟩))).drop 0) (Zf (Z7 (de ze hr rfl (Za (pv 2) (Za (pv 3) Zb))))) (fun Zyh Zqk ZA=>?_);refine Zw ((ZV ((Zd Zu).getD 3 (.Pass ⟨0,0,0,0⟩))).drop 1) (Ze (uG PassesOwn.leaving (PW.pt (jx (ZZ (pv 2) (fun _=>rfl)) (kq (ZZ (lM gY hr (pv 0) bD.cls (Za Zm Zb)) (fun _=>rfl)))))
   Zqk) Fo) (fun AO vF vo=>?_)
 refine Zw ((i_ ((ZV ((Zd Zu).getD 3 (.Pass ⟨0,0,0,0⟩))).getD 0 (.Pass ⟨0,0,0,0⟩))).drop 3) (Zf (Z7 (de ze hr rfl (Za (pv 2) (Za (pv 3) Zb))))) (fun Zwz Zqh Zl=>?_);refine Zw ((i_ ((ZV ((Zd Zu).getD 3 (.Pass ⟨0,0,0,0⟩))).getD 0 (.Pass ⟨0,0,0,0⟩))).drop 2) (Ze (bu (ZZ (lM gY hr (pv 0) bD.cls (Za Zm Zb)) (fun _=>rfl))
   (Zf Jr)
   ZC) Zqh) (fun Zwy Zqg Y_=>?_)
 refine Zw ((i_ ((ZV ((Zd Zu).getD 3 (.Pass ⟨0,0,0,0⟩))).getD 0 (.Pass ⟨0,0,0,0⟩))).drop 1) (Ze (Z7 (cw cJ dY dZ ZL (pv 3) (Za (dA Zb) Zb))) Zqg) (fun Zwx Zqf Y'=>?_);refine Zw ((i_ ((ZV ((Zd Zu).getD 3 (.Pass ⟨0,0,0,0⟩))).getD 0 (.Pass ⟨0,0,0,0⟩))).drop 0) (Ze (Z7 (cw cJ dY dZ ZL (pv 2) (Za (jE sG Z8 hr rfl (Za (pv 0) Zb)) Zb))) Zqf) (fun Zww Zqe Y9=>?_);refine Zw ((ZV ((Zd Zu).getD 3 (.Pass ⟨0,0,0,0⟩))).drop 0) (Ze (bu (BW xR xR Zm (fM kr (i8 (pv 0) rfl) (eM (i8 (pv 0) rfl)) (eM (Zv gn (i8 (pv 0) rfl) Zg))) Zm)
   (Zf (Z7 (cw cJ dY dZ ZL (bp Z6 (pv 3) (jG jA Zg) (fun _ _=>rfl)) (Za (cT (Za Zm (Za (jE lY Z8 hr rfl (Za (pv 0) (Za Zg (Za (Zv yt (pv 1) Zg) Zb)))) Zb))) Zb))))
   Zqe) vF) (fun Ho vE vn=>?_)
 refine Zw ((Zd Zu).drop 3) (Ze (uG PassesOwn.leaving (ZZ (pv 4) (fun _=>rfl))
   vE) h4) (fun u3 h3 e3=>?_)
 refine Zw ((Zd Zu).drop 2) (Ze (Zx (i:=4) uA.nd rfl (Or.inl rfl) ku) h3) (fun u2 h2 e2=>?_);refine Zw ((Zd Zu).drop 1) (Ze (Zx (i:=3) uA.nd rfl (Or.inl rfl) (dA (Za (dA Zb) Zb))) h2) (fun u1 h1 e1=>?_);refine Zw ((Zd Zu).drop 0) (Ze (Zx (i:=2) uA.nd rfl (Or.inl rfl) (dA Zb)) h1) (fun u0 h0 e0=>?_);refine⟨u0,h0,?_⟩;refine Zq e0 ?_;refine⟨by decide,fun Tg Fw=>?_⟩;show u1 _ _ _;refine Zq e1 ?_;refine⟨by decide,fun a0 h0=>⟨(by show 1<=sizeLine;decide),fun R hR=>?_⟩⟩;have g0:=bq.Hg Fw h0 hR;show u2 _ _ _;refine Zq e2 ?_;show u3 _ _ _;refine Zq e3 ?_;generalize upd (upd (upd H Tg (.lst [])) a0 (.lst [])) R (.lst [.ref a0])=H1 at g0 ⊢;obtain⟨A,hA⟩:∃A,bW m ((av T n).length+1) (av T n) .nil []=A:=⟨_,rfl⟩;rw[hA] at q1 q2;refine⟨uy C a dx T m H R Tg A,⟨_,.nil,[],n,true,rfl,⟨g0.sm _ _ ha,hn,⟨H,_,_,aP.refl,ha,g0⟩,bj _⟩,fun _=>⟨hA,gP _⟩,fun h=>(by cases h)⟩,?_⟩;rintro k σ H2 ⟨cur,st,n2,b,rfl,hS,FG,FH⟩;have ZxS:=fO (T:=T) (n:=n2);have mh:=hS.hn;cases b with
 | false =>
  refine⟨_,rfl,false,rfl,aF ?_⟩;obtain⟨dw,rfl⟩:=FH rfl;clear FG FH;obtain⟨H0,fs,as,b0,oY,pg⟩:=hS.pg;have b2:aP a H H2:=fun x o hx ho=>by
   have h1:=b0 x o hx ho;exact pg.sm x o h1
  show u4 _ _ _;refine Zq e4 ?_;refine⟨_,rfl,_,.inl ⟨_,ak.of pg.hT,rfl⟩,?_⟩;cases st with
  | cons x st =>
   rw[af (List.cons_ne_nil _ _)] at dw;rw[show(!(((x::st).map Prod.fst).map V.str).reverse.isEmpty)=true by simp];exact aI ⟨by show 1<=1000;decide,fun y hy=>q2 dw.symm _ (rM b2 hy)⟩
  | nil =>
   rw[ah rfl] at dw;refine aF ?_;show u5 _ _ _;refine Zq e5 ?_;have cH:=pg.rows;cases cH with
   | @cons b1 _ lx _ r cH =>
    cases cH;obtain⟨vs,kE,qf⟩:=r;refine⟨_,rfl,R,_,0,.ref b1,rfl,rfl,ak.of pg.hR,rfl,b1,vs,rfl,.inl ⟨ak.of kE,fun r hr=>?_⟩⟩;exact q1 (cur,av T n2) dw.symm n2 _ r vs (b2.trans (aP.same (ZD.new hr))) ((ZD.new hr) _ _ hS.src) mh rfl Zc (qf.mono (TK.new hr))
 | true =>
  refine⟨_,rfl,true,rfl,aI ?_⟩;obtain⟨dw,hk⟩:=FG rfl;clear FG FH;obtain⟨k,rfl⟩:∃k',k=k'+1:=⟨k-1,by lia⟩;refine⟨fun ao H'=>∃m',m'<k+1/\uy C a dx T m H R Tg A m' ao H',fun _ _ h=>h,?_⟩;have fin:∀(D:Ends),(∀ ao H',(∃m',m'<k+1/\uy C a dx T m H R Tg A m' ao H')->D.nx ao H')->∀(jL:Pa)(aV:aZ)(n4:Nat)(H4:Hp),ju C a dx T H H4 R Tg jL aV n4->(aV=[] \/ ¬ [41] <+: av T n4)->cA (bW m k) (av T n4) jL aV=A->(av T n4).length<k->Hq D [some (.ref a),some (.int (m:Int)),some (.ref Tg),some (.ref R),some (.bl true)] H4:=fun D hD jL aV n4 H4 fg di lZ FP=>by
   rw[T1 di] at lZ;have Zsi:=fO (T:=T) (n:=n4);refine Zq EU ?_;refine⟨_,rfl,a,dx,_,rfl,fg.src,rfl,a,dx,T,n4," ",rfl,fg.src,fg.hn,(by decide),fun z=>hD _ _ ?_,fun z H5 b5 h5=>hD _ _ ?_⟩
   ·have z : ¬ [32] <+: av T n4:=z;rw[af z] at lZ;exact⟨0,by lia,jL,aV,n4,false,rfl,fg,fun h=>(by cases h),fun _=>⟨lZ,rfl⟩⟩
   ·have z':[32] <+: av T n4:=z;rw[ah z'] at lZ;have n5:n4+1<=T.length:=pI z fg.hn;have Ge:=fO (T:=T) (n:=n4+1);exact⟨k,gP _,jL,aV,n4+1,true,rfl,fg.bar b5 h5 (ic _) n5,fun _=>⟨by rw[lL];exact lZ,by lia⟩,fun h=>(by cases h)⟩
  have rest:∀(D:Ends),(∀ ao H',(∃m',m'<k+1/\uy C a dx T m H R Tg A m' ao H')->D.nx ao H')->∀(bg:Pa)(ag:aZ)(n3:Nat)(H3:Hp),ju C a dx T H H3 R Tg bg ag n3->cA (bW m k) (av T n3) bg ag=A->(av T n3).length<k->AO D [some (.ref a),some (.int (m:Int)),some (.ref Tg),some (.ref R),some (.bl true)] H3:=fun D hD bg ag n3 H3 zp ff hk3=>by
   refine Zq vo ?_
   let W:Nat->St->Hp->Prop:=fun j σ H4=>∃(jL:Pa)(aV:aZ)(n4:Nat),σ =[some (.ref a),some (.int (m:Int)),some (.ref Tg),some (.ref R),some (.bl true)]/\ju C a dx T H H4 R Tg jL aV n4/\cA (bW m k) (av T n4) jL aV=A/\(av T n4).length<k/\j=aV.length
   refine⟨W,⟨_,bg,ag,n3,rfl,zp,ff,hk3,rfl⟩,?_⟩;rintro j σ H4 ⟨jL,aV,n4,rfl,fg,lZ,FP,rfl⟩;obtain⟨H0,fs,as,b0,oY,pg⟩:=fg.pg;refine⟨_,rfl,_,.inl ⟨_,ak.of pg.hT,rfl⟩,?_⟩;cases aV with
   | nil=>exact aF (aF (fin D hD jL [] n4 H4 fg (.inl rfl) lZ FP))
   | cons x aV =>
    obtain⟨wd,o⟩:=x;rw[show(!((((wd,o)::aV).map Prod.fst).map V.str).reverse.isEmpty)=true by simp];refine aI ⟨_,rfl,a,dx,_,rfl,fg.src,rfl,a,dx,T,n4,")",rfl,fg.src,fg.hn,(by decide),fun z=>?_,fun z H5 b5 h5=>?_⟩
    ·exact⟨_,rfl,aF (fin D hD jL _ n4 H4 fg (.inr z) lZ FP)⟩
    ·have n5:n4+1<=T.length:=pI z fg.hn;have Zsi:=fO (T:=T) (n:=n4);have Ge:=fO (T:=T) (n:=n4+1);have h5:cb C H5 a dx T (n4+1):=h5;have vI:=fg.bar b5 h5 (ic _) n5;refine⟨_,rfl,aI ⟨fun ao H'=>∃m',m'<((wd,o)::aV).length/\W m' ao H',fun _ _ h=>h,?_⟩⟩;obtain⟨Ig,mN,lx,P2,Bc,Il⟩:=vI.pg;have qt:=vI.small;have hn5:=vI.hn;refine Zq ZA ?_;refine⟨_,rfl,_,rfl,Ig,R,Tg,lx,_,wd,_,rfl,Il,fun g hg=>cZ (qt g hg) (by lia),fun H6 b6 b7 a8 g6 g7 g8 ea eg wJ=>?_⟩;injection eg with vq jM;injection jM with jM vt;subst vq jM vt;refine⟨aV.length,by simp,_,aV,n4+1,rfl,⟨?_,n5,⟨Ig,mN,_,P2,Bc,wJ⟩,?_⟩,?_,by lia,rfl⟩
     ·exact wJ.sm _ _ (Bc.trans ((Il.sm _ _ Bc).symm.trans vI.src))
     ·have:=vI.sz;simp[Pa.iw,Pa.sz] at this ⊢;lia
     ·rw[lL,<- lZ,Ua z]
  refine Zq vn ?_;refine⟨_,rfl,a,C,dx,_,_,rfl,hS.src,bD.cls,bD.nt,rfl,_,rfl,a,C,dx,_,_,rfl,hS.src,bD.cls,bD.na,rfl,(n2:Int),rfl,_,rfl,a,C,dx,_,_,rfl,hS.src,bD.cls,bD.na,rfl,_,_,rfl,rfl,((n2+1:Nat):Int),rfl,T,rfl,Zk (by lia),_,_,rfl,rfl,_,rfl,?_⟩;have lV:(PySem.StrLaws.sliceText T (some (n2:Int)) (some ((n2+1:Nat):Int))).cps.toList=(av T n2).take 1:=by
   have:=Wg (t:=T) (ic n2) mh;rw[show n2+1-n2=1 by lia] at this;exact this
  rw[lV];obtain⟨H0,fs,as,b0,oY,pg⟩:=hS.pg;have b2:aP a H H2:=fun x o hx ho=>pg.sm x o (b0 x o hx ho);have ZxR:=hS.sz;cases hd:C5 (av T n2) with
  | true =>
   unfold bW at dw;rw[ah hd] at dw;cases ht:av T n2 with
   | nil=>rw[ht] at hd;cases hd
   | cons c t' =>
    rw[ht] at hd;have hd:bB c=true:=hd;unfold bB at hd;rw[cP,cC,cC] at hd;show if(!decide (([c]:List Nat) < [48]))=true then _ else _
    rw[si 48 c,aR hd.1];refine aI ⟨_,_,rfl,rfl,_,rfl,?_⟩;rw[lV,ht];show if(!decide (([57]:List Nat) < [c]))=true then _ else _
    rw[si c 57,aR hd.2];refine aI ?_;have cH:=pg.rows;cases cH with
    | @cons c0 _ a1 _ r0 cH =>
     obtain⟨vs0,cx,dU⟩:=r0;have nF:H2 R=some (.lst ((a1.map V.ref).reverse ++ [.ref c0])):=by rw[pg.hR,bt,gN]
     refine⟨_,rfl,1,rfl,R,_,-1,.ref c0,rfl,rfl,ak.of nF,jw _ _,.inl ⟨rfl,_,ak.of cx⟩,_,rfl,_,rfl,_,_,rfl,rfl,a,dx,T,n2,0,m-1,?_,hS.src,mh,hT,by lia,by lia,fun x hx n3 H3 b3 h3 l3 e3=>?_,fun hx H3 b3=>?_⟩
     ·show [V.ref a,V.int 0,V.int ((m:Int)-1)]=_;rw[show((m:Int)-1)=((m-1:Nat):Int) by lia];rfl
     ·rw[hx] at dw;have hlen:=congrArg List.length (uC hx).1;rw[aO,<- e3,fO] at hlen;have Zsh:=fO (T:=T) (n:=n3);have dw:cA (bW m k) x.2 (cur.app (.kids (x.1:Int) .nil)) st=A:=dw;refine⟨(by show 2<=sizeLine;decide),fun pt eV=>?_⟩;have hW:=pg.bar oY b3 h3;have nz:H3 c0=some (.lst vs0):=b3 _ _ (fun z=>by rw[z,hS.src] at cx;cases cx) cx;have r03:=dU.mono (TK.bar b3 hS.src);have s5:ZD H3 (upd H3 pt (.tup [.str "kids",.int (x.1:Int)])):=ZD.new eV;have qD:pt≠c0:=fun z=>by rw[z,nz] at eV;cases eV
      have Gh:=dU.length;refine⟨c0,_,_,rfl,rfl,s5 _ _ nz,ZW (by lia),?_⟩;refine rest _ (fun _ _ h=>h) (cur.app (.kids (x.1:Int) .nil)) st n3 _ ⟨?_,l3,⟨_,_,_,b0.trans aP.up,Zc,hW.put nz r03 s5 (.kids (by rw[Zi qD];exact Zc) .nil)⟩,?_⟩ (by rw[e3];exact dw) (by lia)
      ·have nca:c0≠a:=fun z=>by rw[z,hS.src] at cx;cases cx
       show upd (upd H3 pt _) c0 _ a=_;rw[Zi nca.symm];exact s5 _ _ h3
      ·simp only[Pa.iw,Pa.sz];lia
     ·rw[hx] at dw;exact q2 dw.symm H3 (b2.trans b3)
  | false =>
   unfold bW at dw;rw[af (by rw[hd];decide)] at dw;have other:∀(D:Ends),(∀ ao H',(∃m',m'<k+1/\uy C a dx T m H R Tg A m' ao H')->D.ct ao H')->(∀(bg:Pa)(ag:aZ)(n3:Nat)(H3:Hp),ju C a dx T H H3 R Tg bg ag n3->cA (bW m k) (av T n3) bg ag=A->(av T n3).length<k->D.nx [some (.ref a),some (.int (m:Int)),some (.ref Tg),some (.ref R),some (.bl true)] H3) ->
     Zww D [some (.ref a),some (.int (m:Int)),some (.ref Tg),some (.ref R),some (.bl true)] H2:=fun D hct hnx=>by
    refine Zq Y9 ?_;have pgl:st.length<=2000:=by lia
    have al:as.length<=2001:=by
     have:=gb pg.rows;simp at this;lia
    refine⟨_,rfl,.inl ⟨rfl,_,ak.of pg.hT⟩,_,rfl,a,dx,T,n2,rfl,hS.src,mh,hT,fun x hx n3 H3 b3 h3 l3 uf=>?_,fun hx H3 b3=>?_⟩;rotate_left
    ·rw[hx] at dw;exact q2 dw.symm H3 (b2.trans b3)
    rw[hx] at dw;have zX:=BO hx;have hlen:=congrArg List.length zX.1;rw[bw,<- uf,fO] at hlen;have Zsh:=fO (T:=T) (n:=n3);have ON:=zX.2.2.1;have dw:(if [40] <+: x.2 then bW m k (x.2.drop 1) .nil ((x.1,cur)::st) else cA (bW m k) x.2 (cur.app (.tag x.1 .nil .nil)) st)=A:=dw
    have hW:=pg.bar oY b3 h3;refine⟨Tg,_,_,rfl,rfl,hW.hT,ZW (by simp;lia),?_⟩;have nE:(upd H3 Tg (.lst (((st.map Prod.fst).map V.str).reverse ++ [.str x.1]))) R=some (.lst (as.map V.ref).reverse):=by
     rw[Zi hW.RT];exact hW.hR
    show Zwx _ _ _;refine Zq Y' ?_;refine⟨_,rfl,.inl ⟨rfl,_,ak.of nE⟩,by decide,fun l hl=>?_⟩;obtain⟨_,dh⟩:=Z1 hl;have gA:(upd (upd H3 Tg (.lst (((st.map Prod.fst).map V.str).reverse ++ [.str x.1]))) l (.lst [])) R=some (.lst (as.map V.ref).reverse):=by
     rw[Zi (Zo hW.hR dh)];exact nE
    refine⟨R,_,_,rfl,rfl,gA,ZW (by simp;lia),?_⟩;have jX:=hW.opened hl;have h4:cb C (upd (upd (upd H3 Tg (.lst (((st.map Prod.fst).map V.str).reverse ++ [.str x.1]))) l (.lst [])) R (.lst ((as.map V.ref).reverse ++ [.ref l]))) a dx T n3:=jX.sm _ _ (by first|(rw[Zc];done)|(rw[Zc];exact h3))
    generalize upd (upd (upd H3 Tg (.lst (((st.map Prod.fst).map V.str).reverse ++ [.str x.1]))) l (.lst [])) R (.lst ((as.map V.ref).reverse ++ [.ref l]))=H4 at jX h4 ⊢;have fg:ju C a dx T H H4 R Tg .nil ((x.1,cur)::st) n3:=⟨h4,l3,⟨_,_,_,b0.trans aP.up,Zc,jX⟩,by simp[Pa.sz] <;> lia⟩
    show Zwy _ _ _;refine Zq Y_ ?_;refine⟨_,rfl,a,dx,_,rfl,h4,rfl,a,dx,T,n3,"(",rfl,h4,l3,(by decide),fun z=>?_,fun z H5 b5 h5=>?_⟩
    ·refine⟨_,rfl,aF ?_⟩;have z' : ¬ [40] <+: x.2:=by rw[<- uf];exact z
     rw[af z'] at dw;show Zwz _ _ _;refine Zq Zl ?_;refine⟨_,rfl,_,rfl,_,R,Tg,_,_,x.1,_,rfl,jX,fun g hg=>cZ (fg.small g hg) (by lia),fun H6 b6 b7 a8 g6 g7 g8 ea eg wJ=>?_⟩;injection eg with vq jM;injection jM with jM vt;subst vq jM vt;refine hnx _ st n3 H6 ⟨wJ.sm _ _ (by first|(rw[Zc];done)|(rw[Zc];exact h3)),l3,⟨_,_,_,b0.trans aP.up,Zc,wJ⟩,?_⟩ (by rw[uf];exact dw) (by lia)
     simp[Pa.iw,Pa.sz];lia
    ·have n5:n3+1<=T.length:=pI z l3;have h5:cb C H5 a dx T (n3+1):=h5;have Ge:=fO (T:=T) (n:=n3+1);refine⟨_,rfl,aI (hct _ _ ⟨k,gP _,.nil,(x.1,cur)::st,n3+1,true,rfl,fg.bar b5 h5 (ic _) n5,fun _=>⟨?_,by lia⟩,fun h=>(by cases h)⟩)⟩;have z':[40] <+: x.2:=by rw[<- uf];exact z
     rw[ah z'] at dw;rw[lL,uf];exact dw
   cases ht:av T n2 with
   | nil =>
    show if(!decide (([]:List Nat) < [48]))=true then _ else _
    rw[show(!decide (([]:List Nat) < [48]))=false from rfl];exact aF ⟨_,rfl,aF (other _ (fun _ _ h=>h) (fun bg ag n3 H3 x y z=>rest _ (fun _ _ h=>h) bg ag n3 H3 x y z))⟩
   | cons c t' =>
    rw[ht] at hd;have hd:bB c=false:=hd;unfold bB at hd;show if(!decide (([c]:List Nat) < [48]))=true then _ else _
    rw[si 48 c];by_cases MZ:48<=c
    ·rw[aR MZ] at hd ⊢;refine aI ⟨_,_,rfl,rfl,_,rfl,?_⟩;rw[lV,ht];show if(!decide (([57]:List Nat) < [c]))=true then _ else _
     rw[si c 57,show decide (c<=57)=false from hd];exact aF (other _ (fun _ _ h=>h) (fun bg ag n3 H3 x y z=>rest _ (fun _ _ h=>h) bg ag n3 H3 x y z))
    ·rw[a_ MZ];exact aF ⟨_,rfl,aF (other _ (fun _ _ h=>h) (fun bg ag n3 H3 x y z=>rest _ (fun _ _ h=>h) bg ag n3 H3 x y z))⟩
theorem LI{p:List Nat}{t:List Nat}(h:p <+: t):ja p t=some (t.drop p.length):=ah h
theorem LG{p:List Nat}{t:List Nat}(h : ¬ p <+: t):ja p t=none:=af h
def rc(H:Hp)(v:V)(r:Rl):Prop := ∃(q t:Addr)(ys:List V),v=.ref q/\H q=some (.tup [.int r.1,.str r.2.1,.ref t])/\H t=some (.tup ys)/\br H ys r.2.2
theorem rc.mono{H H':Hp}(k:TK H H'){v:V}{r:Rl}(h:rc H v r):rc H' v r:=by
 obtain⟨q,t,ys,e,h1,h2,h3⟩:=h;exact⟨q,t,ys,e,k _ _ h1,k _ _ h2,h3.mono k⟩
abbrev eQ(H:Hp):List V->List Rl->Prop:=Paired (rc H)
theorem eQ.mono{H H':Hp}(k:TK H H'):∀{vs:List V}{rs:List Rl},eQ H vs rs->eQ H' vs rs
 | _,_,.nil=>.nil
 | _,_,.cons a b=>.cons (a.mono k) (eQ.mono k b)
theorem eQ.snoc{H:Hp}{v:V}{r:Rl}(h:rc H v r):∀{vs:List V}{rs:List Rl},eQ H vs rs->eQ H (vs ++ [v]) (rs ++ [r])
 | _,_,.nil=>.cons h .nil
 | _,_,.cons a b=>.cons a (eQ.snoc h b)
def CS(K:PySem.W.Frag)(C XB:Addr):Sp:=fun vs H Q E=>∃(a dx:Addr)(T:Str)(n m:Nat),vs=[.ref a,.int (m:Int)]/\cb C H a dx T n/\n<=T.length/\T.length<=2000/\1<=m/\m<=4 /\
 (∀x,kx m (av T n)=some x->∀(n':Nat)(H':Hp)(q t:Addr)(ys:List V),aP a H H'->cb C H' a dx T n'->n'<=T.length->av T n'=x.2->H' q=some (.tup [.int x.1.1,.str x.1.2.1,.ref t])->H' t=some (.tup ys)->br H' ys x.1.2.2->Q (.ref q) H') /\
 (kx m (av T n)=none->∀H',aP a H H'->E (.ref XB) none H')
set_option maxHeartbeats 2000000 in
theorem QT(B:∀x∈cG,mg x=none)(bD:il K C)(lY:fc P w K mg base "take_number" ["source","least","greatest"] 3 (u_ K C au)) (zg:fc P w K mg base "skip" ["source","piece"] 3 (Cq C au)) (sG:fc P w K mg base "take_tag" ["source"] 3 (yF K C au)) (gY:gk P w K mg base C "skips" ["self","piece"] 2 (rX C)) (Ff:fc P w K mg base "take_parts" ["source","modes"] 4 (CQ K C au)) (F:bP K "take_rule" "take_rule" rh f fd):aY P w K mg base (gS P w) 5 f fd ["source","modes"] (CS K C au):=by
 refine F.qE Bv (fun vs H Q E h=>?_) (fun aL A outer s H vs Q E hr h=>?_)
 ·obtain⟨a,dx,T,n,m,rfl,_⟩:=h;rfl
 obtain⟨a,dx,T,n,m,rfl,ha,hn,hT,m1,m4,q1,q2⟩:=h;obtain⟨A0,hA⟩:∃A0,kx m (av T n)=A0:=⟨_,rfl⟩;rw[hA] at q1 q2;unfold kx at hA;refine⟨_,(Ze (Zx (i:=2) Bv.nd rfl (Or.inl rfl) (jE lY Z8 hr rfl (Za (pv 0) (Za Zg (Za (Zv yt (pv 1) Zg) Zb)))))
  (Ze (Z7 (jE zg Z8 hr rfl (Za (pv 0) (Za Zm Zb))))
  (Ze (Zx (i:=3) Bv.nd rfl (Or.inl rfl) (jE sG Z8 hr rfl (Za (pv 0) Zb)))
  (Ze (Z7 (jE zg Z8 hr rfl (Za (pv 0) (Za Zm Zb))))
  (Zf (Zz (cT (Za (pv 2) (Za (pv 3) (Za (TC (ZZ (lM gY hr (pv 0) bD.cls (Za Zm Zb)) (fun _=>rfl)) (cT Zb) (jE Ff Z8 hr rfl (Za (pv 0) (Za (pv 1) Zb)))) Zb)))))))))),?_⟩
 refine⟨_,rfl,_,rfl,_,_,rfl,rfl,a,dx,T,n,0,m-1,?_,ha,hn,hT,by lia,by lia,fun x hx n1 H1 b1 h1 l1 e1=>?_,fun hx H1 b1=>?_⟩
 ·show [V.ref a,V.int 0,V.int ((m:Int)-1)]=_;rw[show((m:Int)-1)=((m-1:Nat):Int) by lia];rfl
 rotate_left
 ·rw[hx] at hA;exact q2 hA.symm H1 b1
 rw[hx] at hA;dsimp only at hA;rw[<- e1] at hA;refine⟨_,rfl,a,dx,T,n1," ",rfl,h1,l1,(by decide),(by decide),fun z H2 b2 h2=>?_,fun z H2 b2=>?_⟩;rotate_left
 ·have hz:ja [32] (av T n1)=none:=LG z;rw[hz] at hA;exact q2 hA.symm H2 (b1.trans b2)
 have hz:ja [32] (av T n1)=some (av T (n1+1)):=(LI z).trans (by rw[lL];rfl);rw[hz] at hA;dsimp only at hA;have h2:cb C H2 a dx T (n1+1):=h2;have l2:n1+1<=T.length:=pI z l1;refine⟨_,rfl,a,dx,T,n1+1,rfl,h2,l2,hT,fun y hy n3 H3 b3 h3 l3 e3=>?_,fun hy H3 b3=>?_⟩;rotate_left
 ·rw[hy] at hA;exact q2 hA.symm H3 ((b1.trans b2).trans b3)
 rw[hy] at hA;dsimp only at hA;rw[<- e3] at hA;refine⟨_,rfl,a,dx,T,n3," = ",rfl,h3,l3,(by decide),(by decide),fun z4 H4 b4 h4=>?_,fun z4 H4 b4=>?_⟩;rotate_left
 ·have hz:ja [32,61,32] (av T n3)=none:=LG z4;rw[hz] at hA;exact q2 hA.symm H4 (((b1.trans b2).trans b3).trans b4)
 have hz:ja [32,61,32] (av T n3)=some (av T (n3+3)):=(LI z4).trans (by rw[lL];rfl);rw[hz] at hA;dsimp only at hA;have h4:cb C H4 a dx T (n3+3):=h4;have l4:n3+3<=T.length:=pI z4 l3;have DA:=((b1.trans b2).trans b3).trans b4;refine⟨_,rfl,_,rfl,_,rfl,a,dx,_,rfl,h4,rfl,a,dx,T,n3+3,"{}",rfl,h4,l4,(by decide),fun z5=>?_,fun z5 H5 b5 h5=>?_⟩
 ·have z5 : ¬ [123,125] <+: av T (n3+3):=z5;rw[af z5] at hA;refine⟨_,rfl,aF ?_⟩;refine⟨_,rfl,_,rfl,a,dx,T,n3+3,m,rfl,h4,l4,hT,m1,m4,fun p hp n6 H6 r ys b6 h6 l6 e6 hr6 rp6=>?_,fun hp H6 b6=>?_⟩
  ·rw[hp] at hA;refine⟨(by show 3<=sizeLine;decide),fun q hq=>?_⟩;have s7:=ZD.new (o:=.tup [.int (x.1:Int),.str y.1,.ref r]) hq;exact q1 _ hA.symm n6 _ q r ys ((DA.trans b6).trans (aP.same s7)) (s7 _ _ h6) l6 e6 Zc (s7 _ _ hr6) (rp6.mono s7.tk)
  ·rw[hp] at hA;exact q2 hA.symm H6 (DA.trans b6)
 ·have Qi:[123,125] <+: av T (n3+3):=z5;rw[ah Qi] at hA;refine⟨_,rfl,aI ⟨by decide,fun e he=>⟨(by show 3<=sizeLine;decide),fun q hq=>?_⟩⟩⟩;have s6:=ZD.new (o:=.tup []) he;have s7:=ZD.new (o:=.tup [.int (x.1:Int),.str y.1,.ref e]) hq;have h5:cb C H5 a dx T (n3+3+2):=h5;exact q1 _ hA.symm (n3+3+2) _ q e [] (((DA.trans b5).trans (aP.same s6)).trans (aP.same s7)) (s7 _ _ (s6 _ _ h5)) (pI z5 l4) (lL _) Zc (s7 _ _ Zc) .nil
theorem eQ.last{H:Hp}{l:Rl}:∀{tK:List Rl}{ws:List V},eQ H ws (tK ++ [l])->∃jl v,ws=jl ++ [v]/\rc H v l
 | [],_,h=>by
  cases h with
  | cons r t =>
   cases t;exact⟨[],_,rfl,r⟩
 | y::tK,_,h=>by
  cases h with
  | cons r t =>
   obtain⟨jl,v,rfl,hr⟩:=eQ.last t;exact⟨_::jl,v,rfl,hr⟩
theorem Rm{acc:List Rl}{l r:Rl}(h:acc.getLast?= some l):iu acc r=bo.cU (aJ l) (aJ r):=by
 unfold iu;rw[h]
def kh(H:Hp)(v:V)(m:Nat)(rs:List Rl):Prop := ∃(q t:Addr)(ws:List V),v=.ref q/\H q=some (.tup [.int (m:Int),.ref t])/\H t=some (.tup ws)/\eQ H ws rs
theorem kh.mono{H H':Hp}(k:TK H H'){v:V}{m:Nat}{rs:List Rl}(h:kh H v m rs):kh H' v m rs:=by
 obtain⟨q,t,ws,e,h1,h2,h3⟩:=h;exact⟨q,t,ws,e,k _ _ h1,k _ _ h2,h3.mono k⟩
def CY(K:PySem.W.Frag)(C XB:Addr):Sp:=fun vs H Q E=>∃(a dx:Addr)(T:Str),vs=[.ref a]/\cb C H a dx T 0/\T.length<=2000 /\
 (∀m rs,gI (cs T)=some (m,rs)->∀(H':Hp)(v:V),aP a H H'->kh H' v m rs->Q v H') /\
 (gI (cs T)=none->∀H',aP a H H'->E (.ref XB) none H')
def Bq(C a dx:Addr)(T:Str)(m:Nat)(H:Hp)(L:Addr)(A:Option (List Rl))(k:Nat)(σ : St)(H2:Hp):Prop := ∃(acc:List Rl)(ws:List V)(n:Nat)(v3:Option V),σ =[some (.ref a),some (.int (m:Int)),some (.ref L),v3]/\aP a H H2/\cb C H2 a dx T n/\n<=T.length/\H2 L=some (.lst ws)/\eQ H2 ws acc/\i6 m k acc (av T n)=A/\(av T n).length<k/\acc.length<=n
set_option maxHeartbeats 4000000 in
theorem QA(B:∀x∈cG,mg x=none)(Qj:∃t:Tok,mg "MOST_MODES" = some (.int 4 t)) (bD:il K C) (xc:XC K mg b_ eh d_ eF eE eA ee eG eo eC d8 au eB ef et) (lY:fc P w K mg base "take_number" ["source","least","greatest"] 3 (u_ K C au)) (gY:gk P w K mg base C "skips" ["self","piece"] 2 (rX C)) (Fh:fc P w K mg base "take_rule" ["source","modes"] 5 (CS K C au)) (sA:gk P w K mg base C "at_end" ["self"] 1 (yo C)) (F:bP K "take_changer" "take_changer" pB f fd):aY P w K mg base (gS P w) 6 f fd ["source"] (CY K C au):=by
 refine F.qE xH (fun vs H Q E h=>?_) (fun aL A outer s H vs Q E hr h=>?_)
 ·obtain⟨a,dx,T,rfl,_⟩:=h;rfl
 obtain⟨a,dx,T,rfl,ha,hT,q1,q2⟩:=h;obtain⟨t1,XH⟩:=Qj;obtain⟨A0,hA⟩:∃A0,gI (cs T)=A0:=⟨_,rfl⟩;rw[hA] at q1 q2;unfold gI at hA;have hu:(A.deeper (PyProof.Rows.envOfC (Str.ofString "take_changer") (Zh pB) s.heap.objs.size f aL)).units+200<cLine:=by have:=hr.un;lia
 refine⟨_,(Ze (Zx (i:=1) xH.nd rfl (Or.inl rfl) (jE lY Z8 hr rfl (Za (pv 0) (Za Zg (Za (fv (v:=.int 4) rfl XH ⟨_,rfl⟩) Zb)))))
  (Ze (Zx (i:=2) xH.nd rfl (Or.inl rfl) (dA Zb))
  (Ze (uG PassesOwn.leaving (ZZ (lM gY hr (pv 0) bD.cls (Za Zm Zb)) (fun _=>rfl))
   (Ze (Zx (i:=3) xH.nd rfl (Or.inl rfl) (jE Fh Z8 hr rfl (Za (pv 0) (Za (pv 1) Zb))))
    (Ze (bu (PW.pt (jx (ZZ (pv 2) (fun _=>rfl)) (kq (Zr (Ue hu (K:=K) rfl) (fM Lz (bp Z6 (pv 2) (jG jA Zg) (fun _ _=>rfl)) ip (eM Zg)) (fM Lz (pv 3) ip (eM Zg)) (ZK _)))))
     (Zf (rH xc.tI xc.tB xc.qB Z8 hr rfl (Za Zm Zb)))
     ZC)
    (Zf (Z7 (cw cJ dY dZ ZL (pv 2) (Za (pv 3) Zb)))))))
  (Ze (bu (jB (ZZ (KN sA hr (pv 0) bD.cls) (fun _=>rfl)))
   (Zf (rH xc.tI xc.tB xc.qB Z8 hr rfl (Za Zm Zb)))
   ZC)
  (Zf (Zz (cT (Za (pv 1) (Za (ZX Z0 rfl (B "tuple" (by decide)) iZ (Za (pv 2) Zb)) Zb))))))))),?_⟩
 refine⟨_,rfl,a,dx,T,0,1,4,rfl,ha,bj _,hT,by decide,by decide,fun x hx n1 H1 b1 h1 l1 e1=>?_,fun hx H1 b1=>?_⟩;rotate_left
 ·rw[show cs T=av T 0 from rfl,hx] at hA;exact q2 hA.symm H1 b1
 rw[show cs T=av T 0 from rfl,hx] at hA;dsimp only at hA;obtain⟨_,O5,lm4,_⟩:=uC hx;refine⟨by decide,fun L hL=>?_⟩;have G3:L≠a:=fun z=>by rw[z,show H1 a=some _ from h1] at hL;cases hL
 have s2:ZD H1 (upd H1 L (.lst [])):=ZD.new hL;obtain⟨A1,NQ⟩:∃A1,i6 x.1 (x.2.length+1) [] x.2=A1:=⟨_,rfl⟩;rw[NQ] at hA;refine⟨Bq C a dx T x.1 H L A1,⟨_,[],[],n1,none,rfl,b1.trans (aP.same s2),s2 _ _ h1,l1,Zc,.nil,by rw[e1];exact NQ,by rw[e1];exact gP _,bj _⟩,?_⟩;rintro k σ H3 ⟨acc,ws,n3,v3,rfl,b3,h3,l3,OY,hR,ff,hk,hac⟩;have OM:=fO (T:=T) (n:=n3);have mq:ws.length=acc.length:=gb hR;obtain⟨k,rfl⟩:∃k',k=k'+1:=⟨k-1,by lia⟩;unfold i6 at ff;refine⟨_,rfl,a,dx,_,rfl,h3,rfl,a,dx,T,n3,"; ",rfl,h3,l3,(by decide),fun z=>?_,fun z H4 b4 h4=>?_⟩
 ·have z : ¬ [59,32] <+: av T n3:=z;rw[af z] at ff;refine⟨_,rfl,aF ?_⟩;refine⟨_,rfl,a,dx,_,rfl,h3,rfl,a,dx,T,n3,rfl,h3,by lia,_,rfl,?_⟩;by_cases N_:n3=T.length
  ·rw[aR N_];have er:av T n3=[]:=List.length_eq_zero_iff.mp (by lia);rw[ah er] at ff;refine aF ⟨_,rfl,_,rfl,L,ws,rfl,.inl ⟨ak.of OY,fun r hr=>⟨(by show 2<=sizeLine;decide),fun q hq=>?_⟩⟩⟩;have s5:=ZD.new (o:=.tup ws) hr;have s6:=ZD.new (o:=.tup [.int (x.1:Int),.ref r]) hq;refine q1 x.1 acc ?_ _ _ ((b3.trans (aP.same s5)).trans (aP.same s6)) ⟨q,r,ws,rfl,Zc,s6 _ _ Zc,hR.mono (s5.tk.trans s6.tk)⟩;rw[<- hA,<- ff];rfl
  ·rw[a_ N_];have er:av T n3 ≠ []:=fun e=>by
    rw[e] at OM;have:(0:Nat)=T.length-n3:=OM;lia
   rw[af er] at ff;refine aI ⟨by show 1<=1000;decide,fun y hy=>q2 ?_ _ (rM b3 hy)⟩;rw[<- hA,<- ff];rfl
 ·have z':[59,32] <+: av T n3:=z;rw[ah z'] at ff;have h4:cb C H4 a dx T (n3+2):=h4;have l4:n3+2<=T.length:=pI z l3;have e4:(av T n3).drop 2=av T (n3+2):=(lL _).symm;rw[e4] at ff;have Zsu:H4 L=some (.lst ws):=b4 L _ G3 OY;have nB:eQ H4 ws acc:=hR.mono (TK.bar b4 h3);refine⟨_,rfl,aI ⟨fun ao H'=>∃m',m'<k+1/\Bq C a dx T x.1 H L A1 m' ao H',fun _ _ h=>h,?_⟩⟩;refine⟨_,rfl,_,rfl,a,dx,T,n3+2,x.1,rfl,h4,l4,hT,O5,lm4,fun y hy n5 H5 q t ys b5 h5 l5 e5 hq ht rp=>?_,fun hy H5 b5=>?_⟩;rotate_left
  ·rw[hy] at ff;refine q2 ?_ H5 ((b3.trans b4).trans b5);rw[<- hA,<- ff];rfl
  rw[hy] at ff;dsimp only at ff;have hlen:=congrArg List.length (JQ O5 hy).1;rw[List.length_append,<- e5,fO,fO] at hlen;have Ge:=fO (T:=T) (n:=n5);have htr:1<=(tR y.1).length:=by unfold tR;simp
  have qx:H5 L=some (.lst ws):=b5 L _ G3 Zsu;have nC:eQ H5 ws acc:=nB.mono (TK.bar b5 h4);have MV:=(b3.trans b4).trans b5;have add:∀(H6:Hp),ZD H5 H6->(if iu acc y.1=true then i6 x.1 k (acc ++ [y.1]) y.2 else none)=A1->iu acc y.1=true->∃m',m'<k+1/\Bq C a dx T x.1 H L A1 m' [some (.ref a),some (.int (x.1:Int)),some (.ref L),some (.ref q)] (upd H6 L (.lst (ws ++ [.ref q]))):=fun H6 s6 NR hl=>by
   rw[ah hl] at NR;have tk:=TK.lst (o:=.lst (ws ++ [.ref q])) (s6 _ _ qx);refine⟨k,gP _,acc ++ [y.1],_,n5,some (.ref q),rfl,?_,?_,l5,Zc,(nC.mono (s6.tk.trans tk)).snoc ⟨q,t,ys,rfl,tk _ _ (s6 _ _ hq),tk _ _ (s6 _ _ ht),(rp.mono s6.tk).mono tk⟩,by rw[e5];exact NR,by lia,by rw[bw];show _+1<=_;lia⟩
   ·intro b o hb ho;have h7:=s6 _ _ (MV b o hb ho);by_cases e:b=L
    ·have:=b1 b o hb ho;rw[e,hL] at this;cases this
    ·rw[Zi e];exact h7
   ·show upd H6 L _ a=_;rw[Zi G3.symm];exact s6 _ _ h5
  have XA : ¬ iu acc y.1=true->∀H6,ZD H5 H6->∀z,H6 z=none->∀o,E (.ref au) none (upd H6 z o):=fun hl H6 s6 z hz o=>by
   rw[af hl] at ff;refine q2 ?_ _ (rM (MV.trans (aP.same s6)) hz);rw[<- hA,<- ff];rfl
  refine⟨_,rfl,_,.inl ⟨_,ak.of qx,rfl⟩,?_⟩;cases zI:acc.getLast? with
  | none =>
   rw[List.getLast?_eq_none_iff] at zI;subst zI;obtain rfl:ws=[]:=lb mq;refine aF (aF ⟨_,rfl,.inl ⟨rfl,_,ak.of qx⟩,_,rfl,L,_,_,rfl,rfl,qx,(by decide),?_⟩);exact add H5 (ZD.refl H5) ff rfl
  | some l =>
   obtain⟨tK,rfl⟩:=List.getLast?_eq_some_iff.mp zI;have gD:=Rm (r:=y.1) zI;obtain⟨jl,v0,rfl,q0,t0,ys0,rfl,hq0,ht0,rp0⟩:=nC.last;rw[show(!(jl ++ [V.ref q0]).isEmpty)=true by simp];refine aI ⟨_,rfl,1,rfl,L,_,-1,.ref q0,rfl,rfl,ak.of qx,jw _ _,2,rfl,q0,_,rfl,hq0,fun p6 H6 s6 qm=>⟨_,rfl,2,rfl,q,_,rfl,s6 _ _ hq,fun p7 H7 s7 qo=>⟨p6,p7,aJ l,aJ y.1,rfl,rfl,aM.of (s7 _ _ qm),aM.of qo,_,rfl,?_⟩⟩⟩;have AJ:=s6.trans s7;by_cases hl:iu (tK ++ [l]) y.1=true
   ·rw[<- gD,hl];refine aF ⟨_,rfl,.inl ⟨rfl,_,ak.of (AJ _ _ qx)⟩,_,rfl,L,_,_,rfl,rfl,AJ _ _ qx,ZW (by lia),?_⟩;exact add H7 AJ ff hl
   ·rw[<- gD,show iu (tK ++ [l]) y.1=false from Bool.eq_false_iff.mpr hl];exact aI ⟨by show 1<=1000;decide,fun z hz=>XA hl H7 AJ z hz _⟩
def CH(K:PySem.W.Frag)(XB:Addr):Sp:=fun vs H Q E=>∃T,vs=[.str T]/\T.length<=2000/\(∀m rs,gI (cs T)=some (m,rs)->∀(H':Hp)(v:V),ZD H H'->kh H' v m rs->Q v H')/\(gI (cs T)=none->∀H',ZD H H'->E (.ref XB) none H')
theorem Mr{a:Addr}{H H0 H':Hp}(s:ZD H H0)(ha:H a=none)(b:aP a H0 H'):ZD H H':=fun x o h=>b x o (fun z=>by rw[z,ha] at h;cases h) (s x o h)
theorem UG(B:∀x∈cG,mg x=none)(_c_Source:il K C)(Fe:fc P w K mg base "take_changer" ["source"] 6 (CY K C au)) (E4:Bj P w K mg base C "Source" ["self","text"] 1 (Cm C)) (F:bP K "read" "read" r8 f fd):aY P w K mg base (gS P w) 7 f fd ["text"] (CH K au):=by
 refine F.qE UJ (fun vs H Q E h=>?_) (fun aL A outer s H vs Q E hr h=>?_)
 ·obtain⟨T,rfl,_⟩:=h;rfl
 obtain⟨T,rfl,hT,q1,q2⟩:=h;refine⟨_,(Zf (Zz (jE Fe Z8 hr rfl (Za (U0 E4 hr rfl (Za (pv 0) Zb)) Zb)))),?_⟩;refine⟨_,rfl,fun a dx ha FE bQ=>⟨a,dx,T,rfl,Zc,fun H1 b1 h1=>?_⟩⟩;have s0:ZD H (upd (upd H dx (.own a)) a (.ins C dx [])):=making ha FE bQ;generalize upd (upd H dx (.own a)) a (.ins C dx [])=H0 at s0 b1 ⊢;exact⟨rfl,a,dx,T,rfl,h1,hT,fun m rs hp H2 v b2 hc=>q1 m rs hp H2 v (Mr s0 ha (b1.trans b2)) hc,fun hp H2 b2=>q2 hp H2 (Mr s0 ha (b1.trans b2))⟩
theorem Q4(B:∀x∈cG,mg x=none)(F:bP K "_law_cell_at" "_law_cell_at" ri f fd):aY P w K mg base cq 1 f fd ["_law_script","_law_k"] (yy K):=by
 refine F.ok QZ (fun vs H Q E h=>?_) (fun aL A outer s H vs Q E hr h=>?_)
 ·obtain⟨a,ns,k,rfl,_⟩:=h;rfl
 obtain⟨a,ns,k,rfl,hS,sH,h0,q⟩:=h;refine⟨_,(Ze (bu (Zr sj (pv 1) (ZF lI rfl (B "len" (by decide)) gc (Za (pv 0) Zb)) (ZK _))
   (Zf (Zz (bp Z6 (pv 0) (pv 1) (fun _ _=>rfl))))
   ZC)
  (Zf (Zz Zg))),?_⟩
 refine⟨_,rfl,_,rfl,a,_,rfl,.inl hS,_,_,rfl,rfl,_,rfl,?_⟩;refine dD (fun c=>?_) (fun c=>?_)
 ·have c':=ii c;rw[aW] at c';obtain⟨v,hv⟩:=Lu (ns:=ns) h0 c';exact⟨_,rfl,_,rfl,a,_,k,_,rfl,rfl,hS,hv,q v⟩
 ·exact q 0
def BS(K:PySem.W.Frag):Sp:=fun vs H Q _=>∃(a:Addr)(ns:List Int)(st m:Int),vs=[.ref a,.int st,.int m]/\ak K H a (ns.map V.int)/\ns.length<=63/\0<=m/\m<=400 /\
 ∀(r:Addr)(xs:List Int)(H':Hp),ZD H H'->H r=none->H' r=some (.lst (xs.map V.int))->xs.length=m.toNat->(∀x∈xs,0<=x/\x<2147483647)->Q (.ref r) H'
theorem QW(B:∀x∈cG,mg x=none)(pW:bG P w K mg base "_law_cell_at" ["_law_script","_law_k"] 1 (yy K)) (F:bP K "_law_numbers" "_law_numbers" rg f fd) :
  aY P w K mg base cq 2 f fd ["_law_script","_law_first","_law_many"] (BS K):=by
 refine F.ok rm (fun vs H Q E h=>?_) (fun aL A outer s H vs Q E hr h=>?_)
 ·obtain⟨a,ns,st,m,rfl,_⟩:=h;rfl
 obtain⟨a,ns,st,m,rfl,hS,sH,h0,h1,q⟩:=h;refine⟨_,(Ze (Zx (i:=3) rm.nd rfl (Or.inl rfl) (dA Zb))
  (Ze (Zx (i:=4) rm.nd rfl (Or.inl rfl) (Zv gn Zg (pv 1)))
  (Ze (jy iR rfl (xT rfl (B "range" (by decide)) (Za (pv 2) Zb)) (dB (i:=5) rm.nd rfl (Or.inl rfl))
   (Ze (Zx (i:=6) rm.nd rfl (Or.inl rfl) (de pW hr rfl (Za (pv 0) (Za (Zv gn Zg (Zv dq (Zv gn (pv 1) (pv 5)) (ZF (SG rfl) rfl (B "max" (by decide)) Vm (Za Zg (Za (Zv yt (ZF lI rfl (B "len" (by decide)) gc (Za (pv 0) Zb)) Zg) Zb))))) Zb))))
    (Ze (Zx (i:=4) rm.nd rfl (Or.inl rfl) (Zv dq (Zv gn (Zv gn (Zv uV (pv 4) Zg) (pv 6)) (Zv uV (pv 5) (pv 5))) Zg))
    (Zf (Z7 (cw cJ dY dZ ZL (pv 3) (Za (pv 4) Zb)))))))
  (Zf (Zz (pv 3)))))),?_⟩
 refine⟨by decide,fun p hp=>?_⟩;refine⟨_,rfl,_,_,rfl,rfl,?_⟩;refine⟨_,rfl,m,rfl,by lia,by lia,xU (lo:=0) (n:=m.toNat) (fun i σ H1=>∃(xs:List Int)(num:Int)(v4 v5:Option V),σ =[some (.ref a),some (.int st),some (.int m),some (.ref p),some (.int num),v4,v5] /\
  ZD H H1/\H1 p=some (.lst (xs.map V.int))/\xs.length=i/\(∀x∈xs,0<=x/\x<2147483647)) ⟨[],_,none,none,rfl,ZD.new hp,Zc,rfl,fun _ h=>nomatch h⟩ ?_ ?_⟩
 ·rintro i σ H1 hi ⟨xs,num,v4,v5,rfl,sm,je,hl,hx⟩;have zo:=sm.seq hS;refine⟨_,rfl,_,rfl,_,rfl,_,_,rfl,rfl,_,rfl,a,_,rfl,.inl zo,_,_,rfl,rfl,_,_,rfl,_,_,rfl,rfl,?_,_,_,rfl,rfl,a,ns,_,rfl,zo,sH,?_,fun v=>?_⟩
  ·exact Ll _
  ·have:=dX (st+(0+(i:Int))) (Int.ne_of_gt (Ll (((ns.map V.int).length:Int)-2)));lia
  refine⟨_,rfl,_,_,rfl,rfl,.inr ⟨by decide,by decide⟩,_,rfl,_,_,rfl,rfl,_,rfl,_,rfl,_,_,rfl,rfl,.inl ⟨by lia,by lia⟩,_,_,rfl,rfl,_,_,rfl,rfl,(by show(0:Int)<2147483647;decide),?_⟩;refine⟨_,rfl,.inl ⟨rfl,_,ak.of je⟩,_,rfl,p,_,_,rfl,rfl,je,ZW (by rw[aW];lia),?_⟩;refine⟨xs ++ [(num*48271+v+(0+(i:Int))*(0+(i:Int))) % 2147483647],_,_,_,rfl,sm.eW hp,?_,?_,?_⟩
  ·rw[Zc,fG];rfl
  ·rw[bw,hl];rfl
  ·intro x o7;rcases bL.mp o7 with o7|o7
   ·exact hx x o7
   ·obtain rfl:=bi.mp o7;exact⟨dX _ (by decide),eZ _ (by decide)⟩
 ·rintro σ H1 ⟨xs,num,v4,v5,rfl,sm,je,hl,hx⟩;exact⟨_,rfl,q p xs H1 sm hp je hl hx⟩
theorem Tq{t:Str}(h:jI t)(hl:1<=t.length):pR t:=⟨fun z=>by
 have:t.cps.toList.length=t.length:=aB;rw[z,tW] at this;lia,h⟩
def ya:Sp:=fun vs H Q _=>∃n:Int,vs=[.int n]/\∀t:Str,gv t=true->Q (.str t) H
theorem T5(B:∀x∈cG,mg x=none)(F:bP K "_law_tag" "_law_tag" rT f fd):aY P w K mg base cq 1 f fd ["_law_number"] ya:=by
 refine F.ok rE (fun vs H Q E h=>?_) (fun aL A outer s H vs Q E hr h=>?_)
 ·obtain⟨n,rfl,_⟩:=h;rfl
 obtain⟨n,rfl,q⟩:=h;have a0:jI "a" := by intro c hc;revert c;decide
 refine⟨_,(Ze (Zx (i:=1) rE.nd rfl (Or.inl rfl) Zm)
  (Ze (bu (Zr fw (Zv dq (pv 0) Zg) Zg (ZK _))
   (Zf (Zz (Zv Zy (bp jz (pv 1) (Zv dq (Zv fK (pv 0) Zg) Zg) (fun _ _=>rfl)) (Zv Sf Zm (Zv dq (Zv fK (pv 0) Zg) Zg)))))
   ZC)
  (Ze (Zx (i:=2) rE.nd rfl (Or.inl rfl) Zm)
  (Ze (jy iR rfl (xT rfl (B "range" (by decide)) (Za (Zv gn Zg (Zv dq (Zv fK (pv 0) Zg) Zg)) Zb)) (dB (i:=3) rE.nd rfl (Or.inl rfl))
   (Ze (Zx (i:=0) rE.nd rfl (Or.inl rfl) (Zv dq (Zv gn (Zv uV (pv 0) Zg) (pv 3)) Zg))
    (Zf (Zx (i:=2) rE.nd rfl (Or.inl rfl) (Zv Zy (pv 2) (bp jz (pv 1) (Zv dq (pv 0) Zg) (fun _ _=>rfl)))))))
  (Zf (Zz (pv 2))))))),?_⟩
 refine⟨_,rfl,_,_,rfl,rfl,(by show(0:Int)<4;decide),rfl,_,rfl,?_⟩;refine dD (fun _=>?_) (fun _=>?_)
 ·obtain⟨c,hc,c1,c2⟩:=LR (i:=n / 4 % 3) (dX _ (by decide)) (Int.lt_trans (eZ _ (by decide)) (by decide));have e1:=dX (n / 12) (by decide:(8:Int)≠0);have e2:=eZ (n / 12) (by decide:(0:Int)<8);refine⟨_,rfl,_,rfl,_,_,rfl,rfl,⟨by decide,by decide⟩,_,_,rfl,rfl,(by show(0:Int)<3;decide),_,_,c,rfl,rfl,(by decide),hc,?_⟩;refine⟨_,rfl,_,_,rfl,rfl,⟨by decide,by decide⟩,_,_,rfl,rfl,(by show(0:Int)<8;decide),_,_,rfl,rfl,by lia,by lia,?_,_,_,rfl,rfl,?_,?_⟩
  ·show(n / 12 % 8).toNat*1<=sizeLine;exact Zk (by lia)
  ·rw[x8];show 1+(n / 12 % 8).toNat*1<=sizeLine;exact Zk (by lia)
  ·refine q _ (JM (V9 (Ky c1 c2) (S0 a0 _)) ?_);rw[ZG,x8];show 1+(n / 12 % 8).toNat*1<=8;lia
 have e1:=dX (n / 4) (by decide:(8:Int)≠0);have e2:=eZ (n / 4) (by decide:(0:Int)<8);refine⟨_,rfl,_,_,rfl,rfl,⟨by decide,by decide⟩,_,_,rfl,rfl,(by show(0:Int)<8;decide),_,_,rfl,rfl,_,rfl,by lia,by lia,xU (lo:=0) (n:=(1+n / 4 % 8).toNat)
  (fun i σ H1=>∃(n':Int)(t:Str)(v4:Option V),σ =[some (.int n'),some (.str kg),some (.str t),v4]/\H1=H/\jI t/\t.length=i) ⟨n,Str.empty,none,rfl,rfl,(fun c hc=>nomatch hc),rfl⟩ ?_ ?_⟩
 ·rintro i σ H1 hi ⟨n',t,v4,rfl,rfl,ht,hl⟩;have m1:=dX (n'*69621+(0+(i:Int))) (by decide:(2147483629:Int)≠0);have m2:=eZ (n'*69621+(0+(i:Int))) (by decide:(0:Int)<2147483629);refine⟨_,rfl,_,_,rfl,rfl,.inr ⟨by decide,by decide⟩,_,rfl,_,_,rfl,rfl,_,_,rfl,rfl,(by show(0:Int)<2147483629;decide),?_⟩;obtain⟨c,hc,c1,c2⟩:=LR (i:=(n'*69621+(0+(i:Int))) % 2147483629 % 26) (dX _ (by decide)) (eZ _ (by decide));refine⟨_,rfl,_,rfl,_,rfl,_,_,rfl,rfl,(by show(0:Int)<26;decide),_,_,c,rfl,rfl,(by decide),hc,_,_,rfl,rfl,?_,?_⟩
  ·show t.length+1<=sizeLine;exact Zk (by lia)
  ·refine⟨_,t++⟨#[c]⟩,_,rfl,rfl,KS ht (Ky c1 c2).Ztn,?_⟩;rw[ZG,hl];rfl
 ·rintro σ H1 ⟨n',t,v4,rfl,rfl,ht,hl⟩;exact⟨_,rfl,q t (JM (Tq ht (by lia)) (by lia))⟩
structure qZ(m:Nat)(gs:List Pa)(os:List Str)(i:Nat):Prop where
 sz:(gs.map Pa.sz).sum+os.length<=i
 ok:∀g∈gs,bh m g
 op:∀x∈os,fR x
theorem qZ.Pz{m:Nat}{g0 g1:Pa}{g2:List Pa}{t:Str}{os:List Str}{i:Nat}(h:qZ m (g0::g1::g2) (t::os) i):qZ m (g1.app (.tag t g0 .nil)::g2) os i:=by
 obtain⟨h1,h3,h4⟩:=h;refine⟨?_,fun g hg=>?_,fun x hx=>h4 x (aX _ hx)⟩
 ·simp only[bt,iQ,aO,Pa.iw,Pa.sz] at h1 ⊢;lia
 ·rcases aH.mp hg with rfl|hg
  ·exact kn (h3 g1 (by simp)) ⟨h4 t (bb ..),h3 g0 (by simp),trivial⟩
  ·exact h3 g (by simp[hg])
def BG:Sp:=fun vs H Q _=>∃(na:Addr)(xs:List Int)(md:Nat),vs=[.ref na,.int (md:Int)]/\H na=some (.lst (xs.map V.int))/\xs.length<=6/\0<md/\md<=4/\∀(r:Addr)(ys:List V)(p:Pa)(H':Hp),ZD H H'->H' r=some (.tup ys)->br H' ys p->p.sz<=6->bh md p->Q (.ref r) H'
set_option maxHeartbeats 8000000 in
theorem RJ(B:∀x∈cG,mg x=none)(sF:bG P w K mg base "_law_tag" ["_law_number"] 1 ya) (F:bP K "_law_parts" "_law_parts" ZS f fd):aY P w K mg base cq 2 f fd ["_law_numbers_here","_law_modes"] BG:=by
 refine F.ok pj (fun vs H Q E h=>?_) (fun aL A outer s H vs Q E hr h=>?_)
 ·obtain⟨na,xs,md,rfl,_⟩:=h;rfl
 obtain⟨na,xs,md,rfl,mi,hx6,m0,m1,q⟩:=h;refine Zw ((Zd ZS).drop 4) (Zf (Zz (ZX Z0 rfl (B "tuple" (by decide)) iZ (Za (bp Z6 (pv 3) Zg (fun _ _=>rfl)) Zb)))) (fun u4 h4 e4=>?_);refine Zw ((ZV ((Zd ZS).getD 3 (.Pass ⟨0,0,0,0⟩))).drop 1) (Zf (Z7 (cw cJ dY dZ ZL (bp Z6 (pv 3) (jG jA Zg) (fun _ _=>rfl)) (Za (cT (Za Zm (Za (m_ cJ oN oO nc (pv 2)) (Za (pv 6) Zb)))) Zb)))) (fun AO vF vo=>?_);refine Zw ((ZV ((Zd ZS).getD 3 (.Pass ⟨0,0,0,0⟩))).drop 0) (Ze (Zx (i:=6) pj.nd rfl (Or.inl rfl) (ZX Z0 rfl (B "tuple" (by decide)) iZ (Za (m_ cJ oN oO nc (pv 3)) Zb))) vF) (fun Ho vE vn=>?_);refine Zw ((Zd ZS).drop 3) (Ze (uG iR (Zr Wd (ZF lI rfl (B "len" (by decide)) gc (Za (pv 2) Zb)) Zg (ZK _))
   vE) h4) (fun u3 h3 e3=>?_)
 refine Zw ((i_ ((ZV ((Zd ZS).getD 2 (.Pass ⟨0,0,0,0⟩))).getD 1 (.Pass ⟨0,0,0,0⟩))).drop 1) (Zf (Z7 (cw cJ dY dZ ZL (pv 3) (Za (dA Zb) Zb)))) (fun Zwv Zqd Y8=>?_);refine Zw ((i_ ((ZV ((Zd ZS).getD 2 (.Pass ⟨0,0,0,0⟩))).getD 1 (.Pass ⟨0,0,0,0⟩))).drop 0) (Ze (Z7 (cw cJ dY dZ ZL (pv 2) (Za (de sF hr rfl (Za (Zv fK (pv 4) Zg) Zb)) Zb))) Zqd) (fun Zwu Zqc Y7=>?_);refine Zw ((ZV ((Zd ZS).getD 2 (.Pass ⟨0,0,0,0⟩))).drop 1) (Zf (bu (Zr fw (Zv dq (Zv fK (pv 4) Zg) Zg) Zg (ZK _))
   (Zf (Z7 (cw cJ dY dZ ZL (bp Z6 (pv 3) (jG jA Zg) (fun _ _=>rfl)) (Za (cT (Za Zm (Za (Zv dq (Zv fK (pv 4) Zg) (pv 1)) Zb))) Zb))))
   Zqc)) (fun Zwt Zqb Y6=>?_)
 refine Zw ((ZV ((ZV ((Zd ZS).getD 2 (.Pass ⟨0,0,0,0⟩))).getD 0 (.Pass ⟨0,0,0,0⟩))).drop 1) (Zf (Z7 (cw cJ dY dZ ZL (bp Z6 (pv 3) (jG jA Zg) (fun _ _=>rfl)) (Za (cT (Za Zm (Za (m_ cJ oN oO nc (pv 2)) (Za (pv 6) Zb)))) Zb)))) (fun Zyg Zqa Y5=>?_);refine Zw ((ZV ((ZV ((Zd ZS).getD 2 (.Pass ⟨0,0,0,0⟩))).getD 0 (.Pass ⟨0,0,0,0⟩))).drop 0) (Ze (Zx (i:=6) pj.nd rfl (Or.inl rfl) (ZX Z0 rfl (B "tuple" (by decide)) iZ (Za (m_ cJ oN oO nc (pv 3)) Zb))) Zqa) (fun Zyf Zp9 Y4=>?_);refine Zw ((ZV ((Zd ZS).getD 2 (.Pass ⟨0,0,0,0⟩))).drop 0) (Ze (jy iR rfl (xT rfl (B "range" (by decide)) (Za (ZF (RS rfl) rfl (B "min" (by decide)) Vo (Za (ZF lI rfl (B "len" (by decide)) gc (Za (pv 2) Zb)) (Za (bp Z6 (dA (Za Zg (Za Zg (Za Zg (Za Zg Zb))))) (Zv dq (pv 4) Zg) (fun _ _=>rfl)) Zb))) Zb)) (dB (i:=5) pj.nd rfl (Or.inl rfl))
   Zp9) Zqb) (fun Zye Zp8 Y3=>?_)
 refine Zw ((Zd ZS).drop 2) (Ze (jy iR rfl (uO (pv 0)) (dB (i:=4) pj.nd rfl (Or.inl rfl))
   Zp8) h3) (fun u2 h2 e2=>?_)
 refine Zw ((Zd ZS).drop 1) (Ze (Zx (i:=3) pj.nd rfl (Or.inl rfl) (dA (Za (dA Zb) Zb))) h2) (fun u1 h1 e1=>?_);refine Zw ((Zd ZS).drop 0) (Ze (Zx (i:=2) pj.nd rfl (Or.inl rfl) (dA Zb)) h1) (fun u0 h0 e0=>?_);refine⟨u0,h0,?_⟩;refine Zq e0 ?_;refine⟨by decide,fun T hT=>?_⟩;show u1 _ _ _;refine Zq e1 ?_;refine⟨by decide,fun a0 h0=>⟨(by show 1<=sizeLine;decide),fun R hR=>?_⟩⟩;have g0:=bq.Hg hT h0 hR;show u2 _ _ _;refine Zq e2 ?_;generalize upd (upd (upd H T (.lst [])) a0 (.lst [])) R (.lst [.ref a0])=H1 at g0 ⊢;refine⟨_,rfl,na,rfl,⟨_,ak.of (g0.sm _ _ mi)⟩,B6 (K:=K) (a:=na) (xs:=xs.map V.int) (fun i σ H2=>∃(as:List Addr)(gs:List Pa)(os:List Str)(v7 v8 v9:Option V),σ =[some (.ref na),some (.int (md:Int)),some (.ref T),some (.ref R),v7,v8,v9]/\bq H H2 R T as gs os/\qZ md gs os i)
  ⟨_,_,_,none,none,none,rfl,g0,⟨az _,fun g hg=>by rw[bi.mp hg];exact trivial,fun _ h=>(nomatch h)⟩⟩ ?_ ?_ ?_⟩
 ·rintro i σ H2 _ ⟨_,_,_,_,_,_,_,hg,_⟩;exact ak.of (hg.sm _ _ mi)
 ·rintro i x σ H2 hx ⟨as,gs,os,v7,v8,v9,rfl,hg,hb⟩;obtain⟨nQ,hix⟩:=cB.mp hx;rw[aW] at nQ;obtain rfl:x=V.int xs[i]:=by
   rw[<- hix,List.getElem_map]
  generalize xs[i]=num;have mL:=dX num (by decide:(4:Int)≠0);have mM:=eZ num (by decide:(0:Int)<4);obtain⟨cl,bN⟩:=Lu (ns:=[0,0,1,2]) mL mM;have cl0:0<=cl:=by
   generalize num % 4=z at mL mM bN;rcases(show z=0\/z=1\/z=2\/z=3 by lia) with rfl|rfl|rfl|rfl
   ·injection bN with bN;injection bN with bN;lia
   ·injection bN with bN;injection bN with bN;lia
   ·injection bN with bN;injection bN with bN;lia
   ·injection bN with bN;injection bN with bN;lia
  refine Zq Y3 ?_;refine⟨_,rfl,T,_,rfl,.inl (ak.of hg.hT),(by show 4<=sizeLine;decide),fun L hL=>?_⟩;have sL:ZD H2 (upd H2 L (.lst [.int 0,.int 0,.int 1,.int 2])):=ZD.new hL;have FI:bq H (upd H2 L (.lst [.int 0,.int 0,.int 1,.int 2])) R T as gs os:=hg.more sL;refine⟨_,rfl,_,_,rfl,rfl,(by show(0:Int)<4;decide),L,_,_,_,rfl,rfl,ak.of Zc,bN,_,_,rfl,?_⟩;generalize upd H2 L (.lst [.int 0,.int 0,.int 1,.int 2])=H3 at sL FI ⊢;clear hg sL hL;have hbo:os.length<=6:=by
   have:=hb.sz;lia
  have qk:((os.map V.str).reverse.length:Int)=(os.length:Int):=by rw[tY,aW]
  obtain⟨c,hc,Zxr⟩:∃c:Nat,(if cl<((os.map V.str).reverse.length:Int) then cl else((os.map V.str).reverse.length:Int))=(c:Int)/\c<=os.length:=by
   rw[qk];by_cases z:cl<(os.length:Int)
   ·exact⟨cl.toNat,by rw[ah z];lia,by lia⟩
   ·exact⟨os.length,by rw[af z],az _⟩
  refine⟨(c:Int),(congrArg (fun z=>[V.int z]) hc),by lia,by lia,xU (lo:=0) (n:=c) (fun j σ H4=>∃(as:List Addr)(gs:List Pa)(gj:List Str)(v8 v9:Option V),σ =[some (.ref na),some (.int (md:Int)),some (.ref T),some (.ref R),some (.int num),v8,v9]/\bq H H4 R T as gs gj/\qZ md gs gj i/\gj.length+j=os.length)
   ⟨as,gs,os,v8,v9,rfl,FI,hb,rfl⟩ ?_ ?_⟩
  ·rintro j σ H4 hj ⟨as,gs,gj,v8,v9,rfl,hg,hb,zP⟩;cases gj with
   | nil =>
    rw[tW] at zP;lia
   | cons t gj =>
    obtain⟨b0,b1,a2,g0,g1,g2,vs0,eX,rfl,rfl,cx,dU,eR,iN,jR,iE⟩:=hg.two;have wb:=iN.length;have tf:g1.sz<=6:=by
     have:=hb.sz;simp only[bt,iQ] at this;lia
    refine Zq Y4 ?_;refine⟨_,rfl,.inl ⟨rfl,_,ak.of jR⟩,R,_,_,rfl,rfl,jR,mS _ _,?_⟩;rw[mX];have pY:(upd H4 R (.lst ((b1::a2).map V.ref).reverse)) b0=some (.lst vs0):=by
     rw[Zi (hg.nR b0 (by simp))];exact cx
    refine⟨b0,vs0,rfl,.inl ⟨ak.of pY,fun l hl=>?_⟩⟩;refine Zq Y5 ?_;have gA:(upd (upd H4 R (.lst ((b1::a2).map V.ref).reverse)) l (.tup vs0)) R=some (.lst ((a2.map V.ref).reverse ++ [.ref b1])):=by
     rw[Zi (Z1 hl).1.symm,Zc,bt,gN]
    have pZ:(upd (upd H4 R (.lst ((b1::a2).map V.ref).reverse)) l (.tup vs0)) b1=some (.lst eX):=by
     rw[Zi (Zo eR (Z1 hl).2),Zi (hg.nR b1 (by simp))];exact eR
    have iD:(upd (upd H4 R (.lst ((b1::a2).map V.ref).reverse)) l (.tup vs0)) T=some (.lst ((gj.map V.str).reverse ++ [.str t])):=by
     rw[Zi (Zo hg.hT (Z1 hl).2),Zi hg.RT.symm];exact iE
    refine⟨_,rfl,1,rfl,R,_,-1,.ref b1,rfl,rfl,ak.of gA,jw _ _,.inl ⟨rfl,_,ak.of pZ⟩,_,rfl,.inl ⟨rfl,_,ak.of iD⟩,T,_,_,rfl,rfl,iD,mS _ _,?_⟩;rw[mX];refine⟨_,rfl,(by show 3<=sizeLine;decide),fun l2 gD=>?_⟩;obtain⟨_,_,_,_,z5,z6⟩:=hg.AK cx dU eR iN hl gD;refine⟨b1,_,_,rfl,rfl,z5,ZW (by lia),?_⟩;rw[aO] at zP;exact⟨_,_,gj,_,_,rfl,z6,hb.Pz,by lia⟩
  ·rintro σ H4 ⟨as,gs,gj,v8,v9,rfl,hg,hb,zP⟩;clear FI zP;have jU:=hg.gl;have kD:=hb.sz;have hal:as.length=gs.length:=gb hg.rows;have qk:gj.length<=6:=by lia
   show Zwt _ _ _;refine Zq Y6 ?_;have Zw1:(gs.map Pa.sz).sum+gj.length<=i:=kD;refine via (t:=Zwu) (R:=fun σ H5=>σ =[some (.ref na),some (.int (md:Int)),some (.ref T),some (.ref R),some (.int num),v8,v9]/\H5=H4) ?_ fun fin=>?_
   ·rintro σ H5 ⟨rfl,rfl⟩;refine Zq Y7 ?_;refine⟨_,rfl,.inl ⟨rfl,_,ak.of hg.hT⟩,_,rfl,_,_,rfl,rfl,⟨by decide,by decide⟩,num / 12,rfl,fun tt Aa=>⟨T,_,_,rfl,rfl,hg.hT,ZW (by rw[tY,aW];lia),?_⟩⟩;have nE:(upd H5 T (.lst ((gj.map V.str).reverse ++ [.str tt]))) R=some (.lst (as.map V.ref).reverse):=by
     rw[Zi hg.RT];exact hg.hR
    show Zwv _ _ _;refine Zq Y8 ?_;refine⟨_,rfl,.inl ⟨rfl,_,ak.of nE⟩,by decide,fun l hl=>?_⟩;obtain⟨_,dh⟩:=Z1 hl;have gA:(upd (upd H5 T (.lst ((gj.map V.str).reverse ++ [.str tt]))) l (.lst [])) R=some (.lst (as.map V.ref).reverse):=by
     rw[Zi (Zo hg.hR dh)];exact nE
    refine⟨R,_,_,rfl,rfl,gA,ZW (by rw[tY,aW];lia),?_⟩;refine⟨_,_,_,_,_,_,rfl,hg.opened hl,⟨?_,fun g gi=>?_,fun x hx=>?_⟩⟩
    ·simp only[bt,iQ,aO,Pa.sz];lia
    ·rcases aH.mp gi with rfl|gi
     ·exact trivial
     ·exact hb.ok g gi
    ·rcases aH.mp hx with rfl|hx
     ·exact rW.mp Aa
     ·exact hb.op x hx
   ·refine⟨_,rfl,_,_,rfl,rfl,⟨by decide,by decide⟩,_,_,rfl,rfl,(by show(0:Int)<3;decide),rfl,_,rfl,dD (fun c1=>?_) (fun c1=>fin _ _ ⟨rfl,rfl⟩)⟩;have cH:=hg.rows;cases gs with
    | nil=>simp at jU
    | cons g0 gs =>
     cases cH with
     | @cons b0 _ a1 _ r0 cH =>
      obtain⟨vs0,cx,dU⟩:=r0;have nF:H4 R=some (.lst ((a1.map V.ref).reverse ++ [.ref b0])):=by rw[hg.hR,bt,gN]
      have Gh:=dU.length;have ZxQ:g0.sz<=6:=by
       simp only[bt,iQ] at kD;lia
      refine⟨_,rfl,1,rfl,R,_,-1,.ref b0,rfl,rfl,ak.of nF,jw _ _,.inl ⟨rfl,_,ak.of cx⟩,_,rfl,_,_,rfl,rfl,⟨by decide,by decide⟩,_,rfl,_,_,rfl,rfl,(by show(0:Int)<(md:Int);lia),(by show 2<=sizeLine;decide),fun pt eV=>?_⟩;have s5:ZD H4 (upd H4 pt (.tup [.str "kids",.int (num / 12 % (md:Int))])):=ZD.new eV;have qD:pt≠b0:=fun z=>by rw[z,cx] at eV;cases eV
      refine⟨b0,_,_,rfl,rfl,s5 _ _ cx,ZW (by lia),?_⟩;refine⟨_,_,_,_,_,_,rfl,hg.put (q:=.kids (num / 12 % (md:Int)) .nil) cx dU s5 (.kids (by rw[Zi qD];exact Zc) .nil),⟨?_,fun g gi=>?_,hb.op⟩⟩
      ·simp only[bt,iQ,Pa.iw,Pa.sz] at kD ⊢;lia
      ·rcases aH.mp gi with rfl|gi
       ·exact kn (hb.ok g0 (bb ..)) ⟨⟨dX _ (by lia),eZ _ (by lia)⟩,trivial⟩
       ·exact hb.ok g (aX _ gi)
 ·rintro σ H2 ⟨as,gs,os,v7,v8,v9,rfl,hg,hb⟩;rw[aW] at hb;show u3 _ _ _;refine Zq e3 ?_
  let W:Nat->St->Hp->Prop:=fun n σ H3=>∃(as:List Addr)(gs:List Pa)(os:List Str)(v9:Option V),σ =[some (.ref na),some (.int (md:Int)),some (.ref T),some (.ref R),v7,v8,v9]/\bq H H3 R T as gs os/\qZ md gs os xs.length/\n=os.length
  refine⟨W,⟨_,as,gs,os,v9,rfl,hg,hb,rfl⟩,?_⟩;clear hb hg;rintro n σ H3 ⟨as,gs,os,v9,rfl,hg,hb,rfl⟩;refine⟨_,rfl,T,_,rfl,.inl (ak.of hg.hT),_,_,rfl,rfl,_,rfl,dD (fun cc=>?_) (fun cc=>?_)⟩
  ·cases os with
   | nil=>exact absurd (ii cc) (by decide)
   | cons t os =>
    obtain⟨b0,b1,a2,g0,g1,g2,vs0,eX,rfl,rfl,cx,dU,eR,iN,jR,iE⟩:=hg.two;have wb:=iN.length;have tf:g1.sz<=6:=by
     have:=hb.sz;simp only[bt,iQ] at this;lia
    refine⟨fun ao H'=>∃m',m'<(t::os).length/\W m' ao H',fun _ _ h=>h,?_⟩;refine Zq vn ?_;refine⟨_,rfl,.inl ⟨rfl,_,ak.of jR⟩,R,_,_,rfl,rfl,jR,mS _ _,?_⟩;rw[mX];have pY:(upd H3 R (.lst ((b1::a2).map V.ref).reverse)) b0=some (.lst vs0):=by
     rw[Zi (hg.nR b0 (by simp))];exact cx
    refine⟨b0,vs0,rfl,.inl ⟨ak.of pY,fun l hl=>?_⟩⟩;refine Zq vo ?_;have gA:(upd (upd H3 R (.lst ((b1::a2).map V.ref).reverse)) l (.tup vs0)) R=some (.lst ((a2.map V.ref).reverse ++ [.ref b1])):=by
     rw[Zi (Z1 hl).1.symm,Zc,bt,gN]
    have pZ:(upd (upd H3 R (.lst ((b1::a2).map V.ref).reverse)) l (.tup vs0)) b1=some (.lst eX):=by
     rw[Zi (Zo eR (Z1 hl).2),Zi (hg.nR b1 (by simp))];exact eR
    have iD:(upd (upd H3 R (.lst ((b1::a2).map V.ref).reverse)) l (.tup vs0)) T=some (.lst ((os.map V.str).reverse ++ [.str t])):=by
     rw[Zi (Zo hg.hT (Z1 hl).2),Zi hg.RT.symm];exact iE
    refine⟨_,rfl,1,rfl,R,_,-1,.ref b1,rfl,rfl,ak.of gA,jw _ _,.inl ⟨rfl,_,ak.of pZ⟩,_,rfl,.inl ⟨rfl,_,ak.of iD⟩,T,_,_,rfl,rfl,iD,mS _ _,?_⟩;rw[mX];refine⟨_,rfl,(by show 3<=sizeLine;decide),fun l2 gD=>?_⟩;obtain⟨_,_,_,_,z5,z6⟩:=hg.AK cx dU eR iN hl gD;refine⟨b1,_,_,rfl,rfl,z5,ZW (by lia),?_⟩;exact⟨os.length,by rw[aO];lia,_,_,os,_,rfl,z6,hb.Pz,rfl⟩
  ·cases os with
   | cons t os =>
    refine absurd (aR ?_) cc;show(0:Int)<((((t::os).map V.str).reverse.length:Nat):Int);rw[tY,aW,aO];lia
   | nil =>
    have jU:=hg.gl;have cH:=hg.rows;cases gs with
    | nil=>simp at jU
    | cons g gs =>
     obtain rfl:gs=[]:=lb (by simpa using jU);cases cH with
     | @cons b _ _ _ r cH =>
      cases cH;obtain⟨vs,kE,qf⟩:=r;refine Zq e4 ?_;refine⟨_,rfl,R,_,0,.ref b,rfl,rfl,ak.of hg.hR,rfl,b,vs,rfl,.inl ⟨ak.of kE,fun r hr=>?_⟩⟩;have h1:=hb.sz;simp only[bt,List.map_nil,iQ,List.sum_nil,tW] at h1;exact q r vs g _ (hg.sm.eW (hg.sm.free hr)) Zc (qf.mono (TK.new hr)) (by lia) (hb.ok g (bb ..))
def ni(i:Int)(t:Str):List Key:=[Sum.inl i,Sum.inr t]
def fe(H:Hp)(m:List (List Key×V))(rs:List (Rl)):Prop:=Paired (fun(kv:List Key×V)(r:Rl)=>kv.1=ni r.1 r.2.1/\∃q ys,kv.2=V.ref q/\H q=some (.tup ys)/\br H ys r.2.2) m rs
theorem fe.tk{H H':Hp}(k:TK H H'):∀{m:List (List Key×V)}{rs:List (Rl)},fe H m rs->fe H' m rs
 | _,_,.nil=>.nil
 | _,_,.cons ⟨e,q,ys,h1,h2,h3⟩ t=>.cons ⟨e,q,ys,h1,k _ _ h2,h3.mono k⟩ (fe.tk k t)
theorem fe.keys{H:Hp}:∀{m:List (List Key×V)}{rs:List (Rl)},fe H m rs->m.map (·.1)=(rs.map aJ).map bS
 | _,_,.nil=>rfl
 | _,_,.cons ⟨e,_⟩ t=>by rw[bt,bt,bt,e,fe.keys t];rfl
theorem fe.val{H:Hp}:∀{m:List (List Key×V)}{rs:List (Rl)},fe H m rs->∀k:bo.Ps,(k∉rs.map aJ/\gw m (bS k)=none)\/∃r q ys,r∈rs/\aJ r=k/\gw m (bS k)=some (.ref q)/\H q=some (.tup ys)/\br H ys r.2.2
 | _,_,.nil,k=>.inl ⟨by simp,rfl⟩
 | _,_,.cons (a:=kv) (b:=r) (oj := m) ⟨e,q,ys,h1,h2,h3⟩ t,k=>by
  obtain⟨kk,v⟩:=kv;have e:kk=bS (aJ r):=e;have h1:v=V.ref q:=h1;subst e h1;by_cases c:aJ r=k
  ·refine .inr ⟨r,q,ys,by simp,c,?_,h2,h3⟩;rw[<- c];exact xN rfl
  ·have c':bS (aJ r)≠bS k:=fun z=>c (uM z);have ev:gw ((bS (aJ r),V.ref q)::m) (bS k)=gw m (bS k):=x6 c';rw[ev];rcases fe.val t k with⟨h,hv⟩|⟨r',q',lF,h,z⟩
   ·refine .inl ⟨fun z=>?_,hv⟩;rw[bt] at z;rcases aH.mp z with z|z
    ·exact c z.symm
    ·exact h z
   ·exact .inr ⟨r',q',lF,aX _ h,z⟩
theorem fe.put{H:Hp}{m:List (List Key×V)}{rs:List (Rl)}(h:fe H m rs){r:Rl}{q:Addr}{ys:List V}(nk:aJ r∉rs.map aJ)(hq:H q=some (.tup ys))(hp:br H ys r.2.2):fe H (putK m (ni r.1 r.2.1) (.ref q)) (rs ++ [r]):=by
 have:(m.any fun kv=>decide (kv.1=ni r.1 r.2.1))=false:=by
  refine Bool.eq_false_iff.mpr fun z=>?_;obtain⟨kv,FQ,z⟩:=List.any_eq_true.mp z;have z:=ii z;have e:kv.1∈(rs.map aJ).map bS:=by
   rw[<- h.keys];exact AZ FQ
  obtain⟨k,hk,e⟩:=gM.mp e;rw[z] at e;have:k=aJ r:=uM e;exact nk (this ▸ hk)
 unfold putK;rw[this];exact Paired.app h (.cons ⟨rfl,q,ys,rfl,hq,hp⟩ .nil)
theorem UK(xs:List V)(i j:Nat)(h:i<=j)(hj:j<=xs.length):dJ xs (some (i:Int)) (some (j:Int))=(xs.drop i).take (j-i):=by
 unfold dJ;rw[HT.yf,HT.yf,Nat.min_eq_left hj,Nat.min_eq_left (by lia)]
structure GoodR(md:Nat)(rs:List (Rl)):Prop where
 ok:∀r∈rs,gL md r/\r.2.2.sz<=6
 nd:(rs.map aJ).Nodup
theorem fe.put2{H:Hp}{md:Nat}{m:List (List Key×V)}{rs:List (Rl)}(h:fe H m rs)(ho:GoodR md rs){r:Rl}{q:Addr}{ys:List V}(hq:H q=some (.tup ys))(hp:br H ys r.2.2)(hi:gL md r/\r.2.2.sz<=6):∃dz,fe H (putK m (ni r.1 r.2.1) (.ref q)) dz/\GoodR md dz/\dz ≠ []/\dz.length<=rs.length+1:=by
 by_cases c:aJ r∈rs.map aJ
 ·have c2:(m.any fun kv=>decide (kv.1=ni r.1 r.2.1))=true:=by
   have:bS (aJ r)∈m.map (·.1):=by
    rw[h.keys];exact AZ c
   obtain⟨kv,FQ,e⟩:=gM.mp this;exact List.any_eq_true.mpr ⟨kv,FQ,aR e⟩
  unfold putK;rw[ah c2]
  let g:Rl->Rl:=fun x=>if aJ x=aJ r then r else x
  have hg:∀x,aJ (g x)=aJ x:=fun x=>by
   by_cases z:aJ x=aJ r
   ·simp only[g,ah z];exact z.symm
   ·simp only[g,af z]
  refine⟨rs.map g,?_,⟨fun x hx=>?_,?_⟩,?_,by rw[aW];lia⟩
  ·clear c ho c2
   induction h with
   | nil=>exact .nil
   | @cons kv x m rs hh tl ih =>
    refine .cons ?_ ih;obtain⟨e,q',lF,e1,e2,e3⟩:=hh;by_cases z:kv.1=ni r.1 r.2.1
    ·have z':aJ x=aJ r:=uM (show bS (aJ x)=bS (aJ r) by rw[show bS (aJ r)=kv.1 from z.symm];exact e.symm);simp only[g,ah z,ah z'];exact⟨z,q,ys,rfl,hq,hp⟩
    ·have z' : ¬ aJ x=aJ r:=fun w=>z (e.trans (congrArg bS w));simp only[g,af z,af z'];exact⟨e,q',lF,e1,e2,e3⟩
  ·obtain⟨x0,hx0,rfl⟩:=gM.mp hx;by_cases z:aJ x0=aJ r
   ·simp only[g,ah z];exact hi
   ·simp only[g,af z];exact ho.ok x0 hx0
  ·rw[xf,show aJ ∘ g=aJ from funext hg];exact ho.nd
  ·intro z;rw[List.map_eq_nil_iff] at z;rw[z] at c;cases c
 ·refine⟨rs ++ [r],h.put c hq hp,⟨fun x hx=>?_,?_⟩,by simp,by rw[bw];exact az _⟩
  ·rcases bL.mp hx with hx|hx
   ·exact ho.ok x hx
   ·rw[bi.mp hx];exact hi
  ·rw[fG];refine List.nodup_append.mpr ⟨ho.nd,by simp,fun x hx y hy e=>?_⟩;have hy:y=aJ r:=by simpa using hy
   rw[e,hy] at hx;exact c hx
theorem GoodR.none{md:Nat}:GoodR md []:=⟨fun _ h=>(nomatch h),List.nodup_nil⟩
def BK:Sp:=fun vs H Q _=>∃(na:Addr)(xs:List Int)(md k:Nat),vs=[.int (md:Int),.ref na]/\H na=some (.lst (xs.map V.int))/\xs.length=7*k/\k<=8/\1<=md/\md<=4/\∀(d:Addr)(m:List (List Key×V))(rs:List Rl)(H':Hp),ZD H H'->H' d=some (.dT m)->fe H' m rs->GoodR md rs->rs.length<=8->Q (.ref d) H'
set_option maxHeartbeats 4000000 in
theorem Rr(B:∀x∈cG,mg x=none)(E_:bG P w K mg base "_law_parts" ["_law_numbers_here","_law_modes"] 2 BG) (sF:bG P w K mg base "_law_tag" ["_law_number"] 1 ya) (F:bP K "_law_known" "_law_known" i5 f fd):aY P w K mg base cq 3 f fd ["_law_modes","_law_numbers_here"] BK:=by
 refine F.ok xI (fun vs H Q E h=>?_) (fun aL A outer s H vs Q E hr h=>?_)
 ·obtain⟨na,xs,md,k,rfl,_⟩:=h;rfl
 obtain⟨na,xs,md,k,rfl,mi,tx,k8,m1,m4,q⟩:=h;have tw:(A.deeper (PyProof.Rows.envOfC (Str.ofString "_law_known") (Zh i5) s.heap.objs.size f aL)).units+1<cLine:=by have:=hr.un;lia
 refine Zw ((Zd i5).drop 2) (Zf (Zz (pv 2))) (fun u2 h2 e2=>?_);refine Zw ((ZV ((Zd i5).getD 1 (.Pass ⟨0,0,0,0⟩))).drop 1) (Zf (UE tw (pv 2) (cT (Za (Zv dq (bp Z6 (pv 1) (pv 3) (fun _ _=>rfl)) (pv 0)) (Za (de sF hr rfl (Za (Zv fK (bp Z6 (pv 1) (pv 3) (fun _ _=>rfl)) Zg) Zb)) Zb))) (pv 4) rfl)) (fun Hn Fl ET=>?_);refine Zw ((ZV ((Zd i5).getD 1 (.Pass ⟨0,0,0,0⟩))).drop 0) (Ze (Zx (i:=4) xI.nd rfl (Or.inl rfl) (de E_ hr rfl (Za (fM yk (pv 1) (eM (Zv gn (pv 3) Zg)) (eM (Zv gn (Zv gn (pv 3) Zg) (Zv dq (Zv fK (bp Z6 (pv 1) (pv 3) (fun _ _=>rfl)) Zg) Zg)))) (Za (pv 0) Zb)))) Fl) (fun Hm Fj ES=>?_);refine Zw ((Zd i5).drop 1) (Ze (jy iR rfl (Sn rfl (B "range" (by decide)) (Za Zg (Za (ZF lI rfl (B "len" (by decide)) gc (Za (pv 1) Zb)) (Za Zg Zb)))) (dB (i:=3) xI.nd rfl (Or.inl rfl))
   Fj) h2) (fun u1 h1 e1=>?_)
 refine Zw ((Zd i5).drop 0) (Ze (Zx (i:=2) xI.nd rfl (Or.inl rfl) S3) h1) (fun u0 h0 e0=>?_);refine⟨u0,h0,?_⟩;refine Zq e0 ?_;refine fun d hd=>?_;have s0:ZD H (upd H d (.dT [])):=ZD.new hd;have sM:(upd H d (.dT [])) d=some (.dT []):=Zc;show u1 _ _ _;refine Zq e1 ?_;generalize upd H d (.dT [])=H0 at s0 sM ⊢;have rsz:(Builtin.Range.rangeSize 0 ((xs.map V.int).length:Int) 7).toNat=k:=by
  rw[aW,tx];unfold Builtin.Range.rangeSize;rw[ah (by decide)]
  split <;> lia
 refine⟨_,rfl,na,_,rfl,.inl (ak.of (s0 _ _ mi)),0,_,7,rfl,⟨by decide,by decide,by lia,by rw[aW];lia⟩,⟨by decide,by decide⟩,?_⟩;rw[rsz];refine SE (fun i σ H1=>∃(v3 v4:Option V)(m:List (List Key×V))(rs:List Rl),σ =[some (.int (md:Int)),some (.ref na),some (.ref d),v3,v4]/\ZD H H1/\H1 d=some (.dT m)/\fe H1 m rs/\GoodR md rs/\rs.length<=i)
  ⟨none,none,[],[],rfl,s0,sM,.nil,GoodR.none,az _⟩ ?_ ?_
 ·rintro i σ H1 hi ⟨v3,v4,m,rs,rfl,s1,iF,hm,hg,iK⟩;have FU:=s1 _ _ mi;have kC:7*i<xs.length:=by lia
  have g0:dP (xs.map V.int) (0+(i:Int)*7)=some (.int (xs[7*i])):=by
   rw[show(0:Int)+(i:Int)*7=((7*i:Nat):Int) by lia];exact i9 (by rw[f_,cI kC];rfl)
  generalize xs[7*i]=num at g0;show Hm _ [some (.int (md:Int)),some (.ref na),some (.ref d),some (.int (0+(i:Int)*7)),v4] H1;refine Zq ES ?_;have b0:=dX (num / 8) (by decide:(7:Int)≠0);have b1:=eZ (num / 8) (by decide:(0:Int)<7);obtain⟨j,hj,hj5⟩:∃j:Nat,0+(i:Int)*7+1+num / 8 % 7=((7*i+1+j:Nat):Int)/\j<=6:=⟨(num / 8 % 7).toNat,by lia,by lia⟩;have EV:dJ (xs.map V.int) (some (0+(i:Int)*7+1)) (some (0+(i:Int)*7+1+num / 8 % 7))=((xs.drop (7*i+1)).take j).map V.int:=by
   rw[hj,show(0:Int)+(i:Int)*7+1=((7*i+1:Nat):Int) by lia,UK _ _ _ (by lia) (by rw[aW];lia),List.map_take,List.map_drop,show 7*i+1+j-(7*i+1)=j by lia]
  refine⟨_,rfl,_,rfl,_,_,rfl,rfl,_,rfl,_,rfl,_,_,rfl,rfl,_,rfl,_,rfl,na,_,_,_,rfl,rfl,ak.of FU,g0,_,_,rfl,rfl,⟨by decide,by decide⟩,_,_,rfl,rfl,(by show(0:Int)<7;decide),_,_,rfl,rfl,_,rfl,na,_,rfl,ak.of FU,fun C hC=>?_⟩;rw[EV];have s3:=ZD.new (o:=.lst (((xs.drop (7*i+1)).take j).map V.int)) hC;refine⟨_,rfl,C,(xs.drop (7*i+1)).take j,md,rfl,Zc,by rw[dN];lia,by lia,by lia,fun r ys p H4 s4 hr4 hp hsz aq=>?_⟩;have Hd:=s3.trans s4;have hd4:=Hd _ _ iF;have Ox:=Hd _ _ FU;have hml:m.length=rs.length:=gb hm;show Hn _ [some (.int (md:Int)),some (.ref na),some (.ref d),some (.int (0+(i:Int)*7)),some (.ref r)] H4;refine Zq ET ?_;refine⟨_,rfl,_,rfl,_,rfl,_,rfl,na,_,_,_,rfl,rfl,ak.of Ox,g0,_,rfl,_,_,rfl,rfl,(by show(0:Int)<(md:Int);lia),_,rfl,_,rfl,na,_,_,_,rfl,rfl,ak.of Ox,g0,_,_,rfl,rfl,⟨by decide,by decide⟩,num / 4,rfl,fun tg z_=>⟨(by show 2<=sizeLine;decide),fun pr hpr=>?_⟩⟩;have s5:=ZD.new (o:=.tup [.int (num % (md:Int)),.str tg]) hpr;have N6:=s5 _ _ hd4;refine⟨d,_,rfl,vg.t (k:=ni (num % (md:Int)) tg) N6 Zc (ZW (by lia)),?_⟩;have Hj:TK (upd H4 pr (.tup [.int (num % (md:Int)),.str tg])) (upd (upd H4 pr (.tup [.int (num % (md:Int)),.str tg])) d (.dT (putK m (ni (num % (md:Int)) tg) (.ref r)))):=fun b ys e=>by
   rw[Zi (Ms e N6 (fun z=>nomatch z))]
   exact e
  have Px:=Hd.trans s5;obtain⟨dz,g1,g2,g3,g4⟩:=((hm.tk Px.tk).tk Hj).put2 hg (r:=(num % (md:Int),tg,p)) (Hj _ _ (s5 _ _ hr4)) ((hp.mono s5.tk).mono Hj) ⟨⟨⟨dX _ (by lia),eZ _ (by lia)⟩,rW.mp z_,aq⟩,hsz⟩;exact⟨_,_,_,dz,rfl,(s1.trans Px).eW hd,Zc,g1,g2,by lia⟩
 ·rintro σ H1 ⟨v3,v4,m,rs,rfl,s1,iF,hm,hg,iK⟩;show u2 _ _ _;refine Zq e2 ?_;exact⟨_,rfl,q d m rs H1 s1 iF hm hg (by lia)⟩
theorem RG{X:Cx}(hu:X.A.units+200<cLine):bC X (compareOp .Eq) (fun x y H Q=>∃a b xs,x=.ref a/\y=.ref b/\aM X.K H a xs/\aM X.K H b []/\Q (.bl xs.isEmpty) H):=by
 intro pins s σ H x y v u Q I rx ry h;obtain⟨a,b,xs,rfl,rfl,ha,hb,q⟩:=h;cases rx;cases ry;obtain⟨its,r1,p1,z1⟩:=I.tuple ha;obtain⟨mv,r2,p2,z2⟩:=I.tuple hb;cases r2;refine PySem.SeqAt.eq_tupleAt (e:=fun _=>false) p1 p2 (by lia) (fun j j1 j2=>absurd j2 (by simp)) ⟨.bl _,H,I,rfl,?_⟩;have e:((List.range (min its.toArray.size (List.toArray ([]:List Value)).size)).all (fun _=>false)&&its.toArray.size == (List.toArray ([]:List Value)).size)=xs.isEmpty:=by
  cases r1 with
  | nil=>simp
  | cons _ _=>simp
 rw[e];exact q
theorem RK{X:Cx}(hu:X.A.units+200<cLine):bC X (compareOp .NotEq) (fun x y H Q=>∃a b xs,x=.ref a/\y=.ref b/\aM X.K H a xs/\aM X.K H b []/\Q (.bl (!xs.isEmpty)) H):=by
 intro pins s σ H x y v u Q I rx ry h;obtain⟨a,b,xs,rfl,rfl,ha,hb,q⟩:=h;cases rx;cases ry;obtain⟨its,r1,p1,z1⟩:=I.tuple ha;obtain⟨mv,r2,p2,z2⟩:=I.tuple hb;cases r2;refine PySem.SeqAt.RcNeAt.tuples (e:=fun _=>false) p1 p2 (by lia) (fun j j1 j2=>absurd j2 (by simp)) X.prog X.w X.xe _ ⟨.bl _,H,I,rfl,?_⟩;have e:((List.range (min its.toArray.size (List.toArray ([]:List Value)).size)).all (fun _=>false)&&its.toArray.size == (List.toArray ([]:List Value)).size)=xs.isEmpty:=by
  cases r1 with
  | nil=>simp
  | cons _ _=>simp
 rw[e];exact q
theorem L7{n:Int}(h0:0<=n)(h1:n<4):dP (Str.cps "0123").toList n=some (48+n.toNat):=by
 have:n=0\/n=1\/n=2\/n=3:=by lia
 rcases this with rfl|rfl|rfl|rfl <;> rfl
theorem rR{m:Nat}:∀{p q:Pa},bh m (p.app q)->bh m p/\bh m q
 | .nil,_,h=>⟨trivial,h⟩
 | .kids _ o,_,h=>⟨⟨h.1,(rR (p:=o) h.2).1⟩,(rR (p:=o) h.2).2⟩
 | .tag _ _ o,_,h=>⟨⟨h.1,h.2.1,(rR (p:=o) h.2.2).1⟩,(rR (p:=o) h.2.2).2⟩
theorem B2{m:Nat}:∀(i:Nat){p:Pa},bh m p->bh m (p.take i)
 | 0,_,_=>trivial
 | _+1,.nil,_=>trivial
 | i+1,.kids _ o,h=>⟨h.1,B2 i h.2⟩
 | i+1,.tag _ _ o,h=>⟨h.1,h.2.1,B2 i h.2.2⟩
theorem pK{m:Nat}:∀{p:Pa},bh m p->(tP p).length+1<=12*p.sz+1
 | .nil,_=>az _
 | .kids n o,h=>by
  have:=pK h.2;simp only[tP,Pa.sz,aO]
  split
  ·show 0+1+1<=_;lia
  ·simp only[aO];lia
 | .tag t w o,h=>by
  have h1:=pK h.2.1;have h2:=pK h.2.2;have h3:=h.1.2.2;simp only[tP,Pa.sz,bw];have a1:(if aC w=true then [] else 40::(tP w ++ [41])).length<=12*w.sz+2:=by
   split
   ·exact bj _
   ·simp only[aO,bw,tW];lia
  have a2:(if aC o=true then [] else 32::tP o).length<=12*o.sz+1:=by
   split
   ·exact bj _
   ·simp only[aO];lia
  lia
theorem Lb(sep y:Str):∀(x:Str)(xs:List Str),jn sep (x::xs ++ [y])=jn sep (x::xs)++cs sep++cs y
 | x,[]=>by show cs x++(cs sep++cs y)=cs x++cs sep++cs y;rw[bT]
 | x,z::r=>by
  show cs x++(cs sep++jn sep (z::r ++ [y]))=cs x++(cs sep++jn sep (z::r))++cs sep++cs y;rw[Lb sep y z r];simp only[bT]
structure Tx(ts:List Str)(p:Pa):Prop where
 e:jn " " ts=tP p
 n:ts.isEmpty=aC p
 s:(ts.map (·.length)).sum<=(tP p).length
theorem Tx.snoc{ts:List Str}{p q:Pa}{z:Str}(h:Tx ts p)(hq:aC q=false)(hz:cs z=tP q):Tx (ts ++ [z]) (p.app q):=by
 have e1:tP (p.app q)=spT p++tP q:=uZ p q hq;refine⟨?_,?_,?_⟩
 ·rw[e1,<- hz];unfold spT;rw[<- h.e,<- h.n];cases ts with
  | nil=>rfl
  | cons x xs =>
   rw[show(x::xs:List Str).isEmpty=false from rfl,af bf];exact Lb " " z x xs
 ·rw[pL hq];simp
 ·have:=h.s;rw[e1];unfold spT;rw[fG,List.sum_append,bw,bw,<- hz,ZR];simp only[bt,List.map_nil,iQ,List.sum_nil];lia
def xV(d:Nat):Sp:=fun vs H Q _=>∃(a:Addr)(ws:List V)(p:Pa),vs=[.ref a]/\H a=some (.tup ws)/\br H ws p/\p.dep<d/\p.sz<=2001/\bh 4 p/\∀(z:Str)(H':Hp),ZD H H'->cs z=tP p->Q (.str z) H'
set_option maxHeartbeats 4000000 in
theorem Sr(d:Nat)(B:∀x∈cG,mg x=none)(vB:bG P w K mg base "_law_text" ["_law_parts_here"] d (xV d)) (F:bP K "_law_text" "_law_text" rC f fd):aY P w K mg base cq (d+1) f fd ["_law_parts_here"] (xV (d+1)):=by
 refine F.ok BD (fun vs H Q E h=>?_) (fun aL A outer s H vs Q E hr h=>?_)
 ·obtain⟨a,ws,p,rfl,_⟩:=h;rfl
 obtain⟨a,ws,pa,rfl,ha,hP,hd,hs,hw,q⟩:=h;have hu:=pG hr;have hl:=hP.length;have jg:=pK hw;refine⟨_,(Ze (Zx (i:=1) BD.nd rfl (Or.inl rfl) (dA Zb))
  (Ze (jy iR rfl (Vf (pv 0)) (dB (i:=2) BD.nd rfl (Or.inl rfl))
   (Zf (bu (Zr fw (bp lP (pv 2) Zg (fun _ _=>rfl)) Zm (ZK _))
     (Zf (Z7 (cw cJ dY dZ ZL (pv 1) (Za (bp jz Zm (bp lP (pv 2) Zg (fun _ _=>rfl)) (fun _ _=>rfl)) Zb))))
     (Zf (bu (Zr (RG hu) (bp lP (pv 2) Zg (fun _ _=>rfl)) (cT Zb) (ZK _))
       (Zf (Z7 (cw cJ dY dZ ZL (pv 1) (Za (bp lP (pv 2) Zg (fun _ _=>rfl)) Zb))))
       (Zf (Z7 (cw cJ dY dZ ZL (pv 1) (Za (Zv Zy (Zv Zy (Zv Zy (bp lP (pv 2) Zg (fun _ _=>rfl)) Zm) (de vB hr rfl (Za (bp lP (pv 2) Zg (fun _ _=>rfl)) Zb) (by lia))) Zm) Zb)))))))))
  (Zf (Zz (cw mH t9 t_ rY Zm (Za (pv 1) Zb)))))),?_⟩
 refine⟨by decide,fun p hp=>?_⟩;have s0:ZD H (upd H p (.lst [])):=ZD.new hp;refine⟨_,rfl,a,rfl,⟨ws,aM.of (s0 _ _ ha)⟩,TV (K:=K) (a:=a) (xs:=ws) (fun i σ H2=>∃(v2:Option V)(ts:List Str),σ =[some (.ref a),some (.ref p),v2]/\ZD H H2/\H2 p=some (.lst (ts.map V.str))/\Tx ts (pa.take i)/\ts.length<=i)
  ⟨none,[],rfl,s0,Zc,⟨rfl,rfl,az _⟩,az _⟩ ?_ ?_ ?_⟩
 ·rintro i σ H2 _ ⟨v2,ts,_,sm,_⟩;exact aM.of (sm _ _ ha)
 ·rintro i x σ H2 hx ⟨v2,ts,rfl,sm,bH,hT,Zsk⟩;have nQ:=(cB.mp hx).1;have aS:(ts.map V.str).length<sizeLine:=ZW (by rw[aW];lia);have Ad:=B2 (i+1) hw;obtain⟨r,rfl,⟨n,h1,e1⟩|⟨tg,q0,jl,w1,h1,h2,h3,e1,hdw,OL⟩⟩:=hP.at i x hx
  ·rw[e1] at Ad;have hk:=(rR Ad).2.1;refine⟨_,rfl,r,_,0,_,rfl,rfl,aM.of (sm _ _ h1),rfl,rfl,_,rfl,aI ?_⟩;refine⟨_,rfl,.inl ⟨rfl,_,ak.of bH⟩,_,rfl,r,_,1,_,rfl,rfl,aM.of (sm _ _ h1),rfl,_,_,(48+n.toNat),rfl,rfl,(by decide),L7 hk.1 hk.2,p,_,_,rfl,rfl,bH,aS,?_⟩;refine⟨_,ts ++ [⟨#[48+n.toNat]⟩],rfl,sm.eW hp,by rw[Zc,fG];rfl,?_,by rw[bw];show _+1<=_;lia⟩;rw[e1];exact hT.snoc rfl rfl
  ·rw[e1] at Ad;have hk:=(rR Ad).2;have hk8:=hk.1.2.2;rw[ZR] at hk8;have Fm:=sm _ _ h1;have NP:=sm _ _ h2;have h3s:=h3.mono sm.tk;refine⟨_,rfl,r,_,0,_,rfl,rfl,aM.of Fm,rfl,rfl,_,rfl,aF ?_⟩;refine⟨_,rfl,r,_,2,_,rfl,rfl,aM.of Fm,rfl,by decide,fun e he=>?_⟩;have se:ZD H2 (upd H2 e (.tup [])):=ZD.new he;refine⟨q0,e,jl,rfl,rfl,aM.of (se _ _ NP),aM.of Zc,_,rfl,?_⟩;have tH:=sm.trans se;have vW:=se _ _ bH;have zi:=se _ _ Fm;have vD:=se _ _ NP;have vG:=h3s.mono se.tk;generalize upd H2 e (.tup [])=H3 at tH vW zi vD vG ⊢;have hn:jl.isEmpty=aC w1:=by cases h3 <;> rfl
   rw[hn];cases OV:aC w1 with
   | true =>
    obtain rfl:=km.mp OV;refine aI ?_;refine⟨_,rfl,.inl ⟨rfl,_,ak.of vW⟩,_,rfl,r,_,1,_,rfl,rfl,aM.of zi,rfl,p,_,_,rfl,rfl,vW,aS,?_⟩;refine⟨_,ts ++ [tg],rfl,tH.eW hp,by rw[Zc,fG];rfl,?_,by rw[bw];show _+1<=_;lia⟩;rw[e1];refine hT.snoc rfl ?_;show cs tg=cs tg++([] ++ []);simp
   | false =>
    refine aF ?_;refine⟨_,rfl,.inl ⟨rfl,_,ak.of vW⟩,_,rfl,r,_,1,_,rfl,rfl,aM.of zi,rfl,_,_,rfl,rfl,Zk (by show tg.length+1<=_;lia),?_⟩;have ZxV:=pK hk.2.1;refine⟨_,rfl,r,_,2,_,rfl,rfl,aM.of zi,rfl,q0,jl,w1,rfl,vD,vG,by lia,by lia,hk.2.1,fun z H4 s4 hz=>?_⟩;have iL:z.length=(tP w1).length:=by rw[<- hz,ZR]
    refine⟨_,_,rfl,rfl,Zk (by rw[ZG];show tg.length+1+_<=_;lia),_,_,rfl,rfl,Zk (by rw[ZG,ZG];show tg.length+1+_+1<=_;lia),?_⟩;refine⟨p,_,_,rfl,rfl,s4 _ _ vW,aS,?_⟩;refine⟨_,ts ++ [tg ++ "(" ++ z ++ ")"],rfl,(tH.trans s4).eW hp,by rw[Zc,fG];rfl,?_,by rw[bw];show _+1<=_;lia⟩;rw[e1];refine hT.snoc rfl ?_;show _=cs tg++((if aC w1=true then [] else 40::(tP w1 ++ [41])) ++ [])
    rw[OV,af (by decide),Z2,Z2,Z2,hz];show cs tg ++ [40]++tP w1 ++ [41]=_;simp
 ·rintro σ H2 ⟨v2,ts,rfl,sm,bH,hT,Zsk⟩;rw[hP.take_all] at hT;have h1:=hT.s;refine⟨rfl,_,rfl," ",p,ts,rfl,rfl,ak.of bH,?_,q _ H2 sm (by rw[rV];exact hT.e)⟩;show _+_*1<=16777216;lia
theorem rL{α β : Type}{R : α -> β -> Prop}:∀{xs:List α}{ys:List β}{i:Nat}{x : α},Paired R xs ys->xs[i]?= some x->∃y,ys[i]?= some y/\R x y
 | _,_,i,_,.nil,h=>by simp at h
 | _,_,0,_,.cons r _,e=>by
  cases e;exact⟨_,rfl,r⟩
 | _,_,i+1,x,.cons _ t,e=>by
  obtain⟨y,h1,h2⟩:=rL (i:=i) (x:=x) t (by simpa using e);exact⟨y,by simpa using h1,h2⟩
theorem UN{m:Nat}(h0:1<=m)(h1:m<=4):dP (Str.cps "1234").toList ((m:Int)-1)=some (48+m):=by
 have:m=1\/m=2\/m=3\/m=4:=by lia
 rcases this with rfl|rfl|rfl|rfl <;> rfl
structure q_(r:Rl):Prop where
 n0:0<=r.1
 n4:r.1<4
 t8:r.2.1.length<=8
 dp:r.2.2.dep<70
 sz:r.2.2.sz<=2001
 wf:bh 4 r.2.2
theorem Me{r:Rl}(h:q_ r):(tR r).length<=15+12*r.2.2.sz:=by
 have h1:=pK h.wf;have h2:=h.t8;rw[<- ZR] at h2;have h3:(if aC r.2.2=true then [123,125] else tP r.2.2).length<=2+12*r.2.2.sz:=by
  split
  ·show 2<=_;lia
  ·lia
 unfold tR;simp only[aO,bw];lia
def x9:Sp:=fun vs H Q _=>∃(L:Addr)(xs:List V)(m:Nat)(rs:List Rl),vs=[.int (m:Int),.ref L]/\H L=some (.lst xs)/\eQ H xs rs/\1<=m/\m<=4/\(∀r∈rs,q_ r)/\rs.length<=2001 /\
 ∀(p:Addr)(zs:List Str)(H':Hp),ZD H H'->H' p=some (.lst (zs.map V.str))->zs.map cs=[48+m]::rs.map tR->Q (.ref p) H'
set_option maxHeartbeats 4000000 in
theorem RV(B:∀x∈cG,mg x=none)(vB:bG P w K mg base "_law_text" ["_law_parts_here"] 70 (xV 70)) (F:bP K "_law_rows" "_law_rows" i4 f fd):aY P w K mg base cq 71 f fd ["_law_modes","_law_rules"] x9:=by
 refine F.ok pD (fun vs H Q E h=>?_) (fun aL A outer s H vs Q E hr h=>?_)
 ·obtain⟨L,xs,m,rs,rfl,_⟩:=h;rfl
 obtain⟨L,xs,m,rs,rfl,hL,hR,m1,m4,hB,iK,q⟩:=h;have hu:=pG hr;refine Zw ((Zd i4).drop 2) (Zf (Zz (pv 2))) (fun u2 h2 e2=>?_);refine Zw ((ZV ((Zd i4).getD 1 (.Pass ⟨0,0,0,0⟩))).drop 2) (Zf (Z7 (cw cJ dY dZ ZL (pv 2) (Za (Zv Zy (Zv Zy (Zv Zy (Zv Zy (bp jz Zm (pv 3) (fun _ _=>rfl)) Zm) (pv 4)) Zm) (pv 6)) Zb)))) (fun Zws Zp7 Y2=>?_);refine Zw ((ZV ((Zd i4).getD 1 (.Pass ⟨0,0,0,0⟩))).drop 1) (Ze (bu (Zr (RK hu) (pv 5) (cT Zb) (ZK _))
   (Zf (Zx (i:=6) pD.nd rfl (Or.inl rfl) (de vB hr rfl (Za (pv 5) Zb))))
   ZC) Zp7) (fun Hn Fl ET=>?_)
 refine Zw ((ZV ((Zd i4).getD 1 (.Pass ⟨0,0,0,0⟩))).drop 0) (Ze (Zx (i:=6) pD.nd rfl (Or.inl rfl) Zm) Fl) (fun Hm Fj ES=>?_);refine Zw ((Zd i4).drop 1) (Ze (jy iR rfl (uO (pv 1)) (uY rfl (i3 (dB (i:=3) pD.nd rfl (Or.inl rfl)) (i3 (dB (i:=4) pD.nd rfl (Or.inl rfl)) (i3 (dB (i:=5) pD.nd rfl (Or.inl rfl)) uL))))
   Fj) h2) (fun u1 h1 e1=>?_)
 refine Zw ((Zd i4).drop 0) (Ze (Zx (i:=2) pD.nd rfl (Or.inl rfl) (dA (Za (bp jz Zm (Zv yt (pv 0) Zg) (fun _ _=>rfl)) Zb))) h1) (fun u0 h0 e0=>?_);refine⟨u0,h0,?_⟩;refine Zq e0 ?_;refine⟨_,rfl,_,_,rfl,rfl,_,_,(48+m),rfl,rfl,(by decide),UN m1 m4,(by show 1<=sizeLine;decide),fun p hp=>?_⟩;have s0:=ZD.new (o:=.lst [.str ⟨#[48+m]⟩]) hp;have OC:(upd H p (.lst [.str ⟨#[48+m]⟩])) p=some (.lst [.str ⟨#[48+m]⟩]):=Zc;show u1 _ _ _;refine Zq e1 ?_;generalize upd H p (.lst [.str ⟨#[48+m]⟩])=H0 at s0 OC ⊢;refine⟨_,rfl,L,rfl,⟨_,ak.of (s0 _ _ hL)⟩,B6 (K:=K) (a:=L) (xs:=xs) (fun i σ H1=>∃(v3 v4 v5 v6:Option V)(zs:List Str),σ =[some (.int (m:Int)),some (.ref L),some (.ref p),v3,v4,v5,v6]/\ZD H H1/\H1 p=some (.lst (zs.map V.str))/\zs.map cs=[48+m]::(rs.take i).map tR)
  ⟨none,none,none,none,[⟨#[48+m]⟩],rfl,s0,OC,rfl⟩ ?_ ?_ ?_⟩
 ·rintro i σ H1 _ ⟨v3,v4,v5,v6,zs,_,sm,_⟩;exact ak.of (sm _ _ hL)
 ·rintro i x σ H1 hx ⟨v3,v4,v5,v6,zs,rfl,sm,je,hz⟩;obtain⟨r,zT,ml⟩:=rL hR hx;obtain⟨kI,FN⟩:=cB.mp zT;obtain⟨qa,ta,ys,rfl,h1,h2,h3⟩:=ml.mono sm.tk;have hb:=hB r (cQ zT);have iL:=congrArg List.length hz;rw[aW,aO,aW,dN] at iL;obtain⟨n,tg,pa⟩:=r;have hsz:=hb.sz;have OO:=hb.t8;refine⟨qa,_,rfl,aM.of h1,rfl,_,_,rfl,_,_,rfl,_,_,rfl,rfl,?_⟩;show Hm _ _ _;refine Zq ES ?_;show Hn _ _ _;refine Zq ET ?_;refine⟨_,rfl,by decide,fun e he=>?_⟩;have se:=ZD.new (o:=.tup []) he;refine⟨ta,e,ys,rfl,rfl,aM.of (se _ _ h2),aM.of Zc,_,rfl,?_⟩;have tH:=sm.trans se;have bH:=se _ _ je;have vD:=se _ _ h2;have vG:=h3.mono se.tk;generalize upd H1 e (.tup [])=H2 at tH bH vD vG ⊢;have fin:∀(D:Ends)(y:Str)(H3:Hp),ZD H2 H3->cs y=(if aC pa=true then [123,125] else tP pa)->(∀ σ H4,(∃(v3 v4 v5 v6:Option V)(zs:List Str),σ =[some (.int (m:Int)),some (.ref L),some (.ref p),v3,v4,v5,v6]/\ZD H H4/\H4 p=some (.lst (zs.map V.str))/\zs.map cs=[48+m]::(rs.take (i+1)).map tR)->D.nx σ H4) ->
    Zws D [some (.int (m:Int)),some (.ref L),some (.ref p),some (.int n),some (.str tg),some (.ref ta),some (.str y)] H3:=fun D y H3 s3 hy hD=>by
   refine Zq Y2 ?_;have kP:y.length<=2+12*pa.sz:=by
    rw[<- ZR,hy];have:=pK hb.wf;have:(tP pa).length+1<=12*pa.sz+1:=this
    split
    ·show 2<=_;lia
    ·lia
   have hsz:pa.sz<=2001:=hsz;have OO:tg.length<=8:=OO;refine⟨_,rfl,.inl ⟨rfl,_,ak.of (s3 _ _ bH)⟩,_,rfl,_,_,(48+n.toNat),rfl,rfl,(by decide),L7 hb.n0 hb.n4,_,_,rfl,rfl,(by show 1+1<=sizeLine;decide),_,rfl,_,_,rfl,rfl,?_,_,_,rfl,rfl,?_,_,rfl,_,_,rfl,rfl,?_,p,_,_,rfl,rfl,s3 _ _ bH,ZW (by rw[aW];lia),?_⟩
   ·refine Zk ?_;rw[ZG];show 1+1+tg.length<=_;lia
   ·refine Zk ?_;rw[ZG,ZG];show 1+1+tg.length+3<=_;lia
   ·refine Zk ?_;rw[ZG,ZG,ZG];show 1+1+tg.length+3+y.length<=_;lia
   ·refine hD _ _ ⟨_,_,_,_,zs ++ [(⟨#[48+n.toNat]⟩:Str) ++ " " ++ tg ++ " = " ++ y],rfl,(tH.trans s3).eW hp,by rw[Zc,fG];rfl,?_⟩;rw[fG,hz,A4 kI,FN,fG,k_];refine congrArg (fun z=>[48+m]::(List.map tR (List.take i rs)++z)) ?_;show [cs ((⟨#[48+n.toNat]⟩:Str) ++ " " ++ tg ++ " = " ++ y)] =[tR (n,tg,pa)];rw[Z2,Z2,Z2,Z2,hy];unfold tR;show [[48+n.toNat] ++ [32]++cs tg ++ [32,61,32]++_]=_;simp
  have hn:ys.isEmpty=aC pa:=by cases h3 <;> rfl
  rw[hn];cases iJ:aC pa with
  | true =>
   refine aF (fin _ _ H2 (ZD.refl _) ?_ (fun _ _ h=>h));rw[iJ];rfl
  | false =>
   refine aI ?_;refine⟨_,rfl,ta,ys,pa,rfl,vD,vG,hb.dp,hb.sz,hb.wf,fun z H3 s3 we=>?_⟩;refine fin _ z H3 s3 ?_ (fun _ _ h=>h);rw[iJ,af (by decide),we]
 ·rintro σ H1 ⟨v3,v4,v5,v6,zs,rfl,sm,je,hz⟩;rw[show xs.length=rs.length from gb hR,oI] at hz;show u2 _ _ _;refine Zq e2 ?_;exact⟨_,rfl,q p zs H1 sm je hz⟩
def x4:Sp:=fun vs H Q _=>∃z:Str,vs=[.str z]/\iy z/\z.length<=100000/\Q (.bl (gv z)) H
theorem Rj(B:∀x∈cG,mg x=none)(F:bP K "_law_is_tag" "_law_is_tag" rK f fd):aY P w K mg base cq 1 f fd ["_law_word"] x4:=by
 refine F.ok Js (fun vs H Q E h=>?_) (fun aL A outer s H vs Q E hr h=>?_)
 ·obtain⟨z,rfl,_⟩:=h;rfl
 obtain⟨z,rfl,ha,hl,q⟩:=h;refine⟨_,(Ze (jy iR rfl (L6 (pv 0)) (dB (i:=1) Js.nd rfl (Or.inl rfl))
   (Zf (bu (Zr Bu (pv 1) Zm (by with_unfolding_all rfl))
     (Zf (Zz ku))
     ZC)))
  (Zf (Zz (Kq sk sk Zg (ZF pz rfl (B "len" (by decide)) gc (Za (pv 0) Zb)) Zg)))),?_⟩
 refine⟨_,rfl,z,rfl,ha.asc,Lg (fun i σ H1=>∃v1:Option V,σ =[some (.str z),v1]/\H1=H/\(z.cps.toList.take i).all dv=true) ⟨none,rfl,rfl,rfl⟩ ?_ ?_⟩
 ·rintro i c σ H1 hi ⟨v1,rfl,rfl,cy⟩;have hc:c<128:=ha c (cQ hi);have fj:=T3 hc;refine⟨_,rfl,_,kg,rfl,rfl,_,rfl,?_⟩;rw[fj,Bool.not_not];have hs:=QH hi;cases hb:dv c with
  | true =>
   refine aF ⟨_,rfl,rfl,?_⟩;rw[hs,cy,hb];rfl
  | false =>
   refine aI ?_;have:gv z=false:=by
    unfold gv;have:z.cps.toList.all dv=false:=by
     rw[List.all_eq_false];exact⟨c,cQ hi,by rw[hb];exact bf⟩
    rw[this,Bool.and_false]
   rw[this] at q;exact q
 ·rintro σ H1 ⟨v1,rfl,rfl,cy⟩;rw[oI] at cy;unfold gv at q;rw[cy,Bool.and_true] at q;refine⟨_,rfl,z,rfl,Zk (by lia),_,_,rfl,rfl,_,rfl,?_⟩;refine dD (fun c=>?_) (fun c=>?_)
  ·have c1:1<=z.length:=by
    have:=ii c;lia
   rw[aR c1,wZ] at q;refine⟨_,_,rfl,rfl,?_⟩;have e8:decide (((z.length:Nat):Int)<=8)=decide (z.length<=8):=j_.mpr (by lia);show Q (.bl (decide (((z.length:Nat):Int)<=8))) _;rw[e8];exact q
  ·have c1 : ¬ 1<=z.length:=fun h=>c (aR (by show(1:Int)<=((z.length:Nat):Int);lia));rw[a_ c1,qJ] at q;exact q
theorem CJ(L:Str)(c:Nat):(!(Builtin.Str.occurrences L ⟨#[c]⟩ 0 L.length 1).isEmpty)=decide (c∈cs L):=PySem.StrLaws.found_one L c
def C7:Str := "abcdefghijklmnopqrstuvwxyz0123456789"
theorem UC{c:Nat}(h:c<128):decide (c∈cs C7)=(bV c || bB c):=by
 have:∀c:Fin 128,decide (c.val∈cs C7)=(bV c.val || bB c.val):=by decide +kernel
 exact this ⟨c,h⟩
theorem Vu{c:Nat}:decide (c∈cs (Str.ofString " ()"))=decide (c=32\/c=40\/c=41):=by
 refine j_.mpr ?_;show c ∈ [32,40,41]↔_;simp
theorem pM(c d:Nat):decide (V.str ⟨#[c]⟩=V.str ⟨#[d]⟩)=decide (c=d):=by
 refine j_.mpr ⟨fun h=>?_,fun h=>by rw[h]⟩;injection h with h;have:=congrArg cs h;have:[c] =[d]:=this
 simpa using this
theorem CL(wd:List Nat):decide (V.str (aN wd)=V.str (Str.ofString ""))=decide (wd=[]):=by
 refine j_.mpr ⟨fun h=>?_,fun h=>by rw[h];rfl⟩;injection h with h;have:=congrArg cs h;rw[dg] at this;exact this
theorem KA{m:Nat}:∀(l:List Nat)(c:Nat)(wd:List Nat)(cur:Pa)(st:aZ),bK m (l ++ [c]) wd cur st=(match bK m l wd cur st with|none=>none|some x=>da m c x.1 x.2.1 x.2.2)
 | [],c,wd,cur,st=>by
  show(match da m c wd cur st with|none=>none|some x=>some (x.1,x.2.1,x.2.2))=da m c wd cur st
  cases da m c wd cur st with
  | none=>rfl
  | some x=>rfl
 | a::l,c,wd,cur,st=>by
  rw[k_,bK,bK];cases da m a wd cur st with
  | none=>rfl
  | some x=>exact KA l c x.1 x.2.1 x.2.2
theorem Kr{m:Nat}:∀(l r:List Nat)(wd:List Nat)(cur:Pa)(st:aZ),bK m l wd cur st=none->bK m (l++r) wd cur st=none
 | [],r,wd,cur,st,h=>by cases h
 | a::l,r,wd,cur,st,h=>by
  rw[k_,bK];rw[bK] at h;cases hq:da m a wd cur st with
  | none=>rfl
  | some x =>
   rw[hq] at h;exact Kr l r x.1 x.2.1 x.2.2 h
theorem Uq(wd:List Nat):jW (V.str (aN wd)) [.str "0",.str "1",.str "2",.str "3"]=(decide (wd.length=1)&&decide (48<=wd.headD 0)&&decide (wd.headD 0<=51)):=by
 have e:∀d:Nat,(aN [d]=aN wd)↔wd=[d]:=fun d=>⟨fun h=>by
  have:=congrArg cs h;rw[dg,dg] at this;exact this.symm,fun h=>by rw[h]⟩
 have h0:jW (V.str (aN wd)) [.str "0",.str "1",.str "2",.str "3"]=(decide (wd=[48]) || (decide (wd=[49]) || (decide (wd=[50]) || decide (wd=[51])))):=by
  rw[<- j_.mpr (e 48),<- j_.mpr (e 49),<- j_.mpr (e 50),<- j_.mpr (e 51)];unfold jW;simp only[oC,List.any_nil,Bool.or_false];rfl
 rw[h0];cases wd with
 | nil=>rfl
 | cons c r =>
  cases r with
  | nil =>
   rw[jm];simp;lia
  | cons d r=>simp
structure IW(m:Nat)(t:List Nat)(H H1:Hp)(T R:Addr)(i:Nat)(wd:List Nat)(cur:Pa)(st:aZ):Prop where
 e:bK m (t.take i) [] .nil []=some (wd,cur,st)
 pg:∃as,bq H H1 R T as (cur::st.map Prod.snd) (st.map Prod.fst)
 sz:cur.sz+(st.map fun x=>x.2.sz).sum+st.length<=i
 wl:wd.length<=i
 wa:∀c∈wd,c<128
theorem bq.same{H H1 H2:Hp}{R T:Addr}{as:List Addr}{gs:List Pa}{ts:List Str}(h:bq H H1 R T as gs ts)(s:ZD H1 H2):bq H H2 R T as gs ts :=
 ⟨h.sm.trans s,s _ _ h.hT,s _ _ h.hR,pA s.tk h.rows (fun b _ o e=>s _ _ e),h.nd,h.fr,h.gl⟩
def CM:Sp:=fun vs H Q _=>∃(t:Str)(m:Nat),vs=[.str t,.int (m:Int)]/\iy t/\t.length<=2000/\1<=m/\m<=4/\(fE m (cs t)=none->∀H',ZD H H'->Q .aE H')/\(∀p,fE m (cs t)=some p->∀(H':Hp)(r:Addr)(ys:List V),ZD H H'->H' r=some (.tup ys)->br H' ys p->Q (.ref r) H')
set_option maxHeartbeats 4000000 in
theorem QF(B:∀x∈cG,mg x=none)(pX:bG P w K mg base "_law_is_tag" ["_law_word"] 1 x4) (F:bP K "_law_parts_read" "_law_parts_read" Zj f fd):aY P w K mg base cq 2 f fd ["_law_text_here","_law_modes"] CM:=by
 refine F.ok Z4 (fun vs H Q E h=>?_) (fun aL A outer s H vs Q E hr h=>?_)
 ·obtain⟨t,m,rfl,_⟩:=h;rfl
 obtain⟨t,m,rfl,Fz,hT,m1,m4,q1,q2⟩:=h;have hu:=pG hr;refine Zw ((Zd Zj).drop 5) (Zf (Zz (ZX Z0 rfl (B "tuple" (by decide)) iZ (Za (bp Z6 (pv 3) Zg (fun _ _=>rfl)) Zb)))) (fun u5 h5 e5=>?_);refine Zw ((Zd Zj).drop 4) (Ze (bu (Zr (SD hu) (pv 2) (dA Zb) (ZK _))
   (Zf (Zz gp))
   ZC) h5) (fun u4 h4 e4=>?_)
 refine Zw ((ZV ((ZV ((Zd Zj).getD 3 (.Pass ⟨0,0,0,0⟩))).getD 5 (.Pass ⟨0,0,0,0⟩))).drop 1) (Zf (Z7 (cw cJ dY dZ ZL (bp Z6 (pv 3) (jG jA Zg) (fun _ _=>rfl)) (Za (cT (Za Zm (Za (m_ cJ oN oO nc (pv 2)) (Za (pv 6) Zb)))) Zb)))) (fun ZwK Zqu Z_=>?_);refine Zw ((ZV ((ZV ((Zd Zj).getD 3 (.Pass ⟨0,0,0,0⟩))).getD 5 (.Pass ⟨0,0,0,0⟩))).drop 0) (Ze (Zx (i:=6) Z4.nd rfl (Or.inl rfl) (ZX Z0 rfl (B "tuple" (by decide)) iZ (Za (m_ cJ oN oO nc (pv 3)) Zb))) Zqu) (fun ZwJ Zqt Z'=>?_);refine Zw ((ZV ((Zd Zj).getD 3 (.Pass ⟨0,0,0,0⟩))).drop 5) (Zf (bu (Zr fw (pv 5) Zm (ZK _))
   Zqt
   ZC)) (fun ZwI Zqs ZY=>?_)
 refine Zw ((ZV ((Zd Zj).getD 3 (.Pass ⟨0,0,0,0⟩))).drop 4) (Ze (Zx (i:=4) Z4.nd rfl (Or.inl rfl) Zm) Zqs) (fun PR Zqr ZU=>?_);refine Zw ((ZV ((ZV ((Zd Zj).getD 3 (.Pass ⟨0,0,0,0⟩))).getD 3 (.Pass ⟨0,0,0,0⟩))).drop 1) (Zf (Z7 (cw cJ dY dZ ZL (pv 3) (Za (dA Zb) Zb)))) (fun ZwH Zqq ZT=>?_);refine Zw ((ZV ((ZV ((Zd Zj).getD 3 (.Pass ⟨0,0,0,0⟩))).getD 3 (.Pass ⟨0,0,0,0⟩))).drop 0) (Ze (Z7 (cw cJ dY dZ ZL (pv 2) (Za (pv 4) Zb))) Zqq) (fun ZwG Zqp ZO=>?_);refine Zw ((i_ ((i_ ((i_ ((ZV ((Zd Zj).getD 3 (.Pass ⟨0,0,0,0⟩))).getD 3 (.Pass ⟨0,0,0,0⟩))).getD 0 (.Pass ⟨0,0,0,0⟩))).getD 0 (.Pass ⟨0,0,0,0⟩))).drop 0) (Zf (bu (Zr pO (pv 4) Zm (ZK _))
   (Zf (Zz gp))
   ZC)) (fun ZwF Zqo ZN=>?_)
 refine Zw ((i_ ((i_ ((ZV ((Zd Zj).getD 3 (.Pass ⟨0,0,0,0⟩))).getD 3 (.Pass ⟨0,0,0,0⟩))).getD 0 (.Pass ⟨0,0,0,0⟩))).drop 0) (Zf (bu (ZZ (de pX hr rfl (Za (pv 4) Zb)) (fun _=>rfl))
   (Zf (Z7 (cw cJ dY dZ ZL (bp Z6 (pv 3) (jG jA Zg) (fun _ _=>rfl)) (Za (cT (Za Zm (Za (pv 4) (Za (cT Zb) Zb)))) Zb))))
   Zqo)) (fun ZwE Zqn ZI=>?_)
 refine Zw ((i_ ((ZV ((Zd Zj).getD 3 (.Pass ⟨0,0,0,0⟩))).getD 3 (.Pass ⟨0,0,0,0⟩))).drop 0) (Zf (bu (PW.pt (jx (Zr RX (pv 4) (cT (Za Zm (Za Zm (Za Zm (Za Zm Zb))))) (by with_unfolding_all rfl)) (kq (Zr sj (ZX pE rfl (B "int" (by decide)) m9 (Za (pv 4) Zb)) (pv 1) (ZK _)))))
   (Zf (Z7 (cw cJ dY dZ ZL (bp Z6 (pv 3) (jG jA Zg) (fun _ _=>rfl)) (Za (cT (Za Zm (Za (ZX pE rfl (B "int" (by decide)) m9 (Za (pv 4) Zb)) Zb))) Zb))))
   Zqn)) (fun ZwD Zqm ZH=>?_)
 refine Zw ((ZV ((Zd Zj).getD 3 (.Pass ⟨0,0,0,0⟩))).drop 3) (Ze (bu (Zr fw (pv 5) Zm (ZK _))
   Zqp
   Zqm) Zqr) (fun ZwC Zql ZE=>?_)
 refine Zw ((ZV ((Zd Zj).getD 3 (.Pass ⟨0,0,0,0⟩))).drop 2) (Ze (bu (PW.pt (jF (PW.pt (jx (Zr fw (pv 5) Zm (ZK _)) (kq (jB (ZZ (de pX hr rfl (Za (pv 4) Zb)) (fun _=>rfl)))))) (lO (PW.pt (jx (Zr fw (pv 5) Zm (ZK _)) (kq (PW.pt (jF (Zr (BF hu) (pv 2) (dA Zb) (ZK _)) (lO (PW.pt (jx (Zr fw (pv 4) Zm (ZK _)) (kq (Zr (BF hu) (bp Z6 (pv 3) (jG jA Zg) (fun _ _=>rfl)) (dA Zb) (ZK _))))))))))))))
   (Zf (Zz gp))
   ZC) Zql) (fun Hq Fo EU=>?_)
 refine Zw ((ZV ((Zd Zj).getD 3 (.Pass ⟨0,0,0,0⟩))).drop 1) (Ze (bu (PW.pt (jF (Zr Bu (pv 5) Zm (by with_unfolding_all rfl)) (lO (PW.pt (jx (Zr pO (pv 5) Zm (ZK _)) (jx (Zr fw (pv 4) Zm (ZK _)) (kq (Zr (BF hu) (bp Z6 (pv 3) (jG jA Zg) (fun _ _=>rfl)) (dA Zb) (ZK _)))))))))
   (Zf (Zz gp))
   ZC) Fo) (fun AO vF vo=>?_)
 refine Zw ((ZV ((ZV ((Zd Zj).getD 3 (.Pass ⟨0,0,0,0⟩))).getD 0 (.Pass ⟨0,0,0,0⟩))).drop 1) (Zf Jr) (fun ZwB Zqj Zs=>?_);refine Zw ((ZV ((ZV ((Zd Zj).getD 3 (.Pass ⟨0,0,0,0⟩))).getD 0 (.Pass ⟨0,0,0,0⟩))).drop 0) (Ze (Zx (i:=4) Z4.nd rfl (Or.inl rfl) (Zv Zy (pv 4) (pv 5))) Zqj) (fun ZwA Zqi Zp=>?_);refine Zw ((ZV ((Zd Zj).getD 3 (.Pass ⟨0,0,0,0⟩))).drop 0) (Ze (bu (Zr Sh (pv 5) Zm (by with_unfolding_all rfl))
   Zqi
   ZC) vF) (fun Ho vE vn=>?_)
 refine Zw ((Zd Zj).drop 3) (Ze (jy iR rfl (L6 (Zv Zy (pv 0) Zm)) (dB (i:=5) Z4.nd rfl (Or.inl rfl))
   vE) h4) (fun u3 h3 e3=>?_)
 refine Zw ((Zd Zj).drop 2) (Ze (Zx (i:=4) Z4.nd rfl (Or.inl rfl) Zm) h3) (fun u2 h2 e2=>?_);refine Zw ((Zd Zj).drop 1) (Ze (Zx (i:=3) Z4.nd rfl (Or.inl rfl) (dA (Za (dA Zb) Zb))) h2) (fun u1 h1 e1=>?_);refine Zw ((Zd Zj).drop 0) (Ze (Zx (i:=2) Z4.nd rfl (Or.inl rfl) (dA Zb)) h1) (fun u0 h0 e0=>?_);refine⟨u0,h0,?_⟩;refine Zq e0 ?_;refine⟨by decide,fun Tg Fw=>?_⟩;show u1 _ _ _;refine Zq e1 ?_;refine⟨by decide,fun a0 h0=>⟨(by show 1<=sizeLine;decide),fun R hR=>?_⟩⟩;have g0:=bq.Hg Fw h0 hR;show u2 _ _ _;refine Zq e2 ?_;show u3 _ _ _;refine Zq e3 ?_;generalize upd (upd (upd H Tg (.lst [])) a0 (.lst [])) R (.lst [.ref a0])=H1 at g0 ⊢;obtain⟨tt,Aa⟩:∃tt,t++(" " : Str)=tt:=⟨_,rfl⟩;have yV:cs tt=cs t ++ [32]:=by rw[<- Aa,Z2];rfl
 have MU:iy tt:=fun c hc=>by
  have hc:c∈cs tt:=hc;rw[yV] at hc;rcases bL.mp hc with hc|hc
  ·exact Fz c hc
  ·rw[bi.mp hc];decide
 have Zx1:(cs tt).length=t.length+1:=by rw[yV,bw,ZR];rfl
 have g_:∀i,bK m ((cs tt).take i) [] .nil []=none->fE m (cs t)=none:=fun i hi=>by
  have:=Kr _ ((cs tt).drop i) _ _ _ hi;rw[j6,yV] at this;unfold fE;rw[this]
 refine⟨_,rfl,_,_,rfl,rfl,Zk (by show t.length+1<=_;lia),tt,(congrArg V.str Aa),MU.asc,Lg (fun i σ H2=>∃(wd:List Nat)(cur:Pa)(st:aZ)(v5 v6:Option V),σ =[some (.str t),some (.int (m:Int)),some (.ref Tg),some (.ref R),some (.str (aN wd)),v5,v6]/\IW m (cs tt) H H2 Tg R i wd cur st)
  ⟨[],.nil,[],none,none,rfl,⟨rfl,⟨_,g0⟩,bj _,bj _,fun _ h=>nomatch h⟩⟩ ?_ ?_⟩
 ·rintro i c σ H2 hi ⟨wd,cur,st,v5,v6,rfl,hS⟩;have hi:(cs tt)[i]?= some c:=hi;have hc:c<128:=MU c (cQ hi);have nQ:=(cB.mp hi).1;have FN:i<=2000:=by
   have nQ:i<(cs tt).length:=nQ;lia
  have hsz:=hS.sz;have mq:=hS.wl;obtain⟨as,pg⟩:=hS.pg;have n9:bK m ((cs tt).take (i+1)) [] .nil []=da m c wd cur st:=by
   rw[uE hi,KA,hS.e]
  show Ho _ _ _;refine Zq vn ?_;refine⟨_,rfl,_,C7,rfl,rfl,_,rfl,?_⟩;rw[CJ,UC hc];cases hL:bV c || bB c with
  | true =>
   refine aI ?_;show ZwA _ _ _;refine Zq Zp ?_;refine⟨_,rfl,_,rfl,_,_,rfl,rfl,Zk (by rw[Cd];show wd.length+1<=_;lia),?_⟩;show ZwB _ _ _;refine Zq Zs ?_;refine⟨wd ++ [c],cur,st,some (.str ⟨#[c]⟩),v6,?_,?_⟩
   ·have:aN wd++(⟨#[c]⟩:Str)=aN (wd ++ [c]):=jC (by rw[Z2,dg,dg];rfl);rw[<- this];rfl
   ·refine⟨?_,⟨as,pg⟩,by lia,by rw[bw];show _+1<=_;lia,fun x hx=>?_⟩
    ·rw[n9];unfold da;rw[ah hL]
    ·rcases bL.mp hx with hx|hx
     ·exact hS.wa x hx
     ·rw[bi.mp hx];exact hc
  | false =>
   refine aF ?_;unfold da at n9;rw[af (by rw[hL];exact bf)] at n9;have out:∀H3,ZD H2 H3->bK m ((cs tt).take (i+1)) [] .nil []=none->Q .aE H3:=fun H3 s3 hq=>q1 (g_ _ hq) H3 (pg.sm.trans s3);have cH:=pg.rows;cases cH with
   | @cons b0 _ a1 _ r0 cH =>
   obtain⟨vs0,cx,dU⟩:=r0;have nF:H2 R=some (.lst ((a1.map V.ref).reverse ++ [.ref b0])):=by rw[pg.hR,bt,gN]
   have Ow:vs0.isEmpty=aC cur:=by cases dU <;> rfl
   have OW:iy (aN wd):=fun x hx=>hS.wa x (by have hx:x∈cs (aN wd):=hx;rw[dg] at hx;exact hx);have z_:gv (aN wd)=eI wd:=by
    rw[jm,rW,<- uI,dg]
   let Nx:St->Hp->Prop:=fun σ H2=>∃(wd:List Nat)(cur:Pa)(st:aZ)(v5 v6:Option V),σ =[some (.str t),some (.int (m:Int)),some (.ref Tg),some (.ref R),some (.str (aN wd)),v5,v6]/\IW m (cs tt) H H2 Tg R (i+1) wd cur st
   have tail:∀(D:Ends),(∀ ao H',Nx ao H'->D.nx ao H')->∀(pT:Pa)(aG:aZ)(Dz:List Addr)(H3:Hp),bq H H3 R Tg Dz (pT::aG.map Prod.snd) (aG.map Prod.fst)->pT.sz+(aG.map fun x=>x.2.sz).sum+aG.length<=i+1 ->
     bK m ((cs tt).take (i+1)) [] .nil []=(if c=41 then CZ pT aG else some ([],pT,aG))->(c=41->aG ≠ [])->PR D [some (.str t),some (.int (m:Int)),some (.ref Tg),some (.ref R),some (.str (aN wd)),some (.str ⟨#[c]⟩),v6] H3:=fun D hD pT aG Dz H3 iM jh zS Gb=>by
    refine Zq ZU ?_;show ZwI _ _ _;refine Zq ZY ?_;refine⟨_,rfl,rfl,_,rfl,?_⟩;show if decide (V.str ⟨#[c]⟩=V.str ⟨#[41]⟩)=true then _ else _
    rw[pM];by_cases fW:c=41
    ·rw[aR fW];rw[ah fW] at zS;refine aI ?_;cases aG with
     | nil=>exact absurd rfl (Gb fW)
     | cons x aG =>
      obtain⟨w2,o2⟩:=x;obtain⟨c0,c1,a2,g0,g1,g2,wW,jl,rfl,eg,cx,dU,eR,iN,jR,iE⟩:=iM.two;injection eg with vq jM;injection jM with jM vt;subst vq jM vt;have wb:jl.length<=o2.sz:=iN.length;have jh:pT.sz+(o2.sz+(aG.map fun x=>x.2.sz).sum)+(aG.length+1)<=i+1:=jh;show ZwJ _ _ _;refine Zq Z' ?_;refine⟨_,rfl,.inl ⟨rfl,_,ak.of jR⟩,R,_,_,rfl,rfl,jR,mS _ _,?_⟩;rw[mX];have pY:(upd H3 R (.lst ((c1::a2).map V.ref).reverse)) c0=some (.lst wW):=by
       rw[Zi (iM.nR c0 (by simp))];exact cx
      refine⟨c0,wW,rfl,.inl ⟨ak.of pY,fun l hl=>?_⟩⟩;show ZwK _ _ _;refine Zq Z_ ?_;have gA:(upd (upd H3 R (.lst ((c1::a2).map V.ref).reverse)) l (.tup wW)) R=some (.lst ((a2.map V.ref).reverse ++ [.ref c1])):=by
       rw[Zi (Z1 hl).1.symm,Zc,bt,gN]
      have pZ:(upd (upd H3 R (.lst ((c1::a2).map V.ref).reverse)) l (.tup wW)) c1=some (.lst jl):=by
       rw[Zi (Zo eR (Z1 hl).2),Zi (iM.nR c1 (by simp))];exact eR
      have iD:(upd (upd H3 R (.lst ((c1::a2).map V.ref).reverse)) l (.tup wW)) Tg=some (.lst (((aG.map Prod.fst).map V.str).reverse ++ [.str w2])):=by
       rw[Zi (Zo iM.hT (Z1 hl).2),Zi iM.RT.symm];exact iE
      refine⟨_,rfl,1,rfl,R,_,-1,.ref c1,rfl,rfl,ak.of gA,jw _ _,.inl ⟨rfl,_,ak.of pZ⟩,_,rfl,.inl ⟨rfl,_,ak.of iD⟩,Tg,_,_,rfl,rfl,iD,mS _ _,?_⟩;rw[mX];refine⟨_,rfl,(by show 3<=sizeLine;decide),fun l2 gD=>?_⟩;obtain⟨_,_,_,_,z5,z6⟩:=iM.AK cx dU eR iN hl gD;refine⟨c1,_,_,rfl,rfl,z5,ZW (by lia),hD _ _ ⟨[],_,aG,_,_,rfl,?_,⟨_,z6⟩,?_,bj _,fun _ h=>nomatch h⟩⟩
      ·rw[zS];rfl
      ·simp only[Pa.iw,Pa.sz];lia
    ·rw[a_ fW];rw[af fW] at zS;exact aF (hD _ _ ⟨[],pT,aG,_,_,rfl,zS,⟨Dz,iM⟩,jh,bj _,fun _ h=>nomatch h⟩)
   have lop:∀(D:Ends),D.rt=Q->(∀ ao H',Nx ao H'->D.nx ao H')->∀H3,ZD H2 H3 -> ¬ ((c=40/\eI wd=false)\/(c=41/\(st=[]\/(wd=[]/\aC cur=true))))->(c=32\/c=40\/c=41)->bK m ((cs tt).take (i+1)) [] .nil []=(if c=40 then some ([],.nil,(aN wd,cur)::st) else match eN m wd cur with|none=>none|some bg=>if c=41 then CZ bg st else some ([],bg,st))->ZwC D [some (.str t),some (.int (m:Int)),some (.ref Tg),some (.ref R),some (.str (aN wd)),some (.str ⟨#[c]⟩),v6] H3:=fun D nZ hD H3 s3 fj h3 hq=>by
    have hW:=pg.same s3;have Xi:(b0::a1).length<=2010:=by
     have:=gb pg.rows;simp only[aO,aW] at this ⊢;lia
    refine Zq ZE ?_;refine⟨_,rfl,rfl,_,rfl,?_⟩;show if decide (V.str ⟨#[c]⟩=V.str ⟨#[40]⟩)=true then _ else _
    rw[pM];by_cases fA:c=40
    ·rw[aR fA];rw[ah fA] at hq;refine aI ?_;show ZwG _ _ _;refine Zq ZO ?_;refine⟨_,rfl,.inl ⟨rfl,_,ak.of hW.hT⟩,_,rfl,Tg,_,_,rfl,rfl,hW.hT,ZW (by simp;lia),?_⟩;have nE:(upd H3 Tg (.lst (((st.map Prod.fst).map V.str).reverse ++ [.str (aN wd)]))) R=some (.lst ((b0::a1).map V.ref).reverse):=by
      rw[Zi hW.RT];exact hW.hR
     show ZwH _ _ _;refine Zq ZT ?_;refine⟨_,rfl,.inl ⟨rfl,_,ak.of nE⟩,by decide,fun l hl=>?_⟩;obtain⟨_,dh⟩:=Z1 hl;have gA:(upd (upd H3 Tg (.lst (((st.map Prod.fst).map V.str).reverse ++ [.str (aN wd)]))) l (.lst [])) R=some (.lst ((b0::a1).map V.ref).reverse):=by
      rw[Zi (Zo hW.hR dh)];exact nE
     refine⟨R,_,_,rfl,rfl,gA,ZW (by simp at Xi ⊢;lia),?_⟩;have jX:=hW.opened hl;refine tail D hD .nil ((aN wd,cur)::st) _ _ jX (by simp[Pa.sz] <;> lia) ?_ (fun h=>by lia)
     rw[hq,af (by lia)]
    ·rw[a_ fA];rw[af fA] at hq;refine aF ?_;have NA:∀(D':Ends),D'.rt=Q->(∀(bg:Pa)(H5:Hp)(lx:List Addr),bq H H5 R Tg lx (bg::st.map Prod.snd) (st.map Prod.fst)->bg.sz<=cur.sz+1->eN m wd cur=some bg->D'.nx [some (.str t),some (.int (m:Int)),some (.ref Tg),some (.ref R),some (.str (aN wd)),some (.str ⟨#[c]⟩),v6] H5)->gq m wd=false->∀H4,ZD H2 H4 ->
       ZwE D' [some (.str t),some (.int (m:Int)),some (.ref Tg),some (.ref R),some (.str (aN wd)),some (.str ⟨#[c]⟩),v6] H4:=fun D' P_ lA sV H4 s4=>by
      refine Zq ZI ?_;refine⟨_,rfl,aN wd,rfl,OW,by rw[Cd];lia,_,rfl,?_⟩;rw[z_];unfold eN at lA;rw[sV,af bf] at lA;have jX:=pg.same s4;cases jg:eI wd with
      | true =>
       rw[jg,ah rfl] at lA;refine aI ?_;have vC:=s4 _ _ cx;refine⟨_,rfl,1,rfl,R,_,-1,.ref b0,rfl,rfl,ak.of (s4 _ _ nF),jw _ _,.inl ⟨rfl,_,ak.of vC⟩,_,rfl,by decide,fun e he=>⟨(by show 3<=sizeLine;decide),fun pt eV=>?_⟩⟩;have s5:=ZD.new (o:=.tup []) he;have s6:=ZD.new (o:=.tup [.str "tag",.str (aN wd),.ref e]) eV;have Py:=s5.trans s6;have h06:=Py _ _ vC;have qD:pt≠b0:=fun z=>by rw[z,s5 _ _ vC] at eV;cases eV
       have neb:e≠b0:=fun z=>by rw[z,vC] at he;cases he
       have Gh:=dU.length;refine⟨b0,_,_,rfl,rfl,h06,ZW (by lia),?_⟩;refine lA (cur.app (.tag (aN wd) .nil .nil)) _ _ (jX.put vC (dU.mono s4.tk) Py (.tag (q:=e) (by rw[Zi qD];exact Zc) (by rw[Zi neb];exact s6 _ _ Zc) .nil .nil)) ?_ rfl;simp only[Pa.iw,Pa.sz];lia
      | false =>
       rw[jg,af bf] at lA;refine aF ?_;show ZwF _ _ _;refine Zq ZN ?_;refine⟨_,rfl,rfl,_,rfl,?_⟩;show if(!decide (V.str (aN wd)=V.str (Str.ofString "")))=true then _ else _
       rw[CL];by_cases hG:wd=[]
       ·rw[aR hG];rw[ah hG] at lA;exact aF (lA cur _ _ jX (by lia) rfl)
       ·rw[a_ hG];refine aI ?_;show D'.rt V.aE H4;rw[P_];refine out H4 s4 (hq.trans ?_);unfold eN;rw[sV,af bf,jg,af bf,af hG]
     have G7:∀(D':Ends),(∀ σ H,PR D σ H->D'.nx σ H)->∀(bg:Pa)(H5:Hp)(lx:List Addr),bq H H5 R Tg lx (bg::st.map Prod.snd) (st.map Prod.fst)->bg.sz<=cur.sz+1->eN m wd cur=some bg->D'.nx [some (.str t),some (.int (m:Int)),some (.ref Tg),some (.ref R),some (.str (aN wd)),some (.str ⟨#[c]⟩),v6] H5:=fun D' lA bg H5 lx pg5 hz5 hq5=>by
      rw[hq5] at hq;exact lA _ _ (tail D hD bg st lx H5 pg5 (by lia) hq (fun h hs=>fj (.inr ⟨h,.inl hs⟩)))
     show ZwD _ _ _;refine Zq ZH ?_;refine⟨_,rfl,(by show 4<=sizeLine;decide),fun tp Gg=>⟨tp,_,rfl,.inr (aM.of Zc),rfl,rfl,_,rfl,?_⟩⟩;have sp:=ZD.new (o:=.tup [.str "0",.str "1",.str "2",.str "3"]) Gg;have tF:=s3.trans sp;show if jW (V.str (aN wd)) [.str "0",.str "1",.str "2",.str "3"]=true then _ else _
     rw[Uq];cases sN:(decide (wd.length=1)&&decide (48<=wd.headD 0)&&decide (wd.headD 0<=51)) with
     | false =>
      have sV:gq m wd=false:=by unfold gq;rw[sN];rfl
      refine aF (aF (NA _ ?_ ?_ sV _ tF))
      ·exact nZ
      ·exact G7 _ (fun _ _ h=>h)
     | true =>
      rw[cP,cP,cC,cC,cC] at sN;obtain⟨⟨iF,N5⟩,N7⟩:=sN;cases wd with
      | nil=>cases iF
      | cons c9 r9 =>
       obtain rfl:r9=[]:=lb (by simpa using iF);have N5:48<=c9:=N5;have N7:c9<=51:=N7;obtain⟨d9,rfl⟩:∃d9,c9=48+d9:=⟨c9-48,by lia⟩;have NE:PySem.intText? (aN [48+d9])=some (d9:Int):=sh (by lia);refine aI ⟨_,rfl,_,_,rfl,NE,(by show 1<=640;decide),_,rfl,_,_,rfl,rfl,_,rfl,?_⟩;by_cases aD:d9<m
       ·rw[aR (by lia)];refine aI ?_;have nz:=tF _ _ cx;have jX:=pg.same tF;refine⟨_,rfl,1,rfl,R,_,-1,.ref b0,rfl,rfl,ak.of (tF _ _ nF),jw _ _,.inl ⟨rfl,_,ak.of nz⟩,_,rfl,_,_,rfl,NE,(by show 1<=640;decide),(by show 2<=sizeLine;decide),fun pt eV=>?_⟩;have s6:=ZD.new (o:=.tup [.str "kids",.int (d9:Int)]) eV;have qD:pt≠b0:=fun z=>by rw[z,nz] at eV;cases eV
        have Gh:=dU.length;refine⟨b0,_,_,rfl,rfl,s6 _ _ nz,ZW (by lia),?_⟩;refine G7 _ (fun _ _ h=>h) (cur.app (.kids (d9:Int) .nil)) _ _ (jX.put nz (dU.mono tF.tk) s6 (.kids (by rw[Zi qD];exact Zc) .nil)) ?_ ?_
        ·simp only[Pa.iw,Pa.sz];lia
        ·have:gq m [48+d9]=true:=by
          unfold gq;simp;lia
         unfold eN;rw[this,ah rfl];show some (cur.app (.kids ((48+d9-48:Nat):Int) .nil))=_;rw[show(48+d9-48:Nat)=d9 by lia]
       ·rw[a_ (by lia)];have sV:gq m [48+d9]=false:=by
         unfold gq;simp;lia
        refine aF (NA _ ?_ ?_ sV _ tF)
        ·exact nZ
        ·exact G7 _ (fun _ _ h=>h)
   have mid:∀(D:Ends),D.rt=Q->(∀ ao H',Nx ao H'->D.nx ao H')->∀H3,ZD H2 H3->(c=32\/c=40\/c=41) -> ¬ (c≠41/\wd=[]/\aC cur=true)->Hq D [some (.str t),some (.int (m:Int)),some (.ref Tg),some (.ref R),some (.str (aN wd)),some (.str ⟨#[c]⟩),v6] H3:=fun D nZ hD H3 s3 h3 fj=>by
    refine Zq EU ?_;have hs:=n9;rw[af (show ¬ (¬ (c=32\/c=40\/c=41)\/(c≠41/\wd=[]/\aC cur=true)) from fun h=>h.elim (fun k=>k h3) fj)] at hs;have zh:=fun H4 (s4:ZD H2 H4) (hb : ¬ ((c=40/\eI wd=false)\/(c=41/\(st=[]\/(wd=[]/\aC cur=true)))))=>lop D nZ hD H4 s4 hb h3 (hs.trans (af hb));have G':∀H4 (s4:ZD H2 H4),((c=40/\eI wd=false)\/(c=41/\(st=[]\/(wd=[]/\aC cur=true))))->D.rt .aE H4:=fun H4 s4 hb=>by
     rw[nZ];exact out H4 s4 (hs.trans (ah hb))
    refine⟨_,rfl,rfl,_,rfl,?_⟩;show if decide (V.str ⟨#[c]⟩=V.str ⟨#[40]⟩)=true then _ else _
    rw[pM];by_cases fA:c=40
    ·rw[aR fA];refine aI ⟨_,rfl,aN wd,rfl,OW,by rw[Cd];lia,_,rfl,?_⟩;rw[z_];cases jg:eI wd with
     | true =>
      refine aF ⟨_,rfl,rfl,_,rfl,?_⟩;show if decide (V.str ⟨#[c]⟩=V.str ⟨#[41]⟩)=true then _ else _
      rw[pM,a_ (by lia)];exact aF (aF (zh H3 s3 (by rw[jg];rintro(⟨_,h⟩|⟨h,_⟩);cases h;lia)))
     | false=>exact aI (aI (G' H3 s3 (.inl ⟨fA,jg⟩)))
    ·rw[a_ fA];refine aF (aF ⟨_,rfl,rfl,_,rfl,?_⟩);show if decide (V.str ⟨#[c]⟩=V.str ⟨#[41]⟩)=true then _ else _
     rw[pM];by_cases fW:c=41
     ·rw[aR fW];refine aI ⟨_,rfl,by decide,fun e he=>?_⟩;have se:=ZD.new (o:=.lst []) he;have qG:=s3.trans se;refine⟨Tg,e,_,rfl,rfl,ak.of (qG _ _ pg.hT),ak.of Zc,_,rfl,?_⟩;cases di:st with
      | nil=>exact aI (aI (G' _ qG (.inr ⟨fW,.inl di⟩)))
      | cons x ag =>
       rw[show(((x::ag).map Prod.fst).map V.str).reverse.isEmpty=false by simp];refine aF ⟨_,rfl,rfl,_,rfl,?_⟩;show if decide (V.str (aN wd)=V.str (Str.ofString ""))=true then _ else _
       rw[CL];by_cases hG:wd=[]
       ·rw[aR hG];refine aI ⟨_,rfl,1,rfl,R,_,-1,.ref b0,rfl,rfl,ak.of (qG _ _ nF),jw _ _,by decide,fun e2 me=>?_⟩;have Hf:=ZD.new (o:=.lst []) me;refine⟨b0,e2,vs0,rfl,rfl,ak.of ((qG.trans Hf) _ _ cx),ak.of Zc,_,rfl,?_⟩;rw[Ow];cases vU:aC cur with
        | true=>exact aI (G' _ (qG.trans Hf) (.inr ⟨fW,.inr ⟨hG,vU⟩⟩))
        | false=>exact aF (zh _ (qG.trans Hf) (by rw[di,vU];rintro(⟨h,_⟩|⟨_,h|h⟩);exact fA h;cases h;cases h.2))
       ·rw[a_ hG];exact aF (aF (zh _ qG (by rw[di];rintro(⟨h,_⟩|⟨_,h|h⟩);exact fA h;cases h;exact hG h.1)))
     ·rw[a_ fW];exact aF (aF (zh H3 s3 (by rintro(⟨h,_⟩|⟨h,_⟩);exact fA h;exact fW h)))
   show AO _ _ _;refine Zq vo ?_;refine⟨_,rfl,_,_,rfl,rfl,_,rfl,?_⟩;rw[CJ,Vu];by_cases h3:c=32\/c=40\/c=41
   ·rw[aR h3];refine aF ⟨_,rfl,rfl,_,rfl,?_⟩;show if(!(decide (V.str ⟨#[c]⟩=V.str ⟨#[41]⟩)))=true then _ else _
    rw[pM];by_cases fW:c=41
    ·rw[aR fW];exact aF (aF (mid _ rfl (fun _ _ h=>h) H2 (ZD.refl _) h3 (fun h=>h.1 fW)))
    ·rw[a_ fW];refine aI ⟨_,rfl,rfl,_,rfl,?_⟩;show if decide (V.str (aN wd)=V.str (Str.ofString ""))=true then _ else _
     rw[CL];by_cases hG:wd=[]
     ·rw[aR hG];refine aI ⟨_,rfl,1,rfl,R,_,-1,.ref b0,rfl,rfl,ak.of nF,jw _ _,by decide,fun e he=>?_⟩;have se:=ZD.new (o:=.lst []) he;refine⟨b0,e,vs0,rfl,rfl,ak.of (se _ _ cx),ak.of Zc,_,rfl,?_⟩;rw[Ow];cases vU:aC cur with
      | true =>
       rw[ah (.inr ⟨fW,hG,vU⟩)] at n9;exact aI (out _ se n9)
      | false =>
       exact aF (mid _ rfl (fun _ _ h=>h) _ se h3 (fun h=>by rw[vU] at h;cases h.2.2))
     ·rw[a_ hG];exact aF (aF (mid _ rfl (fun _ _ h=>h) H2 (ZD.refl _) h3 (fun h=>hG h.2.1)))
   ·rw[a_ h3];rw[ah (.inl h3)] at n9;exact aI (aI (out H2 (ZD.refl _) n9))
 ·rintro σ H2 ⟨wd,cur,st,v5,v6,rfl,hS⟩;have he:=hS.e;rw[show tt.cps.toList.length=(cs tt).length from rfl,oI,yV] at he;obtain⟨as,pg⟩:=hS.pg;show u4 _ _ _;refine Zq e4 ?_;refine⟨_,rfl,by decide,fun e me=>?_⟩;have se:=ZD.new (o:=.lst []) me;have iM:=pg.same se;refine⟨Tg,e,_,rfl,rfl,ak.of iM.hT,ak.of Zc,_,rfl,?_⟩;cases st with
  | cons x st =>
   rw[show(!(((x::st).map Prod.fst).map V.str).reverse.isEmpty)=true by simp];refine aI (q1 ?_ _ iM.sm);unfold fE;rw[he]
  | nil =>
   refine aF ?_;show u5 _ _ _;refine Zq e5 ?_;have cH:=iM.rows;cases cH with
   | @cons b1 _ lx _ r cH =>
    cases cH;obtain⟨vs,kE,qf⟩:=r;refine⟨_,rfl,R,_,0,.ref b1,rfl,rfl,ak.of iM.hR,rfl,b1,vs,rfl,.inl ⟨ak.of kE,fun r hr=>?_⟩⟩;refine q2 cur ?_ _ r vs (iM.sm.trans (ZD.new hr)) Zc (qf.mono (TK.new hr));unfold fE;rw[he]
theorem R5{m c:Nat}{wd:List Nat}{cur:Pa}{st:aZ}{x:Qs}(h:da m c wd cur st=some x) :
  x.2.1.sz+(x.2.2.map fun y=>y.2.sz).sum+x.2.2.length<=cur.sz+(st.map fun y=>y.2.sz).sum+st.length+1:=by
 unfold da at h
 split at h
 ·cases h;dsimp only;lia
 ·split at h
  ·cases h
  ·split at h
   ·cases h
   ·split at h
    ·cases h;simp[Pa.sz];lia
    ·split at h
     ·cases h
     ·rename_i bg hq
      have hc:bg.sz<=cur.sz+1:=by
       unfold eN at hq
       split at hq
       ·cases hq;simp only[Pa.iw,Pa.sz];lia
       ·split at hq
        ·cases hq;simp only[Pa.iw,Pa.sz];lia
        ·split at hq
         ·cases hq;lia
         ·cases hq
      split at h
      ·cases st with
       | nil=>cases h
       | cons y st =>
        obtain⟨w,o⟩:=y;cases h;simp[Pa.iw,Pa.sz];lia
      ·cases h;dsimp only;lia
theorem LZ{m:Nat}:∀(t wd:List Nat)(cur:Pa)(st:aZ)(x:Qs),bK m t wd cur st=some x->x.2.1.sz+(x.2.2.map fun y=>y.2.sz).sum+x.2.2.length<=cur.sz+(st.map fun y=>y.2.sz).sum+st.length+t.length
 | [],wd,cur,st,x,h=>by
  cases h;exact az _
 | c::t,wd,cur,st,x,h=>by
  rw[bK] at h;cases hq:da m c wd cur st with
  | none=>rw[hq] at h;cases h
  | some y =>
   rw[hq] at h;have h1:=R5 hq;have h2:=LZ t _ _ _ _ h;rw[aO];lia
theorem LW{m:Nat}{t:List Nat}{p:Pa}(h:fE m t=some p):p.sz<=t.length+1:=by
 unfold fE at h
 split at h
 ·rename_i wd cur hq
  cases h;have:=LZ _ _ _ _ _ hq;simp[Pa.sz] at this;lia
 ·cases h
def ik(B:Nat):Pa->aZ->Prop
 | cur,[]=>cur.dep<=B+1
 | cur,(_,o)::st=>cur.dep+st.length+1<=B+1/\ik B o st
theorem ik.top{B:Nat}{cur:Pa}{st:aZ}(h:ik B cur st):cur.dep+st.length<=B+1:=by
 cases st with
 | nil=>exact h
 | cons x st=>exact h.1
theorem ik.set{B:Nat}{cur bg:Pa}{st:aZ}(h:ik B cur st)(hc:bg.dep+st.length<=B+1):ik B bg st:=by
 cases st with
 | nil=>exact hc
 | cons x st=>exact⟨hc,h.2⟩
theorem ik.mono{B B':Nat}(hb:B<=B'):∀{st:aZ}{cur:Pa},ik B cur st->ik B' cur st
 | [],_,h=>cZ h (by lia)
 | (_,o)::st,cur,h=>⟨by have:=h.1;lia,h.2.mono hb⟩
theorem uK:∀p q:Pa,(p.app q).dep=max p.dep q.dep
 | .nil,q=>by simp[Pa.app,Pa.dep]
 | .kids _ o,q=>by simp only[Pa.app,Pa.dep,uK o q]
 | .tag _ w o,q=>by simp only[Pa.app,Pa.dep,uK o q];lia
theorem Tn{m c B:Nat}{wd:List Nat}{cur:Pa}{st:aZ}{x:Qs}(h:da m c wd cur st=some x)(hd:ik B cur st)(hl:st.length<=B):ik (B+(if c=40 then 1 else 0)) x.2.1 x.2.2/\x.2.2.length<=B+(if c=40 then 1 else 0):=by
 have ht:=hd.top;unfold da at h
 split at h
 ·cases h;exact⟨hd.mono (Nat.le_add_right _ _),by show st.length<=_;lia⟩
 ·split at h
  ·cases h
  ·split at h
   ·cases h
   ·split at h
    ·rename_i fA
     cases h;rw[ah fA];refine⟨⟨?_,hd.mono (ic _)⟩,?_⟩
     ·show 0+st.length+1<=B+1+1;lia
     ·show st.length+1<=_;lia
    ·rename_i fA
     rw[af fA]
     split at h
     ·cases h
     ·rename_i bg hq
      have hc:bg.dep+st.length<=B+1:=by
       unfold eN at hq
       split at hq
       ·cases hq;rw[uK];simp only[Pa.dep];lia
       ·split at hq
        ·cases hq;rw[uK];simp only[Pa.dep];lia
        ·split at hq
         ·cases hq;lia
         ·cases hq
      have gh:=hd.set hc
      split at h
      ·cases st with
       | nil=>cases h
       | cons y st =>
        obtain⟨w,o⟩:=y;cases h;have ho:=gh.2.top;have h1:=gh.1;refine⟨gh.2.set ?_,?_⟩
        ·rw[uK];simp only[Pa.dep];lia
        ·show st.length<=_;simp only[aO] at hl;lia
      ·cases h;exact⟨gh,hl⟩
theorem Lr{m:Nat}:∀(t wd:List Nat)(cur:Pa)(st:aZ)(x:Qs)(B:Nat),bK m t wd cur st=some x->ik B cur st->st.length<=B->ik (B+t.count 40) x.2.1 x.2.2
 | [],wd,cur,st,x,B,h,hd,hl=>by
  cases h;exact hd
 | c::t,wd,cur,st,x,B,h,hd,hl=>by
  rw[bK] at h;cases hq:da m c wd cur st with
  | none=>rw[hq] at h;cases h
  | some y =>
   rw[hq] at h;obtain⟨h1,h2⟩:=Tn hq hd hl;have h3:=Lr t _ _ _ _ _ h h1 h2;rw[fq];have e:B+(if c=40 then 1 else 0)+t.count 40=B+(t.count 40+if(c == 40)=true then 1 else 0):=by
    by_cases z:c=40 <;> simp[z] <;> lia
   rw[e] at h3;exact h3
theorem Lo{m:Nat}{t:List Nat}{p:Pa}(h:fE m t=some p):p.dep<=t.count 40+1:=by
 unfold fE at h
 split at h
 ·rename_i wd cur hq
  cases h;have:=Lr _ _ _ _ _ 0 hq (bj _) (az _);rw[fo,show List.count 40 [32]=0 from rfl] at this;have:p.dep<=0+(t.count 40+0)+1:=this;lia
 ·cases h
def gu(m:Nat)(row:Str):Option Rl :=
 match cs (Txt.partition row " = ").1 with
 | c::b::g=>if g ≠ []/\(48<=c/\c<=51)/\c-48<m/\b=32 then
   (match (if(Txt.partition row " = ").2.2=Str.ofString "{}" then some Pa.nil else fE m (cs (Txt.partition row " = ").2.2)) with
    | none=>none
    | some p=>if eI g=true then some (((c-48:Nat):Int),aN g,p) else none)
  else none
 | _=>none
theorem uQ{m:Nat}(hm:m<=9):∀{p:Pa},bh m p->∀c∈tP p,bV c=true\/bB c=true\/c=32\/c=40\/c=41
 | .nil,_,c,hc=>nomatch hc
 | .kids n o,h,c,hc=>by
  have h1:=h.1.1;have h2:=h.1.2;have hc:c∈(48+n.toNat)::XT o:=hc;rcases aH.mp hc with rfl|hc
  ·exact .inr (.inl (yD (by lia)))
  ·unfold XT at hc
   split at hc
   ·cases hc
   ·rcases aH.mp hc with rfl|hc
    ·exact .inr (.inr (.inl rfl))
    ·exact uQ hm h.2 c hc
 | .tag t w o,h,c,hc=>by
  have hc:c∈cs t++((if aC w=true then [] else 40::(tP w ++ [41]))++XT o):=hc
  rcases bL.mp hc with hc|hc
  ·exact .inl (e_.mp h.1.1 c hc)
  ·rcases bL.mp hc with hc|hc
   ·split at hc
    ·cases hc
    ·rcases aH.mp hc with rfl|hc
     ·exact .inr (.inr (.inr (.inl rfl)))
     ·rcases bL.mp hc with hc|hc
      ·exact uQ hm h.2.1 c hc
      ·rw[bi.mp hc];exact .inr (.inr (.inr (.inr rfl)))
   ·unfold XT at hc
    split at hc
    ·cases hc
    ·rcases aH.mp hc with rfl|hc
     ·exact .inr (.inr (.inl rfl))
     ·exact uQ hm h.2.2 c hc
theorem CK{c d:Nat}(h:bV c=true)(hd:d=59\/d=61):c≠d:=by
 unfold bV at h;simp at h;lia
theorem VV{c d:Nat}(h:bB c=true)(hd:d=59\/d=61):c≠d:=by
 unfold bB at h;simp at h;lia
theorem MK{m d:Nat}(hm:m<=9){p:Pa}(h:bh m p)(hd:d=59\/d=61):d∉tP p:=fun hc=>by
 rcases uQ hm h d hc with k|k|k|k|k
 ·exact CK k hd rfl
 ·exact VV k hd rfl
 ·lia
 ·lia
 ·lia
def vO(r:Rl):List Nat:=(48+r.1.toNat)::32::cs r.2.1
def qI(r:Rl):List Nat:=if aC r.2.2=true then [123,125] else tP r.2.2
theorem SV(r:Rl):aN (tR r)=aN (vO r)++Str.ofString " = " ++ aN (qI r):=by
 apply jC;rw[Z2,Z2,dg,dg,dg];unfold tR vO qI;show _=_ ++ [32,61,32]++_;simp
theorem VB{m:Nat}(hm:m<=4){r:Rl}(h:gL m r):gu m (aN (tR r))=some r:=by
 obtain⟨n,g,p⟩:=r;obtain⟨⟨n0,n1⟩,hT,hp⟩:=h;have n0:0<=n:=n0;have n1:n<m:=n1;have hT:fR g:=hT;have hp:bh m p:=hp;have hh:(61:Nat)∉cs (aN (vO (n,g,p))):=by
  rw[dg];unfold vO;intro hc;rcases aH.mp hc with hc|hc
  ·have hc:61=48+n.toNat:=hc;lia
  ·rcases aH.mp hc with hc|hc
   ·cases hc
   ·exact CK (e_.mp hT.1 61 hc) (.inr rfl) rfl
 have ht:(61:Nat)∉cs (aN (qI (n,g,p))):=by
  rw[dg];unfold qI
  split
  ·decide
  ·exact MK (by lia) hp (.inr rfl)
 have e:=T9 (y:=Str.ofString " = ") (c:=61) (q:=1) rfl (by decide) (by decide) _ _ hh ht;unfold gu;rw[SV,e];dsimp only;rw[dg];unfold vO;dsimp only;have FJ:cs g ≠ []:=fun z=>by
  have:=hT.2.1;rw[z] at this;cases this
 rw[ah ⟨FJ,⟨by lia,by lia⟩,by lia,rfl⟩];have e2:(if aN (qI (n,g,p))=Str.ofString "{}" then some Pa.nil else fE m (cs (aN (qI (n,g,p)))))=some p:=by
  rw[dg];unfold qI;dsimp only;cases iJ:aC p with
  | true =>
   obtain rfl:=km.mp iJ;rw[ah rfl];exact ah rfl
  | false =>
   rw[af bf,af,L3 hm iJ hp];intro z;have z:=congrArg cs z;rw[dg] at z;obtain⟨c,zz,hc,kJ⟩:=Mz (by lia) iJ hp;rw[hc] at z;injection z with z _;subst z;exact absurd kJ (by decide)
 rw[e2];dsimp only;rw[uI.mpr hT,if_pos rfl,sf,show((48+n.toNat-48:Nat):Int)=n by lia]
theorem J1{m:Nat}(hm:m<=4){row:Str}{r:Rl}(h:gu m row=some r):gL m r/\r.2.2.sz<=row.length+1/\r.2.2.dep<=(cs row).count 40+1:=by
 have hl:=K0 row (Str.ofString " = ");have hs:=PySem.StrLaws.partition_sum row (Str.ofString " = ");have hcn:(cs (Txt.partition row (Str.ofString " = ")).2.2).count 40<=(cs row).count 40:=by
  conv=>rhs;rw[<- hs]
  rw[Z2,fo];lia
 unfold gu at h
 split at h
 ·rename_i c b g vN
  split at h
  ·rename_i cX
   split at h
   ·cases h
   ·rename_i p hp
    split at h
    ·rename_i hg
     cases h;have bH:bh m p/\p.sz<=row.length+1/\p.dep<=(cs row).count 40+1:=by
      split at hp
      ·cases hp;exact⟨trivial,bj _,bj _⟩
      ·have h1:=LW hp;have h2:=Lo hp;rw[ZR] at h1;exact⟨SM hp,cZ h1 (by lia),by lia⟩
     refine⟨⟨⟨?_,?_⟩,Cj hg,bH.1⟩,bH.2⟩
     ·show(0:Int)<=((c-48:Nat):Int);lia
     ·show((c-48:Nat):Int)<(m:Int);lia
    ·cases h
  ·cases h
 ·cases h
theorem KG{m:Nat}{rs:List Rl}(hw:∀r∈rs,gL m r)(hm:m<=4){T:Str}(e:cs T=tC m rs):Txt.split T (Str.ofString "; ")=aN [48+m]::rs.map fun r=>aN (tR r):=by
 have eT:T=Txt.join (Str.ofString "; ") (aN [48+m]::rs.map fun r=>aN (tR r)):=by
  apply jC;rw[e,rV];have:∀(x:Str)(rs:List Rl),jn (Str.ofString "; ") (x::rs.map fun r=>aN (tR r))=cs x++cm rs:=by
   intro x rs
   induction rs generalizing x with
   | nil=>exact(iP _).symm
   | cons r rs ih =>
    show cs x++([59,32]++jn (Str.ofString "; ") (aN (tR r)::rs.map fun r=>aN (tR r)))=cs x++59::32::(tR r++cm rs);rw[ih (aN (tR r)),dg];rfl
  rw[this,dg];rfl
 rw[eT];refine Ry (c:=59) (q:=0) rfl (by decide) (by decide +kernel) _ _ fun z hz=>?_;rcases aH.mp hz with rfl|hz
 ·rw[dg];intro hc;have:59=48+m:=by simpa using hc
  lia
 ·obtain⟨r,hr,rfl⟩:=gM.mp hz;obtain⟨⟨n0,n1⟩,hT,hp⟩:=hw r hr;rw[dg];unfold tR;intro hc;rcases aH.mp hc with hc|hc
  ·have hc:59=48+r.1.toNat:=hc;lia
  ·rcases aH.mp hc with hc|hc
   ·cases hc
   ·rcases bL.mp hc with hc|hc
    ·exact CK (e_.mp hT.1 59 hc) (.inl rfl) rfl
    ·rcases aH.mp hc with hc|hc
     ·cases hc
     ·rcases aH.mp hc with hc|hc
      ·cases hc
      ·rcases aH.mp hc with hc|hc
       ·cases hc
       ·split at hc
        ·revert hc;decide
        ·exact MK (by lia) hp (.inl rfl) hc
theorem Lj{m:Nat}{rs:List Rl}{zs:List Str}(e:zs.map cs=[48+m]::rs.map tR):cs (Txt.join (Str.ofString "; ") zs)=tC m rs:=by
 rw[rV];cases zs with
 | nil=>cases e
 | cons z zs =>
  rw[bt] at e;injection e with e1 e2;have:∀(x:Str)(zs:List Str)(rs:List Rl),zs.map cs=rs.map tR->jn (Str.ofString "; ") (x::zs)=cs x++cm rs:=by
   intro x zs
   induction zs generalizing x with
   | nil =>
    intro rs h;cases rs with
    | nil=>exact(iP _).symm
    | cons r rs=>cases h
   | cons y zs ih =>
    intro rs h;cases rs with
    | nil=>cases h
    | cons r rs =>
     rw[bt,bt] at h;injection h with h1 h2;show cs x++([59,32]++jn (Str.ofString "; ") (y::zs))=cs x++59::32::(tR r++cm rs);rw[ih y rs h2,h1];rfl
  rw[this z zs rs e2,e1];rfl
theorem yC(sep:Str):∀(x:Str)(xs:List Str),(jn sep (x::xs)).length=((x::xs).map (·.length)).sum+xs.length*sep.length
 | x,[]=>by show(cs x).length=x.length+0+0*_;rw[ZR];lia
 | x,y::r=>by
  have:=yC sep y r;show(cs x++(cs sep++jn sep (y::r))).length=x.length+((y::r).map (·.length)).sum+(r.length+1)*sep.length;rw[bw,bw,ZR,ZR,this,Nat.succ_mul];lia
theorem B4(sep:Str)(a:Nat):∀(xs:List Str)(z:Str),z∈xs->(cs z).count a<=(jn sep xs).count a
 | [],z,h=>nomatch h
 | [x],z,h=>by
  rw[bi.mp h];exact az _
 | x::y::r,z,h=>by
  show _<=(cs x++(cs sep++jn sep (y::r))).count a;rw[fo,fo];rcases aH.mp h with rfl|h
  ·lia
  ·have:=B4 sep a (y::r) z h;lia
theorem T7(x y:Str):jn y (Txt.split x y)=cs x:=by
 have:=PySem.StrLaws.join_split x y;have e:Txt.join y (Txt.split x y)=Str.join y (Txt.split x y):=PySem.StrLaws.glued_eq_join y _;rw[<- rV,e,this]
theorem Tz(x y:Str):∃z zs,Txt.split x y=z::zs:=by
 unfold Txt.split
 split
 ·exact⟨_,_,rfl⟩
 ·split
  ·exact⟨_,_,rfl⟩
  ·rw[PySem.StrLaws.partsBetween_eq];exact PySem.StrLaws.partsFrom_ne _ _ _ _
theorem B7{t:Str}{j:Int}(h0:0<=j)(h:j<=t.length):cs (PySem.StrLaws.sliceText t (some j) none)=(cs t).drop j.toNat:=by
 have aD:t.cps.toList.length=t.length:=by rw[aB];rfl
 rw[PySem.StrLaws.sliceText_from (x:=t) (i:=j) ⟨h0,by rw[aD];lia⟩];show(List.take _ (List.drop _ t.cps.toList)).toArray.toList=_;simp only[xj];rw[j7 (by rw[dF,aD];lia)];rfl
theorem K9(z:Str):jW (V.str z) [.str "1",.str "2",.str "3",.str "4"]=true↔∃m,1<=m/\m<=4/\z=⟨#[48+m]⟩:=by
 have h0:jW (V.str z) [.str "1",.str "2",.str "3",.str "4"]=(decide (z=⟨#[49]⟩) || (decide (z=⟨#[50]⟩) || (decide (z=⟨#[51]⟩) || decide (z=⟨#[52]⟩)))):=by
  have c:∀a b:Str,decide (a=b)=decide (b=a):=fun a b=>j_.mpr ⟨Eq.symm,Eq.symm⟩;rw[c z,c z,c z,c z];unfold jW;simp only[oC,List.any_nil,Bool.or_false];rfl
 rw[h0];simp only[qL,cC];constructor
 ·rintro(h|h|h|h)
  ·exact⟨1,by decide,by decide,h⟩
  ·exact⟨2,by decide,by decide,h⟩
  ·exact⟨3,by decide,by decide,h⟩
  ·exact⟨4,by decide,by decide,h⟩
 ·rintro⟨m,h1,h4,h⟩;have:m=1\/m=2\/m=3\/m=4:=by lia
  rcases this with rfl|rfl|rfl|rfl
  ·exact .inl h
  ·exact .inr (.inl h)
  ·exact .inr (.inr (.inl h))
  ·exact .inr (.inr (.inr h))
def dQ(q:bo.Ps):PyData:=.tuple [.int q.1,.str q.2]
theorem Vb(a b:bo.Ps):PyData.eqv (dQ a) (dQ b)=decide (a=b):=by
 obtain⟨a1,a2⟩:=a;obtain⟨b1,b2⟩:=b;rw[jm];simp[dQ,PyData.eqv,PyData.eqvAll]
theorem Lc:∀as bs:List bo.Ps,PyData.eqvAll (as.map dQ) (bs.map dQ)=decide (as=bs)
 | [],[]=>rfl
 | [],_::_=>rfl
 | _::_,[]=>rfl
 | a::as,b::bs=>by
  show(PyData.eqv (dQ a) (dQ b)&&PyData.eqvAll (as.map dQ) (bs.map dQ))=_;rw[Vb,Lc as bs,jm];simp
theorem Cw:∀{qs:List bo.Ps},(∀q∈qs,PyData.strOk q.2=true)->PyData.canLayAll0 (qs.map dQ)=true
 | [],_=>rfl
 | q::qs,h=>by
  show((true&&(PyData.strOk q.2&&true))&&PyData.canLayAll0 (qs.map dQ))=true;rw[h q (bb ..),Cw fun x hx=>h x (aX _ hx)];rfl
theorem CG{K:PySem.W.Frag}{H:Hp}:∀{zs:List V}{qs:List bo.Ps},cE H zs qs->js K H zs (qs.map dQ)
 | _,_,.nil=>.nil
 | _,_,.cons ⟨p,e1,e2⟩ t=>by
  rw[e1];exact .cons (.tup (aM.of e2) (.cons (.int _) (.cons (.str _) .nil))) (CG t)
theorem Ka:∀qs:List bo.Ps,PyData.depthAll (qs.map dQ)<=3
 | []=>bj _
 | q::qs=>by
  have:=Ka qs;show max ((dQ q).depth) (PyData.depthAll (qs.map dQ))<=3;have:(dQ q).depth<=3:=by
   show _<=3;simp[dQ,PyData.depth,PyData.depthAll]
  lia
theorem V1{g:Str}(h:fR g):PyData.strOk g=true:=Ro (fun c hc=>by
 have:=CV (e_.mp h.1 c hc);lia)
theorem R3{a b:List bo.Ps}(ha:a.Pairwise (fun x y=>bo.cU x y=true))(hb:b.Pairwise (fun x y=>bo.cU x y=true))(h:∀q,q∈a↔q∈b):a=b:=by
 have nd:∀{l:List bo.Ps},l.Pairwise (fun x y=>bo.cU x y=true)->l.Nodup:=fun hl=>hl.imp fun{x y} kO e=>by
  rw[e,bo.mZ.tD] at kO;cases kO
 refine List.Perm.eq_of_pairwise (le:=fun x y=>bo.cU x y=true) (fun x y _ _ h1 h2=>?_) ha hb ((List.perm_ext_iff_of_nodup (nd ha) (nd hb)).mpr h);have:=bo.mZ.trans _ _ _ h1 h2;rw[bo.mZ.tD] at this;cases this
theorem T6{c:Nat}:decide (c∈cs (Str.ofString "0123"))=decide (48<=c/\c<=51):=by
 refine j_.mpr ?_;show c ∈ [48,49,50,51]↔_;simp;lia
theorem KJ{m:Nat}(hm:m<=4):∀{zs:List Str}{rs:List Rl},Paired (fun z r=>gu m z=some r) zs rs->(rs.map fun r=>15+12*r.2.2.sz).sum<=27*rs.length+12*(zs.map (·.length)).sum
 | _,_,.nil=>bj _
 | _,_,.cons a b=>by
  have h1:=(J1 hm a).2.1;have h2:=KJ hm b;simp only[bt,iQ,aO] at h2 ⊢;lia
theorem JG{α β : Type}{F : α -> β -> Prop}:∀{xs:List α}{ys:List β},Paired F xs ys->∀y∈ys,∃x∈xs,F x y
 | _,_,.cons r t,y,hy=>by
  rcases aH.mp hy with rfl|hy
  ·exact⟨_,bb ..,r⟩
  ·obtain⟨x,h1,h2⟩:=JG t y hy;exact⟨x,aX _ h1,h2⟩
theorem JI{m:Nat}:∀{zs:List Str}{rs dz:List Rl},Paired (fun z r=>gu m z=some r) zs rs->Paired (fun z r=>gu m z=some r) zs dz->rs=dz
 | _,_,_,.nil,.nil=>rfl
 | _,_,_,.cons a b,.cons c d=>by
  rw[a] at c;rw[dm c,JI b d]
theorem Jk{m:Nat}(hm:m<=4):∀{rs:List Rl},(∀r∈rs,gL m r)->Paired (fun z r=>gu m z=some r) (rs.map fun r=>aN (tR r)) rs
 | [],_=>.nil
 | r::rs,h=>.cons (VB hm (h r (bb ..))) (Jk hm fun x hx=>h x (aX _ hx))
def ki(T:Str):List Str:=Txt.split T (Str.ofString "; ")
def Cr:Sp:=fun vs H Q _=>∃T:Str,vs=[.str T]/\iy T/\T.length<=1500/\(cs T).count 40<=60/\(∀m rs,oA m rs->cs T=tC m rs->∀(v:V)(H':Hp),ZD H H'->kh H' v m rs->Q v H')/\((∀m rs,oA m rs->cs T=tC m rs->False)->∀H',ZD H H'->Q .aE H')
set_option maxHeartbeats 8000000 in
theorem QE(B:∀x∈cG,mg x=none)(Fb:bG P w K mg base "_law_parts_read" ["_law_text_here","_law_modes"] 2 CM) (pX:bG P w K mg base "_law_is_tag" ["_law_word"] 1 x4) (sD:bG P w K mg base "_law_rows" ["_law_modes","_law_rules"] 71 x9) (F:bP K "_law_changer_of" "_law_changer_of" Zn f fd):aY P w K mg base cq 72 f fd ["_law_text_here"] Cr:=by
 refine F.ok ZJ (fun vs H Q E h=>?_) (fun aL A outer s H vs Q E hr h=>?_)
 ·obtain⟨T,rfl,_⟩:=h;rfl
 obtain⟨T,rfl,Fz,hT,Zxt,q1,q2⟩:=h;have hu:=pG hr;refine Zw ((Zd Zn).drop 7) (Zf (Zz (cT (Za (pv 2) (Za (ZX Z0 rfl (B "tuple" (by decide)) iZ (Za (pv 3) Zb)) Zb))))) (fun u7 h7 e7=>?_);refine Zw ((Zd Zn).drop 6) (Ze (bu (PW.pt (jF (Zr (LV hu) (pv 9) (QI rfl hu rfl (B "sorted" (by decide)) rfl (B "set" (by decide)) (Za (pv 9) Zb)) (ZK _)) (lO (Zr pO (cw mH t9 t_ rY Zm (Za (de sD hr rfl (Za (pv 2) (Za (pv 3) Zb))) Zb)) (pv 0) (ZK _)))))
   (Zf (Zz gp))
   ZC) h7) (fun u6 h6 e6=>?_)
 refine Zw ((Zd Zn).drop 5) (Ze (Jp (cl:=[]) (n0:=9) ZJ.nd rfl (Or.inl rfl) ["_law_rule"] [] (uO (pv 3)) (fun _ _ _ _=>(dB (i:=0) nd1 rfl (Or.inl rfl))) (fun _ _ _ _=>(cT (Za (bp (Lq (K:=K) rfl) (pv 0) Zg (fun _ _=>rfl)) (Za (bp (Lq (K:=K) rfl) (pv 0) Zg (fun _ _=>rfl)) Zb)))) rfl rfl (by decide) rfl (by decide) (fun _ _ h=>nomatch h) (Cv (by decide)) (fun _ _ h=>nomatch h) (fun _=>rfl) rfl) h6) (fun u5 h5 e5=>?_)
 refine Zw ((ZV ((Zd Zn).getD 4 (.Pass ⟨0,0,0,0⟩))).drop 5) (Zf (Z7 (cw cJ dY dZ ZL (pv 3) (Za (cT (Za (ZX pE rfl (B "int" (by decide)) m9 (Za (bp jz (pv 5) Zg (fun _ _=>rfl)) Zb)) (Za (fM kr (pv 5) (eM Zg) ip) (Za (pv 8) Zb)))) Zb)))) (fun ZwQ ZqB ZpP=>?_);refine Zw ((ZV ((Zd Zn).getD 4 (.Pass ⟨0,0,0,0⟩))).drop 4) (Ze (bu (PW.pt (jF (Zr Cy (pv 8) gp (ZK _)) (lO (jB (ZZ (de pX hr rfl (Za (fM kr (pv 5) (eM Zg) ip) Zb)) (fun _=>rfl))))))
   (Zf (Zz gp))
   ZC) ZqB) (fun ZwP ZqA ZpO=>?_)
 refine Zw ((ZV ((Zd Zn).getD 4 (.Pass ⟨0,0,0,0⟩))).drop 3) (Ze (bu (Zr pO (pv 7) Zm (ZK _))
   (Zf (Zx (i:=8) ZJ.nd rfl (Or.inl rfl) (de Fb hr rfl (Za (pv 7) (Za (pv 2) Zb)))))
   ZC) ZqA) (fun ZwO Zqz ZpN=>?_)
 refine Zw ((ZV ((Zd Zn).getD 4 (.Pass ⟨0,0,0,0⟩))).drop 2) (Ze (Zx (i:=8) ZJ.nd rfl (Or.inl rfl) (cT Zb)) Zqz) (fun ZwN Zqy ZpM=>?_);refine Zw ((ZV ((Zd Zn).getD 4 (.Pass ⟨0,0,0,0⟩))).drop 1) (Ze (bu (PW.pt (jF (Zr sj (ZF pz rfl (B "len" (by decide)) gc (Za (pv 5) Zb)) Zg (ZK _)) (jF (Zr Bu (bp jz (pv 5) Zg (fun _ _=>rfl)) Zm (by with_unfolding_all rfl)) (jF (Zr Wf (ZX pE rfl (B "int" (by decide)) m9 (Za (bp jz (pv 5) Zg (fun _ _=>rfl)) Zb)) (pv 2) (ZK _)) (lO (Zr pO (bp jz (pv 5) Zg (fun _ _=>rfl)) Zm (ZK _)))))))
   (Zf (Zz gp))
   ZC) Zqy) (fun ZwM Zqx ZpL=>?_)
 refine Zw ((ZV ((Zd Zn).getD 4 (.Pass ⟨0,0,0,0⟩))).drop 0) (Ze (Cz (cw mH PySem.F.slot_str_partition PySem.F.type_str_partition UO (pv 4) (Za Zm Zb)) (uY rfl (i3 (dB (i:=5) ZJ.nd rfl (Or.inl rfl)) (i3 (dB (i:=6) ZJ.nd rfl (Or.inl rfl)) (i3 (dB (i:=7) ZJ.nd rfl (Or.inl rfl)) uL))))) Zqx) (fun ZwL Zqw ZpK=>?_);refine Zw ((Zd Zn).drop 4) (Ze (jy iR rfl (uO (fM yk (pv 1) (eM Zg) ip)) (dB (i:=4) ZJ.nd rfl (Or.inl rfl))
   Zqw) h5) (fun u4 h4 e4=>?_)
 refine Zw ((Zd Zn).drop 3) (Ze (Zx (i:=3) ZJ.nd rfl (Or.inl rfl) (dA Zb)) h4) (fun u3 h3 e3=>?_);refine Zw ((Zd Zn).drop 2) (Ze (Zx (i:=2) ZJ.nd rfl (Or.inl rfl) (ZX pE rfl (B "int" (by decide)) m9 (Za (bp Z6 (pv 1) Zg (fun _ _=>rfl)) Zb))) h3) (fun u2 h2 e2=>?_);refine Zw ((Zd Zn).drop 1) (Ze (bu (Zr Q3 (bp Z6 (pv 1) Zg (fun _ _=>rfl)) (cT (Za Zm (Za Zm (Za Zm (Za Zm Zb))))) (by with_unfolding_all rfl))
   (Zf (Zz gp))
   ZC) h2) (fun u1 h1 e1=>?_)
 refine Zw ((Zd Zn).drop 0) (Ze (Zx (i:=1) ZJ.nd rfl (Or.inl rfl) (cw mH PySem.F.slot_str_split PySem.F.type_str_split Te (pv 0) (Za Zm Zb))) h1) (fun u0 h0 e0=>?_);refine⟨u0,h0,?_⟩;refine Zq e0 ?_;refine⟨_,rfl,rfl,T,Str.ofString "; ",rfl,rfl,rfl,by lia,fun Z hZ=>?_⟩;have s0:=ZD.new (o:=.lst ((ki T).map V.str)) hZ;have zq:(upd H Z (.lst ((ki T).map V.str))) Z=some (.lst ((ki T).map V.str)):=Zc;show u1 _ [some (.str T),some (.ref Z),none,none,none,none,none,none,none,none] (upd H Z (.lst ((ki T).map V.str)));generalize upd H Z (.lst ((ki T).map V.str))=H0 at s0 zq ⊢;have zG:jn (Str.ofString "; ") (ki T)=cs T:=T7 T _;obtain⟨z0,rest,f'⟩:=Tz T (Str.ofString "; ");have f':ki T=z0::rest:=f';have OK:((ki T).map (·.length)).sum<=2000:=by
  have:=yC (Str.ofString "; ") z0 rest;rw[<- f',zG,ZR] at this;lia
 have iK:rest.length<=750:=by
  have:=yC (Str.ofString "; ") z0 rest;rw[<- f',zG,ZR] at this;have e2:(Str.ofString "; ").length=2:=rfl;rw[e2] at this;lia
 have OH:∀z∈ki T,z.length<=2000/\(cs z).count 40<=60/\iy z:=fun z hz=>by
  refine⟨?_,?_,fun c hc=>?_⟩
  ·have:z.length<=((ki T).map (·.length)).sum:=B8 (AZ hz);lia
  ·have:=B4 (Str.ofString "; ") 40 _ z hz;rw[zG] at this;lia
  ·have:=B4 (Str.ofString "; ") c _ z hz;rw[zG] at this;have h1:0<(cs z).count c:=List.count_pos_iff.mpr hc;have h2:0<(cs T).count c:=by lia
   exact Fz c (List.count_pos_iff.mp h2)
 rw[f'] at zq;refine Zq e1 ?_;refine⟨_,rfl,Z,_,0,.str z0,rfl,rfl,ak.of zq,i9 (j:=0) rfl,(by show 4<=sizeLine;decide),fun tp Gg=>⟨tp,_,rfl,.inr (aM.of Zc),rfl,rfl,_,rfl,?_⟩⟩;have s1:=ZD.new (o:=.tup [.str "1",.str "2",.str "3",.str "4"]) Gg;have AG:=s0.trans s1;have Fy:=s1 _ _ zq;generalize upd H0 tp (.tup [.str "1",.str "2",.str "3",.str "4"])=H1 at AG Fy ⊢;show if(!jW (V.str z0) [.str "1",.str "2",.str "3",.str "4"])=true then _ else _
 cases iH:jW (V.str z0) [.str "1",.str "2",.str "3",.str "4"] with
 | false =>
  refine aI (q2 (fun m rs hw e=>?_) H1 AG);have e2:=KG hw.2.1 hw.1.2 e;rw[show Txt.split T (Str.ofString "; ")=z0::rest from f'] at e2;injection e2 with e2 _;have:=(K9 z0).mpr ⟨m,hw.1.1,hw.1.2,e2⟩;rw[iH] at this;cases this
 | true =>
  refine aF ?_;obtain⟨m,m1,m4,rfl⟩:=(K9 z0).mp iH;have only:∀m' rs,oA m' rs->cs T=tC m' rs->m'=m/\Paired (fun z r=>gu m z=some r) rest rs:=fun m' rs hw e=>by
   have e2:=KG hw.2.1 hw.1.2 e;rw[show Txt.split T (Str.ofString "; ")=⟨#[48+m]⟩::rest from f'] at e2;injection e2 with e2 e3;have e2:=congrArg cs e2;rw[dg] at e2;have e2:[48+m] =[48+m']:=e2;have:m'=m:=by
    injection e2 with e2 _;lia
   subst this;rw[e3];exact⟨rfl,Jk m4 hw.2.1⟩
  show u2 _ _ _;refine Zq e2 ?_;refine⟨_,rfl,Z,_,0,.str ⟨#[48+m]⟩,rfl,rfl,ak.of Fy,i9 (j:=0) rfl,_,_,rfl,sh (by lia),(by show 1<=640;decide),?_⟩;show u3 _ _ _;refine Zq e3 ?_;refine⟨by decide,fun L hL=>?_⟩;have s2:=ZD.new (o:=.lst []) hL;have AH:=AG.trans s2;have N0:=s2 _ _ Fy;have p9:(upd H1 L (.lst [])) L=some (.lst []):=Zc;have fL:H L=none:=AG.free hL;show u4 _ _ _;generalize upd H1 L (.lst [])=H2 at AH N0 p9 ⊢;refine Zq e4 ?_;refine⟨_,rfl,1,rfl,Z,_,rfl,ak.of N0,fun Cc hC=>?_⟩;have EV:dJ ((⟨#[48+m]⟩::rest).map V.str) (some 1) none=rest.map V.str:=KC _ 1;rw[EV];have s3:=ZD.new (o:=.lst (rest.map V.str)) hC;have wL:=AH.trans s3;have vH:(upd H2 Cc (.lst (rest.map V.str))) Cc=some (.lst (rest.map V.str)):=Zc;have p_:=s3 _ _ p9;have nCL:Cc≠L:=fun z=>by rw[z,p9] at hC;cases hC
  generalize upd H2 Cc (.lst (rest.map V.str))=H3 at wL vH p_ ⊢;refine⟨Cc,rfl,⟨_,ak.of vH⟩,B6 (K:=K) (a:=Cc) (xs:=rest.map V.str) (fun i σ H4=>∃(v4 v5 v6 v7 v8:Option V)(ws:List V)(rs:List Rl),σ =[some (.str T),some (.ref Z),some (.int (m:Int)),some (.ref L),v4,v5,v6,v7,v8,none]/\ZD H H4/\H4 Cc=some (.lst (rest.map V.str))/\H4 L=some (.lst ws)/\eQ H4 ws rs/\Paired (fun z r=>gu m z=some r) (rest.take i) rs)
   ⟨none,none,none,none,none,[],[],rfl,wL,vH,p_,.nil,.nil⟩ ?_ ?_ ?_⟩
  ·rintro i σ H4 _ ⟨v4,v5,v6,v7,v8,ws,rs,_,_,h,_⟩;exact ak.of h
  ·rintro i x σ H4 hx ⟨v4,v5,v6,v7,v8,ws,rs,rfl,sm,p8,jP,nB,nA⟩;rw[f_] at hx;obtain⟨row,zW,rfl⟩:=oK.mp hx;obtain⟨nQ,qg⟩:=cB.mp zW;obtain⟨b1,b2,b3⟩:=OH row (by rw[f'];exact aX _ (cQ zW));have g_:gu m row=none->∀H',ZD H H'->Q .aE H':=fun hq H' s'=>q2 (fun m' dz hw e=>by
    obtain⟨_,hp⟩:=only m' dz hw e;obtain⟨r,_,h2⟩:=rL hp zW;rw[hq] at h2;cases h2) H' s'
   have OF:=K0 row (Str.ofString " = ");have zQ:=PySem.StrLaws.partition_sum row (Str.ofString " = ");obtain⟨hd,zC⟩:∃hd,(Txt.partition row (Str.ofString " = ")).1=hd:=⟨_,rfl⟩;obtain⟨md,zN⟩:∃md,(Txt.partition row (Str.ofString " = ")).2.1=md:=⟨_,rfl⟩;obtain⟨tl,jg⟩:∃tl,(Txt.partition row (Str.ofString " = ")).2.2=tl:=⟨_,rfl⟩;have hq:gu m row=(match cs hd with
    | c::b::g=>if g ≠ []/\(48<=c/\c<=51)/\c-48<m/\b=32 then(match (if tl=Str.ofString "{}" then some Pa.nil else fE m (cs tl)) with|none=>none|some p=>if eI g=true then some (((c-48:Nat):Int),aN g,p) else none) else none
    | _=>none):=by
    unfold gu;rw[zC,jg]
   rw[zC,jg] at OF;rw[zC,zN,jg] at zQ;have hhl:hd.length<=2000:=by lia
   have Zsl:tl.length<=2000:=by lia
   have hah:iy hd:=fun c hc=>b3 c (by
    have:c∈cs row:=by rw[<- zQ,Z2,Z2];exact oG _ (oG _ hc)
    exact this)
   have kC:iy tl:=fun c hc=>b3 c (by
    have:c∈cs row:=by rw[<- zQ,Z2,Z2];exact fu _ hc
    exact this)
   show ZwL _ _ _;refine Zq ZpK ?_;refine⟨_,rfl,rfl,row,Str.ofString " = ",rfl,rfl,rfl,by lia,fun wR OS=>?_⟩;rw[zC,zN,jg];have s5:=ZD.new (o:=.tup [.str hd,.str md,.str tl]) OS;have gJ:=sm.trans s5;have NT:=s5 _ _ p8;have zl:=s5 _ _ jP;have nC:=nB.mono s5.tk;have OR:(upd H4 wR (.tup [.str hd,.str md,.str tl])) wR=some (.tup [.str hd,.str md,.str tl]):=Zc;refine⟨wR,_,rfl,aM.of OR,rfl,_,_,rfl,_,_,rfl,_,_,rfl,rfl,?_⟩;show ZwM _ [some (.str T),some (.ref Z),some (.int (m:Int)),some (.ref L),some (.str row),some (.str hd),some (.str md),some (.str tl),v8,none] (upd H4 wR (.tup [.str hd,.str md,.str tl]));generalize upd H4 wR (.tup [.str hd,.str md,.str tl])=H5 at gJ NT zl nC ⊢;clear zQ OF OR s5 OS jP nB p8 sm;refine Zq ZpL ?_;refine⟨_,rfl,hd,rfl,Zk (by lia),_,_,rfl,rfl,_,rfl,dD (fun c1=>?_) (fun c1=>?_)⟩
   ·have c1:(hd.length:Int)<3:=ii c1;refine aI (g_ ?_ H5 gJ);rw[hq];rw[<- ZR] at c1;cases h:cs hd with
    | nil=>rfl
    | cons c r =>
     cases r with
     | nil=>rfl
     | cons b g =>
      rw[h] at c1;have:g=[]:=lb (by simp only[aO] at c1;lia);rw[this];exact af fun z=>z.1 rfl
   have c1 : ¬ (hd.length:Int)<3:=fun z=>c1 (aR z);rw[<- ZR] at c1;cases cX:cs hd with
   | nil=>rw[cX] at c1;exact absurd (by decide) c1
   | cons c r =>
    cases r with
    | nil=>rw[cX] at c1;exact absurd (by show(1:Int)<3;decide) c1
    | cons b g =>
     have FJ:g ≠ []:=fun z=>by
      rw[cX,z] at c1;exact absurd (by show(2:Int)<3;decide) c1
     rw[cX] at hq;dsimp only at hq;have g0:dP hd.cps.toList 0=some c:=i9 (j:=0) (by rw[show hd.cps.toList=c::b::g from cX];rfl);have g1:dP hd.cps.toList 1=some b:=i9 (j:=1) (by rw[show hd.cps.toList=c::b::g from cX];rfl);refine⟨_,rfl,_,_,c,rfl,rfl,Zk (by lia),g0,_,_,rfl,rfl,_,rfl,?_⟩;rw[CJ,T6];by_cases sP:48<=c/\c<=51;rotate_left
     ·rw[a_ sP];refine aI (aI (g_ ?_ H5 gJ));rw[hq,af fun z=>sP z.2.1]
     rw[aR sP];obtain⟨n,rfl⟩:∃n,c=48+n:=⟨c-48,by lia⟩;refine aF ⟨_,rfl,_,_,(48+n),rfl,rfl,Zk (by lia),g0,_,_,rfl,sh (by lia),(by show 1<=640;decide),_,rfl,_,_,rfl,rfl,_,rfl,dD (fun c2=>?_) (fun c2=>?_)⟩
     ·have c2:(n:Int)>=(m:Int):=ii c2;refine aI (g_ ?_ H5 gJ);rw[hq,af fun z=>by have:=z.2.2.1;lia]
     have c2 : ¬ (n:Int)>=(m:Int):=fun z=>c2 (aR z);refine⟨_,rfl,_,_,b,rfl,rfl,Zk (by lia),g1,rfl,_,rfl,?_⟩;show if(!decide (V.str ⟨#[b]⟩=V.str ⟨#[32]⟩))=true then _ else _
     rw[pM];by_cases zr:b=32;rotate_left
     ·rw[a_ zr];refine aI (g_ ?_ H5 gJ);rw[hq,af fun z=>zr z.2.2.2]
     rw[aR zr];refine aF ?_;rw[ah ⟨FJ,⟨by lia,by lia⟩,by lia,zr⟩] at hq;have lV:cs (PySem.StrLaws.sliceText hd (some 2) none)=g:=by
      rw[B7 (by decide) (by rw[<- ZR,cX];simp only[aO];lia),cX];rfl
     obtain⟨gt,nM⟩:∃gt,PySem.StrLaws.sliceText hd (some 2) none=gt:=⟨_,rfl⟩;rw[nM] at lV;have hga:iy gt:=fun x hx=>hah x (by
      have hx:x∈cs gt:=hx;rw[lV] at hx;have:x∈cs hd:=by rw[cX];exact aX _ (aX _ hx)
      exact this)
     have jU:gt.length<=2000:=by
      have:=congrArg List.length cX;rw[ZR] at this;simp only[aO] at this;rw[<- ZR,lV];lia
     have Zrl:gv gt=eI g:=by
      rw[jm,rW,<- uI,lV]
     have fin:∀(D:Ends),D.rt=Q->(∀ ao H',(∃(v4 v5 v6 v7 v8:Option V)(ws:List V)(rs:List Rl),ao=[some (.str T),some (.ref Z),some (.int (m:Int)),some (.ref L),v4,v5,v6,v7,v8,none]/\ZD H H'/\H' Cc=some (.lst (rest.map V.str))/\H' L=some (.lst ws)/\eQ H' ws rs/\Paired (fun z r=>gu m z=some r) (rest.take (i+1)) rs)->D.nx ao H') ->
       ∀(o:Option Pa)(v:V)(H6:Hp),ZD H5 H6->(match o with|none=>v=.aE|some p=>∃r ys,v=.ref r/\H6 r=some (.tup ys)/\br H6 ys p)->gu m row=(match o with|none=>none|some p=>if eI g=true then some (((48+n-48:Nat):Int),aN g,p) else none) ->
       ZwP D [some (.str T),some (.ref Z),some (.int (m:Int)),some (.ref L),some (.str row),some (.str hd),some (.str md),some (.str tl),some v,none] H6:=fun D nZ hD o v H6 s6 hv vY=>by
      refine Zq ZpO ?_;have oq:=gJ.trans s6;cases o with
      | none =>
       have hv:v=.aE:=hv;subst hv;refine⟨_,rfl,rfl,_,rfl,aI (aI ?_)⟩;show D.rt V.aE H6;rw[nZ];exact g_ vY H6 oq
      | some p =>
       obtain⟨r,ys,rfl,h1,h2⟩:=hv;refine⟨_,rfl,rfl,_,rfl,aF ⟨_,rfl,2,rfl,hd,rfl,Zk (by lia),gt,?_⟩⟩;refine⟨congrArg (fun z=>[V.str z]) nM,hga,by lia,_,rfl,?_⟩;rw[Zrl];cases OP:eI g with
       | false =>
        refine aI ?_;show D.rt V.aE H6;rw[nZ];refine g_ ?_ H6 oq;rw[vY];dsimp only;rw[OP,if_neg Bool.false_ne_true]
       | true =>
        refine aF ?_;show ZwQ _ _ _;refine Zq ZpP ?_;have qb:=s6 _ _ zl;have mq:ws.length<=2000:=by
         have h1:=gb nC;have h2:=gb nA;rw[dN] at h2;lia
        refine⟨_,rfl,.inl ⟨rfl,_,ak.of qb⟩,_,rfl,_,_,(48+n),rfl,rfl,Zk (by lia),g0,_,_,rfl,sh (by lia),(by show 1<=640;decide),_,rfl,2,rfl,hd,rfl,Zk (by lia),_,rfl,(by show 3<=sizeLine;decide),fun pt eV=>?_⟩;rw[nM];have s7:=ZD.new (o:=.tup [.int (n:Int),.str gt,.ref r]) eV;refine⟨L,_,_,rfl,rfl,s7 _ _ qb,ZW (by lia),hD _ _ ?_⟩;have tk:=TK.lst (o:=.lst (ws ++ [.ref pt])) (s7 _ _ qb);have npl:pt≠L:=fun z=>by rw[z,qb] at eV;cases eV
        dsimp only at vY;rw[OP,if_pos rfl] at vY;refine⟨_,_,_,_,_,ws ++ [.ref pt],rs ++ [((n:Int),gt,p)],rfl,(oq.trans s7).eW fL,?_,Zc,?_,?_⟩
        ·rw[Zi nCL];exact(s6.trans s7) _ _ NT
        ·refine((nC.mono (s6.tk.trans s7.tk)).mono tk).snoc ⟨pt,r,ys,rfl,?_,tk _ _ (s7 _ _ h1),(h2.mono s7.tk).mono tk⟩;rw[Zi npl];exact Zc
        ·rw[uE zW];refine Paired.app nA (.cons ?_ .nil);rw[vY,show(48+n-48:Nat)=n by lia,show aN g=gt from by rw[<- lV,sf]]
     show ZwN _ _ _;refine Zq ZpM ?_;refine⟨by decide,fun e he=>?_⟩;have s6:=ZD.new (o:=.tup []) he;have N9:(upd H5 e (.tup [])) e=some (.tup []):=Zc;show ZwO _ [some (.str T),some (.ref Z),some (.int (m:Int)),some (.ref L),some (.str row),some (.str hd),some (.str md),some (.str tl),some (.ref e),none] (upd H5 e (.tup []));generalize upd H5 e (.tup [])=H6 at s6 N9 ⊢;refine Zq ZpN ?_;refine⟨_,rfl,rfl,_,rfl,dD (fun c3=>?_) (fun c3=>?_)⟩
     ·have c3:tl≠Str.ofString "{}" := fun z=>by rw[z] at c3;exact absurd c3 (by decide)
      rw[af c3] at hq;refine⟨_,rfl,_,rfl,tl,m,rfl,kC,Zsl,m1,m4,fun hn H7 s7=>?_,fun p hp H7 r ys s7 hr7 qo=>?_⟩
      ·rw[hn] at hq;exact fin _ rfl (fun _ _ h=>h) none .aE H7 (s6.trans s7) rfl hq
      ·rw[hp] at hq;exact fin _ rfl (fun _ _ h=>h) (some p) (.ref r) H7 (s6.trans s7) ⟨r,ys,rfl,hr7,qo⟩ hq
     ·have c3:tl=Str.ofString "{}" := by
       by_cases z:tl=Str.ofString "{}"
       ·exact z
       ·refine absurd ?_ c3;have:V.str tl≠V.str (Str.ofString "{}"):=fun k=>z (by injection k)
        simpa using this
      rw[ah c3] at hq;exact fin _ rfl (fun _ _ h=>h) (some .nil) (.ref e) H6 s6 ⟨e,[],rfl,N9,.nil⟩ hq
  ·rintro σ H4 ⟨v4,v5,v6,v7,v8,ws,rs,rfl,sm,p8,jP,nB,nA⟩;rw[aW,oI] at nA;have mq:=gb nB;have ZxM:=gb nA;have Ac:∀r∈rs,gL m r/\q_ r:=fun r hr=>by
    obtain⟨z,hz,hq⟩:=JG nA r hr;obtain⟨h1,h2,h3⟩:=J1 m4 hq;obtain⟨z1,z2,_⟩:=OH z (by rw[f'];exact aX _ hz);have t8:=h1.2.1.2.2;rw[ZR] at t8;refine⟨h1,h1.1.1,by have:=h1.1.2;lia,t8,by lia,by lia,?_⟩;have mono:∀{p:Pa},bh m p->bh 4 p:=by
     intro p
     induction p with
     | nil=>exact id
     | kids k o ih=>exact fun h=>⟨⟨h.1.1,by have:=h.1.2;lia⟩,ih h.2⟩
     | tag t w o ihw iho=>exact fun h=>⟨h.1,ihw h.2.1,iho h.2.2⟩
    exact mono h1.2.2
   have Pp:∀m' dz,oA m' dz->cs T=tC m' dz->m'=m/\dz=rs:=fun m' dz hw e=>by
    obtain⟨e1,hp⟩:=only m' dz hw e;exact⟨e1,JI hp nA⟩
   show u5 _ _ _;refine Zq e5 ?_;refine⟨_,rfl,L,rfl,⟨ws,ak.of jP⟩,fun p5 OD=>JX (K:=K) (a:=L) (p:=p5) (xs:=ws) (fun i ys σ H5=>∃v0:Option V,σ =[v0]/\ZD H4 H5/\H5 p5=some (.lst ys)/\cE H5 ys ((rs.take i).map aJ))
    ⟨none,rfl,ZD.new OD,Zc,.nil⟩ ?_ ?_ ?_⟩
   ·rintro i ys σ H5 _ ⟨v0,_,gJ,o5,_⟩;exact⟨ak.of (gJ _ _ jP),o5⟩
   ·rintro i ys x σ H5 hi hx ⟨v0,rfl,gJ,o5,gF⟩;obtain⟨r,zT,q0,t0,ys0,rfl,h1,h2,h3⟩:=rL nB hx;have NN:=gJ _ _ h1;refine⟨_,rfl,q0,_,0,.int r.1,rfl,rfl,aM.of NN,rfl,_,rfl,q0,_,1,.str r.2.1,rfl,rfl,aM.of NN,rfl,(by show 2<=sizeLine;decide),fun t3 tq=>?_⟩;have s8:=ZD.new (o:=.tup [.int r.1,.str r.2.1]) tq;have kP:=gF.length;rw[aW,dN] at kP;have qq:=s8 _ _ o5;have n3:t3≠p5:=fun z=>by rw[z,o5] at tq;cases tq
    have tk:=s8.tk.trans (TK.lst (o:=.lst (ys ++ [.ref t3])) qq);refine⟨qq,ZW (by lia),CW.next hi ⟨_,rfl,(gJ.trans s8).eW OD,Zc,?_⟩⟩
    rw[uE zT,fG];refine cE.snoc (q:=aJ r) ?_ (gF.keep tk);rw[Zi n3];exact Zc
   rintro ys σ H5 ⟨v0,rfl,gJ,o5,gF⟩;rw[mq,oI] at gF;have Zv3:=sm.trans gJ;have zl:=gJ _ _ jP;have nC:=nB.mono gJ.tk;show u6 _ _ _;refine Zq e6 ?_;have kP:=gF.length;rw[aW] at kP;have aq:∀q∈rs.map aJ,PyData.strOk q.2=true:=fun q hq=>by
    obtain⟨r,hr,rfl⟩:=gM.mp hq;exact V1 (Ac r hr).1.2.1
   refine⟨_,rfl,_,rfl,p5,ys,rs.map aJ,rfl,ak.of o5,by lia,gF,fun sr zs ms hsr zR fZ ZsD=>?_⟩;have s6:=ZD.new (o:=.lst zs) hsr;have ZrL:∀q∈ms,PyData.strOk q.2=true:=fun q hq=>aq q ((fZ q).mp hq);refine⟨.list ((rs.map aJ).map dQ),.list (ms.map dQ),.lst (ak.of (s6 _ _ o5)) (CG (gF.keep s6.tk)),.lst (ak.of Zc) (CG (ZsD.keep s6.tk)),Cw aq,Cw ZrL,?_,_,rfl,?_⟩
   ·have:=Ka (rs.map aJ);show min (_+1) _<=200;lia
   have oq:=Zv3.trans s6;have qb:=s6 _ _ zl;have NY:=nC.mono s6.tk;show if(!PyData.eqvAll ((rs.map aJ).map dQ) (ms.map dQ))=true then _ else _
   rw[Lc];by_cases qr:rs.map aJ=ms;rotate_left
   ·rw[a_ qr];refine aI (aI (q2 (fun m' dz hw e=>?_) _ oq));obtain⟨_,rfl⟩:=Pp m' dz hw e;exact qr (R3 hw.2.2 zR fun q=>(fZ q).symm)
   rw[aR qr];refine aF ⟨rfl,_,rfl,_,rfl,L,ws,m,rs,rfl,qb,NY,m1,m4,fun r hr=>(Ac r hr).2,by lia,fun p7 tL H7 s7 qo Gp=>⟨Str.ofString "; ",p7,tL,rfl,rfl,ak.of qo,?_,_,rfl,rfl,_,rfl,?_⟩⟩
   ·have h1:=KJ m4 nA;rw[f'] at OK;simp only[bt,iQ] at OK;have h2:(tL.map (·.length)).sum<=1+(rs.map fun r=>15+12*r.2.2.sz).sum:=by
     have h3:(tL.map (·.length)).sum=((tL.map cs).map List.length).sum:=by
      rw[xf];refine congrArg List.sum (List.map_congr_left fun z _=>?_);exact(ZR z).symm
     rw[h3,Gp];show 1+((rs.map tR).map List.length).sum<=_;have:∀l:List Rl,(∀r∈l,q_ r)->((l.map tR).map List.length).sum<=(l.map fun r=>15+12*r.2.2.sz).sum:=by
      intro l
      induction l with
      | nil=>exact fun _=>az _
      | cons r l ih =>
       intro h;have h1:=Me (h r (bb ..));have h2:=ih fun x hx=>h x (aX _ hx);simp only[bt,iQ];lia
     have:=this rs fun r hr=>(Ac r hr).2;lia
    have h4:=congrArg List.length Gp;rw[aW,aO,aW] at h4;show _+_*2<=16777216;lia
   have ej:=Lj Gp;have AI:=oq.trans s7;by_cases zE:Txt.join (Str.ofString "; ") tL=T;rotate_left
   ·refine dD (fun _=>q2 (fun m' dz hw e=>?_) _ AI) (fun c=>absurd ?_ c)
    ·obtain⟨rfl,rfl⟩:=Pp m' dz hw e;exact zE (jC (ej.trans e.symm))
    ·have:V.str (Txt.join (Str.ofString "; ") tL)≠V.str T:=fun k=>zE (by injection k)
     simpa using this
   refine dD (fun c=>absurd c ?_) (fun _=>?_)
   ·rw[zE];simp
   show u7 _ _ _;refine Zq e7 ?_;have hL7:=s7 _ _ qb;have hR7:=NY.mono s7.tk;refine⟨_,rfl,_,rfl,L,ws,rfl,.inl ⟨ak.of hL7,fun r hr=>⟨(by show 2<=sizeLine;decide),fun q hq=>?_⟩⟩⟩;have s8:=ZD.new (o:=.tup ws) hr;have s9:=ZD.new (o:=.tup [.int (m:Int),.ref r]) hq;refine q1 m rs ⟨⟨m1,m4⟩,fun r hr=>(Ac r hr).1,by rw[qr];exact zR⟩ ?_ _ _ ((AI.trans s8).trans s9) ⟨q,r,ws,rfl,Zc,s9 _ _ Zc,hR7.mono (s8.tk.trans s9.tk)⟩;rw[<- ej,zE]
inductive Sm(H:Hp):Nat->V->V->Prop
 | str {d:Nat} {s:Str}:Sm H (d+1) (.str s) (.str s)
 | int {d:Nat} {i:Int}:Sm H (d+1) (.int i) (.int i)
 | tup {d:Nat} {p q:Addr} {xs ys:List V}:H p=some (.tup xs)->H q=some (.tup ys)->xs.length=ys.length->xs.length<=5000->(∀(i:Nat) x y,xs[i]?= some x->ys[i]?= some y->Sm H d x y)->Sm H (d+1) (.ref p) (.ref q)
theorem Sm.up{H:Hp}{d:Nat}{x y:V}(h:Sm H d x y):∀{e:Nat},d<=e->Sm H e x y:=by
 induction h with
 | str =>
  intro e he;obtain⟨e,rfl⟩:∃e',e=e'+1:=⟨e-1,by lia⟩;exact .str
 | int =>
  intro e he;obtain⟨e,rfl⟩:∃e',e=e'+1:=⟨e-1,by lia⟩;exact .int
 | tup h1 h2 h3 h4 _ ih =>
  intro e he;obtain⟨e,rfl⟩:∃e',e=e'+1:=⟨e-1,by lia⟩;exact .tup h1 h2 h3 h4 fun i x y a b=>ih i x y a b (by lia)
theorem Sm.three{H:Hp}{d:Nat}{p q:Addr}{a b c a' b' c':V}(h1:H p=some (.tup [a,b,c]))(h2:H q=some (.tup [a',b',c']))(k1:Sm H d a a')(k2:Sm H d b b')(k3:Sm H d c c'):Sm H (d+1) (.ref p) (.ref q) :=
 .tup h1 h2 rfl (by show 3<=5000;decide) fun i x y hx hy=>by
  match i,hx,hy with
  | 0,hx,hy=>cases hx;cases hy;exact k1
  | 1,hx,hy=>cases hx;cases hy;exact k2
  | 2,hx,hy=>cases hx;cases hy;exact k3
  | i+3,hx,_=>simp at hx
theorem Sm.two{H:Hp}{d:Nat}{p q:Addr}{a b a' b':V}(h1:H p=some (.tup [a,b]))(h2:H q=some (.tup [a',b']))(k1:Sm H d a a')(k2:Sm H d b b'):Sm H (d+1) (.ref p) (.ref q) :=
 .tup h1 h2 rfl (by show 2<=5000;decide) fun i x y hx hy=>by
  match i,hx,hy with
  | 0,hx,hy=>cases hx;cases hy;exact k1
  | 1,hx,hy=>cases hx;cases hy;exact k2
  | i+2,hx,_=>simp at hx
theorem yb{H:Hp}:∀{xs ys:List V}{p:Pa},br H xs p->br H ys p->xs.length=ys.length
 | _,_,_,.nil,.nil=>rfl
 | _,_,_,.kids _ a,.kids _ b=>by rw[aO,aO,yb a b]
 | _,_,_,.tag _ _ _ a,.tag _ _ _ b=>by rw[aO,aO,yb a b]
theorem xY{H:Hp}:∀{p:Pa}{xs ys:List V},p.sz<=5000->br H xs p->br H ys p->∀(i:Nat) x y,xs[i]?= some x->ys[i]?= some y->Sm H (2*p.dep+2) x y
 | .nil,_,_,_,.nil,.nil,i,x,y,hx,_=>by simp at hx
 | .kids m o,_,_,hs,.kids h1 r1,.kids h2 r2,i,x,y,hx,hy=>by
  simp only[Pa.sz] at hs
  match i,hx,hy with
  | 0,hx,hy =>
   cases hx;cases hy;exact(Sm.two h1 h2 (d:=1) .str .int).up (by lia)
  | i+1,hx,hy=>exact(xY (p:=o) (by lia) r1 r2 i x y (by simpa using hx) (by simpa using hy)).up (by simp only[Pa.dep];lia)
 | .tag t w o,_,_,hs,.tag h1 k1 r1 s1,.tag h2 k2 r2 s2,i,x,y,hx,hy=>by
  simp only[Pa.sz] at hs
  match i,hx,hy with
  | 0,hx,hy =>
   cases hx;cases hy;have hl:=r1.length;exact(Sm.three h1 h2 (d:=2*w.dep+3) .str .str (.tup k1 k2 (yb r1 r2) (by lia) (xY (p:=w) (by lia) r1 r2))).up (by simp only[Pa.dep];lia)
  | i+1,hx,hy=>exact(xY (p:=o) (by lia) s1 s2 i x y (by simpa using hx) (by simpa using hy)).up (by simp only[Pa.dep];lia)
theorem Mn{H:Hp}{v v':V}{m:Nat}{rs:List Rl}(h1:kh H v m rs)(h2:kh H v' m rs)(hl:rs.length<=5000)(hb:∀r∈rs,r.2.2.sz<=2001/\r.2.2.dep<70):Sm H 149 v v':=by
 obtain⟨q,t,ws,rfl,a1,a2,a3⟩:=h1;obtain⟨q',t',Qg,rfl,b1,b2,b3⟩:=h2;have l1:ws.length=rs.length:=gb a3;have l2:Qg.length=rs.length:=gb b3;refine Sm.two a1 b1 (d:=148) .int (.tup a2 b2 (by lia) (by lia) fun i x y hx hy=>?_);obtain⟨r,hr,q1,t1,tK,rfl,c1,c2,c3⟩:=rL a3 hx;obtain⟨r',mO,q2,t2,ys2,rfl,d1,d2,d3⟩:=rL b3 hy;rw[hr] at mO;cases mO;obtain⟨s1,s2⟩:=hb r (cQ hr);have hl:=c3.length;exact(Sm.three c1 d1 (d:=2*r.2.2.dep+3) .int .str (.tup c2 d2 (yb c3 d3) (by lia) (xY (by lia) c3 d3))).up (by lia)
def yE(d:Nat):Sp:=fun vs H Q _=>∃x y,vs=[x,y]/\Sm H d x y/\Q (.bl true) H
set_option maxHeartbeats 2000000 in
theorem QD(d:Nat)(B:∀x∈cG,mg x=none)(sE:bG P w K mg base "_law_same_kinds" ["_law_found","_law_due"] d (yE d)) (F:bP K "_law_same_kinds" "_law_same_kinds" rB f fd):aY P w K mg base cq (d+1) f fd ["_law_found","_law_due"] (yE (d+1)):=by
 refine F.ok I_ (fun vs H Q E h=>?_) (fun aL A outer s H vs Q E hr h=>?_)
 ·obtain⟨x,y,rfl,_⟩:=h;rfl
 obtain⟨x,y,rfl,hA,q⟩:=h;have hu:=pG hr;refine⟨_,(Ze (bu (ZZ (ZF rn rfl (B "isinstance" (by decide)) mV (Za (pv 1) (Za (pP rfl (B "tuple" (by decide)) iZ) Zb))) (fun _=>rfl))
   (Ze (bu (PW.pt (jF (jB (ZZ (ZF rn rfl (B "isinstance" (by decide)) mV (Za (pv 0) (Za (pP rfl (B "tuple" (by decide)) iZ) Zb))) (fun _=>rfl))) (lO (Zr pO (ZF lI rfl (B "len" (by decide)) gc (Za (pv 0) Zb)) (ZF lI rfl (B "len" (by decide)) gc (Za (pv 1) Zb)) (ZK _)))))
     (Zf (Zz ku))
     ZC)
    (Ze (jy iR rfl (xT rfl (B "range" (by decide)) (Za (ZF lI rfl (B "len" (by decide)) gc (Za (pv 1) Zb)) Zb)) (dB (i:=2) I_.nd rfl (Or.inl rfl))
     (Zf (bu (jB (ZZ (de sE hr rfl (Za (bp lP (pv 0) (pv 2) (fun _ _=>rfl)) (Za (bp lP (pv 1) (pv 2) (fun _ _=>rfl)) Zb)) (by lia)) (fun _=>rfl)))
       (Zf (Zz ku))
       ZC)))
    (Zf (Zz ku))))
   ZC)
  (Ze (bu (ZZ (ZF rn rfl (B "isinstance" (by decide)) mV (Za (pv 1) (Za (pP rfl (B "str" (by decide)) LP) Zb))) (fun _=>rfl))
   (Zf (Zz (r6 (ZF rn rfl (B "isinstance" (by decide)) mV (Za (pv 0) (Za (pP rfl (B "str" (by decide)) LP) Zb))) (uR (ye fw (pv 0) (pv 1) (ZK _))))))
   ZC)
  (Zf (Zz (r6 (ZF rn rfl (B "isinstance" (by decide)) mV (Za (pv 0) (Za (pP rfl (B "int" (by decide)) m9) Zb))) (r6 (Vn (ZF rn rfl (B "isinstance" (by decide)) mV (Za (pv 0) (Za (pP rfl (B "bool" (by decide)) UB) Zb)))) (uR (ye fw (pv 0) (pv 1) (ZK _))))))))),?_⟩
 cases hA with
 | @str _ z =>
  refine⟨_,rfl,.str z,"tuple",_,false,rfl,.str z,rfl,false,rfl,aF ?_⟩;refine⟨_,rfl,.str z,"str",_,true,rfl,.str z,rfl,true,rfl,aI ?_⟩;refine⟨_,rfl,.str z,"str",_,true,rfl,.str z,rfl,true,rfl,aI ⟨_,rfl,_,rfl,rfl,?_⟩⟩;rw[aR rfl];exact q
 | @int _ i =>
  refine⟨_,rfl,.int i,"tuple",_,false,rfl,.int i,rfl,false,rfl,aF ?_⟩;refine⟨_,rfl,.int i,"str",_,false,rfl,.int i,rfl,false,rfl,aF ?_⟩;refine⟨_,rfl,.int i,"int",_,true,rfl,.int i,rfl,true,rfl,aI ⟨_,rfl,.int i,"bool",_,false,rfl,.int i,rfl,false,rfl,?_⟩⟩;refine⟨true,rfl,aI ⟨_,rfl,_,rfl,rfl,?_⟩⟩;rw[aR rfl];exact q
 | @tup _ p qa xs ys h1 h2 h3 h4 k =>
  refine⟨_,rfl,.ref qa,"tuple",_,true,rfl,.tup h2,rfl,true,rfl,aI ?_⟩;refine⟨_,rfl,.ref p,"tuple",_,true,rfl,.tup h1,rfl,true,rfl,aF ?_⟩;refine⟨_,rfl,p,_,rfl,.inr (aM.of h1),_,rfl,qa,_,rfl,.inr (aM.of h2),rfl,_,rfl,dD (fun z=>absurd z (by rw[h3];simp)) (fun _=>?_)⟩;refine⟨_,rfl,qa,_,rfl,.inr (aM.of h2),_,rfl,by lia,by lia,xU (lo:=0) (fun i σ H1=>∃(v2:Option V),σ =[some (.ref p),some (.ref qa),v2]/\H1=H) ⟨none,rfl,rfl⟩ ?_ ?_⟩
  ·rintro i σ H1 hi ⟨v2,rfl,rfl⟩;rw[tQ] at hi;have hx:xs[i]?= some xs[i]:=cI (by lia);have hy:ys[i]?= some ys[i]:=cI (by lia);have ax:dP xs (0+(i:Int))=some xs[i]:=by rw[Int.zero_add];exact i9 hx
   have ay:dP ys (0+(i:Int))=some ys[i]:=by rw[Int.zero_add];exact i9 hy
   exact⟨_,rfl,_,rfl,p,_,_,_,rfl,rfl,aM.of h1,ax,_,rfl,_,rfl,qa,_,_,_,rfl,rfl,aM.of h2,ay,xs[i],ys[i],rfl,k i _ _ hx hy,true,rfl,aF ⟨_,rfl,rfl⟩⟩
  ·rintro σ H1 ⟨v2,rfl,rfl⟩;exact q
theorem QM:bootBuiltins "ValueError" = some (.type "ValueError"):=by decide +kernel
theorem yA{α : Type}{p : α -> Prop}:∀x∈([]:List α),p x:=fun _ h=>absurd h (xg)
theorem Z3{α : Type}{p : α -> Prop}{a : α}{l:List α}(h:p a)(t:∀x∈l,p x):∀x∈a::l,p x:=fun x hx=>(aH.mp hx).elim (fun e=>e ▸ h) (t x)
def Kp(H H':Hp):Prop := ∀b o,H b=some o->(∀x,o ≠ .ext x)->H' b=some o
theorem Kp.same{H H':Hp}(s:ZD H H'):Kp H H':=fun b o h _=>s b o h
theorem Kp.trans{H H1 H2:Hp}(a:Kp H H1)(b:Kp H1 H2):Kp H H2:=fun c o h n=>b c o (a c o h n) n
theorem Kp.ext{H H1:Hp}{e:Addr}{x:Heap->Prop}{o:HO}(a:Kp H H1)(h:H1 e=some (.ext x)):Kp H (upd H1 e o):=fun b u q n=>by
 have q1:=a b u q n;have:b≠e:=fun z=>by
  rw[z,h] at q1;exact n x (dm q1).symm
 rw[Zi this];exact q1
theorem Kp.tk{H H':Hp}(k:Kp H H'):TK H H':=fun b xs e=>k b _ e fun _ z=>nomatch z
def B5(K:PySem.W.Frag):Sp:=fun vs H Q _=>∃T:Str,vs=[.str T]/\T.length<=2000/\(∀m rs,gI (cs T)=some (m,rs)->∀(H':Hp)(v:V)(r:Addr),ZD H H'->kh H' v m rs->H' r=some (.tup [v,.aE])->Q (.ref r) H')/\(gI (cs T)=none->∀(H':Hp)(r:Addr),Kp H H'->H' r=some (.tup [.aE,.bl true])->Q (.ref r) H')
set_option maxHeartbeats 2000000 in
theorem SK(B:∀x∈cG,mg x=none)(xc:XC K mg b_ eh d_ eF eE eA ee eG eo eC d8 au eB ef et)(Fd:fc P w K mg base "read" ["text"] 7 (CH K au)) (F:bP K "_law_told" "_law_told" rF f fd):aY P w K mg base cq 8 f fd ["_law_text_here"] (B5 K):=by
 refine F.ok rG (fun vs H Q E h=>?_) (fun aL A outer s H vs Q E hr h=>?_)
 ·obtain⟨T,rfl,_⟩:=h;rfl
 obtain⟨T,rfl,hT,q1,q2⟩:=h;refine⟨_,(Ze (Zx (i:=1) rG.nd rfl (Or.inl rfl) gp)
  (Ze (Zx (i:=2) rG.nd rfl (Or.inl rfl) gp)
  (Ze (U7 rfl rfl (fun E pins xE hT hp=>(Zf (Zx (i:=1) rG.nd rfl (Or.inl rfl) (jE Fd hT hr rfl (Za (pv 0) Zb)))))
   (K2 (fun e=>(cT (Za (fv (v:=.ref d8) rfl xc.ZtH rfl) (Za (fv (v:=.ref d_) rfl xc.ZtI rfl) (Za (fv (v:=.ref ee) rfl xc.ZtK rfl) (Za (fv (v:=.ref ef) rfl xc.ZtL rfl) (Za (fv (v:=.ref eh) rfl xc.ZtM rfl) (Za (fv (v:=.ref eo) rfl xc.ZtN rfl) (Za (fv (v:=.ref eA) rfl xc.ZtP rfl) (Za (fv (v:=.ref et) rfl xc.ZtO rfl) Zb))))))))))
   (K2 (fun e=>(cT (Za (fv (v:=.ref eB) rfl xc.ZtQ rfl) (Za (fv (v:=.ref eC) rfl xc.ZtR rfl) (Za (fv (v:=.ref eE) rfl xc.ZtS rfl) (Za (fv (v:=.ref eF) rfl xc.ZtT rfl) (Za (fv (v:=.ref eG) rfl xc.ZtU rfl) Zb)))))))
   (VQ (i:=3) (rest:=[]) (fun e=>(fv (v:=.ref au) rfl xc.qB rfl)) rG.nd rfl rfl (fun e=>(Zf (Zx (i:=2) rG.nd rfl (Or.inl rfl) (r6 (ZF (R_ (K:=K) rfl) rfl (B "isinstance" (by decide)) mV (Za (pv 3) (Za (fv (v:=.ref b_) rfl xc.ZtJ rfl) Zb))) (uR (ZF (Rx (K:=K) rfl) rfl (B "isinstance" (by decide)) mV (Za (pv 3) (Za (pP rfl (B "ValueError" (by decide)) QM) Zb))))))))))))
  (Zf (Zz (cT (Za (pv 1) (Za (pv 2) Zb)))))))),?_⟩
 refine⟨fun ao C d H'=>ao=[some (.str T),some .aE,some .aE,none]/\C=.ref au/\d=none/\ZD H H'/\gI (cs T)=none,?_,?_⟩
 ·refine⟨_,rfl,T,rfl,hT,fun m rs hp H' v s' hc=>?_,fun hp H' s'=>⟨rfl,rfl,rfl,s',hp⟩⟩;refine⟨_,rfl,_,rfl,(by show 2<=sizeLine;decide),fun r hr=>?_⟩;have s2:=ZD.new (o:=.tup [v,.aE]) hr;exact q1 m rs hp _ v r (s'.trans s2) (hc.mono s2.tk) Zc
 ·rintro ao C d H' e oe ⟨rfl,rfl,rfl,sm,hp⟩ he hc hd hf;have k0:Kp H (upd H' e (Known e oe)):=(Kp.same sm).ext he;have e3:(upd H' e (Known e oe)) e=some (Known e oe):=Zc;generalize upd H' e (Known e oe)=H1 at k0 e3;refine⟨(by show 8<=sizeLine;decide),fun t1 h1=>?_⟩;have s1:=ZD.new (o:=.tup [.ref d8,.ref d_,.ref ee,.ref ef,.ref eh,.ref eo,.ref eA,.ref et]) h1;refine⟨[d8,d_,ee,ef,eh,eo,eA,et],au,.many (aM.of Zc) ?_,hc,?_,s1 _ _ e3,?_⟩
  ·exact Z3 xc.XE (Z3 xc.XF (Z3 xc.XI (Z3 xc.XJ (Z3 xc.XM (Z3 xc.XN (Z3 xc.XS (Z3 xc.XR yA)))))))
  ·exact Z3 xc.wk (Z3 xc.wm (Z3 xc.wq (Z3 xc.wt (Z3 xc.wu (Z3 xc.ww (Z3 xc.wz (Z3 xc.wy yA)))))))
  refine⟨(by show 5<=sizeLine;decide),fun t2 h2=>?_⟩;have s2:=s1.trans (ZD.new (o:=.tup [.ref eB,.ref eC,.ref eE,.ref eF,.ref eG]) h2);refine⟨[eB,eC,eE,eF,eG],au,.many (aM.of Zc) ?_,hc,?_,s2 _ _ e3,?_⟩
  ·exact Z3 xc.XU (Z3 xc.XW (Z3 xc.XX (Z3 xc.XY (Z3 xc.XZ yA))))
  ·exact Z3 xc.wA (Z3 xc.wB (Z3 xc.wC (Z3 xc.wD (Z3 xc.wF yA))))
  refine⟨[au],au,fun _=>true,.one xc.XQ,hc,?_,rfl,s2 _ _ e3,?_⟩
  ·intro D hD;obtain rfl:=bi.mp hD;exact xc.wx
  refine⟨_,rfl,e,oe,au,b_,rfl,s2 _ _ e3,hc,xc.ZtX,xc.isG,xc.tyG,xc.wo,true,rfl,aI ?_⟩;refine⟨_,rfl,e,oe,au,"ValueError",rfl,s2 _ _ e3,hc,rfl,xc.Ztu,?_⟩;refine⟨_,rfl,_,rfl,(by show 2<=sizeLine;decide),fun r hr=>?_⟩;exact q2 hp _ r (k0.trans (Kp.same (s2.trans (ZD.new hr)))) Zc
structure cS(z:Str)(n k:Nat):Prop where
 asc:iy z
 len:z.length<=n
 cnt:(cs z).count 40<=k
theorem cS.app{x y:Str}{n k n' k':Nat}(h:cS x n k)(h':cS y n' k'):cS (x++y) (n+n') (k+k'):=by
 refine⟨fun c hc=>?_,?_,?_⟩
 ·have hc:c∈cs (x++y):=hc;rw[Z2] at hc;rcases bL.mp hc with hc|hc
  ·exact h.asc c hc
  ·exact h'.asc c hc
 ·rw[ZG];have:=h.len;have:=h'.len;lia
 ·rw[Z2,fo];have:=h.cnt;have:=h'.cnt;lia
theorem cS.mono{z:Str}{n k n' k':Nat}(h:cS z n k)(hn:n<=n')(hk:k<=k'):cS z n' k':=⟨h.asc,cZ h.len hn,cZ h.cnt hk⟩
theorem JR(sep:Str)(a:Nat):∀(x:Str)(xs:List Str),(jn sep (x::xs)).count a=((x::xs).map fun z=>(cs z).count a).sum+xs.length*(cs sep).count a
 | x,[]=>by show(cs x).count a=(cs x).count a+0+0*_;lia
 | x,y::r=>by
  have:=JR sep a y r;show(cs x++(cs sep++jn sep (y::r))).count a=(cs x).count a+((y::r).map fun z=>(cs z).count a).sum+(r.length+1)*(cs sep).count a;rw[fo,fo,this,Nat.succ_mul];lia
theorem LS(sep:Str):∀(xs:List Str)(c:Nat),c∈jn sep xs->c∈cs sep\/∃z∈xs,c∈cs z
 | [],c,h=>nomatch h
 | [x],c,h=>.inr ⟨x,bi.mpr rfl,h⟩
 | x::y::r,c,h=>by
  have h:c∈cs x++(cs sep++jn sep (y::r)):=h;rcases bL.mp h with h|h
  ·exact .inr ⟨x,bb ..,h⟩
  ·rcases bL.mp h with h|h
   ·exact .inl h
   ·rcases LS sep (y::r) c h with h|⟨z,h1,h2⟩
    ·exact .inl h
    ·exact .inr ⟨z,aX _ h1,h2⟩
theorem rP:∀{zs:List Str}{n k:Nat},(∀z∈zs,cS z n k)->(zs.map (·.length)).sum<=zs.length*n/\(zs.map fun z=>(cs z).count 40).sum<=zs.length*k
 | [],n,k,_=>by simp
 | z::zs,n,k,h=>by
  have h1:=h z (bb ..);have h2:=rP fun x hx=>h x (aX _ hx);simp only[bt,iQ,aO,Nat.succ_mul];have:=h1.len;have:=h1.cnt;lia
theorem xW{zs:List Str}{c:Nat}(hl:zs.length<=c)(hc:c<=10)(h:∀z∈zs,cS z 100 6):cS (Txt.join (Str.ofString "; ") zs) (102*c) (6*c):=by
 have e:=rV (Str.ofString "; ") zs;have hs:=rP h;refine⟨fun x hx=>?_,?_,?_⟩
 ·have hx:x∈cs (Txt.join (Str.ofString "; ") zs):=hx;rw[e] at hx;rcases LS _ _ _ hx with hx|⟨z,h1,h2⟩
  ·have:x ∈ [59,32]:=hx;simp at this;lia
  ·exact(h z h1).asc x h2
 ·rw[<- ZR,e];cases zs with
  | nil=>exact bj _
  | cons z zs =>
   rw[yC];have e2:(Str.ofString "; ").length=2:=rfl;rw[e2];simp only[aO] at hs hl;lia
 ·rw[e];cases zs with
  | nil=>exact bj _
  | cons z zs =>
   rw[JR];have e2:(cs (Str.ofString "; ")).count 40=0:=by decide
   rw[e2];simp only[aO] at hs hl;lia
theorem SH{x:Str}{u:Option Int}{j:Int}(h:(x.length:Int)<=j):PySem.StrLaws.sliceText x (some j) u=PySem.StrLaws.sliceText x (some (x.length:Int)) u:=by
 have e:Builtin.Str.strSliceIndices (some j) u 1 x.length=Builtin.Str.strSliceIndices (some (x.length:Int)) u 1 x.length:=by
  unfold Builtin.Str.strSliceIndices;have h1 : ¬ j<0:=by lia
  have h2 : ¬ (x.length:Int)<0:=by lia
  simp only[h1,h2,ig,show(1:Int) > 0 from by decide,gR];rw[show max 0 (min j (x.length:Int))=max 0 (min (x.length:Int) (x.length:Int)) by lia]
 unfold PySem.StrLaws.sliceText;rw[e]
theorem Kl{t:Str}(n:Nat):cs (PySem.StrLaws.sliceText t (some (n:Int)) none)=(cs t).drop n:=by
 by_cases h:n<=t.length
 ·rw[B7 (by lia) (by lia),tQ]
 ·rw[SH (by lia),B7 (by lia) (Int.le_refl _),tQ,List.drop_of_length_le (by rw[ZR];exact az _),List.drop_of_length_le (by rw[ZR];lia)]
theorem Tj{t:Str}(n:Nat)(h:n<=t.length):cs (PySem.StrLaws.sliceText t none (some (n:Int)))=(cs t).take n:=by
 have aD:t.cps.toList.length=t.length:=by rw[aB];rfl
 rw[PySem.StrLaws.sliceText_to (x:=t) (j:=n) ⟨by lia,by rw[aD];lia⟩];show((t.cps.toList.drop 0).take _).toArray.toList=_;rw[qO];simp[cs]
theorem Ce{t a b:Str}{n k i j:Nat}(h:cS t n k)(ha:cs a=(cs t).take i)(hb:cs b=(cs t).drop j)(eU:i<=j):cS a n k/\cS (a++b) n k:=by
 have hl:=h.len;rw[<- ZR] at hl;have ZxP:(cs t).count 40=((cs t).take i).count 40+((cs t).drop i).count 40:=by
  conv=>lhs;rw[<- j6 i (cs t)]
  rw[fo]
 have hdj:((cs t).drop j).count 40<=((cs t).drop i).count 40:=by
  have:(cs t).drop j=((cs t).drop i).drop (j-i):=by rw[la,show i+(j-i)=j by lia]
  rw[this];exact(List.drop_sublist _ _).count_le 40
 have hc:=h.cnt;have aa:iy a:=fun c hc=>h.asc c (by have hc:c∈cs a:=hc;rw[ha] at hc;exact oH hc);refine⟨⟨aa,?_,?_⟩,⟨fun c hc=>?_,?_,?_⟩⟩
 ·rw[<- ZR,ha,dN];lia
 ·rw[ha];lia
 ·have hc:c∈cs (a++b):=hc;rw[Z2] at hc;rcases bL.mp hc with hc|hc
  ·exact aa c hc
  ·rw[hb] at hc;exact h.asc c (tZ hc)
 ·rw[ZG,<- ZR,<- ZR,ha,hb,dN,dF];lia
 ·rw[Z2,fo,ha,hb];lia
theorem L'{t a b sg:Str}{n k i j:Nat}(h:cS t n k)(ha:cs a=(cs t).take i)(hb:cs b=(cs t).drop j)(eU:i<=j)(hs:cS sg 1 1):cS (a++sg++b) (n+1) (k+1):=by
 have h0:=(Ce h ha hb eU).2;refine⟨fun c hc=>?_,?_,?_⟩
 ·have hc:c∈cs (a++sg++b):=hc;rw[Z2,Z2] at hc;rcases bL.mp hc with hc|hc
  ·rcases bL.mp hc with hc|hc
   ·exact h0.asc c (by show c∈cs (a++b);rw[Z2];exact oG _ hc)
   ·exact hs.asc c hc
  ·exact h0.asc c (by show c∈cs (a++b);rw[Z2];exact fu _ hc)
 ·have h1:=h0.len;have h2:=hs.len;rw[ZG] at h1;rw[ZG,ZG];lia
 ·have h1:=h0.cnt;have h2:=hs.cnt;rw[Z2,fo] at h1;rw[Z2,Z2,fo,fo];lia
def BH(K:PySem.W.Frag):Sp:=fun vs H Q _=>∃(L:Addr)(zs:List Str)(m:Int)(cl:Int),vs=[.ref L,.int m,.int cl]/\H L=some (.lst (zs.map V.str))/\zs ≠ []/\zs.length<=9/\(∀z∈zs,cS z 100 6)/\∀(z:Str)(H':Hp),ZD H H'->cS z 1500 60->Q (.str z) H'
theorem some_at:∀i:Nat,i<21->∃c,dP (Str.cps (Str.ofString " ();={}0123ab/" ++ Str.ofString "-A?|,.4")).toList (i:Int)=some c/\c<128:=by
 have h:∀i:Fin 21,∃c,(cs (Str.ofString " ();={}0123ab/" ++ Str.ofString "-A?|,.4"))[i.val]?= some c/\c<128:=by
  intro i;have hl:(cs (Str.ofString " ();={}0123ab/" ++ Str.ofString "-A?|,.4")).length=21:=by rw[Z2];rfl
  have ha:∀c∈cs (Str.ofString " ();={}0123ab/" ++ Str.ofString "-A?|,.4"),c<128:=by rw[Z2];decide
  have hi:i.val<(cs (Str.ofString " ();={}0123ab/" ++ Str.ofString "-A?|,.4")).length:=by rw[hl];exact i.isLt
  exact⟨_,cI hi,ha _ (xa hi)⟩
 intro i hi;obtain⟨c,h1,h2⟩:=h ⟨i,hi⟩;exact⟨c,i9 h1,h2⟩
theorem Vt{c:Nat}(h:c<128):cS ⟨#[c]⟩ 1 1:=by
 refine⟨fun x hx=>?_,az _,?_⟩
 ·have:x ∈ [c]:=hx;rw[bi.mp this];exact h
 ·show List.count 40 [c]<=1;exact List.count_le_length
def G8(n k:Nat)(z:Str):Bool:=(cs z).all (fun c=>decide (c<128))&&decide ((cs z).length<=n)&&decide ((cs z).count 40<=k)
theorem yu{n k:Nat}{z:Str}(h:G8 n k z=true):cS z n k:=by
 unfold G8 at h;rw[cP,cP,cC,cC,e_] at h;exact⟨fun c hc=>ii (h.1.1 c hc),by rw[<- ZR];exact h.1.2,h.2⟩
theorem BP{l:List Str}{i:Int}{n k:Nat}(h:l.all (G8 n k)=true)(h0:0<=i)(h1:i<(l.length:Int)):∃z,dP (l.map V.str) i=some (.str z)/\cS z n k:=by
 obtain⟨j,rfl⟩:∃j:Nat,i=(j:Int):=⟨i.toNat,by lia⟩;have hj:j<l.length:=by lia
 exact⟨l[j],K8 hj,yu (e_.mp h _ (xa hj))⟩
theorem ko{z:Str}{n k:Nat}(h:cS z n k)(hn:n<=100000):z.length<=sizeLine:=Zk (cZ h.len hn)
set_option maxHeartbeats 4000000 in
theorem QR(B:∀x∈cG,mg x=none)(F:bP K "_law_spoiled" "_law_spoiled" Zt f fd):aY P w K mg base cq 1 f fd ["_law_rows_here","_law_modes","_law_cell"] (BH K):=by
 refine F.ok pq (fun vs H Q E h=>?_) (fun aL A outer s H vs Q E hr h=>?_)
 ·obtain⟨L,zs,m,cl,rfl,_⟩:=h;rfl
 obtain⟨L,zs,m,cl,rfl,hL,bQ,iL,hz,q⟩:=h;have hu:=pG hr;refine VR ((Zd Zt).drop 13) (To (Uj (Vl Z6 (yl (iW.of Lv)) (Zv dq (Zv fK (pv 2) Zg) Zg) (fun _ _=>rfl)))) (fun u13 h13 Y1=>?_);refine Zw ((ZV ((Zd Zt).getD 12 (.Pass ⟨0,0,0,0⟩))).drop 0) (Zf (Zz (Zv Zy (Zv Zy (pv 4) Zm) (bp Z6 (fJ.to (yl (iW.of Lv))) (Zv dq (Zv fK (pv 2) Zg) Zg) (fun _ _=>rfl))))) (fun Zwq Zp5 Y0=>?_);refine ix ((Zd Zt).drop 12) (ir (bu (Zr fw (pv 5) Zg (ZK _)) Zp5 ZC) h13) (fun u12 h12 YZ=>?_);refine Zw ((ZV ((Zd Zt).getD 11 (.Pass ⟨0,0,0,0⟩))).drop 0) (Zf (Zz (Zv Zy (Zv Zy (Zv Zy (pv 4) Zm) (bp Z6 (fJ.to (yl (mY pH (mY pH (mY pH (mY pH (mY pH (mY pH (mY pH LJ))))))))) (Zv dq (Zv fK (pv 2) Zg) Zg) (fun _ _=>rfl))) Zm))) (fun Zwo Zp3 YY=>?_);refine ix ((Zd Zt).drop 11) (ir (bu (Zr fw (pv 5) Zg (ZK _)) Zp3 ZC) h12) (fun u11 eR YX=>?_);refine Zw ((ZV ((Zd Zt).getD 10 (.Pass ⟨0,0,0,0⟩))).drop 0) (Zf (Zz (cw mH t9 t_ rY Zm (Za (Zv L8 (pv 0) (fJ.to (yl (mY (fJ.of (bp Z6 (pv 0) (pv 8) (fun _ _=>rfl))) LJ)))) Zb)))) (fun Zwm Zp2 YW=>?_);refine ix ((Zd Zt).drop 10) (ir (bu (Zr fw (pv 5) Zg (ZK _)) Zp2 ZC) eR) (fun u10 h10 YV=>?_);refine ix ((Zd Zt).drop 9) (ir (bu (Zr fw (pv 5) Zg (ZK _)) (Zf (Zz (cw mH t9 t_ rY Zm (Za (Zv L8 (fM yk (pv 0) ip (eM Zg)) (Q9 rfl rfl (B "list" (by decide)) rfl (B "reversed" (by decide)) (Za (fM yk (pv 0) (eM Zg) ip) Zb))) Zb)))) ZC) h10) (fun u9 h9 e9=>?_);refine ix ((Zd Zt).drop 8) (ir (bu (Zr sj (pv 5) Zg (ZK _)) (Zf (Zz (Zv Zy (Zv Zy (fM kr (pv 4) ip (eM (pv 7))) (pv 6)) (fM kr (pv 4) (eM (Zv gn (pv 7) Zg)) ip)))) ZC) h9) (fun u8 h8 e8=>?_);refine ix ((Zd Zt).drop 7) (ir (bu (Zr sj (pv 5) Zg (ZK _)) (Zf (Zz (Zv Zy (fM kr (pv 4) ip (eM (pv 7))) (fM kr (pv 4) (eM (Zv gn (pv 7) Zg)) ip)))) ZC) h8) (fun u7 h7 e7=>?_);refine ix ((Zd Zt).drop 6) (ir (bu (Zr sj (pv 5) Zg (ZK _)) (Zf (Zz (Zv Zy (Zv Zy (fM kr (pv 4) ip (eM (pv 7))) (pv 6)) (fM kr (pv 4) (eM (pv 7)) ip)))) ZC) h7) (fun u6 h6 e6=>?_);refine ix ((Zd Zt).drop 5) (ir (Zx (i:=8) pq.nd rfl (Or.inl rfl) (Zv dq (Zv fK (pv 2) Zg) (ZF lI rfl (B "len" (by decide)) gc (Za (pv 0) Zb)))) h6) (fun u5 h5 e5=>?_);refine ix ((Zd Zt).drop 4) (ir (Zx (i:=7) pq.nd rfl (Or.inl rfl) (Zv dq (Zv dq (Zv uV (Zv fK (pv 2) Zg) Zg) Zg) (Zv gn (ZF pz rfl (B "len" (by decide)) gc (Za (pv 4) Zb)) Zg))) h5) (fun u4 h4 e4=>?_);refine ix ((Zd Zt).drop 3) (ir (Zx (i:=6) pq.nd rfl (Or.inl rfl) (bp jz (pv 3) (Zv dq (Zv fK (pv 2) Zg) Zg) (fun _ _=>rfl))) h4) (fun u3 h3 e3=>?_);refine ix ((Zd Zt).drop 2) (ir (Zx (i:=5) pq.nd rfl (Or.inl rfl) (Zv dq (pv 2) Zg)) h3) (fun u2 h2 e2=>?_);refine ix ((Zd Zt).drop 1) (ir (Zx (i:=4) pq.nd rfl (Or.inl rfl) (cw mH t9 t_ rY Zm (Za (pv 0) Zb))) h2) (fun u1 h1 e1=>?_);refine ix ((Zd Zt).drop 0) (ir (Zx (i:=3) pq.nd rfl (Or.inl rfl) (Zv Zy Zm Zm)) h1) (fun u0 h0 e0=>?_);refine WE h0 ?_;refine Zq e0 ?_;refine⟨_,_,rfl,rfl,(by decide),?_⟩;show u1 _ _ _;refine Zq e1 ?_;have hj:=xW (c:=9) iL (by decide) hz;have zF:=hj.len;refine⟨rfl,_,rfl,Str.ofString "; ",L,zs,rfl,rfl,ak.of hL,?_,?_⟩
 ·have:=(rP hz).1;show _+_*2<=16777216;lia
 obtain⟨T,hT⟩:∃T,Txt.join (Str.ofString "; ") zs=T:=⟨_,rfl⟩;show u2 _ [some (.ref L),some (.int m),some (.int cl),some (.str (Str.ofString " ();={}0123ab/" ++ Str.ofString "-A?|,.4")),some (.str (Txt.join (Str.ofString "; ") zs)),none,none,none,none] H;rw[hT] at hj zF ⊢;refine Zq e2 ?_;have w0:=dX cl (by decide:(12:Int)≠0);refine⟨_,rfl,_,_,rfl,rfl,(by show(0:Int)<12;decide),?_⟩;show u3 _ _ _;refine Zq e3 ?_;have a0:=dX (cl / 12) (by decide:(21:Int)≠0);have a1:=eZ (cl / 12) (by decide:(0:Int)<21);obtain⟨cg,N4,Zq3⟩:=some_at (cl / 12 % 21).toNat (by lia);rw[show(((cl / 12 % 21).toNat:Nat):Int)=cl / 12 % 21 by lia] at N4;refine⟨_,rfl,_,rfl,_,_,rfl,rfl,⟨by decide,by decide⟩,_,_,rfl,rfl,(by show(0:Int)<21;decide),_,_,cg,rfl,rfl,(by decide),N4,?_⟩;have Ga:=Vt Zq3;show u4 _ _ _;refine Zq e4 ?_;refine⟨_,rfl,_,_,rfl,rfl,⟨by decide,by decide⟩,_,_,rfl,rfl,.inr ⟨by decide,by decide⟩,_,_,rfl,rfl,(by show(0:Int)<1000003;decide),_,rfl,T,rfl,Zk (by lia),_,_,rfl,rfl,_,_,rfl,rfl,(by show(0:Int)<(T.length:Int)+1;lia),?_⟩;have p0:=dX (cl / 12*69621 % 1000003) (show(T.length:Int)+1≠0 by lia);have p1:=eZ (cl / 12*69621 % 1000003) (show(0:Int)<(T.length:Int)+1 by lia);obtain⟨j,hj1,hj2⟩:∃j:Nat,cl / 12*69621 % 1000003 % ((T.length:Int)+1)=(j:Int)/\j<=T.length:=⟨(cl / 12*69621 % 1000003 % ((T.length:Int)+1)).toNat,by lia,by lia⟩;show u5 _ [some (.ref L),some (.int m),some (.int cl),some (.str (Str.ofString " ();={}0123ab/" ++ Str.ofString "-A?|,.4")),some (.str T),some (.int (cl % 12)),some (.str ⟨#[cg]⟩),some (.int (cl / 12*69621 % 1000003 % ((T.length:Int)+1))),none] H;rw[hj1];refine Zq e5 ?_;have hzp:0<zs.length:=List.length_pos_iff.mpr bQ;refine⟨_,rfl,_,_,rfl,rfl,⟨by decide,by decide⟩,_,rfl,L,_,rfl,.inl (ak.of hL),_,_,rfl,rfl,(by show(0:Int)<(((zs.map V.str).length:Nat):Int);rw[aW];lia),?_⟩;obtain⟨k,sS,iI⟩:∃k:Nat,cl / 7 % (((zs.map V.str).length:Nat):Int)=(k:Int)/\k<zs.length:=by
  rw[aW];have:=dX (cl / 7) (show(zs.length:Int)≠0 by lia);have:=eZ (cl / 7) (show(0:Int)<(zs.length:Int) by lia);exact⟨(cl / 7 % (zs.length:Int)).toNat,by lia,by lia⟩
 show u6 _ [some (.ref L),some (.int m),some (.int cl),some (.str (Str.ofString " ();={}0123ab/" ++ Str.ofString "-A?|,.4")),some (.str T),some (.int (cl % 12)),some (.str ⟨#[cg]⟩),some (.int (j:Int)),some (.int (cl / 7 % (((zs.map V.str).length:Nat):Int)))] H;rw[sS];obtain⟨ta,mm⟩:∃ta,PySem.StrLaws.sliceText T none (some (j:Int))=ta:=⟨_,rfl⟩;obtain⟨tb,Gf⟩:∃tb,PySem.StrLaws.sliceText T (some (j:Int)) none=tb:=⟨_,rfl⟩;obtain⟨tc,v_⟩:∃tc,PySem.StrLaws.sliceText T (some ((j:Int)+1)) none=tc:=⟨_,rfl⟩;have yU:cs ta=(cs T).take j:=by rw[<- mm,Tj j hj2]
 have Nv:cs tb=(cs T).drop j:=by rw[<- Gf,Kl]
 have Nw:cs tc=(cs T).drop (j+1):=by rw[<- v_,show(j:Int)+1=((j+1:Nat):Int) by lia,Kl]
 have oka:=Ce hj yU Nv (az _);have Pn:=Ce hj yU Nw (ic _);have Pj:=L' hj yU Nv (az _) Ga;have Pk:=L' hj yU Nw (ic _) Ga;have Po:cS (ta++⟨#[cg]⟩) 1000 60:=(oka.1.app Ga).mono (by decide) (by decide);refine Zq e6 ?_;refine⟨_,rfl,_,_,rfl,rfl,_,rfl,dD (fun _=>?_) (fun _=>?_)⟩
 ·refine⟨_,rfl,_,rfl,(j:Int),rfl,T,rfl,Zk (by lia),_,rfl,_,_,rfl,rfl,?_,_,rfl,_,rfl,(j:Int),rfl,T,rfl,Zk (by lia),_,_,rfl,rfl,?_,?_⟩
  ·rw[mm,<- ZG];exact ko Po (by decide)
  ·rw[mm,Gf,<- ZG];exact ko Pj (by decide)
  ·rw[mm,Gf];exact q _ _ (ZD.refl _) (Pj.mono (by decide) (by decide))
 show u7 _ _ _;refine Zq e7 ?_;refine⟨_,rfl,_,_,rfl,rfl,_,rfl,dD (fun _=>?_) (fun _=>?_)⟩
 ·refine⟨_,rfl,_,rfl,(j:Int),rfl,T,rfl,Zk (by lia),_,rfl,_,rfl,_,_,rfl,rfl,((j:Int)+1),rfl,T,rfl,Zk (by lia),_,_,rfl,rfl,?_,?_⟩
  ·rw[mm,v_,<- ZG];exact ko Pn.2 (by decide)
  ·rw[mm,v_];exact q _ _ (ZD.refl _) (Pn.2.mono (by decide) (by decide))
 show u8 _ _ _;refine Zq e8 ?_;refine⟨_,rfl,_,_,rfl,rfl,_,rfl,dD (fun _=>?_) (fun _=>?_)⟩
 ·refine⟨_,rfl,_,rfl,(j:Int),rfl,T,rfl,Zk (by lia),_,rfl,_,_,rfl,rfl,?_,_,rfl,_,rfl,_,_,rfl,rfl,((j:Int)+1),rfl,T,rfl,Zk (by lia),_,_,rfl,rfl,?_,?_⟩
  ·rw[mm,<- ZG];exact ko Po (by decide)
  ·rw[mm,v_,<- ZG];exact ko Pk (by decide)
  ·rw[mm,v_];exact q _ _ (ZD.refl _) (Pk.mono (by decide) (by decide))
 show u9 _ _ _;refine Zq e9 ?_;refine⟨_,rfl,rfl,_,rfl,dD (fun _=>?_) (fun _=>?_)⟩
 ·have wI:∀z∈zs.take 1++(zs.drop 1).reverse,cS z 100 6:=fun z h=>by
   rcases bL.mp h with h|h
   ·exact hz z (oH h)
   ·exact hz z (tZ (lc.mp h))
  have lp:(zs.take 1++(zs.drop 1).reverse).length<=9:=by
   rw[bw,tY,dN,dF];lia
  refine⟨rfl,_,rfl,1,rfl,L,_,rfl,ak.of hL,fun C1 l_=>?_⟩;have s1:=ZD.new (o:=.lst (dJ (zs.map V.str) none (some 1))) l_;refine⟨_,rfl,1,rfl,L,_,rfl,ak.of (s1 _ _ hL),fun C2 hC2=>?_⟩;have s2:=ZD.new (o:=.lst (dJ (zs.map V.str) (some 1) none)) hC2;refine⟨C2,_,rfl,ak.of Zc,fun C3 vH=>?_⟩;have s3:=ZD.new (o:=.lst (dJ (zs.map V.str) (some 1) none).reverse) vH;have vp:dJ (zs.map V.str) none (some 1)++(dJ (zs.map V.str) (some 1) none).reverse=(zs.take 1++(zs.drop 1).reverse).map V.str:=by
   rw[show(1:Int)=((1:Nat):Int) from rfl,Tb,KC,fG,List.map_take,List.map_reverse,List.map_drop]
  refine⟨C1,C3,_,_,rfl,rfl,(s2.trans s3) _ _ Zc,Zc,?_,fun C4 p8=>?_⟩
  ·rw[<- bw,vp,aW];exact Zk (by lia)
  ·rw[vp];have s4:=ZD.new (o:=.lst ((zs.take 1++(zs.drop 1).reverse).map V.str)) p8;refine⟨Str.ofString "; ",C4,zs.take 1++(zs.drop 1).reverse,rfl,rfl,ak.of Zc,?_,q _ _ (s1.trans (s2.trans (s3.trans s4))) ((xW lp (by decide) wI).mono (by decide) (by decide))⟩;have:=(rP wI).1;show _+_*2<=16777216;lia
 show u10 _ _ _;refine Zq YV ?_;refine⟨_,rfl,rfl,_,rfl,dD (fun _=>?_) (fun _=>?_)⟩
 ·show Zwm _ _ _;refine Zq YW ?_;have wI:∀z∈zs ++ [zs[k]],cS z 100 6:=fun z h=>by
   rcases bL.mp h with h|h
   ·exact hz z h
   ·rw[bi.mp h];exact hz _ (xa iI)
  have lp:(zs ++ [zs[k]]).length<=10:=by
   rw[bw];show _+1<=_;lia
  refine⟨rfl,_,rfl,_,rfl,_,rfl,L,_,(k:Int),.str zs[k],rfl,rfl,ak.of hL,K8 iI,(by show 1<=sizeLine;decide),fun C1 l_=>?_⟩;have s1:=ZD.new (o:=.lst [.str zs[k]]) l_;have vp:zs.map V.str ++ [.str zs[k]]=(zs ++ [zs[k]]).map V.str:=by
   rw[fG];rfl
  refine⟨L,C1,_,_,rfl,rfl,s1 _ _ hL,Zc,?_,fun C4 p8=>?_⟩
  ·rw[<- bw,vp,aW];exact Zk (by lia)
  ·rw[vp];have s4:=ZD.new (o:=.lst ((zs ++ [zs[k]]).map V.str)) p8;refine⟨Str.ofString "; ",C4,zs ++ [zs[k]],rfl,rfl,ak.of Zc,?_,q _ _ (s1.trans s4) ((xW lp (by decide) wI).mono (by decide) (by decide))⟩;have:=(rP wI).1;show _+_*2<=16777216;lia
 show u11 _ _ _;refine Zq YX ?_;refine⟨_,rfl,rfl,_,rfl,dD (fun _=>?_) (fun _=>?_)⟩
 ·show Zwo _ _ _;refine Zq YY ?_;obtain⟨z,wc,jh⟩:=BP (l:=["3","4","9","10","-1","03",""]) (n:=2) (k:=0) (i:=cl / 12 % 7) (by decide) (dX _ (by decide)) (eZ _ (by decide));have o1:=hj.app (yu (n:=2) (k:=0) (z:=Str.ofString "; ") (by decide));have o2:=o1.app jh;have o3:=o2.app (yu (n:=13) (k:=0) (z:=Str.ofString " zzzzzzzz = a") (by decide));refine⟨_,rfl,_,_,rfl,rfl,?_,(by show 7<=sizeLine;decide),fun C1 l_=>?_⟩
  ·rw[<- ZG];exact ko o1 (by decide)
  refine⟨_,rfl,_,_,rfl,rfl,⟨by decide,by decide⟩,_,_,rfl,rfl,(by show(0:Int)<7;decide),C1,_,_,.str z,rfl,rfl,ak.of Zc,wc,_,_,rfl,rfl,?_,_,_,rfl,rfl,?_,q _ _ (ZD.new l_) (o3.mono (by decide) (by decide))⟩
  ·rw[<- ZG];exact ko o2 (by decide)
  ·rw[<- ZG];exact ko o3 (by decide)
 show u12 _ _ _;refine Zq YZ ?_;refine⟨_,rfl,rfl,_,rfl,dD (fun _=>?_) (fun _=>?_)⟩
 ·show Zwq _ _ _;refine Zq Y0 ?_;obtain⟨z,wc,jh⟩:=BP (l:=["a()","{}","a({})",""," a","a ","a  0","0(a)","1_0"]) (n:=5) (k:=1) (i:=cl / 12 % 9) (by decide) (dX _ (by decide)) (eZ _ (by decide));have o1:=hj.app (yu (n:=15) (k:=0) (z:=Str.ofString "; 0 zzzzzzzz = ") (by decide));have o2:=o1.app jh;refine⟨_,rfl,_,_,rfl,rfl,?_,(by show 9<=sizeLine;decide),fun C1 l_=>?_⟩
  ·rw[<- ZG];exact ko o1 (by decide)
  refine⟨_,rfl,_,_,rfl,rfl,⟨by decide,by decide⟩,_,_,rfl,rfl,(by show(0:Int)<9;decide),C1,_,_,.str z,rfl,rfl,ak.of Zc,wc,_,_,rfl,rfl,?_,q _ _ (ZD.new l_) (o2.mono (by decide) (by decide))⟩;rw[<- ZG];exact ko o2 (by decide)
 show u13 _ _ _;refine Zq Y1 ?_;obtain⟨z,wc,jh⟩:=BP (l:=["","0","5","1;","2; "," 1","1 ","01","1; 0 a","1; 0 a =","one"]) (n:=8) (k:=0) (i:=cl / 12 % 11) (by decide) (dX _ (by decide)) (eZ _ (by decide));refine⟨(by show 11<=sizeLine;decide),fun C1 l_=>?_⟩;exact⟨_,rfl,_,_,rfl,rfl,⟨by decide,by decide⟩,_,_,rfl,rfl,(by show(0:Int)<11;decide),C1,_,_,.str z,rfl,rfl,ak.of Zc,wc,q _ _ (ZD.new l_) (jh.mono (by decide) (by decide))⟩
theorem uH{m m':Nat}(hm:m<=m'):∀{p:Pa},bh m p->bh m' p
 | .nil,_=>trivial
 | .kids k o,h=>⟨⟨h.1.1,by have:=h.1.2;lia⟩,uH hm h.2⟩
 | .tag t w o,h=>⟨h.1,uH hm h.2.1,uH hm h.2.2⟩
theorem L5{l:List Nat}(h:l.all bV=true):l.count 40=0:=List.count_eq_zero.mpr fun hc=>by
 have:=e_.mp h 40 hc
 revert this
 decide
theorem yn{m:Nat}:∀{p:Pa},bh m p->(tP p).count 40<=p.sz
 | .nil,_=>az _
 | .kids n o,h=>by
  have h1:=yn h.2;show List.count 40 ((48+n.toNat)::XT o)<=1+o.sz;have hx:(XT o).count 40<=o.sz:=by
   unfold XT
   split
   ·exact bj _
   ·rw[fq];have:((32:Nat) == 40)=false:=rfl;rw[this]
    simpa using h1
  rw[fq];have:((48+n.toNat) == 40)=false:=by simp;lia
  rw[this];simp;lia
 | .tag t w o,h=>by
  have h1:=yn h.2.1;have h2:=yn h.2.2;have h3:=L5 h.1.1;show List.count 40 (cs t++((if aC w=true then [] else 40::(tP w ++ [41]))++XT o))<=1+w.sz+o.sz
  have hx:(XT o).count 40<=o.sz:=by
   unfold XT
   split
   ·exact bj _
   ·rw[fq];have:((32:Nat) == 40)=false:=rfl;rw[this]
    simpa using h2
  have hw:(if aC w=true then [] else 40::(tP w ++ [41])).count 40<=1+w.sz:=by
   split
   ·exact bj _
   ·rw[fq,fo];have:List.count 40 [41]=0:=rfl;rw[this];simp;lia
  rw[fo,fo];lia
theorem V7{m:Nat}(hm:m<=4){r:Rl}(h:gL m r)(hs:r.2.2.sz<=6){z:Str}(hz:cs z=tR r):cS z 100 6:=by
 have hb:q_ r:=⟨h.1.1,by have:=h.1.2;lia,by have:=h.2.1.2.2;rw[ZR] at this;exact this,by have:=Pa.uU r.2.2;lia,by lia,uH hm h.2.2⟩;have hl:=Me hb;have ht:=h.2.1.1;refine⟨fun c hc=>?_,by rw[<- ZR,hz];lia,?_⟩
 ·have hc:c∈cs z:=hc;rw[hz] at hc;have O7:∀{c:Nat},bV c=true->c<128:=fun h=>by have:=CV h;lia
  unfold tR at hc;rcases aH.mp hc with rfl|hc
  ·have:=h.1.2;lia
  ·rcases aH.mp hc with rfl|hc
   ·decide
   ·rcases bL.mp hc with hc|hc
    ·exact O7 (e_.mp ht c hc)
    ·rcases aH.mp hc with rfl|hc
     ·decide
     ·rcases aH.mp hc with rfl|hc
      ·decide
      ·rcases aH.mp hc with rfl|hc
       ·decide
       ·split at hc
        ·revert hc
         simp;lia
        ·rcases uQ (by lia) h.2.2 c hc with k|k|k|k|k
         ·exact O7 k
         ·unfold bB at k;simp at k;lia
         ·lia
         ·lia
         ·lia
 ·rw[hz];have h1:=yn h.2.2;have h2:=L5 ht;unfold tR;rw[fq,fq,fo,fq,fq,fq];have e1:((48+r.1.toNat) == 40)=false:=by simp;lia
  have h3:(if aC r.2.2=true then [123,125] else tP r.2.2).count 40<=r.2.2.sz:=by
   split
   ·exact bj _
   ·exact h1
  rw[e1];simp;lia
theorem S2{m:Nat}{rs:List Rl}(hw:oA m rs){l:List Nat}(e:l=tC m rs)(hl:l.length<=1500)(hc:l.count 40<=60):rs.length<=5000/\∀r∈rs,r.2.2.sz<=2001/\r.2.2.dep<70:=by
 have key:∀rs:List Rl,rs.length<=(cm rs).length/\∀r∈rs,(tR r).length<=(cm rs).length/\(tR r).count 40<=(cm rs).count 40:=by
  intro rs
  induction rs with
  | nil=>exact⟨az _,fun _ h=>nomatch h⟩
  | cons r rs ih =>
   have e1:(cm (r::rs)).length=2+(tR r).length+(cm rs).length:=by
    show(59::32::(tR r++cm rs)).length=_;simp only[aO,bw];lia
   have e2:(cm (r::rs)).count 40=(tR r).count 40+(cm rs).count 40:=by
    show(59::32::(tR r++cm rs)).count 40=_;rw[fq,fq,fo];rfl
   refine⟨by rw[e1,aO];have:=ih.1;lia,fun x hx=>?_⟩;rcases aH.mp hx with rfl|hx
   ·exact⟨by lia,by lia⟩
   ·have:=ih.2 x hx;exact⟨by lia,by lia⟩
 obtain⟨k1,k2⟩:=key rs;have el:l.length=1+(cm rs).length:=by rw[e];unfold tC;rw[aO];lia
 have ec:(cm rs).count 40<=l.count 40:=by rw[e];unfold tC;rw[fq];lia
 refine⟨by lia,fun r hr=>?_⟩;obtain⟨a1,a2⟩:=k2 r hr;have hwr:=hw.2.1 r hr;cases hn:aC r.2.2 with
 | true =>
  rw[km.mp hn];exact⟨bj _,by decide⟩
 | false =>
  have q:=L3 hw.1.2 hn hwr.2.2;have s1:=LW q;have s2:=Lo q;have t1:(tR r).length=5+(cs r.2.1).length+(tP r.2.2).length:=by
   unfold tR;rw[hn,af bf];simp only[aO,bw];lia
  have t2:(tP r.2.2).count 40<=(tR r).count 40:=by
   unfold tR;rw[hn,af bf,fq,fq,fo,fq,fq,fq];lia
  exact⟨by lia,by lia⟩
theorem ML{H:Hp}:∀{ys:List V}{ps:List bo.Ps},KL H ys (ps.map bS)->cE H ys ps
 | [],[],_=>.nil
 | _::_,_::_,.cons ⟨b,e1,e2⟩ t=>.cons ⟨b,e1,e2⟩ (ML t)
set_option maxHeartbeats 8000000 in
theorem U6(B:∀x∈cG,mg x=none)(pW:bG P w K mg base "_law_cell_at" ["_law_script","_law_k"] 1 (yy K)) (E8:bG P w K mg base "_law_known" ["_law_modes","_law_numbers_here"] 3 BK) (E9:bG P w K mg base "_law_numbers" ["_law_script","_law_first","_law_many"] 2 (BS K)) (sD:bG P w K mg base "_law_rows" ["_law_modes","_law_rules"] 71 x9) (Fc:bG P w K mg base "_law_spoiled" ["_law_rows_here","_law_modes","_law_cell"] 1 (BH K)) (E7:bG P w K mg base "_law_changer_of" ["_law_text_here"] 72 Cr) (zf:bG P w K mg base "_law_told" ["_law_text_here"] 8 (B5 K)) (sE:bG P w K mg base "_law_same_kinds" ["_law_found","_law_due"] 150 (yE 150)) (F:bP K "law" "law" dC f fd):aY P w K mg base cq 151 f fd ["_law_script"] (yK K):=by
 refine F.ok i7 (fun vs H Q E h=>?_) (fun aL A outer s H vs Q E hr h=>?_)
 ·obtain⟨a,ns,rfl,_⟩:=h;rfl
 obtain⟨a,ns,rfl,hS,sH,q⟩:=h;have hu:=pG hr;have tw:(A.deeper (PyProof.Rows.envOfC (Str.ofString "law") (Zh dC) s.heap.objs.size f aL)).units+1<cLine:=by have:=hr.un;lia
 refine Zw ((Zd dC).drop 7) (Zf (Zz (r6 (ye Cy (pv 9) gp (ZK _)) (uR (de sE hr rfl (Za (pv 8) (Za (cT (Za (pv 2) (Za (ZX Z0 rfl (B "tuple" (by decide)) iZ (Za (pv 4) Zb)) Zb))) Zb))))))) (fun u7 h7 e7=>?_);refine Zw ((Zd dC).drop 6) (Ze (Cz (de zf hr rfl (Za (cw mH t9 t_ rY Zm (Za (pv 5) Zb)) Zb)) (uY rfl (i3 (dB (i:=8) i7.nd rfl (Or.inl rfl)) (i3 (dB (i:=9) i7.nd rfl (Or.inl rfl)) uL)))) h7) (fun u6 h6 e6=>?_);refine Zw ((ZV ((Zd dC).getD 5 (.Pass ⟨0,0,0,0⟩))).drop 4) (Zf (bu (PW.pt (jx (Zr K6 (pv 7) gp (ZK _)) (kq (PW.pt (jF (Zr K6 (pv 9) gp (ZK _)) (lO (jB (ZZ (de sE hr rfl (Za (pv 8) (Za (pv 7) Zb))) (fun _=>rfl)))))))))
   (Zf (Zz ku))
   ZC)) (fun PX ZqG ND=>?_)
 refine Zw ((ZV ((Zd dC).getD 5 (.Pass ⟨0,0,0,0⟩))).drop 3) (Ze (bu (PW.pt (jx (Zr Cy (pv 7) gp (ZK _)) (kq (Zr TY (pv 9) ku (ZK _)))))
   (Zf (Zz ku))
   ZC) ZqG) (fun PV ZqF NC=>?_)
 refine Zw ((ZV ((Zd dC).getD 5 (.Pass ⟨0,0,0,0⟩))).drop 2) (Ze (Cz (de zf hr rfl (Za (pv 6) Zb)) (uY rfl (i3 (dB (i:=8) i7.nd rfl (Or.inl rfl)) (i3 (dB (i:=9) i7.nd rfl (Or.inl rfl)) uL)))) ZqF) (fun PU ZqE NB=>?_);refine Zw ((ZV ((Zd dC).getD 5 (.Pass ⟨0,0,0,0⟩))).drop 1) (Ze (Zx (i:=7) i7.nd rfl (Or.inl rfl) (de E7 hr rfl (Za (pv 6) Zb))) ZqE) (fun ZwS ZqD ZpR=>?_);refine Zw ((ZV ((Zd dC).getD 5 (.Pass ⟨0,0,0,0⟩))).drop 0) (Ze (Zx (i:=6) i7.nd rfl (Or.inl rfl) (de Fc hr rfl (Za (pv 5) (Za (pv 2) (Za (de pW hr rfl (Za (pv 0) (Za Zg Zb))) Zb))))) ZqD) (fun ZwR ZqC ZpQ=>?_);refine Zw ((Zd dC).drop 5) (Ze (bu (Zr fw (Zv dq (Zv fK (pv 1) Zg) Zg) Zg (ZK _))
   ZqC
   ZC) h6) (fun u5 h5 e5=>?_)
 refine Zw ((Zd dC).drop 4) (Ze (Zx (i:=5) i7.nd rfl (Or.inl rfl) (de sD hr rfl (Za (pv 2) (Za (pv 4) Zb)))) h5) (fun u4 h4 e4=>?_);refine Zw ((Zd dC).drop 3) (Ze (Jp (cl:=_) (n0:=4) i7.nd rfl (Or.inl rfl) ["_law_mode","_law_tag_here"] [("_law_known_here",3)] (uO (ZF (QG rfl) rfl (B "sorted" (by decide)) SF (Za (ZX (QK rfl) rfl (B "list" (by decide)) LF (Za (pv 3) Zb)) Zb))) (fun _ _ _ _=>(Uw (K:=K) (n:=2) rfl rfl (i3 (dB (i:=0) (show List.Nodup (["_law_mode","_law_tag_here","_law_known_here"]:List Str) by decide) rfl (Or.inl rfl)) (i3 (dB (i:=1) (show List.Nodup (["_law_mode","_law_tag_here","_law_known_here"]:List Str) by decide) rfl (Or.inl rfl)) uL)))) (fun _ _ _ _=>(cT (Za (pv 0) (Za (pv 1) (Za (Uk tw (pv 2) (cT (Za (pv 0) (Za (pv 1) Zb))) (fun _ _=>rfl)) Zb))))) rfl rfl (by decide) rfl (by decide) (Vv (by(repeat' first|exact AW _|refine ft.mpr ⟨?_,?_⟩) <;> rfl)) (TX (by(repeat' first|exact AW _|refine ft.mpr ⟨?_,?_⟩) <;> first|(intro h;exact⟨_,rfl⟩)|(intro h;exact absurd h (by decide)))) (fun _=>by(repeat' first|exact AW _|refine ft.mpr ⟨?_,?_⟩) <;> exact⟨rfl,rfl,Or.inl rfl⟩) (fun _=>rfl) rfl) h4) (fun u3 h3 e3=>?_)
 refine Zw ((Zd dC).drop 2) (Ze (Zx (i:=3) i7.nd rfl (Or.inr rfl) (de E8 hr rfl (Za (pv 2) (Za (de E9 hr rfl (Za (pv 0) (Za Zg (Za (Zv uV Zg (Zv dq (Zv fK (pv 1) Zg) Zg)) Zb)))) Zb)))) h3) (fun u2 h2 e2=>?_);refine Zw ((Zd dC).drop 1) (Ze (Zx (i:=2) i7.nd rfl (Or.inl rfl) (Zv gn Zg (Zv dq (pv 1) Zg))) h2) (fun u1 h1 e1=>?_);refine Zw ((Zd dC).drop 0) (Ze (Zx (i:=1) i7.nd rfl (Or.inl rfl) (de pW hr rfl (Za (pv 0) (Za Zg Zb)))) h1) (fun u0 h0 e0=>?_);refine⟨u0,h0,?_⟩;refine Zq e0 ?_;refine⟨_,rfl,a,ns,0,rfl,hS,sH,by decide,fun fst=>?_⟩;show u1 _ _ _;refine Zq e1 ?_;have f0:=dX fst (by decide:(4:Int)≠0);have f1:=eZ fst (by decide:(0:Int)<4);obtain⟨md,zN,m1,m4⟩:∃md:Nat,1+fst % 4=(md:Int)/\1<=md/\md<=4:=⟨(1+fst % 4).toNat,by lia,by lia,by lia⟩;refine⟨_,rfl,_,_,rfl,rfl,(by show(0:Int)<4;decide),_,_,rfl,rfl,?_⟩;show u2 _ [some (.ref a),some (.int fst),some (.int (1+fst % 4)),none,none,none,none,none,none,none] H;rw[zN];refine Zq e2 ?_;have n0:=dX (fst / 4) (by decide:(9:Int)≠0);have n1:=eZ (fst / 4) (by decide:(0:Int)<9);refine⟨_,rfl,_,rfl,_,rfl,_,_,rfl,rfl,⟨by decide,by decide⟩,_,_,rfl,rfl,(by show(0:Int)<9;decide),_,_,rfl,rfl,.inl ⟨by decide,by decide⟩,a,ns,0,_,rfl,hS,sH,by lia,by lia,fun na xs H1 s1 _ mi tx _=>?_⟩;refine⟨na,xs,md,(fst / 4 % 9).toNat,rfl,mi,by lia,by lia,m1,m4,fun d m rs H2 s2 hd2 zM hg iK=>?_⟩;have AH:=s1.trans s2;show u3 _ _ _;refine Zq e3 ?_;refine⟨_,rfl,d,m,rfl,hd2,fun l ys zH Oh=>?_⟩;rw[zM.keys] at Oh;have gF:=ML Oh;have z1:=ZD.new (o:=.lst ys) zH;have kP:ys.length=rs.length:=by rw[gF.length,aW]
 refine⟨l,ys,rs.map aJ,rfl,ak.of Zc,by lia,gF.keep z1.tk,fun ks zk kl hk0 jV hup Oi=>?_⟩;have z2:=ZD.new (o:=.lst zk) hk0;have ZxA:kl.length=rs.length:=by rw[jV.length_eq,aW]
 have Gq:zk.length=kl.length:=Oi.length;have iI:(upd (upd H2 l (.lst ys)) ks (.lst zk)) ks=some (.lst zk):=Zc;have Oj:=Oi.keep z2.tk;have sN:=(z1.trans z2) _ _ hd2;have Oq:=zM.tk (z1.trans z2).tk;have wL:=AH.trans (z1.trans z2);generalize upd (upd H2 l (.lst ys)) ks (.lst zk)=H3 at iI Oj sN Oq wL ⊢;refine⟨ks,rfl,⟨_,ak.of iI⟩,fun pc vX=>?_⟩;refine JX (K:=K) (a:=ks) (p:=pc) (xs:=zk) (fun i us σ H6=>∃(w0 w1:Option V)(ms:List Rl),σ =[w0,w1,some (.ref d)]/\ZD H3 H6/\H6 pc=some (.lst us)/\us.length=i/\eQ H6 us ms/\(∀r∈ms,r∈rs)/\ms.map aJ=kl.take i)
  ⟨none,none,[],rfl,ZD.new vX,Zc,rfl,.nil,fun _ h=>(nomatch h),rfl⟩ ?_ ?_ ?_
 ·rintro i us σ H6 _ ⟨_,_,_,_,s6,h,_⟩;exact⟨ak.of (s6 _ _ iI),h⟩
 ·rintro i us x σ H6 hi hx ⟨w0,w1,ms,rfl,s6,qm,OT,zV,fZ,jd⟩;obtain⟨pk,kk,e1,rfl,e3⟩:=Oj.get i x hx;have hkm:kk∈rs.map aJ:=jV.mem_iff.mp (cQ e1);rcases Oq.val kk with⟨no,_⟩|⟨r,qp,yp,hr,hrk,hv,x2,x3⟩
  ·exact absurd hkm no
  subst hrk;refine⟨pk,_,rfl,aM.of (s6 _ _ e3),rfl,_,_,rfl,_,_,rfl,rfl,?_⟩;refine⟨_,rfl,_,rfl,_,rfl,_,rfl,_,rfl,(by show 2<=sizeLine;decide),fun kt hkt=>?_⟩;have s7:=ZD.new (o:=.tup [.int r.1,.str r.2.1]) hkt;have nM:pS (upd H6 kt (.tup [.int r.1,.str r.2.1])) d (.ref kt) (some (.ref qp)):=by
   have:=pS.t (k:=bS (aJ r)) ((s6.trans s7) _ _ sN) (show(upd H6 kt (.tup [.int r.1,.str r.2.1])) kt=some (.tup ((bS (aJ r)).map kV)) from Zc);rw[hv] at this;exact this
  refine⟨d,_,rfl,nM,(by show 3<=sizeLine;decide),fun t3 tq=>?_⟩;have s8:=ZD.new (o:=.tup [.int r.1,.str r.2.1,.ref qp]) tq;have He:=s7.trans s8;have qq:=He _ _ qm;have tk:=He.tk.trans (TK.lst (o:=.lst (us ++ [.ref t3])) qq);have nt:t3≠pc:=fun z=>nomatch ((z ▸ tq:_=none).symm.trans (s7 _ _ qm))
  refine⟨qq,ZW (by lia),CW.next hi ⟨_,_,ms ++ [r],rfl,(s6.trans He).eW vX,Zc,by rw[bw,List.length_singleton,OT],(zV.mono tk).snoc ⟨t3,qp,yp,rfl,?_,tk _ _ (s6 _ _ x2),(x3.mono s6.tk).mono tk⟩,fun r' mO=>?_,?_⟩⟩
  ·rw[Zi nt];exact Zc
  ·rcases bL.mp mO with mO|mO
   ·exact fZ r' mO
   ·rw[bi.mp mO];exact hr
  ·rw[uE e1,fG,jd];rfl
 rintro us σ H6 ⟨w0,w1,ms,rfl,s6,qm,OT,zV,fZ,jd⟩;rw[Gq,oI] at jd;have Ab:∀r∈ms,gL md r/\r.2.2.sz<=6:=fun r hr=>hg.ok r (fZ r hr);have ZxH:ms.length<=8:=by
  have:=congrArg List.length jd;rw[aW] at this;lia
 have zR:(ms.map aJ).Pairwise (fun a b=>bo.cU a b=true):=by
  rw[jd];have zO:kl.Nodup:=jV.nodup_iff.mpr hg.nd;exact bo.mZ.strict hup zO
 have hwC:oA md ms:=⟨⟨m1,m4⟩,fun r hr=>(Ab r hr).1,zR⟩;have hB:∀r∈ms,q_ r:=fun r hr=>by
  obtain⟨h1,h2⟩:=Ab r hr;exact⟨h1.1.1,by have:=h1.1.2;lia,by have:=h1.2.1.2.2;rw[ZR] at this;exact this,by have:=Pa.uU r.2.2;lia,by lia,uH m4 h1.2.2⟩
 have oq:=wL.trans s6;show u4 _ _ _;refine Zq e4 ?_;refine⟨_,rfl,_,rfl,pc,us,md,ms,rfl,qm,zV,m1,m4,hB,by lia,fun rp zs H7 s7 OI f'=>?_⟩;have AI:=oq.trans s7;have qo:=s7 _ _ qm;have Zr5:=zV.mono s7.tk;have ej:=Lj f';have we:∀z∈zs,cS z 100 6:=fun z hz=>by
  have hc:cs z∈zs.map cs:=AZ hz;rw[f'] at hc;rcases aH.mp hc with hc|hc
  ·refine⟨fun c fX=>?_,by rw[<- ZR,hc];show 1<=100;decide,by rw[hc];exact cZ List.count_le_length (by show 1<=6;decide)⟩;have fX:c∈cs z:=fX;rw[hc] at fX;have:=bi.mp fX;lia
  ·obtain⟨r,hr,hrc⟩:=gM.mp hc;exact V7 m4 (Ab r hr).1 (Ab r hr).2 hrc.symm
 have iL:zs.length=ms.length+1:=by
  have:=congrArg List.length f';rw[aW,aO,aW] at this;exact this
 have ZsC:zs ≠ []:=fun z=>by rw[z] at iL;cases iL
 have hj3:=xW (c:=9) (by lia) (by decide) we;have fin:∀(v6 v7 v8 v9:Option V)(H8:Hp),Kp H7 H8->u6 { nx:=fun x H'=>Q V.aE H',rt:=Q } [some (.ref a),some (.int fst),some (.int (md:Int)),some (.ref d),some (.ref pc),some (.ref rp),v6,v7,v8,v9] H8:=fun v6 v7 v8 v9 H8 k8=>by
  have Zr8:H8 rp=some (.lst (zs.map V.str)):=k8 _ _ OI (fun _ z=>nomatch z)
  have qq:H8 pc=some (.lst us):=k8 _ _ qo (fun _ z=>nomatch z)
  have Zr6:=Zr5.mono k8.tk;refine Zq e6 ?_;have nU:=(rP we).1;have vX:gI (cs (Txt.join (Str.ofString "; ") zs))=some (md,ms):=by rw[ej,MI hwC]
  have zF:=hj3.len;refine⟨rfl,_,rfl,Str.ofString "; ",rp,zs,rfl,rfl,ak.of Zr8,?_,Txt.join (Str.ofString "; ") zs,rfl,by lia,fun m2 Pw bH H9 v2 r s9 fX hr9=>?_,fun bH=>?_⟩
  ·show _+_*2<=16777216;lia
  ·rw[vX] at bH;cases bH;refine⟨r,_,rfl,aM.of hr9,rfl,_,_,rfl,_,_,rfl,rfl,?_⟩;show u7 _ _ _;refine Zq e7 ?_;have hp9:=s9 _ _ qq;have Zr7:=Zr6.mono s9.tk;refine⟨_,rfl,rfl,true,rfl,aI ⟨_,rfl,_,rfl,_,rfl,pc,us,rfl,.inl ⟨ak.of hp9,fun r2 ml=>⟨(by show 2<=sizeLine;decide),fun q3 hq3=>?_⟩⟩⟩⟩;have qF:=ZD.new (o:=.tup us) ml;have Hc:=ZD.new (o:=.tup [.int (md:Int),.ref r2]) hq3;have c1:kh (upd (upd H9 r2 (.tup us)) q3 (.tup [.int (md:Int),.ref r2])) (.ref q3) md ms:=⟨q3,r2,us,rfl,Zc,Hc _ _ Zc,Zr7.mono (qF.tk.trans Hc.tk)⟩;have c2:=fX.mono (qF.tk.trans Hc.tk);exact⟨v2,.ref q3,rfl,(Mn c2 c1 (by lia) fun r hr=>⟨(hB r hr).sz,(hB r hr).dp⟩).up (by decide),q _⟩
  ·rw[vX] at bH;cases bH
 show u5 _ _ _;refine Zq e5 ?_;refine⟨_,rfl,_,_,rfl,rfl,⟨by decide,by decide⟩,_,_,rfl,rfl,(by show(0:Int)<2;decide),rfl,_,rfl,dD (fun _=>?_) (fun _=>fin _ _ _ _ H7 (Kp.same (ZD.refl _)))⟩;show ZwR _ _ _;refine Zq ZpQ ?_;refine⟨_,rfl,_,rfl,_,rfl,a,ns,1,rfl,AI.seq hS,sH,by decide,fun c1=>⟨rp,zs,(md:Int),c1,rfl,OI,ZsC,by lia,we,fun T H8 s8 hT=>?_⟩⟩;show ZwS _ _ _;refine Zq ZpR ?_;have hTl:=hT.len;refine⟨_,rfl,T,rfl,hT.asc,hT.len,hT.cnt,fun m' dz hw e v H9 s9 hc=>?_,fun fj H9 s9=>?_⟩
 ·have hp:gI (cs T)=some (m',dz):=by rw[e,MI hw]
  obtain⟨h5,qt⟩:=S2 hw e (by rw[ZR];exact hTl) hT.cnt;show PU _ _ _;refine Zq NB ?_;refine⟨_,rfl,T,rfl,by lia,fun m2 Pw bH mP v2 r qF fX zU=>?_,fun bH=>?_⟩;rotate_left
  ·rw[hp] at bH;cases bH
  rw[hp] at bH;cases bH;refine⟨r,_,rfl,aM.of zU,rfl,_,_,rfl,_,_,rfl,rfl,?_⟩;have hc3:=hc.mono qF.tk;have Zsd:Sm mP 150 v2 v:=(Mn fX hc3 h5 qt).up (by decide);obtain⟨q0,t0,w0,rfl,_⟩:=hc;have kk:Kp H7 mP:=Kp.same (s8.trans (s9.trans qF));show PV _ _ _;refine Zq NC ?_;refine⟨_,rfl,rfl,_,rfl,aF (aF ?_)⟩;show PX _ _ _;refine Zq ND ?_;refine⟨_,rfl,rfl,_,rfl,aI ⟨_,rfl,rfl,_,rfl,aF ⟨_,rfl,_,rfl,v2,.ref q0,rfl,Zsd,true,rfl,?_⟩⟩⟩;exact aF (fin _ _ _ _ mP kk)
 ·show PU _ _ _;refine Zq NB ?_;refine⟨_,rfl,T,rfl,by lia,fun m2 Pw bH mP v2 r qF fX zU=>?_,fun bH mP r tE zU=>?_⟩
  ·obtain⟨e2,Gi⟩:=SS bH;exact absurd e2 (fun e2=>fj _ _ Gi e2)
  refine⟨r,_,rfl,aM.of zU,rfl,_,_,rfl,_,_,rfl,rfl,?_⟩;have kk:Kp H7 mP:=(Kp.same (s8.trans s9)).trans tE;show PV _ _ _;refine Zq NC ?_;refine⟨_,rfl,rfl,_,rfl,aI ⟨_,rfl,_,_,rfl,rfl,_,rfl,aF ?_⟩⟩;show PX _ _ _;refine Zq ND ?_;refine⟨_,rfl,rfl,_,rfl,aF (aF ?_)⟩;exact fin _ _ _ _ mP kk
end
theorem Vx{l:PySem.W.OpenLaw}{w:World}{K:PySem.W.Frag}{h:Heap}{mg:Str->Option Value}{fa f1 f2 f3 f4 f5 f6 f7 f8 f9 yX yY vv vw yZ vx vy y2 y3 y4 y6 y8 y9 y' vz y_ za vA E3:Addr}(X:K.In h)(G:h.Ns mainGlobals mg)(hfa:mg "law" = some (.ref fa))
  {od1 WR od2 W3 od3 Xa od4 Xb od5 Xc od6 Xd od7 Xe od8 Xf od9 Xg Zuy WS Zuz WT ZuA WU ZuB WV ZuC WW ZuD WX ZuE WY ZuF WZ ZuG W0 ZuH W2 ZuJ W4 ZuK W5 ZuL W6 ZuM W7 ZuN W8 ZuO W9 ZuP W' ZuQ W_ ZuR MT:Option Addr} {sl1 wM sl3 sl4 sl5 sl6 sl7 sl8 sl9 ZvD ZvE ZvF ZvG ZvH ZvI ZvJ ZvK ZvL ZvM ZvN ZvO ZvP ZvQ ZvR ZvS ZvT ZvU ZvV:Array (Option Value)} {oc1 kV1 Yr pm1 M0 X1 oc2 kV2 YC pm2 Na Yb oc3 kV3 YL pm3 Nk Yk oc4 kV4 YM pm4 Nl Yl oc5 kV5 YN pm5 Nm Ym oc6 kV6 YO pm6 Nn Yn oc7 kV7 YQ pm7 Np Yo oc8 kV8 YR pm8 Nq Yp oc9 kV9 YS pm9 Nr Yq Zt6 ZsR Ys Zu5 M1 X3 Zt7 ZsS Yt Zu6 M3 X4 Zt8 ZsT Yu Zu7 M4 X5 Zt9 ZsU Yv Zu8 M5 X6 Zua ZsV Yw Zu9 M6 X7 Zub ZsW Yx Zva M7 X8 Zuc ZsX Yy Zvb M8 X9 Zud ZsY Yz Zvc M9 X' Zue ZsZ YA Zvd M' X_ Zuf Zs0 YB Zve M_ Ya Zuh Zs2 YD Zvg Nb Yc Zui Zs3 YE Zvh Nc Yd Zuj Zs4 YF Zvi Nd Ye Zuk Zs5 YG Zvj Nf Yf Zul Zs6 YH Zvk Ng Yg Zum Zs7 YI Zvl Nh Yh Zun Zs8 YJ Zvm Ni Yi Zuo Zs9 YK Zvn Nj Yj Zup OZ Ny Pr DU Nu:Value}
  {b_ eh d_ eF eE eA ee eG eo eC d8 au eB ef et:Addr}
  (HI:PySem.W.nsIn K mainGlobals "GroveError" = some (some (.ref b_)))
  (HL:PySem.W.nsIn K mainGlobals "NoGrove" = some (some (.ref eh)))
  (HH:PySem.W.nsIn K mainGlobals "BadForm" = some (some (.ref d_)))
  (HV:PySem.W.nsIn K mainGlobals "TooMany" = some (some (.ref eF)))
  (HU:PySem.W.nsIn K mainGlobals "TooBig" = some (some (.ref eE)))
  (HQ:PySem.W.nsIn K mainGlobals "NoneFits" = some (some (.ref eA)))
  (HJ:PySem.W.nsIn K mainGlobals "NoBook" = some (some (.ref ee)))
  (HW:PySem.W.nsIn K mainGlobals "TwiceNamed" = some (some (.ref eG)))
  (HM:PySem.W.nsIn K mainGlobals "NoName" = some (some (.ref eo)))
  (HS:PySem.W.nsIn K mainGlobals "Ring" = some (some (.ref eC)))
  (HG:PySem.W.nsIn K mainGlobals "BadChanger" = some (some (.ref d8)))
  (HN:PySem.W.nsIn K mainGlobals "NoRecipe" = some (some (.ref au)))
  (HR:PySem.W.nsIn K mainGlobals "NotStraight" = some (some (.ref eB)))
  (HK:PySem.W.nsIn K mainGlobals "NoChange" = some (some (.ref ef)))
  (HP:PySem.W.nsIn K mainGlobals "NoRow" = some (some (.ref et)))
  {g0 goc:Value} {gdd god:Option Addr} {gcd:ClassData} {gsl P7:Array (Option Value)} {NM:Array DictEntry} {gep:Nat} (Hz:K.lookup b_=some ⟨g0,gdd,.cls gcd,gsl⟩) (HA:K.lookup gcd.ns=some ⟨goc,god,.dict NM gep,P7⟩) (HB:keysOk NM=true) (HC:PySem.W.nsIn K gcd.ns "__init__" = some none)
  (Hs:PySem.W.specialIn K (.ref b_) "__getattribute__" = some (some (.builtin "type.__getattribute__"))) (Ht:PySem.W.readsIn K b_ (.type "type")=true) (Hu:PySem.W.findCls K (.ref b_) (.type "type") "__init__" = some (.val (.builtin "ValueError.__init__"))) (Hv:PySem.W.isClsIn K b_=true) (Hw:PySem.W.typeIn K (.ref b_)=some (.type "type"))
  (D7:PySem.W.isClsIn K b_=true) (El:PySem.W.mroIn K b_ (.type "BaseException")=some true) (EC:PySem.W.instIn K (.ref b_) (.type "tuple")=some false)
  (D_:PySem.W.isClsIn K eh=true) (Eo:PySem.W.mroIn K eh (.type "BaseException")=some true) (EF:PySem.W.instIn K (.ref eh) (.type "tuple")=some false)
  (D6:PySem.W.isClsIn K d_=true) (Ek:PySem.W.mroIn K d_ (.type "BaseException")=some true) (EB:PySem.W.instIn K (.ref d_) (.type "tuple")=some false)
  (Eh:PySem.W.isClsIn K eF=true) (Ey:PySem.W.mroIn K eF (.type "BaseException")=some true) (EO:PySem.W.instIn K (.ref eF) (.type "tuple")=some false)
  (Eg:PySem.W.isClsIn K eE=true) (Ex:PySem.W.mroIn K eE (.type "BaseException")=some true) (EN:PySem.W.instIn K (.ref eE) (.type "tuple")=some false)
  (Ed:PySem.W.isClsIn K eA=true) (Et:PySem.W.mroIn K eA (.type "BaseException")=some true) (EJ:PySem.W.instIn K (.ref eA) (.type "tuple")=some false)
  (D8:PySem.W.isClsIn K ee=true) (Em:PySem.W.mroIn K ee (.type "BaseException")=some true) (ED:PySem.W.instIn K (.ref ee) (.type "tuple")=some false)
  (Ei:PySem.W.isClsIn K eG=true) (Ez:PySem.W.mroIn K eG (.type "BaseException")=some true) (EQ:PySem.W.instIn K (.ref eG) (.type "tuple")=some false)
  (Ea:PySem.W.isClsIn K eo=true) (Ep:PySem.W.mroIn K eo (.type "BaseException")=some true) (EG:PySem.W.instIn K (.ref eo) (.type "tuple")=some false)
  (Ef:PySem.W.isClsIn K eC=true) (Ew:PySem.W.mroIn K eC (.type "BaseException")=some true) (EM:PySem.W.instIn K (.ref eC) (.type "tuple")=some false)
  (D5:PySem.W.isClsIn K d8=true) (Ej:PySem.W.mroIn K d8 (.type "BaseException")=some true) (EA:PySem.W.instIn K (.ref d8) (.type "tuple")=some false)
  (Eb:PySem.W.isClsIn K au=true) (Er:PySem.W.mroIn K au (.type "BaseException")=some true) (EH:PySem.W.instIn K (.ref au) (.type "tuple")=some false)
  (Ee:PySem.W.isClsIn K eB=true) (Eu:PySem.W.mroIn K eB (.type "BaseException")=some true) (EL:PySem.W.instIn K (.ref eB) (.type "tuple")=some false)
  (D9:PySem.W.isClsIn K ef=true) (En:PySem.W.mroIn K ef (.type "BaseException")=some true) (EE:PySem.W.instIn K (.ref ef) (.type "tuple")=some false)
  (Ec:PySem.W.isClsIn K et=true) (Es:PySem.W.mroIn K et (.type "BaseException")=some true) (EI:PySem.W.instIn K (.ref et) (.type "tuple")=some false)
  {Zt0 Zvv:Str} {Qo:Addr} {XD:List Value} {Zra:Bool} {Zv4:List Str} {Zv6:List Value} {WQ:Bool} {X0:Option Bool} {YT:Option Addr} {ZsL ZsM ZsN ZsO ZsP:Option Value}
  (HF:K.lookup au=some (excClassObj Zt0 Zvv au Qo XD (.ref b_::sx) Zra Zv4 Zv6 WQ X0 YT ZsL ZsM ZsN ZsO ZsP "ValueError.__new__"))
  (Hx:PySem.W.specialIn K (.ref au) "__call__" = some (some (.builtin "type.__call__"))) (HX:PySem.W.instIn K (.ref au) (.type "type")=some true) (HE:PySem.W.keepIn K (.ref au)=true) (HY:PySem.W.mroIn K au (.type "ValueError")=some true)
  (Hy:au≠b_)
  (HD:PySem.W.findIn K (.ref au) "__init__" = some (some (.builtin "ValueError.__init__")))
  (wo:PySem.W.mroIn K au (.ref b_)=some true)
  (wu:PySem.W.mroIn K au (.ref eh)=some false)
  (wm:PySem.W.mroIn K au (.ref d_)=some false)
  (wD:PySem.W.mroIn K au (.ref eF)=some false)
  (wC:PySem.W.mroIn K au (.ref eE)=some false)
  (wz:PySem.W.mroIn K au (.ref eA)=some false)
  (wq:PySem.W.mroIn K au (.ref ee)=some false)
  (wF:PySem.W.mroIn K au (.ref eG)=some false)
  (ww:PySem.W.mroIn K au (.ref eo)=some false)
  (wB:PySem.W.mroIn K au (.ref eC)=some false)
  (wk:PySem.W.mroIn K au (.ref d8)=some false)
  (wx:PySem.W.mroIn K au (.ref au)=some true)
  (wA:PySem.W.mroIn K au (.ref eB)=some false)
  (wt:PySem.W.mroIn K au (.ref ef)=some false)
  (wy:PySem.W.mroIn K au (.ref et)=some false)
  {ci:Addr}
  (DY:PySem.W.nsIn K mainGlobals "Source" = some (some (.ref ci))) (DZ:PySem.W.plainGet K ci Str.empty=true) (DV:PySem.W.hasDictIn K ci=true) (D0:PySem.W.plainOver K ci=true) (D1:PySem.W.findIn K (.ref ci) "__setattr__" = some (some (.builtin "object.__setattr__"))) (DX:PySem.W.makesIn K ci=true) (DW:PySem.W.keepIn K (.ref ci)=true)
  (D2:PySem.W.findIn K (.ref ci) "text" = some none)
  (D3:PySem.W.findIn K (.ref ci) "at" = some none)
  (a1:PySem.W.nsIn K mainGlobals "_law_cell_at" = some (some (.ref f1))) (l1:K.lookup f1=some ⟨oc1,od1,.func (PySem.W.fnOf "_law_cell_at" "_law_cell_at" (ZM ri) (Zd ri) (Zh ri) .none kV1 Yr pm1 WR M0 X1),sl1⟩) (c1:PySem.W.codeIn K M0 "_law_cell_at" = true) (k1:PySem.W.keepIn K (.ref f1)=true)
  (a2:PySem.W.nsIn K mainGlobals "_law_tag" = some (some (.ref f2))) (l2:K.lookup f2=some ⟨oc2,od2,.func (PySem.W.fnOf "_law_tag" "_law_tag" (ZM rT) (Zd rT) (Zh rT) .none kV2 YC pm2 W3 Na Yb),wM⟩) (c2:PySem.W.codeIn K Na "_law_tag" = true) (k2:PySem.W.keepIn K (.ref f2)=true)
  (a3:PySem.W.nsIn K mainGlobals "_law_parts" = some (some (.ref f3))) (l3:K.lookup f3=some ⟨oc3,od3,.func (PySem.W.fnOf "_law_parts" "_law_parts" (ZM ZS) (Zd ZS) (Zh ZS) .none kV3 YL pm3 Xa Nk Yk),sl3⟩) (c3:PySem.W.codeIn K Nk "_law_parts" = true) (k3:PySem.W.keepIn K (.ref f3)=true)
  (a4:PySem.W.nsIn K mainGlobals "_law_known" = some (some (.ref f4))) (l4:K.lookup f4=some ⟨oc4,od4,.func (PySem.W.fnOf "_law_known" "_law_known" (ZM i5) (Zd i5) (Zh i5) .none kV4 YM pm4 Xb Nl Yl),sl4⟩) (c4:PySem.W.codeIn K Nl "_law_known" = true) (k4:PySem.W.keepIn K (.ref f4)=true)
  (a5:PySem.W.nsIn K mainGlobals "_law_numbers" = some (some (.ref f5))) (l5:K.lookup f5=some ⟨oc5,od5,.func (PySem.W.fnOf "_law_numbers" "_law_numbers" (ZM rg) (Zd rg) (Zh rg) .none kV5 YN pm5 Xc Nm Ym),sl5⟩) (c5:PySem.W.codeIn K Nm "_law_numbers" = true) (k5:PySem.W.keepIn K (.ref f5)=true)
  (a6:PySem.W.nsIn K mainGlobals "_law_text" = some (some (.ref f6))) (l6:K.lookup f6=some ⟨oc6,od6,.func (PySem.W.fnOf "_law_text" "_law_text" (ZM rC) (Zd rC) (Zh rC) .none kV6 YO pm6 Xd Nn Yn),sl6⟩) (c6:PySem.W.codeIn K Nn "_law_text" = true) (k6:PySem.W.keepIn K (.ref f6)=true)
  (a7:PySem.W.nsIn K mainGlobals "_law_rows" = some (some (.ref f7))) (l7:K.lookup f7=some ⟨oc7,od7,.func (PySem.W.fnOf "_law_rows" "_law_rows" (ZM i4) (Zd i4) (Zh i4) .none kV7 YQ pm7 Xe Np Yo),sl7⟩) (c7:PySem.W.codeIn K Np "_law_rows" = true) (k7:PySem.W.keepIn K (.ref f7)=true)
  (a8:PySem.W.nsIn K mainGlobals "_law_spoiled" = some (some (.ref f8))) (l8:K.lookup f8=some ⟨oc8,od8,.func (PySem.W.fnOf "_law_spoiled" "_law_spoiled" (ZM Zt) (Zd Zt) (Zh Zt) .none kV8 YR pm8 Xf Nq Yp),sl8⟩) (c8:PySem.W.codeIn K Nq "_law_spoiled" = true) (k8:PySem.W.keepIn K (.ref f8)=true)
  (a9:PySem.W.nsIn K mainGlobals "_law_is_tag" = some (some (.ref f9))) (l9:K.lookup f9=some ⟨oc9,od9,.func (PySem.W.fnOf "_law_is_tag" "_law_is_tag" (ZM rK) (Zd rK) (Zh rK) .none kV9 YS pm9 Xg Nr Yq),sl9⟩) (c9:PySem.W.codeIn K Nr "_law_is_tag" = true) (k9:PySem.W.keepIn K (.ref f9)=true)
  (Dd:PySem.W.nsIn K mainGlobals "_law_parts_read" = some (some (.ref yX))) (Gy:K.lookup yX=some ⟨Zt6,Zuy,.func (PySem.W.fnOf "_law_parts_read" "_law_parts_read" (ZM Zj) (Zd Zj) (Zh Zj) .none ZsR Ys Zu5 WS M1 X3),ZvD⟩) (DB:PySem.W.codeIn K M1 "_law_parts_read" = true) (tE:PySem.W.keepIn K (.ref yX)=true)
  (De:PySem.W.nsIn K mainGlobals "_law_changer_of" = some (some (.ref yY))) (Gz:K.lookup yY=some ⟨Zt7,Zuz,.func (PySem.W.fnOf "_law_changer_of" "_law_changer_of" (ZM Zn) (Zd Zn) (Zh Zn) .none ZsS Yt Zu6 WT M3 X4),ZvE⟩) (DC:PySem.W.codeIn K M3 "_law_changer_of" = true) (Af:PySem.W.keepIn K (.ref yY)=true)
  (Df:PySem.W.findIn K (.ref ci) "at_end" = some (some (.ref vv))) (GA:K.lookup vv=some ⟨Zt8,ZuA,.func (PySem.W.fnOf "at_end" "Source.at_end" (ZM rq) (Zd rq) (Zh rq) .none ZsT Yu Zu7 WU M4 X5),ZvF⟩) (DD:PySem.W.codeIn K M4 "Source.at_end" = true) (Ag:PySem.W.keepIn K (.ref vv)=true) (GV:PySem.W.isFn K (.ref vv)=true)
  (Dg:PySem.W.findIn K (.ref ci) "take_letters" = some (some (.ref vw))) (GB:K.lookup vw=some ⟨Zt9,ZuB,.func (PySem.W.fnOf "take_letters" "Source.take_letters" (ZM ZQ) (Zd ZQ) (Zh ZQ) .none ZsU Yv Zu8 WV M5 X6),ZvG⟩) (DE:PySem.W.codeIn K M5 "Source.take_letters" = true) (Ah:PySem.W.keepIn K (.ref vw)=true) (GW:PySem.W.isFn K (.ref vw)=true)
  (Dh:PySem.W.nsIn K mainGlobals "take_number" = some (some (.ref yZ))) (GC:K.lookup yZ=some ⟨Zua,ZuC,.func (PySem.W.fnOf "take_number" "take_number" (ZM rl) (Zd rl) (Zh rl) .none ZsV Yw Zu9 WW M6 X7),ZvH⟩) (DF:PySem.W.codeIn K M6 "take_number" = true) (Ai:PySem.W.keepIn K (.ref yZ)=true)
  (Di:PySem.W.findIn K (.ref ci) "sees" = some (some (.ref vx))) (GD:K.lookup vx=some ⟨Zub,ZuD,.func (PySem.W.fnOf "sees" "Source.sees" (ZM rk) (Zd rk) (Zh rk) .none ZsW Yx Zva WX M7 X8),ZvI⟩) (DG:PySem.W.codeIn K M7 "Source.sees" = true) (Aj:PySem.W.keepIn K (.ref vx)=true) (GX:PySem.W.isFn K (.ref vx)=true)
  (Dj:PySem.W.findIn K (.ref ci) "skips" = some (some (.ref vy))) (GF:K.lookup vy=some ⟨Zuc,ZuE,.func (PySem.W.fnOf "skips" "Source.skips" (ZM rA) (Zd rA) (Zh rA) .none ZsX Yy Zvb WY M8 X9),ZvJ⟩) (DH:PySem.W.codeIn K M8 "Source.skips" = true) (Ak:PySem.W.keepIn K (.ref vy)=true) (GY:PySem.W.isFn K (.ref vy)=true)
  (Dk:PySem.W.nsIn K mainGlobals "skip" = some (some (.ref y2))) (GG:K.lookup y2=some ⟨Zud,ZuF,.func (PySem.W.fnOf "skip" "skip" (ZM r_) (Zd r_) (Zh r_) .none ZsY Yz Zvc WZ M9 X'),ZvK⟩) (DI:PySem.W.codeIn K M9 "skip" = true) (Al:PySem.W.keepIn K (.ref y2)=true)
  (Dl:PySem.W.nsIn K mainGlobals "is_tag" = some (some (.ref y3))) (GH:K.lookup y3=some ⟨Zue,ZuG,.func (PySem.W.fnOf "is_tag" "is_tag" (ZM rD) (Zd rD) (Zh rD) .none ZsZ YA Zvd W0 M' X_),ZvL⟩) (DJ:PySem.W.codeIn K M' "is_tag" = true) (Am:PySem.W.keepIn K (.ref y3)=true)
  (Dm:PySem.W.nsIn K mainGlobals "take_tag" = some (some (.ref y4))) (GI:K.lookup y4=some ⟨Zuf,ZuH,.func (PySem.W.fnOf "take_tag" "take_tag" (ZM rJ) (Zd rJ) (Zh rJ) .none Zs0 YB Zve W2 M_ Ya),ZvM⟩) (DK:PySem.W.codeIn K M_ "take_tag" = true) (An:PySem.W.keepIn K (.ref y4)=true)
  (Dq:PySem.W.nsIn K mainGlobals "end_tag" = some (some (.ref y6))) (GJ:K.lookup y6=some ⟨Zuh,ZuJ,.func (PySem.W.fnOf "end_tag" "end_tag" (ZM rN) (Zd rN) (Zh rN) .none Zs2 YD Zvg W4 Nb Yc),ZvN⟩) (DL:PySem.W.codeIn K Nb "end_tag" = true) (kS:PySem.W.keepIn K (.ref y6)=true)
  (Dr:PySem.W.nsIn K mainGlobals "take_parts" = some (some (.ref y8))) (GK:K.lookup y8=some ⟨Zui,ZuK,.func (PySem.W.fnOf "take_parts" "take_parts" (ZM Zu) (Zd Zu) (Zh Zu) .none Zs3 YE Zvh W5 Nc Yd),ZvO⟩) (DM:PySem.W.codeIn K Nc "take_parts" = true) (Ao:PySem.W.keepIn K (.ref y8)=true)
  (Dt:PySem.W.nsIn K mainGlobals "take_rule" = some (some (.ref y9))) (GL:K.lookup y9=some ⟨Zuj,ZuL,.func (PySem.W.fnOf "take_rule" "take_rule" (ZM rh) (Zd rh) (Zh rh) .none Zs4 YF Zvi W6 Nd Ye),ZvP⟩) (DN:PySem.W.codeIn K Nd "take_rule" = true) (Ap:PySem.W.keepIn K (.ref y9)=true)
  (Du:PySem.W.nsIn K mainGlobals "take_changer" = some (some (.ref y'))) (GN:K.lookup y'=some ⟨Zuk,ZuM,.func (PySem.W.fnOf "take_changer" "take_changer" (ZM pB) (Zd pB) (Zh pB) .none Zs5 YG Zvj W7 Nf Yf),ZvQ⟩) (DO:PySem.W.codeIn K Nf "take_changer" = true) (Aq:PySem.W.keepIn K (.ref y')=true)
  (Dv:PySem.W.findIn K (.ref ci) "__init__" = some (some (.ref vz))) (GO:K.lookup vz=some ⟨Zul,ZuN,.func (PySem.W.fnOf "__init__" "Source.__init__" (ZM ro) (Zd ro) (Zh ro) .none Zs6 YH Zvk W8 Ng Yg),ZvR⟩) (DP:PySem.W.codeIn K Ng "Source.__init__" = true) (Gw:PySem.W.keepIn K (.ref vz)=true) (GZ:PySem.W.isFn K (.ref vz)=true)
  (Dw:PySem.W.nsIn K mainGlobals "read" = some (some (.ref y_))) (GP:K.lookup y_=some ⟨Zum,ZuO,.func (PySem.W.fnOf "read" "read" (ZM r8) (Zd r8) (Zh r8) .none Zs7 YI Zvl W9 Nh Yh),ZvS⟩) (DQ:PySem.W.codeIn K Nh "read" = true) (Ar:PySem.W.keepIn K (.ref y_)=true)
  (Dx:PySem.W.nsIn K mainGlobals "_law_told" = some (some (.ref za))) (GQ:K.lookup za=some ⟨Zun,ZuP,.func (PySem.W.fnOf "_law_told" "_law_told" (ZM rF) (Zd rF) (Zh rF) .none Zs8 YJ Zvm W' Ni Yi),ZvT⟩) (DR:PySem.W.codeIn K Ni "_law_told" = true) (As:PySem.W.keepIn K (.ref za)=true)
  (yR:PySem.W.nsIn K mainGlobals "_law_same_kinds" = some (some (.ref vA))) (GR:K.lookup vA=some ⟨Zuo,ZuQ,.func (PySem.W.fnOf "_law_same_kinds" "_law_same_kinds" (ZM rB) (Zd rB) (Zh rB) .none Zs9 YK Zvn W_ Nj Yj),ZvU⟩) (DS:PySem.W.codeIn K Nj "_law_same_kinds" = true) (wg:PySem.W.keepIn K (.ref vA)=true)
  (Dy:PySem.W.nsIn K mainGlobals "law" = some (some (.ref E3))) (GS:K.lookup E3=some ⟨Zup,ZuR,.func (PySem.W.fnOf "law" "law" (ZM dC) (Zd dC) (Zh dC) .none OZ Ny Pr MT DU Nu),ZvV⟩) (DT:PySem.W.codeIn K DU "law" = true) (Gx:PySem.W.keepIn K (.ref E3)=true)
  {tk0 tk1:Tok} (y0:PySem.W.nsIn K mainGlobals "LONGEST_TAG" = some (some (.int 8 tk0))) (y1:PySem.W.nsIn K mainGlobals "MOST_MODES" = some (some (.int 4 tk1)))
  (z0:PySem.W.nsIn K mainGlobals "ValueError" = some none) (z1:PySem.W.nsIn K mainGlobals "all" = some none) (z2:PySem.W.nsIn K mainGlobals "bool" = some none) (z3:PySem.W.nsIn K mainGlobals "int" = some none) (z4:PySem.W.nsIn K mainGlobals "isinstance" = some none) (z5:PySem.W.nsIn K mainGlobals "len" = some none) (z6:PySem.W.nsIn K mainGlobals "list" = some none) (z7:PySem.W.nsIn K mainGlobals "max" = some none) (z8:PySem.W.nsIn K mainGlobals "min" = some none) (z9:PySem.W.nsIn K mainGlobals "range" = some none) (HZ:PySem.W.nsIn K mainGlobals "reversed" = some none) (H_:PySem.W.nsIn K mainGlobals "set" = some none) (Ia:PySem.W.nsIn K mainGlobals "sorted" = some none) (Ib:PySem.W.nsIn K mainGlobals "str" = some none) (Ic:PySem.W.nsIn K mainGlobals "tuple" = some none) :
  ∃fd:FuncData,(∀(s:Shared)(v:Value),BindsTo s fd ⟨[v],[]⟩ [("_law_script",v)])/\∀base:Heap,K.In base->base.Ns mainGlobals mg->aY l.prog w K mg base cq 151 fa fd ["_law_script"] (Fg.yK K):=by
 have e:=hfa.symm.trans (bx X G Dy);cases e;have B:∀x∈cG,mg x=none:=ft.mpr ⟨gQ X G z0,ft.mpr ⟨gQ X G z1,ft.mpr ⟨gQ X G z2,ft.mpr ⟨gQ X G z3,ft.mpr ⟨gQ X G z4,ft.mpr ⟨gQ X G z5,ft.mpr ⟨gQ X G z6,ft.mpr ⟨gQ X G z7,ft.mpr ⟨gQ X G z8,ft.mpr ⟨gQ X G z9,ft.mpr ⟨gQ X G HZ,ft.mpr ⟨gQ X G H_,ft.mpr ⟨gQ X G Ia,ft.mpr ⟨gQ X G Ib,ft.mpr ⟨gQ X G Ic,AW _⟩⟩⟩⟩⟩⟩⟩⟩⟩⟩⟩⟩⟩⟩⟩;have Qk:∃t:Tok,mg "LONGEST_TAG" = some (.int 8 t):=⟨_,bx X G y0⟩;have Ql:∃t:Tok,mg "MOST_MODES" = some (.int 4 t):=⟨_,bx X G y1⟩;have F1:=cM (st:=ri) l1 c1 k1;have b1:=F1.binds (ps:=["_law_script","_law_k"]) fun _ _ _ _ _ _ us hl=>by obtain⟨_,_,rfl⟩:=gU hl;rfl
 have F2:=cM (st:=rT) l2 c2 k2;have b2:=F2.binds (ps:=["_law_number"]) fun _ _ _ _ _ _ us hl=>by obtain⟨_,rfl⟩:=jJ hl;rfl
 have F3:=cM (st:=ZS) l3 c3 k3;have b3:=F3.binds (ps:=["_law_numbers_here","_law_modes"]) fun _ _ _ _ _ _ us hl=>by obtain⟨_,_,rfl⟩:=gU hl;rfl
 have F4:=cM (st:=i5) l4 c4 k4;have b4:=F4.binds (ps:=["_law_modes","_law_numbers_here"]) fun _ _ _ _ _ _ us hl=>by obtain⟨_,_,rfl⟩:=gU hl;rfl
 have F5:=cM (st:=rg) l5 c5 k5;have b5:=F5.binds (ps:=["_law_script","_law_first","_law_many"]) fun _ _ _ _ _ _ us hl=>by obtain⟨_,_,_,rfl⟩:=yP hl;rfl
 have F6:=cM (st:=rC) l6 c6 k6;have b6:=F6.binds (ps:=["_law_parts_here"]) fun _ _ _ _ _ _ us hl=>by obtain⟨_,rfl⟩:=jJ hl;rfl
 have F7:=cM (st:=i4) l7 c7 k7;have b7:=F7.binds (ps:=["_law_modes","_law_rules"]) fun _ _ _ _ _ _ us hl=>by obtain⟨_,_,rfl⟩:=gU hl;rfl
 have F8:=cM (st:=Zt) l8 c8 k8;have b8:=F8.binds (ps:=["_law_rows_here","_law_modes","_law_cell"]) fun _ _ _ _ _ _ us hl=>by obtain⟨_,_,_,rfl⟩:=yP hl;rfl
 have F9:=cM (st:=rK) l9 c9 k9;have b9:=F9.binds (ps:=["_law_word"]) fun _ _ _ _ _ _ us hl=>by obtain⟨_,rfl⟩:=jJ hl;rfl
 have Iv:=cM (st:=Zj) Gy DB tE;have Xj:=Iv.binds (ps:=["_law_text_here","_law_modes"]) fun _ _ _ _ _ _ us hl=>by obtain⟨_,_,rfl⟩:=gU hl;rfl
 have Iw:=cM (st:=Zn) Gz DC Af;have Xk:=Iw.binds (ps:=["_law_text_here"]) fun _ _ _ _ _ _ us hl=>by obtain⟨_,rfl⟩:=jJ hl;rfl
 have Iy:=cM (st:=rq) GA DD Ag;have Xl:=Iy.binds (ps:=["self"]) fun _ _ _ _ _ _ us hl=>by obtain⟨_,rfl⟩:=jJ hl;rfl
 have Iz:=cM (st:=ZQ) GB DE Ah;have Xm:=Iz.binds (ps:=["self","first","last"]) fun _ _ _ _ _ _ us hl=>by obtain⟨_,_,_,rfl⟩:=yP hl;rfl
 have IA:=cM (st:=rl) GC DF Ai;have Xn:=IA.binds (ps:=["source","least","greatest"]) fun _ _ _ _ _ _ us hl=>by obtain⟨_,_,_,rfl⟩:=yP hl;rfl
 have IB:=cM (st:=rk) GD DG Aj;have Xo:=IB.binds (ps:=["self","piece"]) fun _ _ _ _ _ _ us hl=>by obtain⟨_,_,rfl⟩:=gU hl;rfl
 have IC:=cM (st:=rA) GF DH Ak;have Xp:=IC.binds (ps:=["self","piece"]) fun _ _ _ _ _ _ us hl=>by obtain⟨_,_,rfl⟩:=gU hl;rfl
 have ID:=cM (st:=r_) GG DI Al;have Xq:=ID.binds (ps:=["source","piece"]) fun _ _ _ _ _ _ us hl=>by obtain⟨_,_,rfl⟩:=gU hl;rfl
 have IE:=cM (st:=rD) GH DJ Am;have Xr:=IE.binds (ps:=["text"]) fun _ _ _ _ _ _ us hl=>by obtain⟨_,rfl⟩:=jJ hl;rfl
 have IF:=cM (st:=rJ) GI DK An;have Xs:=IF.binds (ps:=["source"]) fun _ _ _ _ _ _ us hl=>by obtain⟨_,rfl⟩:=jJ hl;rfl
 have IG:=cM (st:=rN) GJ DL kS;have Xt:=IG.binds (ps:=["tags","rows"]) fun _ _ _ _ _ _ us hl=>by obtain⟨_,_,rfl⟩:=gU hl;rfl
 have IH:=cM (st:=Zu) GK DM Ao;have Xu:=IH.binds (ps:=["source","modes"]) fun _ _ _ _ _ _ us hl=>by obtain⟨_,_,rfl⟩:=gU hl;rfl
 have II:=cM (st:=rh) GL DN Ap;have Xv:=II.binds (ps:=["source","modes"]) fun _ _ _ _ _ _ us hl=>by obtain⟨_,_,rfl⟩:=gU hl;rfl
 have IJ:=cM (st:=pB) GN DO Aq;have Xw:=IJ.binds (ps:=["source"]) fun _ _ _ _ _ _ us hl=>by obtain⟨_,rfl⟩:=jJ hl;rfl
 have IK:=cM (st:=ro) GO DP Gw;have Xx:=IK.binds (ps:=["self","text"]) fun _ _ _ _ _ _ us hl=>by obtain⟨_,_,rfl⟩:=gU hl;rfl
 have IL:=cM (st:=r8) GP DQ Ar;have Xy:=IL.binds (ps:=["text"]) fun _ _ _ _ _ _ us hl=>by obtain⟨_,rfl⟩:=jJ hl;rfl
 have IM:=cM (st:=rF) GQ DR As;have Xz:=IM.binds (ps:=["_law_text_here"]) fun _ _ _ _ _ _ us hl=>by obtain⟨_,rfl⟩:=jJ hl;rfl
 have IP:=cM (st:=rB) GR DS wg;have MW:=IP.binds (ps:=["_law_found","_law_due"]) fun _ _ _ _ _ _ us hl=>by obtain⟨_,_,rfl⟩:=gU hl;rfl
 have Qm:=cM (st:=dC) GS DT Gx;refine⟨PySem.W.fnOf "law" "law" (ZM dC) (Zd dC) (Zh dC) .none OZ Ny Pr MT DU Nu,fun s v=>.of_eq rfl,fun base _ _=>?_⟩;have xc:XC K mg b_ eh d_ eF eE eA ee eG eo eC d8 au eB ef et:=⟨bx X G HI,bx X G HL,bx X G HH,bx X G HV,bx X G HU,bx X G HQ,bx X G HJ,bx X G HW,bx X G HM,bx X G HS,bx X G HG,bx X G HN,bx X G HR,bx X G HK,bx X G HP,⟨Hs,Ht,Hu⟩,Hv,Hw,⟨D7,El,EC⟩,⟨D_,Eo,EF⟩,⟨D6,Ek,EB⟩,⟨Eh,Ey,EO⟩,⟨Eg,Ex,EN⟩,⟨Ed,Et,EJ⟩,⟨D8,Em,ED⟩,⟨Ei,Ez,EQ⟩,⟨Ea,Ep,EG⟩,⟨Ef,Ew,EM⟩,⟨D5,Ej,EA⟩,⟨Eb,Er,EH⟩,⟨Ee,Eu,EL⟩,⟨D9,En,EE⟩,⟨Ec,Es,EI⟩,⟨⟨_,_,_,_,_,_,_,_,_,_,_,_,_,_,_,HF⟩,⟨⟨_,_,_,_,_,_,_,_,_,Hz,HA,HB,HC⟩⟩,Hx,HX,HE⟩,HD,HY,Hy,wo,wu,wm,wD,wC,wz,wq,wF,ww,wB,wk,wx,wA,wt,wy⟩;have bD:cD.il K ci:=⟨⟨DZ,DV,D0,D1⟩,D2,D3⟩;have pW:bG l.prog w K mg base "_law_cell_at" ["_law_script","_law_k"] 1 (Fg.yy K):=⟨⟨f1,_,Q4 B  F1,b1,k1,bx X G a1⟩⟩;have sF:bG l.prog w K mg base "_law_tag" ["_law_number"] 1 (cD.ya):=⟨⟨f2,_,T5 B  F2,b2,k2,bx X G a2⟩⟩;have E_:bG l.prog w K mg base "_law_parts" ["_law_numbers_here","_law_modes"] 2 (cD.BG):=⟨⟨f3,_,RJ B sF F3,b3,k3,bx X G a3⟩⟩;have E8:bG l.prog w K mg base "_law_known" ["_law_modes","_law_numbers_here"] 3 (cD.BK):=⟨⟨f4,_,Rr B E_ sF F4,b4,k4,bx X G a4⟩⟩;have E9:bG l.prog w K mg base "_law_numbers" ["_law_script","_law_first","_law_many"] 2 (cD.BS K):=⟨⟨f5,_,QW B pW F5,b5,k5,bx X G a5⟩⟩;have rt:∀d:Nat,bG l.prog w K mg base "_law_text" ["_law_parts_here"] d (cD.xV d):=by
  intro d
  induction d with
  | zero=>exact⟨⟨f6,_,aY.none (fun vs H Q E z=>by obtain⟨_,_,_,_,_,_,hd,_⟩:=z;exact absurd hd (ie _)),b6,k6,bx X G a6⟩⟩
  | succ d ih=>exact⟨⟨f6,_,Sr d B ih F6,b6,k6,bx X G a6⟩⟩
 have vB:=rt 70;have sD:bG l.prog w K mg base "_law_rows" ["_law_modes","_law_rules"] 71 (cD.x9):=⟨⟨f7,_,RV B vB F7,b7,k7,bx X G a7⟩⟩;have Fc:bG l.prog w K mg base "_law_spoiled" ["_law_rows_here","_law_modes","_law_cell"] 1 (cD.BH K):=⟨⟨f8,_,QR B  F8,b8,k8,bx X G a8⟩⟩;have pX:bG l.prog w K mg base "_law_is_tag" ["_law_word"] 1 (cD.x4):=⟨⟨f9,_,Rj B  F9,b9,k9,bx X G a9⟩⟩;have Fb:bG l.prog w K mg base "_law_parts_read" ["_law_text_here","_law_modes"] 2 (cD.CM):=⟨⟨yX,_,QF B pX Iv,Xj,tE,bx X G Dd⟩⟩;have E7:bG l.prog w K mg base "_law_changer_of" ["_law_text_here"] 72 (cD.Cr):=⟨⟨yY,_,QE B Fb pX sD Iw,Xk,Af,bx X G De⟩⟩;have sA:gk l.prog w K mg base ci "at_end" ["self"] 1 (cD.yo ci):=⟨⟨vv,_,Qt B bD  Iy,Xl,⟨Df,GV,Ag⟩⟩⟩;have sC:gk l.prog w K mg base ci "take_letters" ["self","first","last"] 2 (cD.xS ci):=⟨⟨vw,_,Qr B bD sA Iz,Xm,⟨Dg,GW,Ah⟩⟩⟩
 have lY:fc l.prog w K mg base "take_number" ["source","least","greatest"] 3 (cD.u_ K ci au):=⟨⟨yZ,_,QN B bD xc sC IA,Xn,Ai,bx X G Dh⟩⟩;have E5:gk l.prog w K mg base ci "sees" ["self","piece"] 1 (cD.CC ci):=⟨⟨vx,_,QP B bD  IB,Xo,⟨Di,GX,Aj⟩⟩⟩;have gY:gk l.prog w K mg base ci "skips" ["self","piece"] 2 (cD.rX ci):=⟨⟨vy,_,QC B bD E5 IC,Xp,⟨Dj,GY,Ak⟩⟩⟩;have zg:fc l.prog w K mg base "skip" ["source","piece"] 3 (cD.Cq ci au):=⟨⟨y2,_,Uv B bD xc gY ID,Xq,Al,bx X G Dk⟩⟩;have E6:bG l.prog w K mg base "is_tag" ["text"] 1 (Fg.Cn):=⟨⟨y3,_,Sz B Qk  IE,Xr,Am,bx X G Dl⟩⟩;have sG:fc l.prog w K mg base "take_tag" ["source"] 3 (cD.yF K ci au):=⟨⟨y4,_,Q8 B bD xc sC E6 IF,Xs,An,bx X G Dm⟩⟩;have ze:bG l.prog w K mg base "end_tag" ["tags","rows"] 1 (cD.C0 K):=⟨⟨y6,_,Rp B  IG,Xt,kS,bx X G Dq⟩⟩;have Ff:fc l.prog w K mg base "take_parts" ["source","modes"] 4 (cD.CQ K ci au):=⟨⟨y8,_,QL B bD xc lY sG gY ze IH,Xu,Ao,bx X G Dr⟩⟩;have Fh:fc l.prog w K mg base "take_rule" ["source","modes"] 5 (cD.CS K ci au):=⟨⟨y9,_,QT B bD lY zg sG gY Ff II,Xv,Ap,bx X G Dt⟩⟩;have Fe:fc l.prog w K mg base "take_changer" ["source"] 6 (cD.CY K ci au):=⟨⟨y',_,QA B Ql bD xc lY gY Fh sA IJ,Xw,Aq,bx X G Du⟩⟩;have E4:Bj l.prog w K mg base ci "Source" ["self","text"] 1 (cD.Cm ci):=⟨⟨vz,_,Qy B bD  IK,Xx,⟨DX,Dv,GZ,DW⟩,bx X G DY⟩⟩;have Fd:fc l.prog w K mg base "read" ["text"] 7 (cD.CH K au):=⟨⟨y_,_,UG B bD Fe E4 IL,Xy,Ar,bx X G Dw⟩⟩;have zf:bG l.prog w K mg base "_law_told" ["_law_text_here"] 8 (cD.B5 K):=⟨⟨za,_,SK B xc Fd IM,Xz,As,bx X G Dx⟩⟩;have rs:∀d:Nat,bG l.prog w K mg base "_law_same_kinds" ["_law_found","_law_due"] d (cD.yE d):=by
  intro d
  induction d with
  | zero=>exact⟨⟨vA,_,aY.none (fun vs H Q E z=>by obtain⟨_,_,_,hs,_⟩:=z;cases hs),MW,wg,bx X G yR⟩⟩
  | succ d ih=>exact⟨⟨vA,_,QD d B ih IP,MW,wg,bx X G yR⟩⟩
 have sE:=rs 150;exact U6 B pW E8 E9 sD Fc E7 zf sE Qm
theorem walk{l:PySem.W.OpenLaw}{q:Program}{loose:List Str}{XP:(Str->Option Value)->Heap->Prop}{YP:World->Heap->Prop}{d:DefRec}{K:Params->PySem.W.Frag}(hn:l.most=some 63)(vP:d.params.defaults=[])
  (hY:∀(w:World)(h:Heap),YP w h->(K w.params).In h)
  (F:∀(w:World)(mg:Str->Option Value)(fa:Addr)(h:Heap),(K w.params).In h->h.Ns mainGlobals mg->mg d.name=some (.ref fa) ->
   ∃fd:FuncData,(∀(s:Shared)(u:Value),BindsTo s fd ⟨[u],[]⟩ [("_law_script",u)])/\∀base:Heap,(K w.params).In base->base.Ns mainGlobals mg->aY l.prog w (K w.params) mg base cq 151 fa fd ["_law_script"] (Fg.yK (K w.params))) :
  PySem.W.WalkO q loose XP YP l.row.toRowW d [] (fun f vs=>PySem.call f vs) :=
 L2.Lk (n:=63) (k:=151) (x := "_law_script") (CX:=fun _=>cq) (sp:=fun w=>Fg.yK (K w.params)) hn (by decide) vP ⟨rfl,by decide,by decide,rfl⟩ hY F (fun _ _ a ns hl _ hS=>⟨a,ns,rfl,hS,hl,fun _=>rfl⟩) fun _ _ _ _ _ z=>z
end cD
inductive PySem.W.Fast|tw9470045144451058167|tw15780177946575827963|tw8057095234575658339|tw10835121602690038406|tw10203690162920913712|tw17693000894473324287|tw11560925887351700740|tw5235951376112985595|tw12075761716208697463|tw17705815770796030733|tw5161607830168469491|tw1168034191154220598|tw12978381365293270311|tw15887052113734182008|tw15284377254984398099|tw13951572296022933764|tw13810473627197862990|tw16803559851263454587|tw12198605175784521726|tw11313215480355307688|tw386032962181933115|tw16651165203855663497|tw218602054706813281|tw18193737154631447160|tw15709429921980146170|tw10302616505085293494|tw14295376397980876935|tw14399333077358953557|tw15940533762943209701|tw1183018291499069391|tw11996927602778048870|tw1548475802754669684|tw6301931731726246377|tw16236990526157952878|tw6265487853345821688|tw4185646061467648610|tw359202203981631917|tw8165142038365725819|tw8754623286857106168|tw5991841420745860927|tw5562336270027476090|tw15408986165399985288|tw7956356936812788909|tw13042688409795116947|tw11927155429326638946|tw10583632176620782823|tw13754227254674152750|tw18387564646919796262|tw14071874493966391480|tw9424365402909857151|tw9441379170883626047|tw14516188646449804125|tw7514014951241505031|tw6177362996338356030|tw11316290131793852984|tw15153308988965158378|tw16788422711114315726|tw9308777711363342343|tw18429261353163394475|tw14304549343533408498|tw18236931827390787221|tw16379831963923398175|tw7700791297064649616|tw14371733238654661913|tw8437195709129376184|tw2638713391189128907|tw4932599178784701807|tw4441350001177656710|tw10788454425854621924|tw16018670588715055631|tw13332882133183473053|tw432399649903243904|tw3457166004281548711|tw3302720830188190615|tw2805002365306076779|tw594099729274583236|tw5108911164142262453|tw12662879388792992531|tw9315299467881527134|tw15141240550352525887|tw1614151788329947910|tw6688348646909249006|tw3613088129584851784|tw15567220399924962318|tw17197821752931068099|tw10709236253746581752|tw14203266298384674686|tw12423813143898259593|tw5033418234599118781|tw4664935929286016582|tw8948124387667497204|tw7894822687034754635|tw14578779630768356053|tw1001724231595393854|tw10861448122176428779|tw11692495686841143494|tw17661427815781794109|tw5373893806448739225|tw15249079260731187593|tw15258956840324158366|tw16413027033635124620|tw7033284859025877075|tw5504346085413220460|tw10264025615128010564|tw11332082385593257579|tw16049497588861842931|tw5373299058551817155|tw328769968199471183|tw10323816388510949603|tw5515489446330479046|tw17009060181548353366|tw17891606021252676323|tw2612383324830560254|tw16161993654983226345|tw11145294031301707773|tw6730964843057238446|tw5665856452670274154|tw15802656272667336525|tw16253271066059392494|tw5752286708091313779|tw17896077391796301119|tw1509393737596174472|tw5936383325080838669|tw11486946385350799018|tw7794292923439533761|tw10460234100999099286|tw248832375226687488|tw18108555884474801338|tw8234001010166306916|tw210169121271861785|tw1555346405634774888|tw10786412638109152469|tw8893265097095174544|tw10855083453904461004|tw1146385730965359384|tw6888706585339601186|tw2869631004504393835|tw10439660356545006768|tw2316214590393871794|tw9422370470434269017|tw6018598022753987477|tw13443018062293299769|tw4519559364059439618|tw17753336332113525906|tw2006968522324798191|tw5472509381573038353|tw7739309318420211666|tw7681392878980638111|tw11812040204299139592|tw9933667789661998908|tw3303779814005861437|tw4525943886598881725|tw11463429152965323008|tw11207119456304926619|tw4053454604688791724|tw15677111210680878472|tw4316193211530225187|tw6101158666150349200|tw12168784895960469939|tw16484048152430690034|tw6298893838179902222|tw3903576831520462322|tw7939728206958197660|tw12150245284379394708|tw6992646567348341981|tw7816920587564779541|tw1434458708723212957|tw14792875380410703136|tw5373599782397138807|tw4630082053482424094|tw9736013029442063003|tw7675065300324382522|tw14019960372433103412|tw3965603808063150152|tw9356893702191636729|tw18430848784719714321|tw7670140559811998272|tw4775497725519286934|tw13949582367954035816|tw5912614858839842212|tw4831200613460429889|tw16297384546214221470|tw17577746751637836833|tw11221399496243147655|tw7609395546819795441|tw4057619631006391250|tw9896387278037946060|tw12801045379027602852|tw9293508370989980171|tw1048598123695579755|tw11897738189265572573|tw7689314949190089335|tw12609171779521064140|tw9287236036484788277|tw584932763435485548|tw9037427790277646461|tw3960334041464526690|tw17220290482208473318|tw1087461439196983238|tw2296666659589063449|tw2587908690905997167|tw15294520171382770980|tw17315552390572376084|tw3930725966913426119|tw4169460616489840143|tw1909603898424020959|tw10088241905499700569|tw1732322942389133670|tw16789696578064474625|tw7250572065726753989|tw17365033233150600047|tw14247400150096060197|tw5053695284537326013|tw6564691255701774323|tw8448741861336380166|tw2816059198383166488|tw15357348398822262706|tw5850181130163734630|tw9423029923786971913|tw9213954668932897597|tw4653470953711849350|tw17611535713808114053|tw15967818879278592241|tw2210278266040049377|tw11701676488844209382|tw4695442673405090709|tw13729243419888054596|tw14104400058667195041|tw14504287378246462095|tw6909760007283419335|tw12400711233505392923|tw12291681179797978769|tw16651453397430515935|tw17134593799413962276|tw14523302137547578655|tw10835026721081439988|tw16293503315235022342|tw6524766723493973916|tw11711261351745500312|tw814165922708381823|tw9565508799250729931|tw2013113243059144274|tw9333111510544997176|tw17669511886502721719|tw9676646780070763928|tw107998168468029844|tw4071099110078792466|tw14355511822247866791|tw10508754802574383067|tw7545179317551492589|tw10827499930950285818|tw1446168740240578576|tw1495079058944668415|tw4798868364595161542|tw16993467500664685756|tw951035195527701936|tw11154172681624757081|tw5473608678115376529|tw88740309177326103|tw3116886225908076801|tw6144325908255816172|tw11870015727725999147|tw9933707970188959442|tw4211027249872619253|tw5875611562704260109|tw4647351998899976995|tw5015421593358222703|tw13544739875825856894|tw12455423427099713382|tw8811560163063184486|tw5922683213754005580|tw13373098880685842000|tw9006340770362181136|tw18294347919003506118|tw5412095054164905146|tw13121673775091734688|tw6932547855768803643|tw15395525161327468061|tw18275964691237520367|tw16487466678003548103|tw3517727723755065383|tw16190849887317160696|tw7844901034496283671|tw12822863869636405944|tw2448865712269578588|tw15985972838988054871|tw15924910281982351641|tw17647898565415715758|tw15287337955386524837|tw6994254794294473483|tw11129006971462968274|tw11413352464876223892|tw9643660466894633607|tw3833490140770406013|tw15127251859343989202|tw5677881071305306228|tw18243559113524452954|tw11174448326946305979|tw10329879455732847227|tw10117291534617954486|tw7795873238498255343|tw16177224307341957828|tw14945521544359122829|tw14169873607110556984|tw9733420092248318463|tw17228811678357659063|tw10592813296156211794|tw12737760417784216740|tw15504195587239879735|tw14346529476362668919|tw11849744499618666872|tw1702517468321053429|tw16187041883664455084|tw8639190267338256788|tw10717234270875971774|tw8419019651787115862|tw5739723529631445695|tw1331789624167311750|tw13615689283953734373|tw5078935226666322935|tw14726228616782001122|tw180820100070314064|tw17602499836798259335|tw17309711200825446963|tw4494310899124958213|tw1801378603332285672|tw5142379128911113974|tw16412882200023106909|tw14461379283741342702|tw17717259094625201840|tw6561573751080094511|tw4512160258272978031|tw16708364902900560414|tw13800152101097593895|tw15344936701813098017|tw929073462257394610|tw17876086139438169796|tw17096190145943026753|tw7621247929713282767|tw7314258603633039578|tw3466409437376220668|tw918523014597692496|tw13943430167485311891|tw2794608770995075587|tw4499385164606986326|tw15816329889261549890|tw966394369974083290|tw16109066665696130024|tw7611597100507548669|tw15227621002805969784|tw10705111317843554499|tw18172557995544856202|tw14658925958846384641|tw1236656820792468871|tw16848552255030970962|tw3058631269639828064|tw6739232988880793912|tw2027347676090609770|tw4545016441994968279|tw17221965749229270203|tw294851800395570617|tw8313851263355235145|tw5777628134483747460|tw9801932201666072974|tw13130351270001345192|tw13438873695880525170|tw7982378291052258651|tw4809969732467023822|tw6955376091018436262|tw7498649666258000801|tw4003469900457320701|tw17813556539367698732|tw2677947329378958217|tw6230604092853656590|tw2172462707280137456|tw12940225256375233190|tw4293564640457742990|tw15826052249281423707|tw5179996117643540255|tw4983289133663093395|tw17144275444076094182|tw16141811882700764430|tw13758768700577627230|tw18288081583191559414|tw8009427561335427481|tw5959366389878955269|tw5085528651878861478|tw677685135770255731|tw2713698375432659796|tw9992701095429222267|tw3721278992108173795|tw10659744183323682569|tw9476738272787348969|tw16857355487005484265|tw2493537993023708728|tw10377540079942169702|tw9298950016560942434|tw17328776535901041450|tw17321942930862632166|tw13670649151220230602|tw1270689370446228356|tw7157716836207018203|tw12556663326548175813|tw9756761099103040325|tw5151554888584663865|tw9077839783055471831|tw8098641597285360887|tw7064728761657425033|tw10541703575486674984|tw5692735372982725110|tw4330634813089017225|tw1606860245388781741|tw11294359640270226753|tw3108299634096350813|tw17178277951799654866|tw17272612461925237915|tw17365148224957613321|tw12972060520177933302|tw7887212850842800287|tw9577104106061489290|tw7967914726302677968|tw1347063879549478179|tw13685775115330362614|tw15986782912576089693|tw11509414456320884936|tw18226052290884578677|tw5905047353219276640|tw6432313573974903420|tw5126469925470212811|tw3777058384378642251|tw1843337068648856939|tw15924733088227173347|tw14141618234406757635|tw13708209472726771798|tw11749074196213393903|tw13237111363851853372|tw9184941107779673574|tw16666458875632283614|tw4587098234460520429|tw12110217616023328842|tw56282344476695648|tw504592596491657249|tw15958887107386707435|tw17997395539359449217|tw8079143618742906374|tw3918794446002443808|tw13477917680058421389|tw6482133680728844687|tw8046119260889620542|tw10778423175149952276|tw11478569038784391899|tw7925164676905522903|tw17650219000610351963|tw3397086525870556875|tw1023981132861762201|tw4954555401882308549|tw3190141465251984319|tw4161702609437393433|tw10593947500966426123|tw6742225538913782174|tw15604983757720271707|tw14539823855424243039|tw17382690849053340828|tw16434943879548595693|tw6143454445240764246|tw12267232137132020219|tw11030583208242712974|tw3467991019004562519|tw4947943567142208903|tw1877432340137806053|tw794397021084107149|tw6611390607985432378|tw5619490027150980731|tw3200909987000253319|tw833911042810369280|tw10082990388639139944|tw8813842604944505714|tw5773656105372416206|tw14540730213364776435|tw16283012046452898302|tw17167820102839543693|tw538586821554713585|tw3166347947464796249|tw4898082006146533232|tw1699825065795415095|tw16038714050395189985|tw10829408835824225818|tw6510043342084005568|tw1550464082601482009|tw17938793910833042024|tw8492748887971857770|tw9878332996155987992|tw11901064018856912414|tw16451341267430820419|tw15284167715070219922|tw1784083530097352174|tw441767948356442916|tw3849566814229387047|tw809667074855288520|tw12353748052859312073|tw11290002494577710952|tw14485254007108516444|tw1878612366845957650|tw14684877606119981285|tw17658696960545189345|tw13344451492561285636|tw67500408612780386|tw9889717531251990558|tw11614001193695433182|tw6776896585700772525|tw18124668277681948359|tw493941029122569139|tw4282060726131759909|tw17048499867006915579|tw3659657387501954725|tw16321263664153738737|tw2901688208793691502|tw1737727714462048207|tw858255180519230114|tw14862976892251442423|tw8459814750421450657|tw4686004133396245444|tw9850656473192850496|tw14354372224095247437|tw13743287062633473903|tw7061108455816661642|tw5021129998392661724|tw7533887376300837650|tw8080739910945632442|tw15591166101834363161|tw4085237206132049982|tw7944446410920951116|tw14008529423219303024|tw4686190668280251247|tw17062028314444201627|tw3297355909473417293|tw7268790593393966421|tw9037594802323563821|tw2059937425269377736|tw5577229852515733273|tw780094554036044612|tw9516570136593049731|tw8632687526655881998|tw10829203778427319613|tw3572344733594296358|tw3921133450276306097|tw11906396454590920519|tw16128534207302478473|tw1097182602659347972|tw12706637432585886|tw6833957594641531419|tw2291086801527517918|tw11056344760111566793|tw6928533987423101760|tw9274528324668397284|tw12385397307400895274|tw15838157986457771146|tw8808552480462383153|tw11256055475320554694|tw9211228497438045593|tw4743164749657643325|tw10379765162006512696|tw4261544072011272141|tw11425432824951141351|tw12158410916099214166
open PySem PySem.W PyProof.Rows
set_option maxRecDepth 100000 in
set_option maxHeartbeats 0 in
theorem PySem.Challenge.cw_formgrove_k80_changers_read_holds : PySem.Challenge.rw_formgrove_k80_changers_read.Holds := by
 w_on;o_law;k_head;(case hw=>w_witness2)
 k_fill
 refine cD.walk (l:=PySem.Challenge.rw_formgrove_k80_changers_read) rfl rfl (fun w h Y=>PySem.W.kIn_of Y) ?F
 case F =>
  intro w mg fa h KX G qi;refine' cD.Vx KX G qi ?HI ?HL ?HH ?HV ?HU ?HQ ?HJ ?HW ?HM ?HS ?HG ?HN ?HR ?HK ?HP ?Hz ?HA ?HB ?HC ?Hs ?Ht ?Hu ?Hv ?Hw ?D7 ?El ?EC ?D_ ?Eo ?EF ?D6 ?Ek ?EB ?Eh ?Ey ?EO ?Eg ?Ex ?EN ?Ed ?Et ?EJ ?D8 ?Em ?ED ?Ei ?Ez ?EQ ?Ea ?Ep ?EG ?Ef ?Ew ?EM ?D5 ?Ej ?EA ?Eb ?Er ?EH ?Ee ?Eu ?EL ?D9 ?En ?EE ?Ec ?Es ?EI ?HF ?Hx ?HX ?HE ?HY ?Hy ?HD ?wo ?wu ?wm ?wD ?wC ?wz ?wq ?wF ?ww ?wB ?wk ?wx ?wA ?wt ?wy ?DY ?DZ ?DV ?D0 ?D1 ?DX ?DW ?D2 ?D3 ?a1 ?l1 ?c1 ?k1 ?a2 ?l2 ?c2 ?k2 ?a3 ?l3 ?c3 ?k3 ?a4 ?l4 ?c4 ?k4 ?a5 ?l5 ?c5 ?k5 ?a6 ?l6 ?c6 ?k6 ?a7 ?l7 ?c7 ?k7 ?a8 ?l8 ?c8 ?k8 ?a9 ?l9 ?c9 ?k9 ?Dd ?Gy ?DB ?tE ?De ?Gz ?DC ?Af ?Df ?GA ?DD ?Ag ?GV ?Dg ?GB ?DE ?Ah ?GW ?Dh ?GC ?DF ?Ai ?Di ?GD ?DG ?Aj ?GX ?Dj ?GF ?DH ?Ak ?GY ?Dk ?GG ?DI ?Al ?Dl ?GH ?DJ ?Am ?Dm ?GI ?DK ?An ?Dq ?GJ ?DL ?kS ?Dr ?GK ?DM ?Ao ?Dt ?GL ?DN ?Ap ?Du ?GN ?DO ?Aq ?Dv ?GO ?DP ?Gw ?GZ ?Dw ?GP ?DQ ?Ar ?Dx ?GQ ?DR ?As ?yR ?GR ?DS ?wg ?Dy ?GS ?DT ?Gx ?y0 ?y1 ?z0 ?z1 ?z2 ?z3 ?z4 ?z5 ?z6 ?z7 ?z8 ?z9 ?HZ ?H_ ?Ia ?Ib ?Ic
  (case HI=>k_is)
  (case HL=>k_is)
  (case HH=>k_is)
  (case HV=>k_is)
  (case HU=>k_is)
  (case HQ=>k_is)
  (case HJ=>k_is)
  (case HW=>k_is)
  (case HM=>k_is)
  (case HS=>k_is)
  (case HG=>k_is)
  (case HN=>k_is)
  (case HR=>k_is)
  (case HK=>k_is)
  (case HP=>k_is)
  (case Hz=>k_is)
  (case HA=>k_is)
  (case HB=>rfl)
  (case HC=>k_is)
  (case Hs=>k_is)
  (case Ht=>k_is)
  (case Hu=>k_is)
  (case Hv=>k_is)
  (case Hw=>k_is)
  (case D7=>k_is)
  (case El=>k_is)
  (case EC=>k_is)
  (case D_=>k_is)
  (case Eo=>k_is)
  (case EF=>k_is)
  (case D6=>k_is)
  (case Ek=>k_is)
  (case EB=>k_is)
  (case Eh=>k_is)
  (case Ey=>k_is)
  (case EO=>k_is)
  (case Eg=>k_is)
  (case Ex=>k_is)
  (case EN=>k_is)
  (case Ed=>k_is)
  (case Et=>k_is)
  (case EJ=>k_is)
  (case D8=>k_is)
  (case Em=>k_is)
  (case ED=>k_is)
  (case Ei=>k_is)
  (case Ez=>k_is)
  (case EQ=>k_is)
  (case Ea=>k_is)
  (case Ep=>k_is)
  (case EG=>k_is)
  (case Ef=>k_is)
  (case Ew=>k_is)
  (case EM=>k_is)
  (case D5=>k_is)
  (case Ej=>k_is)
  (case EA=>k_is)
  (case Eb=>k_is)
  (case Er=>k_is)
  (case EH=>k_is)
  (case Ee=>k_is)
  (case Eu=>k_is)
  (case EL=>k_is)
  (case D9=>k_is)
  (case En=>k_is)
  (case EE=>k_is)
  (case Ec=>k_is)
  (case Es=>k_is)
  (case EI=>k_is)
  (case HF=>k_is)
  (case Hx=>k_is)
  (case HX=>k_is)
  (case HE=>k_is)
  (case HY=>k_is)
  (case Hy=>decide)
  (case HD=>k_is)
  (case wo=>k_is)
  (case wu=>k_is)
  (case wm=>k_is)
  (case wD=>k_is)
  (case wC=>k_is)
  (case wz=>k_is)
  (case wq=>k_is)
  (case wF=>k_is)
  (case ww=>k_is)
  (case wB=>k_is)
  (case wk=>k_is)
  (case wx=>k_is)
  (case wA=>k_is)
  (case wt=>k_is)
  (case wy=>k_is)
  (case DY=>k_is)
  (case DZ=>k_is)
  (case DV=>k_is)
  (case D0=>k_is)
  (case D1=>k_is)
  (case DX=>k_is)
  (case DW=>k_is)
  (case D2=>k_is)
  (case D3=>k_is)
  (case a1=>k_is)
  (case l1=>k_is)
  (case c1=>k_is)
  (case k1=>k_is)
  (case a2=>k_is)
  (case l2=>k_is)
  (case c2=>k_is)
  (case k2=>k_is)
  (case a3=>k_is)
  (case l3=>k_is)
  (case c3=>k_is)
  (case k3=>k_is)
  (case a4=>k_is)
  (case l4=>k_is)
  (case c4=>k_is)
  (case k4=>k_is)
  (case a5=>k_is)
  (case l5=>k_is)
  (case c5=>k_is)
  (case k5=>k_is)
  (case a6=>k_is)
  (case l6=>k_is)
  (case c6=>k_is)
  (case k6=>k_is)
  (case a7=>k_is)
  (case l7=>k_is)
  (case c7=>k_is)
  (case k7=>k_is)
  (case a8=>k_is)
  (case l8=>k_is)
  (case c8=>k_is)
  (case k8=>k_is)
  (case a9=>k_is)
  (case l9=>k_is)
  (case c9=>k_is)
  (case k9=>k_is)
  (case Dd=>k_is)
  (case Gy=>k_is)
  (case DB=>k_is)
  (case tE=>k_is)
  (case De=>k_is)
  (case Gz=>k_is)
  (case DC=>k_is)
  (case Af=>k_is)
  (case Df=>k_is)
  (case GA=>k_is)
  (case DD=>k_is)
  (case Ag=>k_is)
  (case GV=>k_is)
  (case Dg=>k_is)
  (case GB=>k_is)
  (case DE=>k_is)
  (case Ah=>k_is)
  (case GW=>k_is)
  (case Dh=>k_is)
  (case GC=>k_is)
  (case DF=>k_is)
  (case Ai=>k_is)
  (case Di=>k_is)
  (case GD=>k_is)
  (case DG=>k_is)
  (case Aj=>k_is)
  (case GX=>k_is)
  (case Dj=>k_is)
  (case GF=>k_is)
  (case DH=>k_is)
  (case Ak=>k_is)
  (case GY=>k_is)
  (case Dk=>k_is)
  (case GG=>k_is)
  (case DI=>k_is)
  (case Al=>k_is)
  (case Dl=>k_is)
  (case GH=>k_is)
  (case DJ=>k_is)
  (case Am=>k_is)
  (case Dm=>k_is)
  (case GI=>k_is)
  (case DK=>k_is)
  (case An=>k_is)
  (case Dq=>k_is)
  (case GJ=>k_is)
  (case DL=>k_is)
  (case kS=>k_is)
  (case Dr=>k_is)
  (case GK=>k_is)
  (case DM=>k_is)
  (case Ao=>k_is)
  (case Dt=>k_is)
  (case GL=>k_is)
  (case DN=>k_is)
  (case Ap=>k_is)
  (case Du=>k_is)
  (case GN=>k_is)
  (case DO=>k_is)
  (case Aq=>k_is)
  (case Dv=>k_is)
  (case GO=>k_is)
  (case DP=>k_is)
  (case Gw=>k_is)
  (case GZ=>k_is)
  (case Dw=>k_is)
  (case GP=>k_is)
  (case DQ=>k_is)
  (case Ar=>k_is)
  (case Dx=>k_is)
  (case GQ=>k_is)
  (case DR=>k_is)
  (case As=>k_is)
  (case yR=>k_is)
  (case GR=>k_is)
  (case DS=>k_is)
  (case wg=>k_is)
  (case Dy=>k_is)
  (case GS=>k_is)
  (case DT=>k_is)
  (case Gx=>k_is)
  (case y0=>k_is)
  (case y1=>k_is)
  (case z0=>k_is)
  (case z1=>k_is)
  (case z2=>k_is)
  (case z3=>k_is)
  (case z4=>k_is)
  (case z5=>k_is)
  (case z6=>k_is)
  (case z7=>k_is)
  (case z8=>k_is)
  (case z9=>k_is)
  (case HZ=>k_is)
  (case H_=>k_is)
  (case Ia=>k_is)
  (case Ib=>k_is)
  (case Ic=>k_is)
