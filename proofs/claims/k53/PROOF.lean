import PyProof.Rows.All
import Wide.All
import OpenK.AllK
import Wide.FinOn
import Lean
import PyProof.EqAt
import PyProof.EqKinds
import PyProof.TupleCall
import PySem.Challenge.RW_formgrove_k53_lists_that_hold
set_option Elab.async false
set_option linter.all false
set_option maxRecDepth 100000
theorem ae:type_of% @PySem.wpAny_bind:=@PySem.wpAny_bind
theorem af:type_of% @PySem.wpAny_pure:=@PySem.wpAny_pure
theorem ag:type_of% @if_neg:=@if_neg
theorem ai:type_of% @if_pos:=@if_pos
theorem aq:type_of% @Nat.le_refl:=@Nat.le_refl
theorem ax:type_of% @PySem.Heap.get?_push_of_some:=@PySem.Heap.get?_push_of_some
theorem ay:type_of% @List.length_map:=@List.length_map
theorem az:type_of% @List.mem_singleton:=@List.mem_singleton
theorem aF:type_of% @decide_eq_true:=@decide_eq_true
theorem aH:type_of% @PySem.Heap.lt_size:=@PySem.Heap.lt_size
theorem aJ:type_of% @List.mem_cons:=@List.mem_cons
theorem aK:type_of% @Array.length_toList:=@Array.length_toList
theorem aR:type_of% @List.mem_cons_of_mem:=@List.mem_cons_of_mem
theorem aS:type_of% @List.mem_map:=@List.mem_map
theorem aT:type_of% @PySem.sizeLine_eq:=@PySem.sizeLine_eq
theorem aU:type_of% @List.mem_cons_self:=@List.mem_cons_self
theorem aV:type_of% @Nat.ne_of_lt:=@Nat.ne_of_lt
theorem a8:type_of% @decide_eq_false:=@decide_eq_false
theorem bc:type_of% @List.mem_append:=@List.mem_append
theorem bh:type_of% @of_decide_eq_true:=@of_decide_eq_true
theorem bo:type_of% @PySem.Heap.get?_push_size:=@PySem.Heap.get?_push_size
theorem bw:type_of% @List.forall_mem_cons:=@List.forall_mem_cons
theorem bx:type_of% @List.forall_mem_nil:=@List.forall_mem_nil
theorem bD:type_of% @Nat.le_trans:=@Nat.le_trans
theorem bE:type_of% @Nat.zero_le:=@Nat.zero_le
theorem bL:type_of% @List.length_append:=@List.length_append
theorem bM:type_of% @List.length_cons:=@List.length_cons
theorem bO:type_of% @List.mem_append_right:=@List.mem_append_right
theorem bP:type_of% @List.size_toArray:=@List.size_toArray
theorem bT:type_of% @List.getElem?_eq_getElem:=@List.getElem?_eq_getElem
theorem bU:type_of% @List.mem_of_getElem?:=@List.mem_of_getElem?
theorem cf:type_of% @Nat.lt_of_lt_of_le:=@Nat.lt_of_lt_of_le
theorem cp:type_of% @List.getElem?_map:=@List.getElem?_map
theorem cu:type_of% @List.map_cons:=@List.map_cons
theorem cw:type_of% @PySem.wpAny_mono:=@PySem.wpAny_mono
theorem cD:type_of% @Nat.lt_irrefl:=@Nat.lt_irrefl
theorem cE:type_of% @Option.some.inj:=@Option.some.inj
theorem cH:type_of% @List.take_length:=@List.take_length
theorem cY:type_of% @List.length_take:=@List.length_take
theorem cZ:type_of% @List.map_append:=@List.map_append
theorem dc:type_of% @List.getElem?_eq_some_iff:=@List.getElem?_eq_some_iff
theorem de:type_of% @PySem.Paired.length:=@PySem.Paired.length
theorem dg:type_of% @PySem.W.mg_of:=@PySem.W.mg_of
theorem dy:type_of% @List.mem_append_left:=@List.mem_append_left
theorem dz:type_of% @List.mem_filter:=@List.mem_filter
theorem dB:type_of% @if_false:=@if_false
theorem dC:type_of% @PySem.wpAny_holding:=@PySem.wpAny_holding
theorem dU:type_of% @Array.getElem?_toList:=@Array.getElem?_toList
theorem dW:type_of% @Bool.false_ne_true:=@Bool.false_ne_true
theorem eu:type_of% @Ne.symm:=@Ne.symm
theorem eY:type_of% @Bool.and_eq_true:=@Bool.and_eq_true
theorem eZ:type_of% @Bool.false_eq_true:=@Bool.false_eq_true
theorem fD:type_of% @List.nodup_cons:=@List.nodup_cons
theorem fE:type_of% @PySem.PassesOwn.never:=@PySem.PassesOwn.never
theorem fF:type_of% @PySem.codeAny_builtin:=@PySem.codeAny_builtin
theorem fS:type_of% @List.length_singleton:=@List.length_singleton
theorem fU:type_of% @List.mem_range:=@List.mem_range
theorem fV:type_of% @PySem.boot_len:=@PySem.boot_len
theorem gC:type_of% @Array.getElem?_eq_getElem:=@Array.getElem?_eq_getElem
theorem gD:type_of% @PySem.Heap.size_push:=@PySem.Heap.size_push
theorem gE:type_of% @List.append_nil:=@List.append_nil
theorem gF:type_of% @List.map_map:=@List.map_map
theorem gG:type_of% @Option.map_eq_some_iff:=@Option.map_eq_some_iff
theorem g8:type_of% @PySem.Heap.get?_update_other:=@PySem.Heap.get?_update_other
theorem g9:type_of% @Nat.lt_trans:=@Nat.lt_trans
theorem g_:type_of% @PySem.plainId_quiet:=@PySem.plainId_quiet
theorem iM:type_of% @List.mem_iff_getElem?:=@List.mem_iff_getElem?
theorem iN:type_of% @Nat.le_of_lt:=@Nat.le_of_lt
theorem jj:type_of% @PySem.Around.under_plainId:=@PySem.Around.under_plainId
theorem jk:type_of% @List.pairwise_map:=@List.pairwise_map
theorem jl:type_of% @decide_eq_true_eq:=@decide_eq_true_eq
theorem jm:type_of% @PySem.wpAny_setState_of:=@PySem.wpAny_setState_of
theorem jV:type_of% @Int.emod_lt_of_pos:=@Int.emod_lt_of_pos
theorem jW:type_of% @Int.emod_nonneg:=@Int.emod_nonneg
theorem jX:type_of% @PySem.F.plainAttrs_list:=@PySem.F.plainAttrs_list
theorem k9:type_of% @List.any_eq_true:=@List.any_eq_true
theorem k_:type_of% @List.not_mem_nil:=@List.not_mem_nil
theorem lc:type_of% @Nat.lt_or_ge:=@Nat.lt_or_ge
theorem lg:type_of% @Nat.not_lt_zero:=@Nat.not_lt_zero
theorem lh:type_of% @PySem.W.kia_one:=@PySem.W.kia_one
theorem lj:type_of% @beq_eq_false_iff_ne:=@beq_eq_false_iff_ne
theorem lq:type_of% @if_true:=@if_true
theorem lr:type_of% @or_false:=@or_false
theorem mz:type_of% @Array.getElem?_eq_some_iff:=@Array.getElem?_eq_some_iff
theorem mB:type_of% @Bool.eq_iff_iff:=@Bool.eq_iff_iff
theorem mC:type_of% @PySem.Heap.SameBut.update:=@PySem.Heap.SameBut.update
theorem mD:type_of% @List.Perm.refl:=@List.Perm.refl
theorem mE:type_of% @Nat.lt_succ_self:=@Nat.lt_succ_self
theorem mF:type_of% @PySem.F.slot_list_append:=@PySem.F.slot_list_append
theorem mG:type_of% @PySem.F.type_list_append:=@PySem.F.type_list_append
theorem mH:type_of% @beq_iff_eq:=@beq_iff_eq
theorem mI:type_of% @PyProof.Rows.mem_zip_self:=@PyProof.Rows.mem_zip_self
theorem mJ:type_of% @of_decide_eq_false:=@of_decide_eq_false
theorem mK:type_of% @PySem.wpAny_Call_Name_kw:=@PySem.wpAny_Call_Name_kw
theorem mL:type_of% @PySem.wpAny_call_entry:=@PySem.wpAny_call_entry
theorem mM:type_of% @PySem.wpAny_newObj_type:=@PySem.wpAny_newObj_type
theorem mN:type_of% @PySem.wpAny_truthy_bool:=@PySem.wpAny_truthy_bool
theorem oj:type_of% @PySem.Calls.spliced_cons:=@PySem.Calls.spliced_cons
theorem om:type_of% @List.eq_nil_of_length_eq_zero:=@List.eq_nil_of_length_eq_zero
theorem oo:type_of% @List.length_drop:=@List.length_drop
theorem oq:type_of% @List.pairwise_iff_getElem:=@List.pairwise_iff_getElem
theorem ot:type_of% @Nat.le_succ:=@Nat.le_succ
theorem ou:type_of% @Nat.lt_of_le_of_lt:=@Nat.lt_of_le_of_lt
theorem ow:type_of% @PySem.codeAny_mono:=@PySem.codeAny_mono
theorem oy:type_of% @PySem.wpAny_isInstance:=@PySem.wpAny_isInstance
theorem oz:type_of% @PySem.wpAny_rule:=@PySem.wpAny_rule
theorem oA:type_of% @PySem.wpAny_seqItems:=@PySem.wpAny_seqItems
theorem oB:type_of% @PySem.wpAny_specialOf:=@PySem.wpAny_specialOf
theorem qi:type_of% @Bool.not_true:=@Bool.not_true
theorem qj:type_of% @PySem.Heap.get?_update_self:=@PySem.Heap.get?_update_self
theorem qk:type_of% @List.filterMap_cons_some:=@List.filterMap_cons_some
theorem qm:type_of% @List.filter_append:=@List.filter_append
theorem qo:type_of% @List.find?_cons_of_neg:=@List.find?_cons_of_neg
theorem qp:type_of% @List.find?_cons_of_pos:=@List.find?_cons_of_pos
theorem qr:type_of% @List.forIn_cons:=@List.forIn_cons
theorem qt:type_of% @List.length_filter_le:=@List.length_filter_le
theorem qu:type_of% @Nat.zero_add:=@Nat.zero_add
theorem qv:type_of% @PySem.Obj.data_mapFields:=@PySem.Obj.data_mapFields
theorem qw:type_of% @Option.isSome_map:=@Option.isSome_map
theorem qx:type_of% @PySem.F.called_set:=@PySem.F.called_set
theorem qy:type_of% @PySem.F.plain_min_loop:=@PySem.F.plain_min_loop
theorem qz:type_of% @PySem.wpAny_of_eq:=@PySem.wpAny_of_eq
theorem qA:type_of% @PySem.wpAny_setField:=@PySem.wpAny_setField
theorem qB:type_of% @PySem.wpAny_tryCatch:=@PySem.wpAny_tryCatch
theorem qC:type_of% @PySem.wpAny_typeOf:=@PySem.wpAny_typeOf
theorem sP:type_of% @Array.size_map:=@Array.size_map
theorem sQ:type_of% @PySem.Calls.spliced_nil:=@PySem.Calls.spliced_nil
theorem sR:type_of% @Iff.trans:=@Iff.trans
theorem sS:type_of% @List.append_assoc:=@List.append_assoc
theorem sU:type_of% @List.length_nil:=@List.length_nil
theorem sV:type_of% @List.pairwise_cons:=@List.pairwise_cons
theorem sW:type_of% @List.reverse_cons:=@List.reverse_cons
theorem sX:type_of% @Nat.ne_of_gt:=@Nat.ne_of_gt
theorem sY:type_of% @PySem.mem_of_lookup:=@PySem.mem_of_lookup
theorem sZ:type_of% @PySem.SetTable.insertAt_perm:=@PySem.SetTable.insertAt_perm
theorem s_:type_of% @PySem.wpAny_field:=@PySem.wpAny_field
theorem tf:type_of% @PySem.wpAny_passesOwn:=@PySem.wpAny_passesOwn
theorem ti:type_of% @PySem.wpAny_pyIter_list:=@PySem.wpAny_pyIter_list
theorem tj:type_of% @PySem.wpAny_standAt:=@PySem.wpAny_standAt
theorem vd:type_of% @Array.getElem?_eq_none:=@Array.getElem?_eq_none
theorem ve:type_of% @Array.size_push:=@Array.size_push
theorem vf:type_of% @PySem.Calls.callWith_builtin:=@PySem.Calls.callWith_builtin
theorem vg:type_of% @List.all_eq_true:=@List.all_eq_true
theorem vh:type_of% @List.any_cons:=@List.any_cons
theorem vi:type_of% @List.cons_append:=@List.cons_append
theorem vj:type_of% @List.filterMap_cons_none:=@List.filterMap_cons_none
theorem vm:type_of% @List.find?_cons:=@List.find?_cons
theorem vn:type_of% @List.find?_isSome:=@List.find?_isSome
theorem vo:type_of% @List.findIdx_cons:=@List.findIdx_cons
theorem vp:type_of% @List.foldl_cons:=@List.foldl_cons
theorem vq:type_of% @List.getElem_mem:=@List.getElem_mem
theorem vt:type_of% @List.length_range:=@List.length_range
theorem vw:type_of% @Nat.le_add_right:=@Nat.le_add_right
theorem vx:type_of% @Nat.mod_lt:=@Nat.mod_lt
theorem vy:type_of% @Nat.succ_pos:=@Nat.succ_pos
theorem vz:type_of% @PyProof.Rows.callWith_type1:=@PyProof.Rows.callWith_type1
theorem vA:type_of% @PySem.wpAny_dictEntries:=@PySem.wpAny_dictEntries
theorem vB:type_of% @PySem.wpAny_fieldsOf:=@PySem.wpAny_fieldsOf
theorem vC:type_of% @PySem.wpAny_newList:=@PySem.wpAny_newList
theorem yM:type_of% @Array.toList_map:=@Array.toList_map
theorem yN:type_of% @Array.toList_push:=@Array.toList_push
theorem yO:type_of% @PySem.Calls.evalArgs_plain:=@PySem.Calls.evalArgs_plain
theorem yP:type_of% @PySem.Code.quiet_builtin:=@PySem.Code.quiet_builtin
theorem yQ:type_of% @PySem.F.slot_tuple_hash:=@PySem.F.slot_tuple_hash
theorem yR:type_of% @List.drop_eq_getElem_cons:=@List.drop_eq_getElem_cons
theorem yS:type_of% @List.filter_cons_of_neg:=@List.filter_cons_of_neg
theorem yT:type_of% @List.filter_cons_of_pos:=@List.filter_cons_of_pos
theorem yU:type_of% @List.getElem?_append_right:=@List.getElem?_append_right
theorem yV:type_of% @List.length_replicate:=@List.length_replicate
theorem yW:type_of% @List.nodup_append:=@List.nodup_append
theorem yX:type_of% @List.take_of_length_le:=@List.take_of_length_le
theorem yY:type_of% @Nat.add_zero:=@Nat.add_zero
theorem yZ:type_of% @Nat.le_of_lt_succ:=@Nat.le_of_lt_succ
theorem y0:type_of% @Nat.lt_trichotomy:=@Nat.lt_trichotomy
theorem y_:type_of% @PySem.F.slot_dict_get:=@PySem.F.slot_dict_get
theorem za:type_of% @PySem.F.slot_dict_keyiterator_next:=@PySem.F.slot_dict_keyiterator_next
theorem zc:type_of% @PySem.W.callWith_K:=@PySem.W.callWith_K
theorem zd:type_of% @PySem.wpAny_callSpecial?_slot:=@PySem.wpAny_callSpecial?_slot
theorem ze:type_of% @PySem.wpAny_eqBool_int:=@PySem.wpAny_eqBool_int
theorem zh:type_of% @PySem.wpAny_forIn_list:=@PySem.wpAny_forIn_list
theorem BR:type_of% @Array.forIn_toList:=@Array.forIn_toList
theorem BS:type_of% @Array.getD_eq_getD_getElem?:=@Array.getD_eq_getD_getElem?
theorem BU:type_of% @Classical.byContradiction:=@Classical.byContradiction
theorem BV:type_of% @PySem.F.slot_list_getattribute:=@PySem.F.slot_list_getattribute
theorem BW:type_of% @Int.lt_of_lt_of_le:=@Int.lt_of_lt_of_le
theorem BX:type_of% @List.Pairwise.imp_of_mem:=@List.Pairwise.imp_of_mem
theorem BY:type_of% @List.ext_getElem?:=@List.ext_getElem?
theorem BZ:type_of% @List.getElem?_append_left:=@List.getElem?_append_left
theorem B0:type_of% @List.getElem?_take_of_lt:=@List.getElem?_take_of_lt
theorem B1:type_of% @List.length_pos_iff:=@List.length_pos_iff
theorem B2:type_of% @List.length_reverse:=@List.length_reverse
theorem B3:type_of% @List.mem_iff_getElem:=@List.mem_iff_getElem
theorem B4:type_of% @Nat.add_right_comm:=@Nat.add_right_comm
theorem B5:type_of% @Option.isSome_iff_exists:=@Option.isSome_iff_exists
theorem B6:type_of% @PySem.F.plainAttrs_dict:=@PySem.F.plainAttrs_dict
theorem B7:type_of% @PySem.wpAny_typeNameOfWhole_keyiter:=@PySem.wpAny_typeNameOfWhole_keyiter
theorem B8:type_of% @PySem.wpAny_typeNameOf_keyiter:=@PySem.wpAny_typeNameOf_keyiter
namespace L2
open PySem PySem.Spec PyProof.Rows
abbrev Key:=Sum Int Str
def ri:Key->Value->Bool
 | .inl k,v=>Value.isInt k v
 | .inr x,v=>Value.isStrOf x v
def V3(w:World):Key->Int
 | .inl k=>hashInt k
 | .inr x=>hashStr w x
theorem ZW:∀{k:Key}{v:Value},ri k v=true->(∃i t,k=Sum.inl i/\v=Value.int i t)\/(∃x t,k=Sum.inr x/\v=Value.str x t)
 | .inl i,v,h=>by
  obtain⟨t,e⟩:=Value.isInt_shape (k:=i) (v:=v) h;exact .inl ⟨i,t,rfl,e⟩
 | .inr x,v,h=>by
  obtain⟨t,e⟩:=Value.isStrOf_shape (x:=x) (v:=v) h;exact .inr ⟨x,t,rfl,e⟩
theorem SG(i:Int)(t:Tok):ri (.inl i) (.int i t)=true:=by simp[ri,Value.isInt]
theorem RU(x:Str)(t:Tok):ri (.inr x) (.str x t)=true:=by simp[ri,Value.isStrOf]
theorem Up(a b:Int):decide ((Sum.inl a:Key)=Sum.inl b)=(a == b):=by
 by_cases e:a=b
 ·subst e;simp
 ·have h : ¬ (Sum.inl a:Key)=Sum.inl b:=λq=>e (Sum.inl.inj q);rw[a8 h];exact(lj.mpr e).symm
theorem VA(a b:Str):decide ((Sum.inr a:Key)=Sum.inr b)=decide (a=b):=by
 by_cases e:a=b
 ·subst e;simp
 ·have h : ¬ (Sum.inr a:Key)=Sum.inr b:=λq=>e (Sum.inr.inj q);rw[a8 h,a8 e]
theorem VS(a:Int)(b:Str):decide ((Sum.inl a:Key)=Sum.inr b)=false:=a8 (λq=>nomatch q)
theorem Uu(a:Str)(b:Int):decide ((Sum.inr a:Key)=Sum.inl b)=false:=a8 (λq=>nomatch q)
def ZC(prog:Program)(w:World):PySem.KeyKind prog w Key where
 is:=ri
 hash:=V3 w
 inj:=λv a b ha hb=>by
  rcases ZW ha with⟨i,t,rfl,rfl⟩|⟨x,t,rfl,rfl⟩
  ·rcases ZW hb with⟨j,u,rfl,e⟩|⟨y,u,rfl,e⟩
   ·injection e with e1 _;rw[e1]
   ·exact nomatch e
  ·rcases ZW hb with⟨j,u,rfl,e⟩|⟨y,u,rfl,e⟩
   ·exact nomatch e
   ·injection e with e1 _;rw[e1]
 byValue:=λk v h=>by
  rcases ZW h with⟨i,t,rfl,rfl⟩|⟨x,t,rfl,rfl⟩ <;> rfl
 pyHash:=λhv h=>by
  rcases ZW hv with⟨i,t,rfl,rfl⟩|⟨x,t,rfl,rfl⟩
  ·exact wpAny_pyHash_int h
  ·exact wpAny_pyHash_str h
 eqBool:=λhu hv h=>by
  rcases ZW hu with⟨i,t,rfl,rfl⟩|⟨x,t,rfl,rfl⟩
  ·rcases ZW hv with⟨j,u,rfl,rfl⟩|⟨y,u,rfl,rfl⟩
   ·rw[Up] at h;exact ze h
   ·rw[VS] at h;exact SeqAt.EqAt.int_str i t y u _ _ _ _ h
  ·rcases ZW hv with⟨j,u,rfl,rfl⟩|⟨y,u,rfl,rfl⟩
   ·rw[Uu] at h;exact SeqAt.EqAt.str_int x t j u _ _ _ _ h
   ·rw[VA] at h;exact wpAny_eqBool_str h
 «strs» := λk x t v h=>by
  rcases ZW h with⟨i,u,rfl,e⟩|⟨y,u,rfl,e⟩
  ·exact nomatch e
  ·injection e with e1 _;subst e1;cases v <;> rfl
theorem QG(prog:Program)(w:World)(i:Int)(t:Tok):(ZC prog w).is (.inl i) (.int i t)=true:=SG i t
theorem QD(prog:Program)(w:World)(x:Str)(t:Tok):(ZC prog w).is (.inr x) (.str x t)=true:=RU x t
inductive V where
 | aG|bl (b:Bool)|int (i:Int)|str (x:Str)|jF (b:Array UInt8)|rD (b:UInt64)|ref (a:Addr)|ty (n:String)
 deriving DecidableEq
def RelV:V->Value->Prop
 | .aG,u=>u=Value.none
 | .bl b,u=>u=Value.bool b
 | .int i,u=>∃t,u=Value.int i t
 | .str x,u=>∃t,u=Value.str x t
 | .jF b,u=>∃t,u=Value.bytes b t
 | .rD b,u=>∃t,u=Value.float b t
 | .ref a,u=>u=Value.ref a
 | .ty n,u=>u=Value.type n
abbrev Vals:List V->List Value->Prop:=Paired RelV
theorem Vals.length{xs:List V}{us:List Value}(r:Vals xs us):xs.length=us.length:=de r
theorem Vals.get:∀{xs:List V}{us:List Value}{i:Nat}{x:V},Vals xs us->xs[i]?= some x->∃u,us[i]?= some u/\RelV x u
 | _,_,_,_,.nil,e=>by simp at e
 | _,_,0,_,.cons r _,e=>by simp at e;subst e;exact⟨_,rfl,r⟩
 | _,_,i+1,x,.cons _ t,e=>by
  obtain⟨u,h1,h2⟩:=Vals.get (i:=i) (x:=x) t (by simpa using e);exact⟨u,by simpa using h1,h2⟩
theorem Vals.append:∀{xs ys:List V}{us ws:List Value},Vals xs us->Vals ys ws->Vals (xs++ys) (us++ws)
 | _,_,_,_,.nil,s=>s
 | _,_,_,_,.cons r t,s=>.cons r (Vals.append t s)
theorem Vals.take:∀{xs:List V}{us:List Value}(n:Nat),Vals xs us->Vals (xs.take n) (us.take n)
 | _,_,0,_=>.nil
 | _,_,_+1,.nil=>.nil
 | _,_,n+1,.cons r t=>.cons r (Vals.take n t)
theorem Vals.drop:∀{xs:List V}{us:List Value}(n:Nat),Vals xs us->Vals (xs.drop n) (us.drop n)
 | _,_,0,r=>r
 | _,_,_+1,.nil=>.nil
 | _,_,n+1,.cons _ t=>Vals.drop n t
def fg:Option V->Option Value->Prop
 | some v,some u=>RelV v u
 | none,none=>True
 | _,_=>False
def KV{κ : Type}:List (κ × V)->List (κ × Value)->Prop:=Paired λ(p : κ × V)(q : κ × Value)=>p.1=q.1/\RelV p.2 q.2
def kV:Key->V
 | .inl i=>.int i
 | .inr x=>.str x
inductive HO where
 | lst (xs:List V)
 | tup (xs:List V)
 | dK (aa:List (Key×V))|dT (aa:List (List Key×V))
 | set (S:Int->Bool) (n:Nat)
 | ins (C dx:Addr) (fs:List (Str×V))
 | own (x:Addr)
 | xd (fs:List (Str×V))
 | met (f x:Addr)
 | BI (lo hi:Int)
 | aI (o:Obj) (u:HO)
 | bC (ps:Array Value)
 | ext (φ : Heap->Prop)
abbrev Hp:=Addr->Option HO
def upd(H:Hp)(a:Addr)(o:HO):Hp:=λb=>if b=a then some o else H b
variable{H:Hp}{a:Addr}{o:HO}
theorem Za:upd H a o a=some o:=by unfold upd;rw[ai rfl]
variable{b:Addr}
theorem Zc(h:b≠a):upd H a o b=H b:=by unfold upd;rw[ag h]
theorem Vu{u:HO}(h:H a=some o)(h':H b=some u)(d:o≠u):a≠b:=by
 intro e;subst e;rw[h] at h';exact d (cE h')
theorem Zg(h:H a=some o)(h':H b=none):a≠b:=by
 intro e;subst e;rw[h] at h';cases h'
section
variable(P:Program)(w:World)
def ZL(H:Hp)(h:Heap)(a:Addr):HO->Prop
 | .lst xs=>xs.length<=sizeLine/\∃(its:List Value)(n:Nat),Vals xs its/\h.get? a=some { cls:=.type "list",data:=.seq its.toArray n }
 | .tup xs=>xs.length<=sizeLine/\∃its:List Value,Vals xs its/\IsTup h a its.toArray
 | .dK aa=>aa.length<=sizeLine/\(a == sysModules)=false/\∃vs,KV aa vs/\h.DictOf (ZC P w) a vs
 | .dT aa=>aa.length<=sizeLine/\(a == sysModules)=false/\∃xs:List (List Key×Addr×Value),
   Paired (λ(p:List Key×V)(q:List Key×Addr×Value)=>p.1=q.1/\H q.2.1=some (.tup (p.1.map kV))/\RelV p.2 q.2.2) aa xs /\
   ∃o es ep,h.get? a=some o/\o.ExactDict/\o.data=.dict es ep/\es.toList=xs.map (entryOfKey (tupleKind (ZC P w)))/\(xs.map (·.1)).Nodup
 | .set S n=>h.SetOf (intKind P w) a S n
 | .ins C dx fs=>H dx=some (.own a)/\fs.length<=1000/\dx≠a/\h.get? a=some (PySem.W.instObj C dx) /\
   ∃mA,h.Ns1 dx mA/\(∀f,fg (fs.lookup f) (mA f))/\PySem.Within mA (fs.map (·.1))
 | .own _=>∃o,h.get? a=some o
 | .xd fs=>∃mA,h.Ns1 a mA/\∀f,fg (fs.lookup f) (mA f)
 | .BI lo hi=>∃t u v,h.get? a=some { cls:=.type "range",data:=.fields #[.int lo t,.int hi u,.int 1 v] }
 | .aI o u=>h.get? a=some o/\ZL H h a u
 | .bC ps=>h.get? a=some { cls:=.none,data:=.fields ps }
 | .met f x=>h.get? a=some (PySem.W.methodObj (.ref f) (.ref x))
 | .ext φ=>φ h/\(∃o,h.get? a=some o)/\∀h1 h2:Heap,φ h1->(∀o,h1.get? a=some o->h2.get? a=some o) -> φ h2
def a9(H:Hp)(h:Heap):Prop := ∀a o,H a=some o->ZL P w H h a o
end
section
variable{P:Program}{w:World}{H H':Hp}{h h':Heap}{a:Addr}{o:HO}
theorem ZL.lt(x:ZL P w H h a o):a<h.objs.size:=by
 cases o with
 | lst xs=>obtain⟨_,_,_,_,e⟩:=x;exact aH e
 | tup xs=>obtain⟨_,_,_,p⟩:=x;exact p.lt
 | dK aa=>obtain⟨_,_,_,_,o,_,_,e,_⟩:=x;exact aH e
 | dT aa=>obtain⟨_,_,_,_,o,_,_,e,_⟩:=x;exact aH e
 | set S n=>obtain⟨o,_,_,_,e,_⟩:=x;exact aH e
 | ins C dx fs=>obtain⟨_,_,_,e,_⟩:=x;exact aH e
 | own y=>obtain⟨_,e⟩:=x;exact aH e
 | xd fs=>obtain⟨_,⟨_,_,_,e,_⟩,_⟩:=x;exact aH e
 | BI lo hi=>obtain⟨_,_,_,e⟩:=x;exact aH e
 | aI ob u=>obtain⟨e,_⟩:=x;exact aH e
 | bC ps=>exact aH (show h.get? a=some _ from x)
 | met f y=>exact aH (show h.get? a=some _ from x)
 | ext φ=>obtain⟨_,⟨_,e⟩,_⟩:=x;exact aH e
theorem Paired.GD{α β : Type}{F G : α -> β -> Prop}:∀{l₁ : List α}{l₂ : List β},Paired F l₁ l₂ -> (∀a b,F a b->G a b)->Paired G l₁ l₂
 | _,_,.nil,_=>.nil
 | _,_,.cons r t,f=>.cons (f _ _ r) (Paired.GD t f)
theorem ZL.jR(x:ZL P w H h a o)(k:∀b u,(b=a\/H b=some (.own a))->h.get? b=some u->h'.get? b=some u)
  (ho:∀b,H b=some (.own a)->H' b=some (.own a)) (ht:∀b xs,H b=some (.tup xs)->H' b=some (.tup xs)):ZL P w H' h' a o:=by
 induction o with
 | lst xs=>obtain⟨z,its,n,r,e⟩:=x;exact⟨z,its,n,r,k _ _ (.inl rfl) e⟩
 | tup xs=>obtain⟨z,its,r,ob,e,c⟩:=x;exact⟨z,its,r,ob,k _ _ (.inl rfl) e,c⟩
 | dK aa=>obtain⟨z,y,vs,r,ob,es,ep,e,c⟩:=x;exact⟨z,y,vs,r,ob,es,ep,k _ _ (.inl rfl) e,c⟩
 | dT aa =>
  obtain⟨z,y,xs,r,ob,es,ep,e,c⟩:=x;exact⟨z,y,xs,Paired.GD r λp q z=>⟨z.1,ht _ _ z.2.1,z.2.2⟩,ob,es,ep,k _ _ (.inl rfl) e,c⟩
 | set S n=>obtain⟨ob,es,ep,t,e,c⟩:=x;exact⟨ob,es,ep,t,k _ _ (.inl rfl) e,c⟩
 | ins C dx fs =>
  obtain⟨d,z,ne,e,mA,⟨od,es,ep,e2,c⟩,r⟩:=x;exact⟨ho _ d,z,ne,k _ _ (.inl rfl) e,mA,⟨od,es,ep,k _ _ (.inr d) e2,c⟩,r⟩
 | own y=>obtain⟨ob,e⟩:=x;exact⟨ob,k _ _ (.inl rfl) e⟩
 | xd fs=>obtain⟨mA,⟨od,es,ep,e,c⟩,r⟩:=x;exact⟨mA,⟨od,es,ep,k _ _ (.inl rfl) e,c⟩,r⟩
 | BI lo hi=>obtain⟨t,u,v,e⟩:=x;exact⟨t,u,v,k _ _ (.inl rfl) e⟩
 | aI ob u ih=>obtain⟨e,q⟩:=x;exact⟨k _ _ (.inl rfl) e,ih q⟩
 | bC ps =>
  have e:h.get? a=some { cls:=.none,data:=.fields ps }:=x;show h'.get? a=some { cls:=.none,data:=.fields ps };exact k a _ (.inl rfl) e
 | met f y =>
  have e:h.get? a=some (PySem.W.methodObj (.ref f) (.ref y)):=x;show h'.get? a=some (PySem.W.methodObj (.ref f) (.ref y));exact k a _ (.inl rfl) e
 | ext φ=>obtain⟨p,⟨o,e⟩,st⟩:=x;exact⟨st _ _ p λo q=>k _ _ (.inl rfl) q,⟨o,k _ _ (.inl rfl) e⟩,st⟩
theorem a9.lt(x:a9 P w H h)(e:H a=some o):a<h.objs.size:=(x a o e).lt
theorem a9.fresh(x:a9 P w H h)(e:h.objs.size<=a):H a=none:=by
 cases q:H a with
 | none=>rfl
 | some u=>exact absurd (cf (x.lt q) e) (cD _)
theorem a9.kept(x:a9 P w H h)(k:∀b u,h.get? b=some u->h'.get? b=some u):a9 P w H h':=λa o e =>
 (x a o e).jR (λb u _ q=>k b u q) (λ_ q=>q) λ_ _ q=>q
theorem a9.laid(x:a9 P w H h)(k:∀b u,h.get? b=some u->h'.get? b=some u)(hp:h.objs.size<=a)(new:ZL P w (upd H a o) h' a o):a9 P w (upd H a o) h':=λb u e=>by
 have hn:=x.fresh hp;by_cases hb:b=a
 ·subst hb;rw[Za] at e;cases e;exact new
 ·rw[Zc hb] at e;exact(x b u e).jR (λc v _ q=>k c v q) (λc q=>by rw[Zc (Zg q hn)];exact q) λc xs q=>by rw[Zc (Zg q hn)];exact q
end
def Rd(H:Hp)(a:Addr)(u:HO):Prop:=H a=some u\/∃o,H a=some (.aI o u)
variable{P:Program}{w:World}{h:Heap}
theorem Rd.ok{u:HO}(r:Rd H a u)(x:a9 P w H h):ZL P w H h a u:=by
 rcases r with r|⟨o,r⟩
 ·exact x a u r
 ·obtain⟨_,q⟩:=x a _ r;exact q
def vQ:Option HO->Prop
 | some (.lst _)=>True
 | some (.dK _)=>True
 | some (.dT _)=>True
 | some (.set _ _)=>True
 | some (.ins _ _ _)=>True
 | some (.ext _)=>True
 | _=>False
variable{h':Heap}{x e:Addr}{o':HO}
theorem a9.write(ok:a9 P w H h)(mu:vQ (H x))(he:e=x\/H e=some (.own x))(k:∀b u,b≠e->h.get? b=some u->h'.get? b=some u)(uG:∃u,h'.get? e=some u)
  (new:ZL P w (upd H x o') h' x o'):a9 P w (upd H x o') h':=λb u q=>by
 have Oz:∀c y,H c=some (.own y)->c≠x:=λc y r z=>by subst z;rw[r] at mu;exact mu
 have ZqC:∀c xs,H c=some (.tup xs)->c≠x:=λc xs r z=>by subst z;rw[r] at mu;exact mu
 by_cases hb:b=x
 ·subst hb;rw[Za] at q;cases q;exact new
 ·rw[Zc hb] at q;by_cases rH:b=e
  ·have q':H b=some (.own x):=by
    rcases he with z|z
    ·exact absurd (rH.trans z) hb
    ·rw[rH];exact z
   rw[q] at q';cases q';obtain⟨v,hv⟩:=uG;exact⟨v,by rw[rH];exact hv⟩
  ·refine(ok b u q).jR (λc v hc r=>k c v ?_ r) (λc r=>by rw[Zc (Oz c b r)];exact r) λc xs r=>by rw[Zc (ZqC c xs r)];exact r
   rcases hc with rfl|hc
   ·exact rH
   ·rintro rfl;rcases he with z|z
    ·exact Oz c b hc z
    ·rw[hc] at z;cases z;exact hb rfl
structure Un(fs ex:List Addr)(H H':Hp)(h h':Heap):Prop where
 keep:∀b o,h.get? b=some o->H b=none->b∉fs->b∉ex->h'.get? b=some o
 slot:∀b o,h.get? b=some o->H b=none->b∈fs->b∉ex->∃sl,h'.get? b=some { o with slots:=sl }
 free:∀b o,h.get? b=some o->H b=none->b∉ex->H' b=none
 there:∀b o,h.get? b=some o->b∉ex->∃o',h'.get? b=some o'
 mx:∀b xs,H b=some (.tup xs)->H' b=some (.tup xs)
 kr:∀b o u,H b=some (.aI o u)->H' b=some (.aI o u)
 kY:∀b ps,H b=some (.bC ps)->∃more,H' b=some (.bC (ps++more))
section
variable{fs tw ex ex':List Addr}{H H1 H2:Hp}{h h1 h2 h':Heap}{a x e:Addr}{o:HO}
theorem Un.any(u:Un fs ex H H1 h h1){b:Addr}{ob:Obj}(q:h.get? b=some ob)(n:H b=none)(hx:b∉ex):∃sl,h1.get? b=some { ob with slots:=sl }:=by
 by_cases hb:b∈fs
 ·exact u.slot b ob q n hb hx
 ·exact⟨ob.slots,u.keep b ob q n hb hx⟩
theorem Un.kept(k:∀b u,h.get? b=some u->h'.get? b=some u):Un fs ex H H h h' :=
 ⟨λb ob q _ _ _=>k b ob q,λb ob q _ _ _=>⟨ob.slots,k b ob q⟩,λ_ _ _ n _=>n,λb ob q _=>⟨ob,k b ob q⟩,λ_ _ q=>q,λ_ _ _ q=>q,λ_ ps q=>⟨#[],by rw[q];simp⟩⟩
theorem Un.refl:Un fs ex H H h h:=Un.kept λ_ _ q=>q
theorem Un.laid(k:∀b u,h.get? b=some u->h'.get? b=some u)(hp:h.objs.size<=a)(hn:H a=none):Un fs ex H (upd H a o) h h' where
 keep:=λb u q _ _ _=>k b u q
 slot:=λb u q _ _ _=>⟨u.slots,k b u q⟩
 free:=λb u q n _=>by rw[Zc (aV (cf (aH q) hp))];exact n
 there:=λb u q _=>⟨u,k b u q⟩
 mx:=λb xs q=>by rw[Zc (Zg q hn)];exact q
 kr:=λb u xs q=>by rw[Zc (Zg q hn)];exact q
 kY:=λb ps q=>⟨#[],by rw[Zc (Zg q hn),q];simp⟩
theorem Un.write(mu:vQ (H x))(he:e=x\/H e=some (.own x))(k:∀b u,b≠e->h.get? b=some u->h'.get? b=some u)(uG:∃u,h'.get? e=some u):Un fs ex H (upd H x o) h h':=by
 have hx:∀b,H b=none->b≠x:=λb n z=>by subst z;rw[n] at mu;exact mu
 have hb:∀b,H b=none->b≠e:=λb n z=>by
  subst z;rcases he with r|r
  ·exact hx b n r
  ·rw[n] at r;cases r
 have hm:∀b u,H b=some u -> ¬ vQ (some u)->b≠x:=λb u q nm z=>by subst z;rw[q] at mu;exact nm mu
 refine⟨λb u q n _ _=>k b u (hb b n) q,λb u q n _ _=>⟨u.slots,k b u (hb b n) q⟩,λb u q n _=>by rw[Zc (hx b n)];exact n,λb u q _=>?_,
  λb xs q=>by rw[Zc (hm b _ q λz=>z)];exact q,λb u xs q=>by rw[Zc (hm b _ q λz=>z)];exact q,λb ps q=>⟨#[],by rw[Zc (hm b _ q λz=>z),q];simp⟩⟩
 by_cases rH:b=e
 ·subst rH;exact uG
 ·exact⟨u,k b u rH q⟩
end
def BQ(h:Heap)(H:Hp):List Addr:=(List.range h.objs.size).filter λa=>(H a).isSome
def lS(h:Heap)(H:Hp):Heap:=PySem.W.hideAll h (BQ h H)
theorem Sz(h:Heap)(H:Hp):(lS h H).objs.size=h.objs.size:=PySem.W.hideAll_size _ _
variable{o:Obj}
theorem Tp(e:h.get? b=some o)(n:H b=none):(lS h H).get? b=some o :=
 PySem.W.hideAll_get _ e λhm=>by
  have q:(H b).isSome=true:=(dz.mp hm).2;rw[n] at q;simp at q
theorem Ul(e:(lS h H).get? b=some o):h.get? b=some o/\H b=none:=by
 have e':h.get? b=some o:=PySem.W.of_hideAll (BQ h H) e;refine⟨e',?_⟩;cases q:H b with
 | none=>rfl
 | some x =>
  have hm:b∈BQ h H:=dz.mpr ⟨fU.mpr (aH e'),by simp[q]⟩;have z:(lS h H).get? b=none:=PySem.W.hideAll_none (BQ h H) hm;rw[z] at e;cases e
structure Mod(K:PySem.W.Frag)(mg:Str->Option Value)(base:Heap):Prop where
 so:K.In base
 glob:base.Ns mainGlobals mg
 blt:∃mb,base.Ns builtinsNs mb/\∀x:Str,x ≠ "__name__" -> mb x=bootBuiltins x
 nolimit:base.NoLimit
/-- jS context: a Pb body (or a Hr block) running. base: fixed through jS whole law;cO,jv: jS entry;outer: jS frames ZrA slots others may change (a Pb ZrV);stack: all frames BP run;
   ex: ZsE BP Zrz made ahead of jS entry and are walked here (a Hr);fn: jS names ZrA cells Zrz made at jS entry (a def: all;a Hr block: its own);calm: not within an except ZsW;pn: pins BP Zr0 state bears;xe: Zte is wanted of an exception BP ZsJ jS code -/
structure Cx where
 prog:Program
 w:World
 K:PySem.W.Frag
 mg:Str->Option Value
 base:Heap
 A:Around
 N:List Str
 cO : Shared
 jv : Hp
 env:Env
 outer:List Env
 stack:List Env
 ex:List Addr
 fn:Str->Bool
 calm:Bool
 pn:List (Addr×Obj)
 xe:Value->Shared->Prop
def gj(l:List Env):List Addr:=l.filterMap (·.frame)
abbrev Cx.fs(X:Cx):List Addr:=gj X.outer
def CI(sc:Scope)(x:Str):Prop:=sc.names.lookup x=some .local\/sc.names.lookup x=some .cell\/sc.names.lookup x=some .free
def Loc(sc:Scope)(x:Str):Prop:=sc.names.lookup x=some .local\/sc.names.lookup x=some .cell
def Look(env:Env)(h:Heap)(m:Str->Option Value)(x:Str)(u:Value):Prop :=
 (env.kindOf x=some .local/\m x=some u)\/((env.kindOf x=some .cell\/env.kindOf x=some .free)/\∃c,env.cells.lookup x=some c/\h.IsCell c (some u))
structure Cx.Ok(X:Cx):Prop where
 mod:Mod X.K X.mg X.base
 kind:X.env.scope.kind=.function
 glob:X.env.globals=mainGlobals
 blt:X.env.builtins=builtinsNs
 above:X.cO.heap.objs.size<=X.env.locals
 inj:∀x y c,X.env.cells.lookup x=some c->X.env.cells.lookup y=some c->x=y
 has:∀x,(X.env.kindOf x=some .cell\/X.env.kindOf x=some .free)->∃c,X.env.cells.lookup x=some c
 ko:∀x c,X.fn x=true->X.env.cells.lookup x=some c->X.cO.heap.objs.size<=c
 hd:X.calm=true->X.A.handled=none
 frames:X.A.frames=some X.stack
 mw:X.stack=X.outer\/(X.stack=X.env::X.outer/\X.env.frame=some X.env.locals)
 jH:∀b∈X.ex,b≠X.env.locals/\∀x c,X.env.cells.lookup x=some c->c≠b
 bs:∀b o,X.base.get? b=some o->X.cO.heap.get? b=some o/\X.jv b=none
 gh:X.base.objs.size<=X.cO.heap.objs.size
 kK:∀b o,X.base.get? b=some o->b∉X.ex
 jI:∀b∈X.ex,b∉X.fs
 fj:X.cO.heap.FunFrames X.base X.outer
 iZ:∀b∈X.fs,X.jv b=none
structure Inv(X:Cx)(pins:List (Addr×Obj))(σ : List (Option V))(H:Hp)(s:Shared):Prop where
 ok:X.Ok
 os:s.os=X.cO.os
 bare:AllBare s.gens
 base:Un X.fs X.ex X.jv H X.cO.heap s.heap
 loc:∃m,s.heap.Ns X.env.locals m/\∀(i:Nat)(x:Str)(v:V),X.N[i]?= some x -> σ[i]?= some (some v)->CI X.env.scope x->∃u,RelV v u/\Look X.env s.heap m x u
 cell:∀x c,X.env.cells.lookup x=some c->∃v,s.heap.IsCell c v
 free:H X.env.locals=none
 ee:∀x c,X.env.cells.lookup x=some c->H c=none
 pin:∀p∈X.pn++pins,s.heap.get? p.1=some p.2/\H p.1=none/\p.1≠X.env.locals/\p.1∉X.fs/\∀v,p.2.data ≠ .cell v
 ah:a9 X.prog X.w H s.heap
 len : σ.length=X.N.length
section
variable{X:Cx}{pins:List (Addr×Obj)}{σ : List (Option V)}{H H':Hp}{s:Shared}{h':Heap}
theorem Cx.Ok.Zqy(ok:X.Ok){b:Addr}{o:Obj}(e:X.base.get? b=some o):b∉X.fs:=λhb=>by
 have:=(ok.fj.mem hb).1;rw[e] at this;cases this
theorem Inv.bs(I:Inv X pins σ H s):∀b o,X.base.get? b=some o->s.heap.get? b=some o/\H b=none:=λb o e =>
 ⟨I.base.keep b o (I.ok.bs b o e).1 (I.ok.bs b o e).2 (I.ok.Zqy e) (I.ok.kK b o e),I.base.free b o (I.ok.bs b o e).1 (I.ok.bs b o e).2 (I.ok.kK b o e)⟩
theorem Inv.bk(I:Inv X pins σ H s):∀b o,X.base.get? b=some o->s.heap.get? b=some o:=λb o e=>(I.bs b o e).1
theorem Inv.mod(I:Inv X pins σ H s):Mod X.K X.mg X.base:=I.ok.mod
theorem Inv.bK(I:Inv X pins σ H s):X.K.In s.heap:=I.ok.mod.so.keeps I.bk
theorem Inv.nolimit(I:Inv X pins σ H s):s.heap.NoLimit:=I.ok.mod.nolimit.keeps I.bk
theorem Inv.lt(I:Inv X pins σ H s):X.env.locals<s.heap.objs.size:=let ⟨_,hn,_⟩:=I.loc;hn.lt
theorem Inv.sz(I:Inv X pins σ H s):X.cO.heap.objs.size<=s.heap.objs.size:=bD I.ok.above (iN I.lt)
theorem Inv.BB(I:Inv X pins σ H s){a:Addr}(h:s.heap.objs.size<=a):a∉X.fs:=λhb=>by
 obtain⟨_,o,ho,_⟩:=I.ok.fj.mem hb;exact absurd (cf (aH ho) (bD I.sz h)) (cD _)
theorem Inv.rB(I:Inv X pins σ H s):∀x c,X.env.cells.lookup x=some c->c≠X.env.locals:=λx c e z=>by
 obtain⟨v,o,ho,hd⟩:=I.cell x c e;obtain⟨m,⟨o',es,ep,bN,bQ,_⟩,_⟩:=I.loc;rw[z,bN] at ho;cases ho;rw[bQ] at hd;cases hd
theorem Inv.fj(I:Inv X pins σ H s):s.heap.FunFrames X.base X.outer:=by
 have all:∀(l:List Env),(∀b∈gj l,b∈X.fs)->X.cO.heap.FunFrames X.base l->s.heap.FunFrames X.base l:=by
  intro l
  induction l with
  | nil=>intro _ _;trivial
  | cons env r ih =>
   intro hs hl;obtain⟨hk,⟨L,o,hf,hn,ho,hd⟩,hr⟩:=hl;have hL:L∈X.fs:=hs L (by unfold gj;rw[List.filterMap_cons,hf];exact aU);obtain⟨sl,e⟩:=I.base.slot L o ho (I.ok.iZ L hL) hL λz=>I.ok.jI L z hL;exact⟨hk,⟨L,_,hf,hn,e,hd⟩,ih (λb hb=>hs b (by unfold gj;rw[List.filterMap_cons,hf];exact aR _ hb)) hr⟩
 exact all X.outer (λ_ hb=>hb) I.ok.fj
theorem Inv.stack(I:Inv X pins σ H s):s.heap.FunFrames X.base X.stack:=by
 rcases I.ok.mw with e|⟨e,hf⟩
 ·rw[e];exact I.fj
 ·rw[e];obtain⟨m,hn,_⟩:=I.loc;refine .cons (by rw[I.ok.kind];decide) hf hn ?_ I.fj;exact Heap.get?_none_of_le (bD I.ok.gh I.ok.above)
theorem Inv.Hc(I:Inv X pins σ H s):∀b∈gj X.stack,b∈X.env.locals::X.fs:=λb hb=>by
 rcases I.ok.mw with e|⟨e,hf⟩
 ·rw[e] at hb;exact aR _ hb
 ·rw[e] at hb;unfold gj at hb;rw[List.filterMap_cons,hf] at hb;exact hb
theorem Inv.BM(I:Inv X pins σ H s):∀b∈gj X.stack,H b=none:=λb hb=>by
 rcases aJ.mp (I.Hc b hb) with e|hb
 ·rw[e];exact I.free
 ·obtain⟨_,o,ho,_⟩:=I.ok.fj.mem hb;exact I.base.free b o ho (I.ok.iZ b hb) λz=>I.ok.jI b z hb
variable{g':Array GenState}{t':Nat}{d':Drawn}{ch:List Addr}
theorem Inv.step(I:Inv X pins σ H s)
  (lZ:∀b∈ch,(b∈X.ex\/X.cO.heap.objs.size<=b)/\b≠X.env.locals/\(∀x c,X.env.cells.lookup x=some c->c≠b)/\∀p∈X.pn++pins,p.1≠b)
  (keep:∀b o,b≠X.env.locals->b∉X.fs->b∉ch->s.heap.get? b=some o->H b=none->h'.get? b=some o)
  (slot:∀b o,b≠X.env.locals->b∈X.fs->b∉ch->s.heap.get? b=some o->H b=none->∃sl,h'.get? b=some { o with slots:=sl }) (free:∀b o,b∉ch->s.heap.get? b=some o->H b=none->H' b=none)
  (there:∀b o,b∉ch->s.heap.get? b=some o->∃o',h'.get? b=some o')
  (mx:∀b xs,H b=some (.tup xs)->H' b=some (.tup xs)) (kr:∀b o u,H b=some (.aI o u)->H' b=some (.aI o u)) (kY:∀b ps,H b=some (.bC ps)->∃more,H' b=some (.bC (ps++more)))
  (ns:∀m,s.heap.Ns X.env.locals m->h'.Ns X.env.locals m) (ah:a9 X.prog X.w H' h') (hg:AllBare g') :
  Inv X pins σ H' { s with heap:=h',gens:=g',drawn:=d',toks:=t' }:=by
 have Ow:∀b o,X.cO.heap.get? b=some o->b≠X.env.locals:=λb o e=>aV (cf (aH e) I.ok.above);have Bz:∀b o,X.cO.heap.get? b=some o->b∉X.ex->b∉ch:=λb o e hx hb=>by
  rcases(lZ b hb).1 with z|z
  ·exact hx z
  ·exact absurd (cf (aH e) z) (cD _)
 have cellK:∀x c,X.env.cells.lookup x=some c->∀v,s.heap.IsCell c v->h'.IsCell c v:=λx c e v ⟨o,ho,hd⟩=>by
  have yl:c∉ch:=λz=>(lZ c z).2.2.1 x c e rfl;by_cases hc:c∈X.fs
  ·obtain⟨sl,q⟩:=slot c o (I.rB x c e) hc yl ho (I.ee x c e);exact⟨_,q,hd⟩
  ·exact⟨o,keep c o (I.rB x c e) hc yl ho (I.ee x c e),hd⟩
 refine⟨I.ok,I.os,hg,⟨λb o e n hb hx=>?_,λb o e n hb hx=>?_,λb o e n hx=>?_,λb o e hx=>?_,λb xs e=>mx b xs (I.base.mx b xs e),λb o xs e=>kr b o xs (I.base.kr b o xs e),λb ps e=>?_⟩,?_,λx c e=>?_,?_,λx c e=>?_,λp hp=>?_,ah,I.len⟩
 ·exact keep b o (Ow b o e) hb (Bz b o e hx) (I.base.keep b o e n hb hx) (I.base.free b o e n hx)
 ·obtain⟨sl,e1⟩:=I.base.slot b o e n hb hx;obtain⟨zC,e2⟩:=slot b _ (Ow b o e) hb (Bz b o e hx) e1 (I.base.free b o e n hx);exact⟨zC,e2⟩
 ·obtain⟨o',e1⟩:=I.base.there b o e hx;exact free b o' (Bz b o e hx) e1 (I.base.free b o e n hx)
 ·obtain⟨o',e1⟩:=I.base.there b o e hx;exact there b o' (Bz b o e hx) e1
 ·obtain⟨m1,e1⟩:=I.base.kY b ps e;obtain⟨m2,e2⟩:=kY b _ e1;exact⟨m1++m2,by rw[e2,Array.append_assoc]⟩
 ·obtain⟨m,hn,hl⟩:=I.loc;refine⟨m,ns m hn,λi x v e1 e2 e3=>?_⟩;obtain⟨u,r,l⟩:=hl i x v e1 e2 e3;refine⟨u,r,?_⟩;rcases l with l|⟨k,c,e,z⟩
  ·exact .inl l
  ·exact .inr ⟨k,c,e,cellK x c e _ z⟩
 ·obtain⟨v,z⟩:=I.cell x c e;exact⟨v,cellK x c e v z⟩
 ·obtain⟨m,⟨o,_,_,ho,_⟩,_⟩:=I.loc;exact free _ o (λz=>(lZ _ z).2.1 rfl) ho I.free
 ·obtain⟨v,o,ho,hd⟩:=I.cell x c e;exact free c o (λz=>(lZ c z).2.2.1 x c e rfl) ho (I.ee x c e)
 ·obtain⟨e,n,ne,nf,d⟩:=I.pin p hp;have yl:p.1∉ch:=λz=>(lZ p.1 z).2.2.2 p hp rfl;exact⟨keep p.1 p.2 ne nf yl e n,free p.1 p.2 yl e n,ne,nf,d⟩
theorem Inv.un(I:Inv X pins σ H s)(u:Un X.fs [] H H' s.heap h')(ah:a9 X.prog X.w H' h'):Inv X pins σ H' { s with heap:=h',toks:=t' }:=by
 obtain⟨m,⟨o,es,ep,ho,r⟩,_⟩:=id I.loc;obtain⟨sl,hL⟩:=u.any ho I.free (by simp);exact I.step (g':=s.gens) (d':=s.drawn) (ch:=[]) (λ_ z=>nomatch z) (λb o _ hb _ e n=>u.keep b o e n hb (by simp)) (λb o _ hb _ e n=>u.slot b o e n hb (by simp)) (λb o _ e n=>u.free b o e n (by simp)) (λb o _ e=>u.there b o e (by simp)) u.mx u.kr u.kY (λm' hm=>by
  obtain⟨o',bz,fH,bN,r'⟩:=hm;rw[ho] at bN;cases bN;exact⟨_,bz,fH,hL,r'⟩) ah I.bare
theorem Inv.call(I:Inv X pins σ H s)(u:Un (gj X.stack) ch H H' s.heap h')(ah:a9 X.prog X.w H' h')(hg:AllBare g')
  (lZ:∀b∈ch,(b∈X.ex\/X.cO.heap.objs.size<=b)/\b≠X.env.locals/\(∀x c,X.env.cells.lookup x=some c->c≠b)/\∀p∈X.pn++pins,p.1≠b) :
  Inv X pins σ H' { s with heap:=h',gens:=g',drawn:=d',toks:=t' }:=by
 obtain⟨m,⟨o,es,ep,ho,r⟩,_⟩:=id I.loc;obtain⟨sl,hL⟩:=u.any ho I.free λz=>(lZ _ z).2.1 rfl;exact I.step (ch:=ch) lZ (λb o hL hb hc e n=>u.keep b o e n (λz=>(aJ.mp (I.Hc b z)).elim hL hb) hc) (λb o _ _ hc e n=>u.any e n hc) (λb o hc e n=>u.free b o e n hc) (λb o hc e=>u.there b o e hc) u.mx u.kr u.kY (λm' hm=>by
  obtain⟨o',bz,fH,bN,r'⟩:=hm;rw[ho] at bN;cases bN;exact⟨_,bz,fH,hL,r'⟩) ah hg
theorem Inv.turned{it:Addr}(I:Inv X pins σ H s)(k:∀b o,b≠it->s.heap.get? b=some o->h'.get? b=some o)(hn:H it=none)(hL:it≠X.env.locals)
  (h1:it∈X.ex\/X.cO.heap.objs.size<=it) (h2:∀x c,X.env.cells.lookup x=some c->c≠it) (h3:∀p∈X.pn++pins,p.1≠it):Inv X pins σ H { s with heap:=h',toks:=t' }:=by
 have Oy:∀b u,H b=some u->b≠it:=λb u e z=>by rw[z,hn] at e;cases e
 refine I.step (g':=s.gens) (d':=s.drawn) (ch:=[it]) (λb hb=>?_) (λb o _ _ hc e _=>k b o (λz=>hc (by simp[z])) e) (λb o _ _ hc e _=>⟨o.slots,k b o (λz=>hc (by simp[z])) e⟩) (λ_ _ _ _ n=>n)
  (λb o hc e=>⟨o,k b o (λz=>hc (by simp[z])) e⟩) (λ_ _ e=>e) (λ_ _ _ e=>e) (λb ps e=>⟨#[],by rw[e];simp⟩) (λm hm=>?_) (λb u e=>?_) I.bare
 ·have e:b=it:=by simpa using hb
  subst e;exact⟨h1,hL,h2,h3⟩
 ·obtain⟨o,es,ep,ho,r⟩:=hm;exact⟨o,es,ep,k _ o (eu hL) ho,r⟩
 ·refine(I.ah b u e).jR (λc v hc q=>k c v ?_ q) (λ_ q=>q) λ_ _ q=>q;rcases hc with z|z
  ·rw[z];exact Oy b u e
  ·exact Oy c _ z
theorem Inv.tok(I:Inv X pins σ H s)(t:Nat):Inv X pins σ H { s with toks:=t }:=I.un (h':=s.heap) (t':=t) Un.refl I.ah
theorem Inv.kept{t':Nat}(I:Inv X pins σ H s)(k:∀b u,s.heap.get? b=some u->h'.get? b=some u):Inv X pins σ H { s with heap:=h',toks:=t' }:=I.un (Un.kept k) (I.ah.kept k)
theorem Inv.laid{a:Addr}{o:HO}{t':Nat}(I:Inv X pins σ H s)(k:∀b u,s.heap.get? b=some u->h'.get? b=some u)(hp:s.heap.objs.size<=a)(new:ZL X.prog X.w (upd H a o) h' a o) :
  Inv X pins σ (upd H a o) { s with heap:=h',toks:=t' }:=I.un (Un.laid k hp (I.ah.fresh hp)) (I.ah.laid k hp new)
theorem Inv.write{x e:Addr}{o:HO}{t':Nat}(I:Inv X pins σ H s)(mu:vQ (H x))(he:e=x\/H e=some (.own x))(k:∀b u,b≠e->s.heap.get? b=some u->h'.get? b=some u)(uG:∃u,h'.get? e=some u)
  (new:ZL X.prog X.w (upd H x o) h' x o):Inv X pins σ (upd H x o) { s with heap:=h',toks:=t' }:=I.un (Un.write mu he k uG) (I.ah.write mu he k uG new)
theorem Inv.yu{oG:List (Addr×Obj)}(I:Inv X pins σ H s)(h:∀p∈oG,s.heap.get? p.1=some p.2/\H p.1=none/\p.1≠X.env.locals/\p.1∉X.fs/\∀v,p.2.data ≠ .cell v):Inv X oG σ H s :=
 ⟨I.ok,I.os,I.bare,I.base,I.loc,I.cell,I.free,I.ee,λp hp=>(bc.mp hp).elim (λz=>I.pin p (dy _ z)) (h p),I.ah,I.len⟩
theorem JZ{N:List Str}(hN:N.Nodup){i j:Nat}{x:Str}(a:N[i]?= some x)(b:N[j]?= some x):i=j:=by
 obtain⟨h1,e1⟩:=dc.mp a;obtain⟨h2,e2⟩:=dc.mp b;exact(List.getElem_inj hN).mp (e1.trans e2.symm)
variable{M:Model}{A:Around}{E:Value->Shared->Prop}{i:Nat}{x:Str}{u:Value}{Q:Unit->Shared->Prop}
theorem C6{v:V}(I:Inv X pins σ H s)(hN:X.N.Nodup)(hi:X.N[i]?= some x)(hx:Loc X.env.scope x)(r:RelV v u)
  (h:∀s',Inv X pins (σ.set i (some v)) H s'->(∃a,Heap.SameBut a s.heap s'.heap/\(a=X.env.locals\/X.env.cells.lookup x=some a))->Q () s') (hf:X.fn x=true\/X.env.scope.names.lookup x=some .local:=by first|exact .inl rfl|exact .inr rfl|assumption):wpAny M A (storeName X.env x u) Q E s:=by
 obtain⟨m,hn,hl⟩:=id I.loc;have YG:(X.env.scope.kind ==.class || (X.env.scope.kind ==.module&&X.env.locals != X.env.globals))=false:=by rw[I.ok.kind];rfl
 have Nn : i < σ.length:=by rw[I.len];exact(dc.mp hi).1
 have rB:=I.rB;have tracked:∀{a:Addr}{h':Heap},(∃o,s.heap.get? a=some o/\H a=none)->Heap.SameBut a s.heap h'->a9 X.prog X.w H h':=λ{a h'} ha hs b ob e=>by
  obtain⟨_,_,A7⟩:=ha;refine(I.ah b ob e).jR (λc w' hc q=>(hs.2 c ?_).trans q) (λ_ q=>q) λ_ _ q=>q;rintro rfl;rcases hc with rfl|hc
  ·rw[A7] at e;cases e
  ·rw[A7] at hc;cases hc
 rcases hx with hk|hk
 ·refine wpAny_storeName_local hk hn (λh' zx hs=>?_) YG;obtain⟨oL,_,_,uN,_⟩:=id hn;refine h _ ⟨I.ok,I.os,I.bare,⟨λb o e n hb hx=>?_,λb o e n hb hx=>?_,I.base.free,λb o e hx=>?_,I.base.mx,I.base.kr,I.base.kY⟩,⟨_,zx,λj y v' e1 e2 e3=>?_⟩,λy c e=>?_,I.free,I.ee,λp hp=>?_,tracked ⟨oL,uN,I.free⟩ hs,by simpa using I.len⟩ ⟨_,hs,.inl rfl⟩
  ·exact(hs.2 b (aV (cf (aH e) I.ok.above))).trans (I.base.keep b o e n hb hx)
  ·obtain⟨sl,e1⟩:=I.base.slot b o e n hb hx;exact⟨sl,(hs.2 b (aV (cf (aH e) I.ok.above))).trans e1⟩
  ·obtain⟨o',e1⟩:=I.base.there b o e hx;exact⟨o',(hs.2 b (aV (cf (aH e) I.ok.above))).trans e1⟩
  ·by_cases hj:j=i
   ·subst hj;rw[hi] at e1;cases e1;rw[List.getElem?_set_self Nn] at e2;cases e2;exact⟨u,r,.inl ⟨hk,by simp⟩⟩
   ·rw[List.getElem?_set_ne (eu hj)] at e2;obtain⟨u',r',q⟩:=hl j y v' e1 e2 e3;refine⟨u',r',?_⟩;rcases q with⟨k,e⟩|⟨k,c,e,z⟩
    ·refine .inl ⟨k,?_⟩;have:y≠x:=λe=>hj (JZ hN e1 (e ▸ hi));simp[this,e]
    ·exact .inr ⟨k,c,e,z.sameBut hs (rB y c e)⟩
  ·obtain⟨w',z⟩:=I.cell y c e;exact⟨w',z.sameBut hs (rB y c e)⟩
  ·obtain⟨e,n,ne,nf,d⟩:=I.pin p hp;exact⟨(hs.2 p.1 ne).trans e,n,ne,nf,d⟩
 ·have Fn:X.fn x=true:=by
   rcases hf with z|z
   ·exact z
   ·rw[z] at hk;cases hk
  obtain⟨c,hc⟩:=I.ok.has x (.inl hk);obtain⟨w',z⟩:=I.cell x c hc;refine wpAny_storeName_cell I.ok.kind hk hc z (λh' cQ hs=>?_);obtain⟨oc,pK,Zo2⟩:=id z;refine h { s with heap:=h' } ⟨I.ok,I.os,I.bare,⟨λb o e n hb hx=>?_,λb o e n hb hx=>?_,I.base.free,λb o e hx=>?_,I.base.mx,I.base.kr,I.base.kY⟩,⟨m,hn.sameBut hs (eu (rB x c hc)),λj y v' e1 e2 e3=>?_⟩,λy c' e=>?_,I.free,I.ee,λp hp=>?_,tracked ⟨oc,pK,I.ee x c hc⟩ hs,by simpa using I.len⟩ ⟨c,hs,.inr hc⟩
  ·exact(hs.2 b (aV (cf (aH e) (I.ok.ko x c Fn hc)))).trans (I.base.keep b o e n hb hx)
  ·obtain⟨sl,e1⟩:=I.base.slot b o e n hb hx;exact⟨sl,(hs.2 b (aV (cf (aH e) (I.ok.ko x c Fn hc)))).trans e1⟩
  ·obtain⟨o',e1⟩:=I.base.there b o e hx;exact⟨o',(hs.2 b (aV (cf (aH e) (I.ok.ko x c Fn hc)))).trans e1⟩
  ·by_cases hj:j=i
   ·subst hj;rw[hi] at e1;cases e1;rw[List.getElem?_set_self Nn] at e2;cases e2;exact⟨u,r,.inr ⟨.inl hk,c,hc,cQ⟩⟩
   ·rw[List.getElem?_set_ne (eu hj)] at e2;obtain⟨u',r',q⟩:=hl j y v' e1 e2 e3;refine⟨u',r',?_⟩;rcases q with q|⟨k,c',e,z'⟩
    ·exact .inl q
    ·refine .inr ⟨k,c',e,z'.sameBut hs ?_⟩;rintro rfl;exact hj (JZ hN e1 (I.ok.inj _ _ _ e hc ▸ hi))
  ·by_cases pw:c'=c
   ·subst pw;exact⟨_,cQ⟩
   ·obtain⟨w2,z2⟩:=I.cell y c' e;exact⟨w2,z2.sameBut hs pw⟩
  ·obtain⟨e,n,ne,nf,d⟩:=I.pin p hp;refine⟨(hs.2 p.1 ?_).trans e,n,ne,nf,d⟩;intro q;rw[q,pK] at e;have q':oc=p.2:=cE e;exact d w' (by rw[<- q'];exact Zo2)
theorem Km{v:V}(I:Inv X pins σ H s)(hN:X.N.Nodup)(hi:X.N[i]?= some x)(hx:Loc X.env.scope x)(r:RelV v u)
  (h:∀s',Inv X pins (σ.set i (some v)) H s'->Q () s') (hf:X.fn x=true\/X.env.scope.names.lookup x=some .local:=by first|exact .inl rfl|exact .inr rfl|assumption):wpAny M A (storeName X.env x u) Q E s :=
 C6 I hN hi hx r (λs' I' _=>h s' I') hf
theorem Inv.zp{s':Shared}(I:Inv X pins σ H s)(ho:s'.os=s.os)(u:Un (gj X.stack) ch H H' s.heap s'.heap)(ah:a9 X.prog X.w H' s'.heap)(hg:AllBare s'.gens)
  (lZ:∀b∈ch,(b∈X.ex\/X.cO.heap.objs.size<=b)/\b≠X.env.locals/\(∀x c,X.env.cells.lookup x=some c->c≠b)/\∀p∈X.pn++pins,p.1≠b):Inv X pins σ H' s':=by
 obtain⟨h',g',d',t',o'⟩:=s';have e:o'=s.os:=ho;subst e;exact I.call (g':=g') (t':=t') (d':=d') u ah hg lZ
end
abbrev XK:=Value->Option Addr->Hp->Prop
abbrev St:=List (Option V)
abbrev VK:=V->Hp->Prop
abbrev TE:=St->Hp->VK->Prop
abbrev TT:=St->Hp->(Bool->Hp->Prop)->Prop
abbrev TA:=St->Hp->(List V->Hp->Prop)->Prop
structure Ends where
 nx:St->Hp->Prop
 rt:VK
 bk:St->Hp->Prop:=λ_ _=>False
 ct:St->Hp->Prop:=λ_ _=>False
abbrev TS:=Ends->St->Hp->Prop
def EP(X:Cx)(pins:List (Addr×Obj))(σ : St)(Q:VK)(u:Value)(s':Shared):Prop := ∃v H',Inv X pins σ H' s'/\RelV v u/\Q v H'
def TP(X:Cx)(pins:List (Addr×Obj))(σ : St)(Q:Bool->Hp->Prop)(b:Bool)(s':Shared):Prop := ∃H',Inv X pins σ H' s'/\Q b H'
def AP(X:Cx)(pins:List (Addr×Obj))(σ : St)(Q:List V->Hp->Prop)(us:List Value)(s':Shared):Prop := ∃vs H',Inv X pins σ H' s'/\Vals vs us/\Q vs H'
def SP(X:Cx)(pins:List (Addr×Obj))(D:Ends)(f:Flow)(s':Shared):Prop :=
 match f with
 | .next=>∃ ao H',Inv X pins ao H' s'/\D.nx ao H'
 | .brk=>∃ ao H',Inv X pins ao H' s'/\D.bk ao H'
 | .cont=>∃ ao H',Inv X pins ao H' s'/\D.ct ao H'
 | .ret u=>∃v ao H',Inv X pins ao H' s'/\RelV v u/\D.rt v H'
def PE(X:Cx)(e:Expr)(t:TE):Prop :=
 ∀(pins:List (Addr×Obj))(s:Shared)(σ : St)(H:Hp)(Q:VK),Inv X pins σ H s->t σ H Q->wpAny (model X.prog X.w) X.A (eval e X.env) (EP X pins σ Q) X.xe s
def PT(X:Cx)(e:Expr)(t:TT):Prop :=
 ∀(pins:List (Addr×Obj))(s:Shared)(σ : St)(H:Hp)(Q:Bool->Hp->Prop),Inv X pins σ H s->t σ H Q->wpAny (model X.prog X.w) X.A (isTrue e X.env (eval e X.env)) (TP X pins σ Q) X.xe s
def PW(X:Cx)(e:Expr)(t:TT):Prop :=
 ∀(whole:Sem Value)(pins:List (Addr×Obj))(s:Shared)(σ : St)(H:Hp)(Q:Bool->Hp->Prop),Inv X pins σ H s->t σ H Q->wpAny (model X.prog X.w) X.A (isTrue e X.env whole) (TP X pins σ Q) X.xe s
variable{e:Expr}{X:Cx}
theorem PW.pt{t:TT}(h:PW X e t):PT X e t:=h _
def PA(X:Cx)(es:List Expr)(t:TA):Prop :=
 ∀(pos:Pos)(pins:List (Addr×Obj))(s:Shared)(σ : St)(H:Hp)(Q:List V->Hp->Prop),Inv X pins σ H s->t σ H Q->wpAny (model X.prog X.w) X.A (spliced (backTo pos (starEach es X.env))) (AP X pins σ Q) X.xe s
def PS(X:Cx)(st:Stmt)(t:TS):Prop :=
 ∀(pins:List (Addr×Obj))(s:Shared)(σ : St)(H:Hp)(D:Ends),Inv X pins σ H s->t D σ H->wpAny (model X.prog X.w) X.A (exec st X.env) (SP X pins D) X.xe s
def cF(X:Cx)(st:List Stmt)(t:TS):Prop :=
 ∀(pins:List (Addr×Obj))(s:Shared)(σ : St)(H:Hp)(D:Ends),Inv X pins σ H s->t D σ H->wpAny (model X.prog X.w) X.A (execs st X.env) (SP X pins D) X.xe s
variable{M:Model}{A:Around}{E:Value->Shared->Prop}{s:Shared}
theorem ap{α : Type}{t:Sem α}{Q Q' : α -> Shared->Prop}(h:wpAny M A t Q E s)(hQ:∀a s,Q a s->Q' a s):wpAny M A t Q' E s:=cw h hQ λ_ _ x=>x
def L'(i:Nat):TE:=λσ H Q=>∃v,σ[i]?= some (some v)/\Q v H
def tC(v:V):TE:=λ_ H Q=>Q v H
variable{x:Str}{i:Nat}{pos:Pos}
theorem UB(hN:X.N[i]?= some x)(hv:CI X.env.scope x)(hd:(x == ("__debug__" : Str))=false:=by decide) (eF:(x == ("__classdict__" : Str))=false:=by decide):PE X (.Name x pos) (L' i):=by
 intro pins s σ H Q I h;obtain⟨v,e,h⟩:=h;obtain⟨m,hn,hl⟩:=I.loc;obtain⟨u,r,l⟩:=hl i x v hN e hv;have fin:EP X pins σ Q u s:=⟨v,H,I,r,h⟩;rcases l with⟨hk,hm⟩|⟨hk,c,hc,iC⟩
 ·exact wpAny_Name (wpAny_loadName_local I.ok.kind hk hn hm fin) hd
 ·rcases hk with hk|hk
  ·exact wpAny_Name (wpAny_loadName_cell I.ok.kind hk hc iC fin) hd
  ·exact wpAny_Name (wpAny_loadName_free I.ok.kind hk hc iC fin eF) hd
theorem Zh{i j pos}:PE X (.Constant (.int i) j pos) (tC (.int i)):=λ_ _ _ H _ I h=>wpAny_Constant_int ⟨.int i,H,I.tok _,⟨_,rfl⟩,h⟩
theorem f'{b j pos}:PE X (.Constant (.bool b) j pos) (tC (.bl b)):=λ_ _ _ H _ I h=>Constant_bool ⟨.bl b,H,I,rfl,h⟩
theorem wH{x j pos}:PE X (.Constant (.str x) j pos) (tC (.str x)):=λ_ _ _ H _ I h=>Calls.Constant_str ⟨.str x,H,I.tok _,⟨_,rfl⟩,h⟩
def Gl(X:Cx)(x:Str):Prop:=X.env.kindOf x=some .globalImplicit
variable{u:Value}{pins:List (Addr×Obj)}{σ:St}{Q:Value->Shared->Prop}
theorem wG(I:Inv X pins σ H s)(hg:Gl X x)(hm:X.mg x=some u)(h:Q u s)
  (hd:(x == ("__debug__" : Str))=false:=by decide):wpAny (model X.prog X.w) X.A (eval (.Name x pos) X.env) Q E s :=
 Calls.Name_function_global I.ok.kind hg (Calls.loadGlobal_global (by rw[I.ok.glob];exact I.mod.glob.keeps I.bk) hm h) hd
theorem kl(I:Inv X pins σ H s)(hg:Gl X x)(hm:X.mg x=none)(hv:bootBuiltins x=some u)(h:Q u s)
  (hn:x ≠ "__name__" := by decide) (hd:(x == ("__debug__" : Str))=false:=by decide):wpAny (model X.prog X.w) X.A (eval (.Name x pos) X.env) Q E s:=by
 obtain⟨mb,h1,h2⟩:=I.mod.blt;exact Calls.Name_function_global I.ok.kind hg (Calls.loadGlobal_builtin (by rw[I.ok.glob];exact I.mod.glob.keeps I.bk) hm (by rw[I.ok.blt];exact h1.keeps I.bk) ((h2 x hn).trans hv) h) hd
theorem tX{v:V}(hg:Gl X x)(hm:X.mg x=some u)(r:RelV v u)(hd:(x == ("__debug__" : Str))=false:=by decide):PE X (.Name x pos) (tC v) :=
 λ_ _ _ H _ I h=>wG I hg hm ⟨v,H,I,r,h⟩ hd
theorem T6{v:V}(hg:Gl X x)(hm:X.mg x=none)(hv:bootBuiltins x=some u)(r:RelV v u)(hn:x ≠ "__name__" := by decide) (hd:(x == ("__debug__" : Str))=false:=by decide):PE X (.Name x pos) (tC v) :=
 λ_ _ _ H _ I h=>kl I hg hm hv ⟨v,H,I,r,h⟩ hn hd
def PC(X:Cx)(op:CmpOp)(a b:Expr)(t:TE):Prop :=
 ∀(pins:List (Addr×Obj))(s:Shared)(σ : St)(H:Hp)(Q:VK),Inv X pins σ H s->t σ H Q ->
  wpAny (model X.prog X.w) X.A (eval a X.env) (λv aL=>wpAny (model X.prog X.w) X.A (eval b X.env) (λu jh=>wpAny (model X.prog X.w) X.A (compareOp op v u) (EP X pins σ Q) X.xe jh) X.xe aL) X.xe s
def tB(t:TE):TT:=λσ H Q=>t σ H λx H1=>∃c,x=.bl c/\Q c H1
variable{a b:Expr}{t:TE}{op:CmpOp}
theorem D4(h:PC X op a b t)(h1:behindInMarks op b=false:=by first|exact Zqx _ (by decide) (by decide)|rfl):PE X (.Compare a [op] [b] pos) t:=λpins s σ H Q I hw=>wpAny_Compare1 (h pins s σ H Q I hw) h1
theorem ue(h:PC X op a b t)(h1:behindInMarks op b=false:=by first|exact Zqx _ (by decide) (by decide)|rfl):PT X (.Compare a [op] [b] pos) (tB t):=by
 intro pins s σ H Q I hw;refine wpAny_isTrue_Compare1 (ap (h pins s σ H _ I hw) λv s1 h1=>ap h1 λu s2 h2=>ap h2 λc s3 ⟨x,H1,I1,r1,q1⟩=>?_) h1;obtain⟨d,rfl,q⟩:=q1;cases r1;exact mN ⟨H1,I1,q⟩
def Wu(t u:TT):TT:=λσ H Q=>t σ H λc H1=>if c=true then u σ H1 Q else Q false H1
def tOr(t u:TT):TT:=λσ H Q=>t σ H λc H1=>if c=true then Q true H1 else u σ H1 Q
def VY(t:TT):TT:=λσ H Q=>t σ H λc H1=>Q (!c) H1
variable{tA:TT}
theorem Ad(ha:PT X a tA):PW X (.BoolOp .And [a] pos) tA:=by
 intro wh pins s σ H Q I h;refine isTrue_and (ap (ha pins s σ H Q I h) λc s1 e=>?_);cases c with
 | true=>exact isTrue_and_nil e
 | false=>exact e
theorem LB(ha:PT X a tA):PW X (.BoolOp .Or [a] pos) tA:=by
 intro wh pins s σ H Q I h;refine isTrue_or (ap (ha pins s σ H Q I h) λc s1 e=>?_);cases c with
 | false=>exact isTrue_or_nil e
 | true=>exact e
variable{qG:TT}{rest:List Expr}
theorem wL(ha:PT X a tA)(hb:PW X (.BoolOp .And (b::rest) pos) qG):PW X (.BoolOp .And (a::b::rest) pos) (Wu tA qG):=by
 intro wh pins s σ H Q I h;refine isTrue_and (ap (ha pins s σ H _ I h) λc s1 ⟨H1,I1,q1⟩=>?_);cases c with
 | true=>exact hb wh pins s1 σ H1 Q I1 q1
 | false=>exact⟨H1,I1,q1⟩
theorem LX(ha:PT X a tA)(hb:PW X (.BoolOp .Or (b::rest) pos) qG):PW X (.BoolOp .Or (a::b::rest) pos) (tOr tA qG):=by
 intro wh pins s σ H Q I h;refine isTrue_or (ap (ha pins s σ H _ I h) λc s1 ⟨H1,I1,q1⟩=>?_);cases c with
 | true=>exact⟨H1,I1,q1⟩
 | false=>exact hb wh pins s1 σ H1 Q I1 q1
theorem Ao(ha:PT X a tA):PT X (.UnaryOp .Not a pos) (VY tA):=by
 intro pins s σ H Q I h;exact isTrue_not (ha pins s σ H (λc H1=>Q (!c) H1) I h)
def U9(ta tb:TE):TE:=λσ H Q=>ta σ H λx H1=>∃c,x=.bl c/\if c=true then tb σ H1 Q else Q (.bl false) H1
theorem Lr{op}(h:PE X a t):PE X (.BoolOp op [a] pos) t:=λpins s σ H Q I hw=>BoolOp_one (h pins s σ H Q I hw)
variable{ta tb:TE}
theorem DY(ha:PE X a ta)(hb:PE X (.BoolOp .And (b::rest) pos) tb):PE X (.BoolOp .And (a::b::rest) pos) (U9 ta tb):=by
 intro pins s σ H Q I h;refine BoolOp_and (ap (ha pins s σ H _ I h) λv s1 ⟨x,H1,I1,r1,q1⟩=>?_);obtain⟨c,rfl,q1⟩:=q1;cases r1;refine mN ?_;cases c with
 | true=>exact hb pins s1 σ H1 Q I1 q1
 | false=>exact⟨.bl false,H1,I1,rfl,q1⟩
def aj(K:PySem.W.Frag)(H:Hp)(a:Addr)(xs:List V):Prop :=
 Rd H a (.lst xs) \/
  ∃(o:Obj)(its:Array Value)(n:Nat),K.lookup a=some o/\o.cls=.type "list" /\ o.dict=none/\o.data=.seq its n/\its.size<=sizeLine/\Vals xs its.toList
def ar(K:PySem.W.Frag)(H:Hp)(a:Addr)(xs:List V):Prop :=
 Rd H a (.tup xs) \/
  ∃(o:Obj)(its:Array Value)(n:Nat),K.lookup a=some o/\o.cls=.type "tuple" /\ o.data=.seq its n/\its.size<=sizeLine/\Vals xs its.toList
def V7:Value->Option V
 | .none=>some .aG
 | .bool b=>some (.bl b)
 | .int i _=>some (.int i)
 | .str x _=>some (.str x)
 | .bytes b _=>some (.jF b)
 | .float b _=>some (.rD b)
 | .ref a=>some (.ref a)
 | .type n=>some (.ty n)
 | _=>none
theorem RelV.abs{x:V}(r:RelV x u):V7 u=some x:=by
 cases x with
 | aG=>cases r;rfl
 | bl _=>cases r;rfl
 | int _=>obtain⟨t,rfl⟩:=r;rfl
 | str _=>obtain⟨t,rfl⟩:=r;rfl
 | jF _=>obtain⟨t,rfl⟩:=r;rfl
 | rD _=>obtain⟨t,rfl⟩:=r;rfl
 | ref _=>cases r;rfl
 | ty _=>cases r;rfl
theorem RelV.inj{x y:V}{u:Value}(r:RelV x u)(q:RelV y u):x=y:=cE (r.abs.symm.trans q.abs)
theorem Vals.inj:∀{xs ys:List V}{us:List Value},Vals xs us->Vals ys us->xs=ys
 | _,_,_,.nil,.nil=>rfl
 | _,_,_,.cons r t,.cons r' t'=>by rw[r.inj r',Vals.inj t t']
variable{a:Addr}{xs:List V}{K:PySem.W.Frag}
theorem aj.of(h:H a=some (.lst xs)):aj K H a xs:=.inl (.inl h)
theorem ar.of(h:H a=some (.tup xs)):ar K H a xs:=.inl (.inl h)
theorem Inv.list(I:Inv X pins σ H s)(h:aj X.K H a xs):∃its:List Value,Vals xs its/\PlainL s.heap a its.toArray/\xs.length<=sizeLine:=by
 rcases h with h|⟨o,its,n,hk,hc,hd,hs,hz,r⟩
 ·obtain⟨z,its,n,r,e⟩:=h.ok I.ah;exact⟨its,r,⟨_,n,e,rfl,rfl,rfl⟩,z⟩
 ·refine⟨its.toList,r,⟨o,n,I.bK a o hk,hc,hd,by simpa using hs⟩,?_⟩;have e:=r.length;simp only[aK] at e;lia
theorem Inv.tuple(I:Inv X pins σ H s)(h:ar X.K H a xs):∃its:List Value,Vals xs its/\IsTup s.heap a its.toArray/\xs.length<=sizeLine:=by
 rcases h with h|⟨o,its,n,hk,hc,hs,hz,r⟩
 ·obtain⟨z,its,r,p⟩:=h.ok I.ah;exact⟨its,r,p,z⟩
 ·refine⟨its.toList,r,⟨o,I.bK a o hk,hc,n,by simpa using hs⟩,?_⟩;have e:=r.length;simp only[aK] at e;lia
variable{ys:List V}
theorem Inv.GB(I:Inv X pins σ H s)(h:aj X.K H a xs)(h':aj X.K H a ys):xs=ys:=by
 obtain⟨its,r,⟨o,n,e,_,_,d⟩,_⟩:=I.list h;obtain⟨its',r',⟨o',n',e',_,_,d'⟩,_⟩:=I.list h';rw[e] at e';cases e';rw[d] at d';injection d' with d1 _;have:its=its':=by simpa using congrArg Array.toList d1
 subst this;exact r.inj r'
theorem Inv.Zrl(I:Inv X pins σ H s)(h:ar X.K H a xs)(h':ar X.K H a ys):xs=ys:=by
 obtain⟨its,r,⟨o,e,_,n,d⟩,_⟩:=I.tuple h;obtain⟨its',r',⟨o',e',_,n',d'⟩,_⟩:=I.tuple h';rw[e] at e';cases e';rw[d] at d';injection d' with d1 _;have:its=its':=by simpa using congrArg Array.toList d1
 subst this;exact r.inj r'
abbrev Cx.my(X:Cx)(E:Value->Shared->Prop):Cx:={ X with xe:=E }
abbrev Cx.BC(X:Cx):Cx:=X.my λ_ _=>False
theorem Cx.Ok.my{X:Cx}(ok:X.Ok)(E:Value->Shared->Prop):(X.my E).Ok :=
 ⟨ok.mod,ok.kind,ok.glob,ok.blt,ok.above,ok.inj,ok.has,ok.ko,ok.hd,ok.frames,ok.mw,ok.jH,ok.bs,ok.gh,ok.kK,ok.jI,ok.fj,ok.iZ⟩
theorem Cx.Ok.qe(ok:(X.my E).Ok):X.Ok :=
 ⟨ok.mod,ok.kind,ok.glob,ok.blt,ok.above,ok.inj,ok.has,ok.ko,ok.hd,ok.frames,ok.mw,ok.jH,ok.bs,ok.gh,ok.kK,ok.jI,ok.fj,ok.iZ⟩
theorem Inv.my(I:Inv X pins σ H s)(E:Value->Shared->Prop):Inv (X.my E) pins σ H s:=⟨I.ok.my E,I.os,I.bare,I.base,I.loc,I.cell,I.free,I.ee,I.pin,I.ah,I.len⟩
theorem Inv.qe(I:Inv (X.my E) pins σ H s):Inv X pins σ H s:=⟨I.ok.qe,I.os,I.bare,I.base,I.loc,I.cell,I.free,I.ee,I.pin,I.ah,I.len⟩
theorem SP.qe{D:Ends}{f:Flow}{s':Shared}(h:SP (X.my E) pins D f s'):SP X pins D f s':=by
 cases f with
 | next=>obtain⟨ao,H',I,q⟩:=h;exact⟨ao,H',I.qe,q⟩
 | brk=>obtain⟨ao,H',I,q⟩:=h;exact⟨ao,H',I.qe,q⟩
 | cont=>obtain⟨ao,H',I,q⟩:=h;exact⟨ao,H',I.qe,q⟩
 | ret u=>obtain⟨v,ao,H',I,r,q⟩:=h;exact⟨v,ao,H',I.qe,r,q⟩
variable{t:TS}
theorem cF.BC{st:List Stmt}(h:cF X.BC st t):cF X st t:=λpins s σ H D I hw =>
 cw (h pins s σ H D (I.my _) hw) (λ_ _ q=>q.qe) λ_ _ z=>False.elim z
def Vr:TS:=λD σ H=>D.nx σ H
def V0(t u:TS):TS:=λD σ H=>t { D with nx:=u D } σ H
theorem ZQ:cF X [] Vr:=λ_ _ σ H _ I h=>wpAny_execs_nil ⟨σ,H,I,h⟩
variable{u:TS}{rest:List Stmt}{st:Stmt}
theorem Zd(h1:PS X st t)(h2:cF X rest u):cF X (st::rest) (V0 t u):=by
 intro pins s σ H D I h;refine wpAny_execs_cons (ap (h1 pins s σ H { D with nx:=u D } I h) λf s1 q=>?_);cases f with
 | next =>
  obtain⟨ao,H',I',q⟩:=q;exact h2 pins s1 ao H' D I' q
 | ret v=>exact q
 | brk=>exact q
 | cont=>exact q
theorem Zj(h1:PS X st t):cF X [st] t:=by
 intro pins s σ H D I h;refine wpAny_execs_cons (ap (h1 pins s σ H D I h) λf s1 q=>?_);cases f with
 | next=>exact wpAny_execs_nil q
 | ret v=>exact q
 | brk=>exact q
 | cont=>exact q
theorem Inv.quiet(I:Inv X pins σ H s):interactive X.env=false:=by simp[interactive,I.ok.kind]
def Vg(te:TE):TS:=λD σ H=>te σ H λ_ H1=>D.nx σ H1
variable{te:TE}
theorem ij(he:PE X e te)(hs:swapsWith e none pos.line X.env=pure false:=by rfl):PS X (.Expr e pos) (Vg te):=by
 intro pins s σ H D I h;exact wpAny_Expr_any (ap (he pins s σ H _ I h) λv s1 ⟨x,H1,I1,r1,q1⟩=>⟨σ,H1,I1,q1⟩) I.quiet hs
def L3(te:TE):TS:=λD σ H=>te σ H D.rt
theorem Z3(he:PE X e te):PS X (.Return (some e) pos) (L3 te):=by
 intro pins s σ H D I h;exact wpAny_Return_some (ap (he pins s σ H _ I h) λv s1 ⟨x,H1,I1,r1,q1⟩=>⟨x,σ,H1,I1,r1,q1⟩)
def Vf:TS:=λD _ H=>D.rt .aG H
theorem TQ:PS X (.Return none pos) Vf:=λ_ _ σ H _ I h=>wpAny_Return_none ⟨.aG,σ,H,I,rfl,h⟩
def Wa(c:TT)(t u:TS):TS:=λD σ H=>c σ H λb H1=>if b=true then t D σ H1 else u D σ H1
variable{c:Expr}{tc:TT}
theorem c5{a b:List Stmt}(hc:PT X c tc)(ha:cF X a t)(hb:cF X b u):PS X (.If c a b pos) (Wa tc t u):=by
 intro pins s σ H D I h;refine wpAny_If (ap (hc pins s σ H _ I h) λd s1 ⟨H1,I1,q1⟩=>?_);cases d with
 | true=>exact ha pins s1 σ H1 D I1 q1
 | false=>exact hb pins s1 σ H1 D I1 q1
def VH:TS:=λ_ _ _=>False
theorem z8:PS X st VH:=λ_ _ _ _ _ _ h=>h.elim
abbrev TG:=V->St->Hp->(St->Hp->Prop)->Prop
abbrev oN:=List V->St->Hp->(St->Hp->Prop)->Prop
def PG(X:Cx)(target:Expr)(t:TG):Prop :=
 ∀(pins:List (Addr×Obj))(s:Shared)(σ : St)(H:Hp)(v:V)(u:Value)(Q:St->Hp->Prop),Inv X pins σ H s->RelV v u->t v σ H Q ->
  wpAny (model X.prog X.w) X.A (assign target X.env u) (λ_ s'=>∃ ao H',Inv X pins ao H' s'/\Q ao H') X.xe s
def vR(X:Cx)(ts:List Expr)(t:oN):Prop :=
 ∀(pins:List (Addr×Obj))(s:Shared)(σ : St)(H:Hp)(vs:List V)(us:List Value)(Q:St->Hp->Prop),Inv X pins σ H s->Vals vs us->t vs σ H Q ->
  wpAny (model X.prog X.w) X.A (assignInOrder ((assignEach ts X.env).map (·.2)) us) (λ_ s'=>∃ ao H',Inv X pins ao H' s'/\Q ao H') X.xe s
def uh(i:Nat):TG:=λv σ H Q=>Q (σ.set i (some v)) H
theorem Zq(hN:X.N.Nodup)(hi:X.N[i]?= some x)(hx:Loc X.env.scope x)(hf:X.fn x=true\/X.env.scope.names.lookup x=some .local:=by first|exact .inl rfl|exact .inr rfl|assumption):PG X (.Name x pos) (uh i):=by
 intro pins s σ H v u Q I r h;exact wpAny_assign_Name (Km I hN hi hx r (λs' I'=>⟨_,H,I',h⟩) hf)
def VX:oN:=λvs σ H Q=>vs=[]/\Q σ H
def Vv(t:TG)(u:oN):oN:=λvs σ H Q=>∃v r,vs=v::r/\t v σ H λao H'=>u r ao H' Q
theorem wF:vR X [] VX:=by
 intro pins s σ H vs us Q I r h;obtain⟨e,h⟩:=h;subst e;cases r;exact assignInOrder_nil ⟨σ,H,I,h⟩
variable{es:List Expr}
theorem Z2{t:TG}{u:oN}(h1:PG X e t)(h2:vR X es u)
  (hs:(assignEach (e::es) X.env).map (·.2)=assign e X.env::(assignEach es X.env).map (·.2):=by rfl):vR X (e::es) (Vv t u):=by
 intro pins s σ H vs us Q I r h;obtain⟨v,vr,e1,h⟩:=h;subst e1;cases r with
 | cons r rr =>
  rw[hs];refine assignInOrder_cons (ap (h1 pins s σ H _ _ _ I r h) λ_ s1 ⟨vc,H1,I1,q1⟩=>?_);exact h2 pins s1 vc H1 _ _ Q I1 rr q1
def L8(K:PySem.W.Frag)(n:Nat)(t:oN):TG:=λv σ H Q=>∃a xs,v=.ref a/\ar K H a xs/\xs.length=n/\t xs σ H Q
variable{n:Nat}
theorem wM{k:Nat}{t:oN}(hc:X.calm=true)(h:vR X es t)
  (hn:(assignEach es X.env).length=n:=by rfl) (bY:(assignEach es X.env).findIdx? (·.1)=none:=by rfl):PG X (.Tuple es k pos) (L8 X.K n t):=by
 intro pins s σ H v u Q I r hw;obtain⟨a,xs,e1,hq,hl,hw⟩:=hw;subst e1;cases r;obtain⟨its,rv,ht,hz⟩:=I.tuple hq;refine assign_Tuple_tuple (I.ok.hd hc) ht (by simp[hn,<- hl,rv.length]) bY λh' hx=>?_;have I1:Inv X pins σ H { s with heap:=h' }:=I.kept (t':=s.toks) λb o e=>hx b o (aV (aH e)) e;exact h pins _ σ H xs _ Q I1 (by simpa using rv) hw
def Eg(te:TE)(g:TG):TS:=λD σ H=>te σ H λx H1=>g x σ H1 D.nx
variable{pos':Pos}
theorem Zz(hN:X.N.Nodup)(hi:X.N[i]?= some x)(hx:Loc X.env.scope x)(he:PE X e te)(hs:swapsWith e (some (.Name x pos')) pos.line X.env=pure false:=by rfl)(hf:X.fn x=true\/X.env.scope.names.lookup x=some .local:=by first|exact .inl rfl|exact .inr rfl|assumption) :
  PS X (.Assign [.Name x pos'] e pos) (Eg te (uh i)):=by
 intro pins s σ H D I h;refine wpAny_Assign_Name (ap (he pins s σ H _ I h) λv s1 ⟨y,H1,I1,r1,q1⟩=>?_) hs;exact Km I1 hN hi hx r1 (λs2 I2=>⟨_,H1,I2,q1⟩) hf
def Vh(c:TT)(tb:TS):TS:=λD σ H=>∃W:Nat->St->Hp->Prop,(∃m,W m σ H)/\∀m σ H,W m σ H ->
 c σ H λb H1=>if b=true then ∃N:St->Hp->Prop,(∀ ao H',N ao H'->∃m',m'<m/\W m' ao H')/\tb { D with nx:=N,ct:=N,bk:=D.nx } σ H1 else D.nx σ H1
variable{tb:TS}{body:List Stmt}
theorem SO(hp:PassesOwn (model X.prog X.w) X.A X.env X.xe)(hc:PT X c tc)(hb:cF X body tb):PS X (.While c body [] pos) (Vh tc tb):=by
 intro pins s σ H D I h;obtain⟨W,⟨m0,w0⟩,turn⟩:=h;refine wpAny_While (codeAny_whileLoop (λn s'=>∃ ao H',Inv X pins ao H' s'/\W n ao H') ?_ m0 ⟨σ,H,I,w0⟩);rintro n s1 ⟨vc,H1,I1,w1⟩;refine tf hp (ap (hc pins s1 vc H1 _ I1 (turn n vc H1 w1)) λb s2 ⟨H2,I2,q2⟩=>?_);cases b with
 | true =>
  obtain⟨N,hN,q2⟩:=q2;rw[ai rfl];refine tf hp (ap (hb pins s2 vc H2 _ I2 q2) λf s3 q3=>?_);cases f with
  | next =>
   obtain⟨aC,H3,I3,n3⟩:=q3;obtain⟨m',hm,w3⟩:=hN aC H3 n3;exact⟨m',hm,aC,H3,I3,w3⟩
  | cont =>
   obtain⟨aC,H3,I3,n3⟩:=q3;obtain⟨m',hm,w3⟩:=hN aC H3 n3;exact⟨m',hm,aC,H3,I3,w3⟩
  | brk=>exact q3
  | ret v=>exact q3
 | false =>
  rw[ag dW];exact wpAny_execs_nil ⟨vc,H2,I2,q2⟩
structure It where
 go:Nat->Hp->Prop
 fB:Nat->Hp->V->Hp->Prop
 stop:Nat->Hp->Prop
def bt(X:Cx)(pins:List (Addr×Obj))(H:Hp)(b:Addr):Prop :=
 H b=none/\b≠X.env.locals/\b∉X.fs/\(b∈X.ex\/X.cO.heap.objs.size<=b)/\(∀x c,X.env.cells.lookup x=some c->c≠b)/\∀p∈X.pn++pins,p.1≠b
theorem Inv.iY{H':Hp}{b:Addr}(I:Inv X pins σ H s)(hb:s.heap.objs.size<=b)(hn:H' b=none):bt X pins H' b:=by
 refine⟨hn,sX (cf I.lt hb),I.BB hb,.inr (bD I.sz hb),λx c e z=>?_,λp hp z=>?_⟩
 ·obtain⟨v,q⟩:=I.cell x c e;exact absurd (cf q.lt (by rw[z];exact hb)) (cD _)
 ·exact absurd (cf (aH (I.pin p hp).1) (by rw[z];exact hb)) (cD _)
structure Turn(P:Program)(w:World)(K:PySem.W.Frag)(tg:Expr)(J:It)(fp:List Addr)(it:Addr)(tn:Nat->Heap->Prop):Prop where
 mem:it∈fp
 obj:∀i h,tn i h->∀b∈fp,∃o,h.get? b=some o/\∀v,o.data ≠ .cell v
 keep:∀i h h',tn i h->(∀b∈fp,∀o,h.get? b=some o->h'.get? b=some o)->tn i h'
 item:∀(X:Cx),X.prog=P->X.w=w->X.K=K->X.calm=true->∀(i:Nat)(pins:List (Addr×Obj))(s:Shared)(σ : St)(H:Hp)(E:Value->Shared->Prop),Inv X pins σ H s->(∀b∈fp,bt X pins H b)->tn i s.heap->J.go i H ->
  wpAny (model P w) X.A (pyNext (.ref it)) (λr s1=>∃u,r=some u /\
   wpAny (model P w) X.A (letOwnedTupleGo tg (.ref it) u) (λ_ s2=>∃x H',Inv X pins σ H' s2/\RelV x u/\J.fB i H x H'/\tn (i+1) s2.heap/\∀b∈fp,H' b=none) E s1) E s
 done:∀(X:Cx),X.prog=P->X.w=w->X.K=K->X.calm=true->∀(i:Nat)(pins:List (Addr×Obj))(s:Shared)(σ : St)(H:Hp)(E:Value->Shared->Prop),Inv X pins σ H s->(∀b∈fp,bt X pins H b)->tn i s.heap->J.stop i H ->
  wpAny (model P w) X.A (pyNext (.ref it)) (λr s1=>r=none/\Inv X pins σ H s1) E s
 self:∀(A:Around)(i:Nat)(s:Shared)(Q:Value->Shared->Prop)(E:Value->Shared->Prop),tn i s.heap->Q (.ref it) s->wpAny (model P w) A (pyIter (.ref it)) Q E s
abbrev TI:=St->Hp->(It->Hp->Prop)->Prop
def HS(X:Cx)(pins:List (Addr×Obj))(σ : St)(tg:Expr)(R:It->Hp->Prop)(yc:Value)(s2:Shared):Prop :=
 ∃(it:Addr)(fp:List Addr)(tn:Nat->Heap->Prop)(J:It)(H':Hp),yc=.ref it/\Inv X pins σ H' s2/\Turn X.prog X.w X.K tg J fp it tn/\tn 0 s2.heap/\(∀b∈fp,bt X pins H' b)/\R J H'
def PI(X:Cx)(tg iter:Expr)(wi:TI):Prop :=
 ∀(pins:List (Addr×Obj))(s:Shared)(σ : St)(H:Hp)(R:It->Hp->Prop),Inv X pins σ H s->wi σ H R ->
  wpAny (model X.prog X.w) X.A (eval iter X.env) (λv s1=>wpAny (model X.prog X.w) X.A (pyIter v) (HS X pins σ tg R) X.xe s1) X.xe s
variable{u:Value}{tg:Expr}
theorem uj{it:Addr}{n:String}{vs:Array Value}{Q:Unit->Shared->Prop}(ho:s.heap.get? it=some o)(hc:o.cls=.type n)(hd:o.data=.fields vs)
    (hn:["enumerate","zip","dict_itemiterator","dict_reverseitemiterator","odict_iterator","itertools.zip_longest","itertools.pairwise"].contains n=false) (hQ:Q () s):wpAny M A (letOwnedTupleGo tg (.ref it) u) Q E s:=by
  unfold letOwnedTupleGo;cases tg <;> first
    | exact af hQ
    | (cases u <;> first
        | exact af hQ
        | (refine ae (wpAny_load ho ?_)
           rw[hc,hd];show wpAny M A (if(["enumerate","zip","dict_itemiterator","dict_reverseitemiterator","odict_iterator","itertools.zip_longest","itertools.pairwise"].contains n&&vs[0]? == some (rawInt _))=true then _ else _) Q E s
           rw[ag (by intro h;rw[hn,Bool.false_and] at h;cases h)];exact af hQ))
def oK(K:PySem.W.Frag)(a:Addr):It :=
 ⟨λi H=>∃xs x,aj K H a xs/\xs[i]?= some x,λi H x H'=>H'=H/\∀xs,aj K H a xs->xs[i]?= some x,λi H=>∃xs,aj K H a xs/\xs.length<=i⟩
def j8(K:PySem.W.Frag)(a:Addr):It :=
 ⟨λi H=>∃xs x,ar K H a xs/\xs[i]?= some x,λi H x H'=>H'=H/\∀xs,ar K H a xs->xs[i]?= some x,λi H=>∃xs,ar K H a xs/\xs.length<=i⟩
def mU(lo:Int)(n:Nat):It:=⟨λi _=>i<n,λi H x H'=>H'=H/\x=.int (lo+i),λi _=>n<=i⟩
theorem SA(a it:Addr):Turn P w K tg (oK K a) [it] it (λi h=>h.IsListIter it a i) where
 mem:=by simp
 obj:=λi h st b hb=>by
  have e:b=it:=by simpa using hb
  subst e;obtain⟨o,e,c,d⟩:=st;exact⟨o,e,λv z=>by rw[d] at z;cases z⟩
 keep:=λi h h' st k=>st.at λo e=>k it (by simp) o e
 item:=by
  intro X hP hw hK hc i pins s σ H E I hf st hg;subst hP hw hK;obtain⟨xs,x,hq,hx⟩:=hg;obtain⟨its,rv,p,hz⟩:=I.list hq;obtain⟨u,hu,ru⟩:=rv.get hx;obtain⟨f0,f1,f2,f3,f4,f5⟩:=hf it (by simp);refine wpAny_pyNext_list_item st p.isList (x:=u) (by simpa using hu) λh' bq sb=>?_;have I1:Inv X pins σ H { s with heap:=h' }:=I.turned (t':=s.toks) (λb o hb e=>(sb.2 b hb).trans e) f0 f1 f3 f4 f5;obtain⟨o,e,c,d⟩:=id bq;exact⟨u,rfl,uj (s:={ s with heap:=h' }) e c d (by decide) ⟨x,H,I1,ru,⟨rfl,λys hy=>by rw[I.GB hy hq];exact hx⟩,bq,λb hb=>(hf b hb).1⟩⟩
 done:=by
  intro X hP hw hK hc i pins s σ H E I hf st hg;subst hP hw hK;obtain⟨xs,hq,hx⟩:=hg;obtain⟨its,rv,p,hz⟩:=I.list hq;obtain⟨f0,f1,f2,f3,f4,f5⟩:=hf it (by simp);have hl:=rv.length;exact wpAny_pyNext_list_end (I.ok.hd hc) st p.isList (by simp;lia) λh' eb=>⟨rfl,I.turned (t':=s.toks) (λb o hb e=>eb b o hb e) f0 f1 f3 f4 f5⟩
 self:=λ_ _ _ _ _ st h=>wpAny_pyIter_listiter st h
theorem Rw(a it:Addr):Turn P w K tg (j8 K a) [it] it (λi h=>h.IsTupleIter it a i) where
 mem:=by simp
 obj:=λi h st b hb=>by
  have e:b=it:=by simpa using hb
  subst e;obtain⟨o,e,c,d⟩:=st;exact⟨o,e,λv z=>by rw[d] at z;cases z⟩
 keep:=λi h h' st k=>st.at λo e=>k it (by simp) o e
 item:=by
  intro X hP hw hK hc i pins s σ H E I hf st hg;subst hP hw hK;obtain⟨xs,x,hq,hx⟩:=hg;obtain⟨its,rv,p,hz⟩:=I.tuple hq;obtain⟨u,hu,ru⟩:=rv.get hx;obtain⟨f0,f1,f2,f3,f4,f5⟩:=hf it (by simp);refine wpAny_pyNext_tuple_item st (show s.heap.IsTuple a its.toArray from p) (x:=u) (by simpa using hu) λh' bq sb=>?_;have I1:Inv X pins σ H { s with heap:=h' }:=I.turned (t':=s.toks) (λb o hb e=>(sb.2 b hb).trans e) f0 f1 f3 f4 f5;obtain⟨o,e,c,d⟩:=id bq;exact⟨u,rfl,uj (s:={ s with heap:=h' }) e c d (by decide) ⟨x,H,I1,ru,⟨rfl,λys hy=>by rw[I.Zrl hy hq];exact hx⟩,bq,λb hb=>(hf b hb).1⟩⟩
 done:=by
  intro X hP hw hK hc i pins s σ H E I hf st hg;subst hP hw hK;obtain⟨xs,hq,hx⟩:=hg;obtain⟨its,rv,p,hz⟩:=I.tuple hq;obtain⟨f0,f1,f2,f3,f4,f5⟩:=hf it (by simp);have hl:=rv.length;exact wpAny_pyNext_tuple_end (I.ok.hd hc) st (show s.heap.IsTuple a its.toArray from p) (by simp;lia) λh' eb=>⟨rfl,I.turned (t':=s.toks) (λb o hb e=>eb b o hb e) f0 f1 f3 f4 f5⟩
 self:=λ_ _ _ _ _ st h=>wpAny_pyIter_tupleiter st h
theorem Rf(it:Addr)(lo:Int)(n:Nat):Turn P w K tg (mU lo n) [it] it (λi h=>IsRangeIter h it (lo+(i:Nat)*1) ((n:Int)-(i:Nat)) 1) where
 mem:=by simp
 obj:=λi h st b hb=>by
  have e:b=it:=by simpa using hb
  subst e;exact⟨_,st,λv z=>by
   have z':Data.fields _=Data.cell v:=z;cases z'⟩
 keep:=λi h h' st k=>k it (by simp) _ st
 item:=by
  intro X hP hw hK hc i pins s σ H E I hf st hg;subst hP hw hK;obtain⟨f0,f1,f2,f3,f4,f5⟩:=hf it (by simp);have W:=Walks.range (prog:=X.prog) (w:=X.w) (I.ok.hd hc) it lo 1 n;refine W.item i s _ _ hg st λv h' tk hv bq kk=>?_;obtain⟨t,rfl⟩:=hv;have I1:Inv X pins σ H { s with heap:=h',toks:=tk }:=I.turned (λb o hb e=>kk b o (by simpa using hb) e) f0 f1 f3 f4 f5;refine⟨_,rfl,uj (s:={ s with heap:=h',toks:=tk }) (n := "range_iterator") bq rfl rfl (by decide) ⟨.int (lo+i),H,I1,⟨t,?_⟩,⟨rfl,rfl⟩,bq,λb hb=>(hf b hb).1⟩⟩;rw[Int.mul_one]
 done:=by
  intro X hP hw hK hc i pins s σ H E I hf st hg;subst hP hw hK;obtain⟨f0,f1,f2,f3,f4,f5⟩:=hf it (by simp);exact wpAny_pyNext_range_end (I.ok.hd hc) st (by have:n<=i:=hg;lia) λh' eb=>⟨rfl,I.turned (t':=s.toks) (λb o hb e=>eb b o hb e) f0 f1 f3 f4 f5⟩
 self:=λ_ _ _ _ _ st h=>wpAny_pyIter_rangeiter st h
def Ve(K:PySem.W.Frag)(tl:TE):TI:=λσ H R=>tl σ H λx H1=>∃a,x=.ref a/\(∃xs,aj K H1 a xs)/\R (oK K a) H1
def Wq(K:PySem.W.Frag)(tl:TE):TI:=λσ H R=>tl σ H λx H1=>∃a,x=.ref a/\(∃xs,ar K H1 a xs)/\R (j8 K a) H1
variable{l:Expr}{tl:TE}
theorem iU(hl:PE X l tl):PI X tg l (Ve X.K tl):=by
 intro pins s σ H R I h;refine ap (hl pins s σ H _ I h) λv s1 ⟨x,H1,I1,r1,q1⟩=>?_;obtain⟨a,e,⟨xs,hq⟩,q⟩:=q1;subst e;cases r1;obtain⟨its,rv,p,hz⟩:=I1.list hq;refine ti p.isList ?_;refine⟨s1.heap.objs.size,[s1.heap.objs.size],_,_,H1,rfl,I1.kept (t':=s1.toks) λb o e=>ax _ e,SA a _,⟨_,bo _ rfl,rfl,rfl⟩,λb hb=>?_,q⟩;have e:b=s1.heap.objs.size:=by simpa using hb
 subst e;exact I1.iY (aq _) (I1.ah.fresh (aq _))
theorem lI(hl:PE X l tl):PI X tg l (Wq X.K tl):=by
 intro pins s σ H R I h;refine ap (hl pins s σ H _ I h) λv s1 ⟨x,H1,I1,r1,q1⟩=>?_;obtain⟨a,e,⟨xs,hq⟩,q⟩:=q1;subst e;cases r1;obtain⟨its,rv,p,hz⟩:=I1.tuple hq;refine wpAny_pyIter_tuple (show s1.heap.IsTuple a its.toArray from p) ?_;refine⟨s1.heap.objs.size,[s1.heap.objs.size],_,_,H1,rfl,I1.kept (t':=s1.toks) λb o e=>ax _ e,Rw a _,⟨_,bo _ rfl,rfl,rfl⟩,λb hb=>?_,q⟩;have e:b=s1.heap.objs.size:=by simpa using hb
 subst e;exact I1.iY (aq _) (I1.ah.fresh (aq _))
variable{lo:Int}
theorem SU{R:It->Hp->Prop}{hi:Int}{t u v:Tok}{tk:Nat}(I:Inv X pins σ H s)(h1 : -(2 ^ 62)<=lo)(h2:lo<2 ^ 62)(h3 : -(2 ^ 62)<=hi)(h4:hi<2 ^ 62)
  (q:R (mU lo (hi-lo).toNat) H):wpAny (model X.prog X.w) X.A (pyIter (.ref s.heap.objs.size)) (HS X pins σ tg R) E { s with heap:=s.heap.push { cls:=.type "range",data:=.fields #[.int lo t,.int hi u,.int 1 v] },toks:=tk }:=by
 refine wpAny_pyIter_range (IsRange.new ..) (small_one h1 h2 h3 h4) ?_;have I1:Inv X pins σ H { s with heap:=s.heap.push { cls:=.type "range",data:=.fields #[.int lo t,.int hi u,.int 1 v] },toks:=tk }:=I.kept λb o e=>ax _ e;refine⟨(s.heap.push { cls:=.type "range",data:=.fields #[.int lo t,.int hi u,.int 1 v] }).objs.size,[(s.heap.push { cls:=.type "range",data:=.fields #[.int lo t,.int hi u,.int 1 v] }).objs.size],_,_,H,rfl,
  I1.kept (t':=tk) λb o e=>ax _ e,Rf _ lo (hi-lo).toNat,?_,λb hb=>?_,q⟩
 ·have e1:lo+((0:Nat):Int)*1=lo:=by simp
  have e2:(((hi-lo).toNat:Nat):Int)-((0:Nat):Int)=Builtin.Range.rangeSize lo hi 1:=by rw[rangeSize_one];split <;> lia
  show IsRangeIter _ _ (lo+((0:Nat):Int)*1) ((((hi-lo).toNat:Nat):Int)-((0:Nat):Int)) 1;rw[e1,e2];exact bo _ rfl
 ·have e:b=(s.heap.push { cls:=.type "range",data:=.fields #[.int lo t,.int hi u,.int 1 v] }).objs.size:=by simpa using hb
  subst e;exact I1.iY (aq _) (I1.ah.fresh (aq _))
def Vs(ta:TA):TI:=λσ H R=>ta σ H λvs H1=>∃j:Int,vs=[.int j] /\ -(2 ^ 62)<=j/\j<2 ^ 62/\R (mU 0 j.toNat) H1
theorem zR{a:Expr}{ta:TA}{p:Pos}(hg:Gl X "range") (hm:X.mg "range" = none) (ha:PA X [a] ta) (hs:starEach [a] X.env=[(false,eval a X.env)]:=by rfl):PI X tg (.Call (.Name "range" p) [a] [] pos) (Vs ta):=by
 intro pins s σ H R I h;refine Call_ (kl I hg hm boot_range (vz (ap (ha pos pins s σ H _ I h) λus s1 ⟨vs,H1,I1,r1,q1⟩=>?_) hs rfl));obtain⟨j,e,q1,q2,q⟩:=q1;subst e;cases r1 with
 | cons r rr =>
  cases rr;obtain⟨t,rfl⟩:=r;exact call_range_1 (SU I1 (by lia) (by lia) q1 q2 (by simpa using q))
def V_(wi:TI)(g:TG)(tb:TS):TS:=λD σ H=>wi σ H λJ H1=>∃W:Nat->Nat->St->Hp->Prop,(∃m,W 0 m σ H1)/\∀i m σ H,W i m σ H ->
 (J.stop i H/\D.nx σ H)\/(J.go i H/\∃N:St->Hp->Prop,(∀ ao H',N ao H'->∃m',m'<m/\W (i+1) m' ao H')/\∀x H',J.fB i H x H'->g x σ H' λei H2=>tb { D with nx:=N,ct:=N,bk:=D.nx } ei H2)
def An(fp:List Addr)(h:Heap):List (Addr×Obj):=fp.filterMap λb=>(h.get? b).map λo=>(b,o)
variable{fp:List Addr}
theorem oR{b:Addr}(hb:b∈fp)(e:h.get? b=some o):(b,o)∈An fp h:=List.mem_filterMap.mpr ⟨b,hb,by rw[e];rfl⟩
theorem RK{p:Addr×Obj}(hp:p∈An fp h):p.1∈fp/\h.get? p.1=some p.2:=by
 obtain⟨b,hb,e⟩:=List.mem_filterMap.mp hp;cases q:h.get? b with
 | none=>rw[q] at e;cases e
 | some o =>
  rw[q] at e;have e':(b,o)=p:=cE e;subst e';exact⟨hb,q⟩
theorem Inv.pinned(I:Inv X pins σ H s)(hf:∀b∈fp,bt X pins H b)(ho:∀b∈fp,∃o,s.heap.get? b=some o/\∀v,o.data ≠ .cell v):Inv X (pins++An fp s.heap) σ H s :=
 I.yu λp hp=>(bc.mp hp).elim (λz=>I.pin p (bO _ z)) λz=>by
  obtain⟨hb,e⟩:=RK z;obtain⟨f0,f1,f2,_⟩:=hf p.1 hb;obtain⟨o,e',d⟩:=ho p.1 hb;rw[e] at e';cases e';exact⟨e,f0,f1,f2,d⟩
theorem Inv.sM{pl:List (Addr×Obj)}(I:Inv X (pins++pl) σ H s):Inv X pins σ H s:=I.yu λp hp=>I.pin p (bO _ (dy _ hp))
variable{g:TG}
theorem e_{iter:Expr}{wi:TI}(hp:PassesOwn (model X.prog X.w) X.A X.env X.xe)(hc:X.calm=true)(hi:PI X tg iter wi)(hg:PG X tg g)(hb:cF X body tb)
  (hs:∀x,foldedSetIterable iter X.env x=pure x:=by intro _;rfl):PS X (.For tg iter body [] pos) (V_ wi g tb):=by
 intro pins s σ H D I h;refine wpAny_For (ap (hi pins s σ H _ I h) λv s1 h1=>ap h1 λyc s2 h2=>?_) hs;obtain⟨it,fp,tn,J,H2,e,I2,T,cT,f2,W,⟨m0,w0⟩,turn⟩:=h2;subst e;have kX:∀{H':Hp},(∀b∈fp,H' b=none)->∀b∈fp,bt X pins H' b:=λhn b hb=>⟨hn b hb,(f2 b hb).2⟩;refine codeAny_forLoop_any (λn s'=>∃i ao H',Inv X pins ao H' s'/\tn i s'.heap/\(∀b∈fp,H' b=none)/\W i n ao H') ?_ m0 ⟨0,σ,H2,I2,cT,λb hb=>(f2 b hb).1,w0⟩;rintro n s3 ⟨i,aC,H3,I3,gB,MJ,w3⟩;rcases turn i n aC H3 w3 with⟨stop,qn⟩|⟨go,N,hN,step⟩
 ·refine tf hp (ap (T.done X rfl rfl rfl hc i pins s3 aC H3 X.xe I3 (kX MJ) gB stop) λr s4 ⟨hr,I4⟩=>?_);subst hr;exact wpAny_execs_nil ⟨aC,H3,I4,qn⟩
 ·refine tf hp (ap (T.item X rfl rfl rfl hc i pins s3 aC H3 X.xe I3 (kX MJ) gB go) λr s4 ⟨u,hr,h4⟩=>?_);subst hr;refine tf hp (ap h4 λ_ s5 ⟨x,H5,I5,r5,y5,kR,rE⟩=>?_);have O7:=I5.pinned (kX rE) (T.obj _ _ kR);refine tf hp (ap (hg _ s5 aC H5 x u _ O7 r5 (step x H5 y5)) λ_ s6 ⟨qh,H6,I6,q6⟩=>?_);refine tf hp (ap (hb _ s6 qh H6 _ I6 q6) λf s7 q7=>?_);have again:∀{k8:St}{H7:Hp},Inv X (pins++An fp s5.heap) k8 H7 s7->N k8 H7->∃m,m<n/\∃i ao H',Inv X pins ao H' s7/\tn i s7.heap/\(∀b∈fp,H' b=none)/\W i m ao H':=λ{k8 H7} I7 n7=>by
   obtain⟨m',hm,w7⟩:=hN k8 H7 n7;refine⟨m',hm,i+1,k8,H7,I7.sM,T.keep _ _ _ kR λb hb o e=>(I7.pin (b,o) (bO _ (bO _ (oR hb e)))).1,λb hb=>?_,w7⟩;obtain⟨o,e,d⟩:=T.obj _ _ kR b hb;exact(I7.pin (b,o) (bO _ (bO _ (oR hb e)))).2.1
  cases f with
  | next=>obtain⟨k8,H7,I7,n7⟩:=q7;exact again I7 n7
  | cont=>obtain⟨k8,H7,I7,n7⟩:=q7;exact again I7 n7
  | brk=>obtain⟨k8,H7,I7,q7⟩:=q7;exact⟨k8,H7,I7.sM,q7⟩
  | ret v=>obtain⟨x7,k8,H7,I7,r7,q7⟩:=q7;exact⟨x7,k8,H7,I7.sM,r7,q7⟩
variable{D:Ends}
theorem mX(Pv:Nat->St->Hp->Prop)(h0:Pv 0 σ H)(hl:∀i σ H,i<=xs.length->Pv i σ H->aj K H a xs)
  (hs:∀i x σ H,xs[i]?= some x->Pv i σ H->g x σ H λei H2=>tb { D with nx:=Pv (i+1),ct:=Pv (i+1),bk:=D.nx } ei H2) (hd:∀ σ H,Pv xs.length σ H->D.nx σ H) :
  ∃W:Nat->Nat->St->Hp->Prop,(∃m,W 0 m σ H)/\∀i m σ H,W i m σ H ->
   ((oK K a).stop i H/\D.nx σ H)\/((oK K a).go i H/\∃N:St->Hp->Prop,(∀ ao H',N ao H'->∃m',m'<m/\W (i+1) m' ao H')/\∀x H',(oK K a).fB i H x H'->g x σ H' λei H2=>tb { D with nx:=N,ct:=N,bk:=D.nx } ei H2):=by
 refine⟨λi m σ H=>m=xs.length-i/\i<=xs.length/\Pv i σ H,⟨xs.length,by simp,bE _,h0⟩,?_⟩;rintro i m σ H ⟨rfl,hi,p⟩;have q:=hl i σ H hi p;by_cases au:i<xs.length
 ·refine .inr ⟨⟨xs,xs[i],q,by simp[au]⟩,Pv (i+1),λao H' p'=>⟨xs.length-(i+1),by lia,rfl,au,p'⟩,λx H' y=>?_⟩;obtain⟨e,y⟩:=y;subst e;exact hs i x σ _ (y xs q) p
 ·have e:i=xs.length:=by lia
  subst e;exact .inl ⟨⟨xs,q,aq _⟩,hd σ H p⟩
theorem wy(Pv:Nat->St->Hp->Prop)(h0:Pv 0 σ H)(hl:∀i σ H,i<=xs.length->Pv i σ H->ar K H a xs)
  (hs:∀i x σ H,xs[i]?= some x->Pv i σ H->g x σ H λei H2=>tb { D with nx:=Pv (i+1),ct:=Pv (i+1),bk:=D.nx } ei H2) (hd:∀ σ H,Pv xs.length σ H->D.nx σ H) :
  ∃W:Nat->Nat->St->Hp->Prop,(∃m,W 0 m σ H)/\∀i m σ H,W i m σ H ->
   ((j8 K a).stop i H/\D.nx σ H)\/((j8 K a).go i H/\∃N:St->Hp->Prop,(∀ ao H',N ao H'->∃m',m'<m/\W (i+1) m' ao H')/\∀x H',(j8 K a).fB i H x H'->g x σ H' λei H2=>tb { D with nx:=N,ct:=N,bk:=D.nx } ei H2):=by
 refine⟨λi m σ H=>m=xs.length-i/\i<=xs.length/\Pv i σ H,⟨xs.length,by simp,bE _,h0⟩,?_⟩;rintro i m σ H ⟨rfl,hi,p⟩;have q:=hl i σ H hi p;by_cases au:i<xs.length
 ·refine .inr ⟨⟨xs,xs[i],q,by simp[au]⟩,Pv (i+1),λao H' p'=>⟨xs.length-(i+1),by lia,rfl,au,p'⟩,λx H' y=>?_⟩;obtain⟨e,y⟩:=y;subst e;exact hs i x σ _ (y xs q) p
 ·have e:i=xs.length:=by lia
  subst e;exact .inl ⟨⟨xs,q,aq _⟩,hd σ H p⟩
theorem JL(Pv:Nat->St->Hp->Prop)(h0:Pv 0 σ H)
  (hs:∀i σ H,i<n->Pv i σ H->g (.int (lo+i)) σ H λei H2=>tb { D with nx:=Pv (i+1),ct:=Pv (i+1),bk:=D.nx } ei H2) (hd:∀ σ H,Pv n σ H->D.nx σ H) :
  ∃W:Nat->Nat->St->Hp->Prop,(∃m,W 0 m σ H)/\∀i m σ H,W i m σ H ->
   ((mU lo n).stop i H/\D.nx σ H)\/((mU lo n).go i H/\∃N:St->Hp->Prop,(∀ ao H',N ao H'->∃m',m'<m/\W (i+1) m' ao H')/\∀x H',(mU lo n).fB i H x H'->g x σ H' λei H2=>tb { D with nx:=N,ct:=N,bk:=D.nx } ei H2):=by
 refine⟨λi m σ H=>m=n-i/\i<=n/\Pv i σ H,⟨n,by simp,bE _,h0⟩,?_⟩;rintro i m σ H ⟨rfl,hi,p⟩;by_cases au:i<n
 ·refine .inr ⟨au,Pv (i+1),λao H' p'=>⟨n-(i+1),by lia,rfl,au,p'⟩,λx H' y=>?_⟩;obtain⟨e,y⟩:=y;subst e y;exact hs i σ _ au p
 ·have e:i=n:=by lia
  subst e;exact .inl ⟨aq _,hd σ H p⟩
abbrev R2:=V->V->Hp->VK->Prop
def dh(X:Cx)(f:Value->Value->Sem Value)(r:R2):Prop :=
 ∀(pins:List (Addr×Obj))(s:Shared)(σ : St)(H:Hp)(x y:V)(v u:Value)(Q:VK),Inv X pins σ H s->RelV x v->RelV y u->r x y H Q ->
  wpAny (model X.prog X.w) X.A (f v u) (EP X pins σ Q) X.xe s
def CH(X:Cx)(f:Value->Sem Value)(r:V->Hp->VK->Prop):Prop :=
 ∀(pins:List (Addr×Obj))(s:Shared)(σ : St)(H:Hp)(x:V)(v:Value)(Q:VK),Inv X pins σ H s->RelV x v->r x H Q ->
  wpAny (model X.prog X.w) X.A (f v) (EP X pins σ Q) X.xe s
def f_(X:Cx)(f:Value)(r:List V->Hp->VK->Prop):Prop :=
 ∀(pins:List (Addr×Obj))(s:Shared)(σ : St)(H:Hp)(xs:List V)(us:List Value)(Q:VK),Inv X pins σ H s->Vals xs us->r xs H Q ->
  wpAny (model X.prog X.w) X.A (call f us) (EP X pins σ Q) X.xe s
def Wg(X:Cx)(r:V->Hp->(Bool->Hp->Prop)->Prop):Prop :=
 ∀(pins:List (Addr×Obj))(s:Shared)(σ : St)(H:Hp)(x:V)(v:Value)(Q:Bool->Hp->Prop),Inv X pins σ H s->RelV x v->r x H Q ->
  wpAny (model X.prog X.w) X.A (truthy v) (TP X pins σ Q) X.xe s
def BO(r:R2)(ta tb:TE):TE:=λσ H Q=>ta σ H λx H1=>tb σ H1 λy H2=>r x y H2 Q
def tUn(r:V->Hp->VK->Prop)(ta:TE):TE:=λσ H Q=>ta σ H λx H1=>r x H1 Q
def rI(C:Int->Int->Prop)(g:Int->Int->V):R2:=λx y H Q=>∃i j,x=.int i/\y=.int j/\C i j/\Q (g i j) H
def sx(g:Int->Int->V):R2:=λx y H Q=>∃i j,x=.int i/\y=.int j/\Q (g i j) H
def rU(g:Int->V):V->Hp->VK->Prop:=λx H Q=>∃i,x=.int i/\Q (g i) H
variable{a:Expr}{tb:TE}
theorem Ec(ha:PE X a ta)(hb:PE X b tb){pins:List (Addr×Obj)}{s:Shared}{σ : St}{H:Hp}{R:V->V->Hp->Prop}(I:Inv X pins σ H s)
  (h:ta σ H λx H1=>tb σ H1 λy H2=>R x y H2) {Q:Value->Shared->Prop} {f:Value->Value->Sem Value}
  (hf:∀v u s2 x y H2,Inv X pins σ H2 s2->RelV x v->RelV y u->R x y H2->wpAny (model X.prog X.w) X.A (f v u) Q X.xe s2) :
  wpAny (model X.prog X.w) X.A (eval a X.env) (λv aL=>wpAny (model X.prog X.w) X.A (eval b X.env) (λu jh=>wpAny (model X.prog X.w) X.A (f v u) Q X.xe jh) X.xe aL) X.xe s:=by
 refine ap (ha pins s σ H _ I h) λv s1 ⟨x,H1,I1,r1,q1⟩=>?_;refine ap (hb pins s1 σ H1 _ I1 q1) λu s2 ⟨y,H2,I2,r2,q2⟩=>?_;exact hf v u s2 x y H2 I2 r1 r2 q2
theorem Zv{op:Operator}{r:R2}(ho:dh X (binaryOp op) r)(ha:PE X a ta)(hb:PE X b tb):PE X (.BinOp a op b pos) (BO r ta tb):=by
 intro pins s σ H Q I h;exact wpAny_BinOp (Ec ha hb I h λv u s2 x y H2 I2 rx ry q=>ho pins s2 σ H2 x y v u Q I2 rx ry q)
theorem Va{op:UnaryOp}{r:V->Hp->VK->Prop}(ho:CH X (unaryOp op) r)(ha:PE X a ta):PE X (.UnaryOp op a pos) (tUn r ta):=by
 intro pins s σ H Q I h;exact UnaryOp_ (ap (ha pins s σ H _ I h) λv s1 ⟨x,H1,I1,r1,q1⟩=>ho pins s1 σ H1 x v Q I1 r1 q1)
variable{g:Int->Int->Int}{f:Value->Value->Sem Value}
theorem GQ{C:Int->Int->Prop}
  (rule:∀(i j:Int)(t u:Tok)(s:Shared)(Q:Value->Shared->Prop)(E:Value->Shared->Prop),C i j->Q (.int (g i j) s.toks) { s with toks:=s.toks+1 }->wpAny (model X.prog X.w) X.A (f (.int i t) (.int j u)) Q E s) :
  dh X f (rI C λi j=>.int (g i j)):=by
 intro pins s σ H x y v u Q I rx ry h;obtain⟨i,j,rfl,rfl,hc,q⟩:=h;obtain⟨t,rfl⟩:=rx;obtain⟨t',rfl⟩:=ry;exact rule i j t t' s _ _ hc ⟨.int (g i j),H,I.tok _,⟨_,rfl⟩,q⟩
theorem L4
  (rule:∀(i j:Int)(t u:Tok)(s:Shared)(Q:Value->Shared->Prop)(E:Value->Shared->Prop),Q (.int (g i j) s.toks) { s with toks:=s.toks+1 }->wpAny (model X.prog X.w) X.A (f (.int i t) (.int j u)) Q E s) :
  dh X f (sx λi j=>.int (g i j)):=by
 intro pins s σ H x y v u Q I rx ry h;obtain⟨i,j,rfl,rfl,q⟩:=h;obtain⟨t,rfl⟩:=rx;obtain⟨t',rfl⟩:=ry;exact rule i j t t' s _ _ ⟨.int (g i j),H,I.tok _,⟨_,rfl⟩,q⟩
theorem Ee{g:Int->Int->Bool}
  (rule:∀(i j:Int)(t u:Tok)(s:Shared)(Q:Value->Shared->Prop)(E:Value->Shared->Prop),Q (.bool (g i j)) s->wpAny (model X.prog X.w) X.A (f (.int i t) (.int j u)) Q E s) :
  dh X f (sx λi j=>.bl (g i j)):=by
 intro pins s σ H x y v u Q I rx ry h;obtain⟨i,j,rfl,rfl,q⟩:=h;obtain⟨t,rfl⟩:=rx;obtain⟨t',rfl⟩:=ry;exact rule i j t t' s _ _ ⟨.bl (g i j),H,I,rfl,q⟩
def Ws(i j:Int):Prop:=0<j/\j<1073741824
def Ei(i j:Int):Prop:=(-(2 ^ 64)<i/\i<2 ^ 64)\/(-(2 ^ 64)<j/\j<2 ^ 64)
variable{i j:Int}
theorem Ei.ok(h:Ei i j):IntMulOk i j:=by
 rcases h with⟨h1,h2⟩|⟨h1,h2⟩
 ·exact .of_left (intBits_le_64 h1 h2)
 ·exact .of_right (intBits_le_64 h1 h2)
theorem d9:dh X (binaryOp .Add) (sx λi j=>.int (i+j)):=L4 λ_ _ _ _ _ _ _ q=>add_int q
theorem Us:dh X (binaryOp .Sub) (sx λi j=>.int (i-j)):=L4 λ_ _ _ _ _ _ _ q=>sub_int q
theorem oY:dh X (binaryOp .Mult) (rI Ei λi j=>.int (i*j)):=GQ λ_ _ _ _ _ _ _ hc q=>mul_int q hc.ok
theorem fM:dh X (binaryOp .FloorDiv) (rI Ws λi j=>.int (i / j)):=GQ λi j _ _ _ _ _ hc q=>by
 have h1:(0:Int)<j:=hc.1;have h2:j<1073741824:=hc.2;exact floordiv_int (by lia) (by rw[Int.fdiv_eq_ediv_of_nonneg i (by lia)];exact q) (.inl (PyProof.noPylong_small (by lia)))
theorem Z7:dh X (binaryOp .Mod) (rI (λ_ j=>0<j) λi j=>.int (i % j)):=GQ λi j _ _ _ _ _ hc q=>by
 have h1:(0:Int)<j:=hc;exact mod_int' (by lia) (by rw[Int.fmod_eq_emod_of_nonneg i (by lia)];exact q)
theorem unI{f:Value->Sem Value}{g:Int->Int}
  (rule:∀(i:Int)(t:Tok)(s:Shared)(Q:Value->Shared->Prop)(E:Value->Shared->Prop),Q (.int (g i) s.toks) { s with toks:=s.toks+1 }->wpAny (model X.prog X.w) X.A (f (.int i t)) Q E s) :
  CH X f (rU λi=>.int (g i)):=by
 intro pins s σ H x v Q I rx h;obtain⟨i,rfl,q⟩:=h;obtain⟨t,rfl⟩:=rx;exact rule i t s _ _ ⟨.int (g i),H,I.tok _,⟨_,rfl⟩,q⟩
theorem VD:CH X (unaryOp .USub) (rU λi=>.int (-i)):=unI λ_ _ _ _ _ q=>neg_int q
def Wi:V->V->Bool
 | .aG,.aG=>true | .aG,.int _=>true | .int _,.aG=>true | .aG,.bl _=>true | .bl _,.aG=>true | .aG,.str _=>true | .str _,.aG=>true
 | .int _,.int _=>true | .bl _,.bl _=>true | .str _,.str _=>true | .jF _,.jF _=>true
 | .int _,.str _=>true | .str _,.int _=>true | .bl _,.str _=>true | .str _,.bl _=>true
 | _,_=>false
def rEq:R2:=λx y H Q=>Wi x y=true/\Q (.bl (decide (x=y))) H
theorem Ud:decide (V.int i=V.int j)=(i == j):=by
 rw[mB];simp
theorem UJ{i j:Bool}:decide (V.bl i=V.bl j)=(i == j):=by
 rw[mB];simp
theorem U3{i j:Str}:decide (V.str i=V.str j)=(i == j):=by
 rw[mB];simp
theorem UR{i j:Array UInt8}:decide (V.jF i=V.jF j)=(i.toList == j.toList):=by
 rw[mB];cases i;cases j;simp
theorem gK{Q:VK}{k k':Bool}(I:Inv X pins σ H s)(q:Q (.bl k) H)(e:k=k'):EP X pins σ Q (.bool k') s:=by
 subst e;exact⟨.bl k,H,I,rfl,q⟩
theorem gM:dh X (compareOp .Eq) rEq:=by
 intro pins s σ H x y v u Q I rx ry h;obtain⟨hs,q⟩:=h;cases x with
 | aG =>
  cases rx;cases y with
  | aG=>cases ry;exact PySem.EqNone.eq_none_none (gK I q (by simp))
  | bl j=>cases ry;exact PySem.EqNone.eq_none_bool (gK I q (by simp))
  | int j=>obtain⟨t',rfl⟩:=ry;exact PySem.EqNone.eq_none_int (gK I q (by simp))
  | str j=>obtain⟨t',rfl⟩:=ry;exact PySem.EqNone.eq_none_str (gK I q (by simp))
  | _=>exact absurd (show false=true from hs) dW
 | bl i =>
  cases rx;cases y with
  | aG=>cases ry;exact PySem.EqNone.eq_bool_none (gK I q (by simp))
  | bl j=>cases ry;exact eq_bool (gK I q UJ)
  | str j=>obtain⟨t',rfl⟩:=ry;exact PySem.EqMixed.eq_bool_str (gK I q (by simp))
  | _=>exact absurd (show false=true from hs) dW
 | int i =>
  obtain⟨t,rfl⟩:=rx;cases y with
  | aG=>cases ry;exact PySem.EqNone.eq_int_none (gK I q (by simp))
  | int j=>obtain⟨t',rfl⟩:=ry;exact eq_int (gK I q Ud)
  | str j=>obtain⟨t',rfl⟩:=ry;exact PySem.EqMixed.eq_int_str (gK I q (by simp))
  | _=>exact absurd (show false=true from hs) dW
 | str i =>
  obtain⟨t,rfl⟩:=rx;cases y with
  | aG=>cases ry;exact PySem.EqNone.eq_str_none (gK I q (by simp))
  | bl j=>cases ry;exact PySem.EqMixed.eq_str_bool (gK I q (by simp))
  | int j=>obtain⟨t',rfl⟩:=ry;exact PySem.EqMixed.eq_str_int (gK I q (by simp))
  | str j=>obtain⟨t',rfl⟩:=ry;exact eq_str (gK I q U3)
  | _=>exact absurd (show false=true from hs) dW
 | jF i =>
  obtain⟨t,rfl⟩:=rx;cases y with
  | jF j=>obtain⟨t',rfl⟩:=ry;exact PySem.W.eq_bytes (gK I q UR)
  | _=>exact absurd (show false=true from hs) dW
 | _=>cases y <;> exact absurd (show false=true from hs) dW
theorem Wn:dh X (compareOp .Lt) (sx λi j=>.bl (decide (i<j))):=Ee λ_ _ _ _ _ _ _ q=>lt_int q
theorem LQ:dh X (compareOp .LtE) (sx λi j=>.bl (decide (i<=j))):=Ee λ_ _ _ _ _ _ _ q=>le_int q
theorem D_:dh X (compareOp .Gt) (sx λi j=>.bl (decide (j<i))):=Ee λ_ _ _ _ _ _ _ q=>gt_int q
theorem dI(b:Expr){op:CmpOp}(h:op ≠ .In:=by decide)(h2:op ≠ .NotIn:=by decide):behindInMarks op b=false:=by
 have e1:(op == CmpOp.In)=false:=by cases op <;> first|rfl|exact absurd rfl h
 have e2:(op == CmpOp.NotIn)=false:=by cases op <;> first|rfl|exact absurd rfl h2
 cases b <;> simp[behindInMarks,e1,e2]
theorem tW{r:R2}(ho:dh X (compareOp op) r)(ha:PE X a ta)(hb:PE X b tb)(hm:behindInMarks op b=false):PE X (.Compare a [op] [b] pos) (BO r ta tb):=by
 intro pins s σ H Q I h;exact wpAny_Compare1 (Ec ha hb I h λv u s2 x y H2 I2 rx ry q=>ho pins s2 σ H2 x y v u Q I2 rx ry q) hm
def Wm(t:TE):TT:=λσ H Q=>t σ H λx H'=>∃k,x=.bl k/\Q k H'
theorem fb{r:R2}(ho:dh X (compareOp op) r)(ha:PE X a ta)(hb:PE X b tb)(hm:behindInMarks op b=false):PT X (.Compare a [op] [b] pos) (Wm (BO r ta tb)):=by
 intro pins s σ H Q I h;refine wpAny_isTrue_Compare1 (ap (ha pins s σ H _ I h) λv s1 ⟨x,H1,I1,r1,q1⟩=>ap (hb pins s1 σ H1 _ I1 q1) λu s2 ⟨y,H2,I2,r2,q2⟩ =>
  ap (ho pins s2 σ H2 x y v u _ I2 r1 r2 q2) λc s3 ⟨z,H3,I3,r3,k,e,q3⟩=>?_) hm
 subst e;cases r3;exact mN ⟨H3,I3,q3⟩
def VC(r r':R2)(ta tb tc:TE):TE:=λσ H Q=>ta σ H λx H1=>tb σ H1 λy H2=>r x y H2 λz H3=>∃k,z=.bl k /\
 (if k=true then tc σ H3 λw' H4=>r' y w' H4 Q else Q (.bl false) H3)
variable{tc:TE}
theorem SN{Cm:CmpOp}{r r':R2}(ho:dh X (compareOp op) r)(bN:dh X (compareOp Cm) r')(ha:PE X a ta)(hb:PE X b tb)(hc:PE X c tc)
  (hm:lastMarks [op,Cm] [b,c]=false:=by with_unfolding_all rfl):PE X (.Compare a [op,Cm] [b,c] pos) (VC r r' ta tb tc):=by
 intro pins s σ H Q I h;refine Compare_chain (ap (ha pins s σ H _ I h) λv s1 ⟨x,H1,I1,r1,q1⟩=>chain_link (ap (hb pins s1 σ H1 _ I1 q1) λu s2 ⟨y,H2,I2,r2,q2⟩ =>
  ap (ho pins s2 σ H2 x y v u _ I2 r1 r2 q2) λd s3 ⟨z,H3,I3,r3,k,e,q3⟩=>?_)) hm
 subst e;cases r3;refine mN ?_;cases k with
 | false=>exact ite_ff ⟨.bl false,H3,I3,rfl,q3⟩
 | true=>exact ite_tt (chain_last (ap (hc pins s3 σ H3 _ I3 q3) λw' s4 ⟨z',H4,I4,r4,q4⟩=>bN pins s4 σ H4 y z' u w' Q I4 r2 r4 q4))
def L7(K:PySem.W.Frag)(x:V)(H:Hp)(k:Bool):Prop :=
 match x with
 | .aG=>k=false
 | .bl b=>k=b
 | .int i=>k=(i != 0)
 | .str y=>y.length<=sizeLine/\k=((y.length:Int) != 0)
 | .jF y=>y.size<=sizeLine/\k=((y.size:Int) != 0)
 | .ref p=>(∃xs,aj K H p xs/\k= !xs.isEmpty)\/(∃xs,ar K H p xs/\k= !xs.isEmpty)\/∃aa,H p=some (.dK aa)/\k= !aa.isEmpty
 | _=>False
theorem Q6{κ : Type}{aa:List (κ × V)}{vs:List (κ × Value)}(r:KV aa vs):(!vs.isEmpty)= !aa.isEmpty:=by
 cases r <;> rfl
theorem IB{its:List Value}(r:Vals xs its):(!its.toArray.isEmpty)= !xs.isEmpty:=by
 cases r <;> simp
theorem ua:(sizeLine:Nat)<2 ^ 63:=by rw[aT];decide
theorem VR:Wg X (λx H Q=>∃k,L7 X.K x H k/\Q k H):=by
 intro pins s σ H x v Q I rx h;obtain⟨k,e,q⟩:=h;have hl:=ua;have hs:sizeLine=16777216:=aT;cases x with
 | aG =>
  cases rx;have e':k=false:=e;subst e';exact truthy_none ⟨H,I,q⟩
 | bl b =>
  cases rx;have e':k=b:=e;subst e';exact mN ⟨H,I,q⟩
 | int i =>
  obtain⟨t,rfl⟩:=rx;have e':k=(i != 0):=e;subst e';exact PySem.P.truthy_int ⟨H,I,q⟩
 | str y =>
  obtain⟨t,rfl⟩:=rx;obtain⟨hy,e'⟩:y.length<=sizeLine/\k=((y.length:Int) != 0):=e;subst e';exact PySem.P.truthy_str (by lia) ⟨H,I.tok _,q⟩
 | jF y =>
  obtain⟨t,rfl⟩:=rx;obtain⟨hy,e'⟩:y.size<=sizeLine/\k=((y.size:Int) != 0):=e;subst e';exact PySem.W.truthy_bytes (by lia) ⟨H,I.tok _,q⟩
 | ref p =>
  cases rx;have e':(∃xs,aj X.K H p xs/\k= !xs.isEmpty)\/(∃xs,ar X.K H p xs/\k= !xs.isEmpty)\/∃aa,H p=some (.dK aa)/\k= !aa.isEmpty:=e;rcases e' with⟨xs,hx,e'⟩|⟨xs,hx,e'⟩|⟨aa,hx,e'⟩
  ·subst e';obtain⟨its,r,pl,hz⟩:=I.list hx;have hlen:=r.length;exact wpAny_truthy_list pl.isList (by simp only[bP];lia) ⟨H,I.tok _,by rw[IB r];exact q⟩
  ·subst e';obtain⟨its,r,pl,hz⟩:=I.tuple hx;have hlen:=r.length;exact truthy_tuple pl (by simp only[bP];lia) ⟨H,I.tok _,by rw[IB r];exact q⟩
  ·subst e';obtain⟨hz,hS,vs,r,m⟩:aa.length<=sizeLine/\(p == sysModules)=false/\∃vs,KV aa vs/\s.heap.DictOf (ZC X.prog X.w) p vs:=I.ah p _ hx;have hlen:aa.length=vs.length:=de r;exact wpAny_truthy_dict hS m (by lia) ⟨H,I.tok _,by rw[Q6 r];exact q⟩
 | _=>exact(show False from e).elim
theorem kj(ha:PE X a ta)(he:∀whole,isTrue a X.env whole=(do let v <- whole;standAt a.pos;holding [v] (truthy v))) :
  PT X a (λσ H Q=>ta σ H λx H'=>∃k,L7 X.K x H' k/\Q k H'):=by
 intro pins s σ H Q I h;exact isTrue_plain (ap (ha pins s σ H _ I h) λv s1 ⟨x,H1,I1,r1,q1⟩=>VR pins s1 σ H1 x v Q I1 r1 q1) (he _)
theorem QP:dh X (binaryOp .Add) (λx y H Q=>∃i j,x=.str i/\y=.str j/\i.length+j.length<=sizeLine/\Q (.str (i++j)) H):=by
 intro pins s σ H x y v u Q I rx ry h;obtain⟨i,j,rfl,rfl,hz,q⟩:=h;obtain⟨t,rfl⟩:=rx;obtain⟨t',rfl⟩:=ry;exact add_str (λt' tk=>⟨.str (i++j),H,I.tok _,⟨_,rfl⟩,q⟩) hz
variable{us:List Value}
theorem vals1{x:V}(r:Vals [x] us):∃u,us=[u]/\RelV x u:=by
 cases r with
 | cons r1 r2=>cases r2;exact⟨_,rfl,r1⟩
theorem vals2{x y:V}(r:Vals [x,y] us):∃u w',us=[u,w']/\RelV x u/\RelV y w':=by
 cases r with
 | cons r1 r2 =>
  cases r2 with
  | cons r3 r4=>cases r4;exact⟨_,_,rfl,r1,r3⟩
theorem CT(hc:X.calm=true):f_ X (.builtin "min") (λxs H Q=>∃i j,xs=[.int i,.int j]/\Q (.int (if j<i then j else i)) H):=by
 intro pins s σ H xs us Q I r h;obtain⟨i,j,rfl,q⟩:=h;obtain⟨u,w',rfl,⟨t,rfl⟩,⟨t',rfl⟩⟩:=vals2 r;refine min_two_ints (I.ok.hd hc) λh' tk k=>⟨_,H,I.kept k,?_,q⟩;by_cases hj:j<i
 ·rw[ai hj,ai hj];exact⟨_,rfl⟩
 ·rw[ag hj,ag hj];exact⟨_,rfl⟩
structure qO(h:Heap)(x dx C:Addr)(mA:Str->Option Value):Prop where
 obj:h.get? x=some (PySem.W.instObj C dx)
 ns:h.Ns1 dx mA
 ne:dx≠x
variable{dx:Addr}{mA:Str->Option Value}
theorem QQ(n:h.Ns1 dx mA):∃od,h.get? dx=some od/\∀name,PySem.W.lookIn name od=some (mA name):=by
 obtain⟨o,es,ep,ho,hd,hk,_,hm⟩:=n;refine⟨o,ho,λname=>?_⟩;have e:=hm name;unfold nsFind findBy at e;rw[<- Array.find?_toList] at e;unfold PySem.W.lookIn;rw[hd];dsimp only
 split
 ·rename_i y q
  rw[q] at e;exact congrArg some e
 ·rename_i q
  rw[q] at e;have a:es.toList.any (·.refKey)=false:=by
   rw[List.any_eq_false];intro y hy;obtain⟨z,t,pF⟩:=hk y (Array.mem_toList_iff.mp hy);simp[DictEntry.refKey,pF]
  have a' : ¬ es.toList.any (·.refKey)=true:=by rw[a];exact dW
  rw[ag a'];exact congrArg some e
variable{x C:Addr}
theorem qO.look(I:qO h x dx C mA):∃od,PySem.W.InstAt h x (PySem.W.instObj C dx) C (some od)/\∀name,PySem.W.lookIn name od=some (mA name) :=
 let ⟨od,ho,hl⟩:=QQ I.ns
 ⟨od,⟨I.obj,rfl,rfl,ho⟩,hl⟩
variable{v:Value}{prog:Program}{name:Str}
theorem UY{expr:Bool}(X:K.In s.heap)(I:qO s.heap x dx C mA)(hg:PySem.W.plainGet K C name=true)(hh:PySem.W.hasDictIn K C=true)
  (ha:PySem.W.findIn K (.ref C) name=some none) (hv:mA name=some v) (mP:PySem.W.handedIn v=true) (h:Q v { s with toks:=s.toks+1 }) :
  wpAny (model prog w) A (getAttr (.ref x) name expr) Q E s:=by
 obtain⟨od,J,hl⟩:=I.look;exact PySem.W.get_value X J (PySem.W.plainGet_of hg).1 (PySem.W.findObj_own hh ha rfl (by rw[hl,hv])) mP h
variable{f:Addr}
theorem S3{pl:Sem Bool}{Q:Value×List Value->Shared->Prop}(X:K.In s.heap)(I:qO s.heap x dx C mA)(hg:PySem.W.plainGet K C name=true)
  (hf:PySem.W.findIn K (.ref C) name=some (some (.ref f))) (ht:PySem.W.isFn K (.ref f)=true) (hv:mA name=none) (h:Q (.ref f,[.ref x]) s) :
  wpAny (model prog w) A (getMethod (.ref x) name pl) Q E s:=by
 obtain⟨od,J,hl⟩:=I.look;exact PySem.W.method_fn X J (PySem.W.plainGet_of hg).1 (PySem.W.plainGet_of hg).2 hf (mH.mp ht) (by show(PySem.W.lookIn name od).map (·.isSome)=some false;rw[hl,hv];rfl) h
theorem T5{ns:List Str}{Q:Unit->Shared->Prop}(X:K.In s.heap)(I:qO s.heap x dx C mA)
  (hs:PySem.W.findIn K (.ref C) "__setattr__" = some (some (.builtin "object.__setattr__"))) (hp:PySem.W.plainOver K C=true) (ht:PySem.W.takerIn K C name=some none) (hh:PySem.W.hasDictIn K C=true)
  (hw:PySem.Within mA ns) (hsz:ns.length<=sizeLine)
  (h:∀h',qO h' x dx C (λy=>if y=name then some v else mA y)->Heap.SameBut dx s.heap h'->Q () { s with heap:=h',toks:=s.toks+2 }) :
  wpAny (model prog w) A (setAttr (.ref x) name v) Q E s:=by
 obtain⟨od,J,hl⟩:=I.look;refine PySem.W.set_plain X J hs (PySem.W.osa_open (s:={ s with toks:=s.toks+1 }) (r:=none) X J hp ht λb=>?_);obtain⟨cd,hc,bQ⟩:=PySem.W.any_some hh;have hx:s.heap.get? x=some ⟨.ref C,some dx,.plain,#[]⟩:=I.obj;refine ae (af (ae (ae (wpAny_loadPart hx (ae (PySem.W.Looks.here (s:={ s with toks:=s.toks+1 }) (PySem.W.looks_clsIn X hc) ?_))))));rw[bQ];refine af (a:=some dx) (ae (af (ae ?_)));refine wpAny_nsSet1 (s:={ s with toks:=s.toks+1 }) I.ns λh' uL nR=>?_;obtain⟨oD,esD,epD,hoD,YL,YB⟩:=uL.count (PySem.Within.cons name v hw);refine ae (wpAny_lookBehind hoD (by rw[YL];exact pastItsLine_dict (bD YB (by rw[bM];lia))) ?_);exact af (h _ ⟨(nR.2 _ (eu I.ne)).trans I.obj,uL,I.ne⟩ nR)
variable{kw:List (Str×Value)}
theorem Tu{R:Result->Shared->Prop}{vs:List Value}(X:K.In s.heap)(hm:PySem.W.makesIn K C=true)
  (hi:PySem.W.findIn K (.ref C) "__init__" = some (some (.ref f))) (hf:PySem.W.typeIn K (.ref f)=some (.type "function"))
  (h:codeAny (model prog w) (A.under (.builtin "type.__call__" ⟨.ref C::vs,kw⟩)) (.call (.ref f) ⟨.ref (s.heap.objs.size+1)::vs,kw⟩) (PySem.W.InitBack (s.heap.objs.size+1) R)
   { s with heap:=(s.heap.push PySem.W.emptyDict).push (PySem.W.instObj C s.heap.objs.size) }) :
  codeAny (model prog w) A (.call (.ref C) ⟨vs,kw⟩) R s:=by
 obtain⟨hh,g,d,t,os⟩:=s;exact PySem.W.make_core (PySem.W.makes_of X hm) (PySem.W.looks_findIn X hi) (λself=>PySem.W.bind_fn X self hf) (.inl rfl) h
def dr(f:Str)(v:V):List (Str×V)->List (Str×V)
 | []=>[(f,v)]
 | (g,x)::r=>if g=f then(g,v)::r else(g,x)::dr f v r
theorem IY(f g:Str)(v:V):∀fs:List (Str×V),(dr f v fs).lookup g=if g=f then some v else fs.lookup g
 | []=>by
  show List.lookup g [(f,v)]=_;by_cases h:g=f
  ·have hb:(g == f)=true:=mH.mpr h;simp only[List.lookup,hb,ai h]
  ·have hb:(g == f)=false:=lj.mpr h;simp only[List.lookup,hb,ag h]
 | (k,x)::r=>by
  have ih:=IY f g v r;rw[show dr f v ((k,x)::r)=(if k=f then(k,v)::r else(k,x)::dr f v r) from rfl]
  by_cases hk:k=f
  ·rw[ai hk];by_cases h:g=k
   ·have hb:(g == k)=true:=mH.mpr h;simp only[List.lookup,hb,ai (h.trans hk)]
   ·have hb:(g == k)=false:=lj.mpr h;simp only[List.lookup,hb,ag (λe:g=f=>h (e.trans hk.symm))]
  ·rw[ag hk];by_cases h:g=k
   ·have hb:(g == k)=true:=mH.mpr h;simp only[List.lookup,hb,ag (λe:g=f=>hk (h.symm.trans e))]
   ·have hb:(g == k)=false:=lj.mpr h;simp only[List.lookup,hb];exact ih
theorem CU(f:Str)(v:V):∀fs:List (Str×V),f∈(dr f v fs).map (·.1)/\∀g,g∈fs.map (·.1)->g∈(dr f v fs).map (·.1)
 | []=>⟨by simp[dr],λg h=>by simp at h⟩
 | (k,x)::r=>by
  obtain⟨i1,i2⟩:=CU f v r;rw[show dr f v ((k,x)::r)=(if k=f then(k,v)::r else(k,x)::dr f v r) from rfl]
  by_cases hk:k=f
  ·rw[ai hk];subst hk;exact⟨by simp,λg h=>by simpa using h⟩
  ·rw[ag hk];refine⟨?_,λg h=>?_⟩
   ·rw[cu];exact aR _ i1
   ·rw[cu] at h ⊢;rcases aJ.mp h with e|e
    ·exact aJ.mpr (.inl e)
    ·exact aR _ (i2 g e)
theorem IV(f:Str)(v:V):∀fs:List (Str×V),(dr f v fs).length<=fs.length+1
 | []=>by simp[dr]
 | (k,x)::r=>by
  have ih:=IV f v r;rw[show dr f v ((k,x)::r)=(if k=f then(k,v)::r else(k,x)::dr f v r) from rfl]
  by_cases hk:k=f
  ·rw[ai hk,bM,bM];lia
  ·rw[ag hk,bM,bM];lia
variable{o:Option Value}
theorem fg.some_of{v:V}(r:fg (some v) o):∃u,o=some u/\RelV v u:=by
 cases o with
 | none=>exact(show False from r).elim
 | some u=>exact⟨u,rfl,r⟩
theorem fg.none_of(r:fg none o):o=none:=by
 cases o with
 | none=>rfl
 | some u=>exact(show False from r).elim
theorem Sd{v:V}(r:RelV v u):PySem.W.handedIn u=true:=by
 cases v with
 | aG=>cases (show u=Value.none from r);rfl
 | bl b=>cases (show u=Value.bool b from r);rfl
 | int i=>obtain⟨t,e⟩:=(show ∃t,u=Value.int i t from r);cases e;rfl
 | str x=>obtain⟨t,e⟩:=(show ∃t,u=Value.str x t from r);cases e;rfl
 | jF b=>obtain⟨t,e⟩:=(show ∃t,u=Value.bytes b t from r);cases e;rfl
 | rD b=>obtain⟨t,e⟩:=(show ∃t,u=Value.float b t from r);cases e;rfl
 | ref a=>cases (show u=Value.ref a from r);rfl
 | ty n=>cases (show u=Value.type n from r);rfl
section
variable{P:Program}{w:World}{H H':Hp}{h h':Heap}{a C dx:Addr}{fs tw:List (Str×V)}
theorem qW(ah:a9 P w H h)(e:H a=some (.ins C dx fs)):∃mA,qO h a dx C mA/\(∀f,fg (fs.lookup f) (mA f))/\PySem.Within mA (fs.map (·.1))/\fs.length<=1000/\H dx=some (.own a):=by
 obtain⟨d,z,ne,ob,mA,n,r,q⟩:=(show ZL P w H h a (.ins C dx fs) from ah a _ e);exact⟨mA,⟨ob,n,ne⟩,r,q,z,d⟩
end
structure fJ(K:PySem.W.Frag)(C:Addr):Prop where
 pg:PySem.W.plainGet K C Str.empty=true
 hd:PySem.W.hasDictIn K C=true
 po:PySem.W.plainOver K C=true
 sa:PySem.W.findIn K (.ref C) "__setattr__" = some (some (.builtin "object.__setattr__"))
theorem fJ.get{K:PySem.W.Frag}{C:Addr}(c:fJ K C)(f:Str):PySem.W.plainGet K C f=true:=c.pg
def f9(K:PySem.W.Frag)(C:Addr)(f:Str):Prop:=PySem.W.findIn K (.ref C) f=some none
variable{f:Str}
theorem f9.Zrh(n:f9 K C f):PySem.W.takerIn K C f=some none:=by
 unfold PySem.W.takerIn;rw[show PySem.W.findIn K (.ref C) f=some none from n];rfl
structure Meth(K:PySem.W.Frag)(C:Addr)(m:Str)(f:Addr):Prop where
 at_:PySem.W.findIn K (.ref C) m=some (some (.ref f))
 fn:PySem.W.isFn K (.ref f)=true
 kp:PySem.W.keepIn K (.ref f)=true
section
variable{X:Cx}{pins:List (Addr×Obj)}{σ : St}{H:Hp}{s:Shared}{a C dx:Addr}{fs:List (Str×V)}{f:Str}{v:V}{A:Around}{E:Value->Shared->Prop}
variable{Q:Value->Shared->Prop}
theorem Ra{b:Bool}(I:Inv X pins σ H s)(e:H a=some (.ins C dx fs))(c:fJ X.K C)(n:f9 X.K C f)(l:fs.lookup f=some v)
  (h:∀u s',Inv X pins σ H s'->RelV v u->Q u s'):wpAny (model X.prog X.w) A (getAttr (.ref a) f b) Q E s:=by
 obtain⟨mA,O,r,_,_,_⟩:=qW I.ah e;obtain⟨u,hu,ru⟩:=fg.some_of (v:=v) (o:=mA f) (by rw[<- l];exact r f);exact UY I.bK O (c.get f) c.hd n hu (Sd ru) (h u _ (I.tok _) ru)
theorem IL{m:Str}{g:Addr}{pl:Sem Bool}{Q:Value×List Value->Shared->Prop}(I:Inv X pins σ H s)(e:H a=some (.ins C dx fs))(c:fJ X.K C)(k:Meth X.K C m g)(l:fs.lookup m=none)
  (h:Q (.ref g,[.ref a]) s):wpAny (model X.prog X.w) A (getMethod (.ref a) m pl) Q E s:=by
 obtain⟨mA,O,r,_,_,_⟩:=qW I.ah e;have hn:mA m=none:=fg.none_of (by rw[<- l];exact r m);exact S3 I.bK O (c.get m) k.at_ k.fn hn h
theorem Q0{y:V}{u:Value}{Q:Unit->Shared->Prop}(I:Inv X pins σ H s)(e:H a=some (.ins C dx fs))(c:fJ X.K C)(n:f9 X.K C f)(hl:fs.length<1000)(ry:RelV y u)
  (h:∀s',Inv X pins σ (upd H a (.ins C dx (dr f y fs))) s'->Q () s'):wpAny (model X.prog X.w) A (setAttr (.ref a) f u) Q E s:=by
 obtain⟨mA,O,r,wi,_,ho⟩:=qW I.ah e;have hz:(fs.map (·.1)).length<=sizeLine:=by rw[ay,aT];lia
 refine T5 I.bK O c.sa c.po n.Zrh c.hd wi hz λh' O' sb=>h _ ?_;have hd:∃o,h'.get? dx=some o:=let ⟨o,_,_,e',_⟩:=O'.ns;⟨o,e'⟩;refine I.write (x:=a) (e:=dx) (by rw[e];exact True.intro) (.inr ho) (λb q hb z=>(sb.2 b hb).trans z) hd ?_;refine⟨by rw[Zc O.ne];exact ho,?_,O.ne,O'.obj,_,O'.ns,λg=>?_,λg hg=>?_⟩
 ·have:=IV f y fs;lia
 ·show fg ((dr f y fs).lookup g) (if g=f then some u else mA g)
  rw[IY];by_cases q:g=f
  ·rw[ai q,ai q];exact ry
  ·rw[ag q,ag q];exact r g
 ·by_cases q:g=f
  ·rw[q];exact(CU f y fs).1
  ·refine(CU f y fs).2 g (wi g λz=>hg ?_);show(if g=f then some u else mA g)=none
   rw[ag q];exact z
theorem Inv.made(I:Inv X pins σ H s):Inv X pins σ (upd (upd H s.heap.objs.size (.own (s.heap.objs.size+1))) (s.heap.objs.size+1) (.ins C s.heap.objs.size []))
  { s with heap:=(s.heap.push PySem.W.emptyDict).push (PySem.W.instObj C s.heap.objs.size) }:=by
 have e1:(s.heap.push PySem.W.emptyDict).get? s.heap.objs.size=some PySem.W.emptyDict:=bo s.heap rfl;have e2:((s.heap.push PySem.W.emptyDict).push (PySem.W.instObj C s.heap.objs.size)).get? (s.heap.objs.size+1)=some (PySem.W.instObj C s.heap.objs.size):=by
  have:=bo (s.heap.push PySem.W.emptyDict) (o:=PySem.W.instObj C s.heap.objs.size) rfl
  rwa [gD] at this
 have e3:(s.heap.push PySem.W.emptyDict).Ns s.heap.objs.size (λ_=>none):=⟨PySem.W.emptyDict,#[],_,e1,rfl,(λe he=>absurd he (by simp)),λ_=>rfl⟩;have I1:=I.laid (a:=s.heap.objs.size) (o:=.own (s.heap.objs.size+1)) (h':=s.heap.push PySem.W.emptyDict) (t':=s.toks) (λb u q=>ax _ q) (aq _) ⟨_,e1⟩;refine I1.laid (a:=s.heap.objs.size+1) (o:=.ins C s.heap.objs.size []) (t':=s.toks) (λb u q=>ax _ q) (Nat.le_of_eq (gD _ _)) ?_;have ne:s.heap.objs.size≠s.heap.objs.size+1:=aV (mE _);refine⟨by rw[Zc ne,Za],bE _,ne,e2,λ_=>none,(Heap.Ns1.of_empty e3).at λo q=>ax _ q,λ_=>True.intro,λy hy=>absurd rfl hy⟩
theorem TZ{prog:Program}{w:World}{env:Env}{e:Expr}{f:Str}{pos:Pos}{s:Shared}(hb:attributeBase e f env (eval e env)=eval e env)
  (h:wpAny (model prog w) A (eval e env) (λo aL=>wpAny (model prog w) A (getAttr o f true) Q E aL) E s):wpAny (model prog w) A (eval (.Attribute e f pos) env) Q E s :=
 Attribute_any_ h (by rw[arm_eval_Attribute,hb])
end
def Mb(K:PySem.W.Frag)(ta:TE)(f:Str):TE:=λσ H Q=>ta σ H λx H1=>∃a C dx fs v,x=.ref a/\H1 a=some (.ins C dx fs)/\fJ K C/\f9 K C f/\fs.lookup f=some v/\Q v H1
def V1(K:PySem.W.Frag)(ta tv:TE)(f:Str):TS:=λD σ H=>tv σ H λy H1=>ta σ H1 λx H2=>∃a C dx fs,x=.ref a/\H2 a=some (.ins C dx fs)/\fJ K C/\f9 K C f/\fs.length<1000 /\
 D.nx σ (upd H2 a (.ins C dx (dr f y fs)))
theorem Z6(he:PE X e ta)(hb:attributeBase e f X.env (eval e X.env)=eval e X.env):PE X (.Attribute e f pos) (Mb X.K ta f):=by
 intro pins s σ H Q I h;refine TZ hb (ap (he pins s σ H _ I h) λu s1 ⟨x,H1,I1,rx,a,C,dx,fs,v,ex,ea,c,n,l,q⟩=>?_);subst ex;obtain rfl:u=Value.ref a:=rx;exact Ra I1 ea c n l λu' s2 I2 ru=>⟨v,H1,I2,ru,q⟩
variable{o value:Expr}{tv:TE}
theorem lF(ha:PE X o ta)(hv:PE X value tv)(hs:swapsWith value (some (.Attribute o f pos')) pos.line X.env=pure false):PS X (.Assign [.Attribute o f pos'] value pos) (V1 X.K ta tv f):=by
 intro pins s σ H D I h;refine plainObj_wpAny_Assign_Attribute (ap (hv pins s σ H _ I h) λu s1 ⟨y,H1,I1,ry,q⟩=>ap (ha pins s1 σ H1 _ I1 q) λov s2 ⟨x,H2,I2,rx,a,C,dx,fs,ex,ea,c,n,l,q2⟩=>?_) hs;subst ex;obtain rfl:ov=Value.ref a:=rx;exact Q0 I2 ea c n l ry λs3 I3=>⟨σ,_,I3,q2⟩
inductive iS(K:PySem.W.Frag)(H:Hp):V->Value->Prop where
 | aG:iS K H .aG (.type "NoneType")
 | bl (x:Bool):iS K H (.bl x) (.type "bool")
 | int (i:Int):iS K H (.int i) (.type "int")
 | str (x:Str):iS K H (.str x) (.type "str")
 | rD (x:UInt64):iS K H (.rD x) (.type "float")
 | lst {a:Addr} {xs:List V} (e:H a=some (.lst xs)):iS K H (.ref a) (.type "list")
 | aI {a:Addr} {o:Obj} {xs:List V} (e:H a=some (.aI o (.lst xs))):iS K H (.ref a) (.type "list")
 | tup {a:Addr} {xs:List V} (e:H a=some (.tup xs)):iS K H (.ref a) (.type "tuple")
 | dK {a:Addr} {aa:List (Key×V)} (e:H a=some (.dK aa)):iS K H (.ref a) (.type "dict")
 | dT {a:Addr} {aa:List (List Key×V)} (e:H a=some (.dT aa)):iS K H (.ref a) (.type "dict")
 | ins {a C dx:Addr} {fs:List (Str×V)} (e:H a=some (.ins C dx fs)) (cl:fJ K C) (ha:PySem.W.findIn K (.ref C) "__class__" = some (some (.builtin "object.__class__")))
   (hn:PySem.W.specialIn K (.builtin "object.__class__") "__get__" = some (some (.builtin "getset_descriptor.__get__"))) (Bm:PySem.W.takesIn K (.builtin "object.__class__")=some true)
   (hm:PySem.W.mroIn K C (.type "object")=some true):iS K H (.ref a) (.ref C)
variable{b:Bool}{c:Value}
theorem Sb{x:V}{t:Value}(I:Inv X pins σ H s)(rx:RelV x u)(ty:iS X.K H x t)(e:PySem.W.kitOne X.K t c=some b)(h:∀tk,Q (.bool b) { s with toks:=tk }) :
  wpAny (model X.prog X.w) A (call (.builtin "isinstance") [u,c]) Q E s:=by
 cases ty with
 | aG=>cases (show u=Value.none from rx);exact lh PySem.W.kitx_none I.bK True.intro e (λz=>nomatch z) h
 | bl y=>cases (show u=Value.bool y from rx);exact lh PySem.W.kitx_bool I.bK True.intro e (λz=>nomatch z) h
 | int i=>obtain⟨t,q⟩:=(show ∃t,u=Value.int i t from rx);cases q;exact lh PySem.W.kitx_int I.bK True.intro e (λz=>nomatch z) h
 | str y=>obtain⟨t,q⟩:=(show ∃t,u=Value.str y t from rx);cases q;exact lh PySem.W.kitx_str I.bK True.intro e (λz=>nomatch z) h
 | rD y=>obtain⟨t,q⟩:=(show ∃t,u=Value.float y t from rx);cases q;exact lh PySem.W.kitx_float I.bK True.intro e (λz=>nomatch z) h
 | @lst a xs ea =>
  cases (show u=Value.ref a from rx);obtain⟨_,_,n,_,h1⟩:=(show ZL X.prog X.w H s.heap a (.lst xs) from I.ah a _ ea);exact lh PySem.W.kitx_list I.bK ⟨_,h1,rfl⟩ e (λz=>nomatch z) h
 | @aI a ob xs ea =>
  cases (show u=Value.ref a from rx);obtain⟨_,_,_,n,_,h1⟩:=(show ZL X.prog X.w H s.heap a (.aI ob (.lst xs)) from I.ah a _ ea);exact lh PySem.W.kitx_list I.bK ⟨_,h1,rfl⟩ e (λz=>nomatch z) h
 | @tup a xs ea =>
  cases (show u=Value.ref a from rx);obtain⟨_,_,_,p⟩:=(show ZL X.prog X.w H s.heap a (.tup xs) from I.ah a _ ea);obtain⟨o,h1,h2,_⟩:=p;exact lh PySem.W.kitx_tuple I.bK ⟨o,h1,h2⟩ e (λz=>nomatch z) h
 | @dK a aa ea =>
  cases (show u=Value.ref a from rx);obtain⟨_,_,vs,_,p⟩:=(show ZL X.prog X.w H s.heap a (.dK aa) from I.ah a _ ea);obtain⟨o,es,ep,h1,h2,_⟩:=p;exact lh PySem.W.kitx_dict I.bK ⟨o,h1,h2.1⟩ e (λz=>nomatch z) h
 | @dT a aa ea =>
  cases (show u=Value.ref a from rx);obtain⟨_,_,xs,_,o,es,ep,h1,h2,_⟩:=(show ZL X.prog X.w H s.heap a (.dT aa) from I.ah a _ ea);exact lh PySem.W.kitx_dict I.bK ⟨o,h1,h2.1⟩ e (λz=>nomatch z) h
 | @ins a C dx fs ea cl ha hn Bm hm =>
  cases (show u=Value.ref a from rx);obtain⟨mA,O,_⟩:=qW I.ah ea;obtain⟨od,J,_⟩:=O.look;exact lh (PySem.W.kitx_own (cl.get _) cl.hd ha hn Bm hm) I.bK J e (λz=>nomatch z) h
structure bj(k:Nat)(A:Around):Prop where
 hd:A.handled=none
 dp:A.depth+2*k+5<recursionLimit
 un:A.units+16*k+200<cLine
 gd:A.guards=some []
theorem bj.mono{j k:Nat}(r:bj k A)(h:j<=k):bj j A:=⟨r.hd,by have:=r.dp;lia,by have:=r.un;lia,r.gd⟩
theorem bj.deeper{k:Nat}{A:Around}(r:bj (k+1) A)(env:Env):bj k (A.deeper env) :=
 ⟨r.hd,by have:=r.dp;show A.depth+1+2*k+5<_;lia,by have:=r.un;show A.units+3+16*k+200<_;lia,r.gd⟩
theorem bj.in1{k:Nat}{A:Around}(r:bj (k+1) A):bj k A.in1 :=
 ⟨r.hd,by have:=r.dp;show A.depth+2*k+5<_;lia,by have:=r.un;show A.units+1+16*k+200<_;lia,r.gd⟩
theorem Rp:(A.under (.builtin "type.__call__" ⟨.ref C::us,kw⟩)).depth=A.depth+1:=by
 first|rfl|simp[Around.under,Code.weight,Code.isCreation,Code.isGuard,Code.isCaller,Code.frames,Code.isFrame,guardIds]
theorem QR:(A.under (.builtin "type.__call__" ⟨.ref C::us,kw⟩)).units=A.units+1:=by
 first|rfl|simp[Around.under,Code.cUnits,Code.frames,Code.isFrame]
theorem Qz:(A.under (.builtin "type.__call__" ⟨.ref C::us,kw⟩)).guards=A.guards:=by
 have h:(Code.builtin "type.__call__" ⟨.ref C::us,kw⟩).guards=[]:=by first|rfl|simp[Code.guards,Code.isGuard,guardIds]
 unfold Around.under;dsimp only;rw[h];cases A.guards <;> rfl
theorem bj.make{k:Nat}(r:bj (k+1) A)(C:Addr)(us:List Value)(kw:List (Str×Value)):bj k (A.under (.builtin "type.__call__" ⟨.ref C::us,kw⟩)) :=
 ⟨r.hd,by have:=r.dp;rw[Rp];lia,by have:=r.un;rw[QR];lia,by rw[Qz];exact r.gd⟩
theorem bj.depth{k:Nat}{A:Around}(r:bj k A):A.depth<recursionLimit:=by have:=r.dp;lia
def gf:TA:=λ_ H Q=>Q [] H
def lL(ta:TE)(tr:TA):TA:=λσ H Q=>ta σ H λx H1=>tr σ H1 λxs H2=>Q (x::xs) H2
theorem Ze:PA X [] gf:=λ_ _ _ _ H Q I h=>sQ ⟨[],H,I,.nil,h⟩
variable{t:TA}
theorem Zb(ha:PE X e te)(hr:PA X es t)(hs:starEach (e::es) X.env=(false,eval e X.env)::starEach es X.env:=by rfl):PA X (e::es) (lL te t):=by
 intro pos pins s σ H Q I h;rw[hs];show wpAny _ _ (spliced ((false,eval e X.env)::backTo pos (starEach es X.env))) _ _ s;refine oj (ap (ha pins s σ H _ I h) λu s1 ⟨x,H1,I1,r1,q1⟩=>?_);exact ap (hr pos pins s1 σ H1 _ I1 q1) λus s2 ⟨xs,H2,I2,r2,q2⟩=>⟨x::xs,H2,I2,.cons r1 r2,q2⟩
def wW(t:TA):TE:=λσ H Q=>t σ H λxs H1=>xs.length<=sizeLine/\∀p,H1 p=none->Q (.ref p) (upd H1 p (.tup xs))
def Wc(t:TA):TE:=λσ H Q=>t σ H λxs H1=>xs.length<=sizeLine/\∀p,H1 p=none->Q (.ref p) (upd H1 p (.lst xs))
theorem c7{x1}(h:PA X es t):PE X (.Tuple es x1 pos) (wW t):=by
 intro pins s σ H Q I hq;refine wpAny_Tuple_spliced (ap (h pos pins s σ H _ I hq) λus s1 ⟨xs,H1,I1,r,z,q⟩=>⟨by rw[<- r.length];exact z,?_⟩);have hf:H1 s1.heap.objs.size=none:=I1.ah.fresh (aq _);refine⟨.ref s1.heap.objs.size,upd H1 s1.heap.objs.size (.tup xs),I1.laid (t':=s1.toks) (λb u e=>ax _ e) (aq _) ?_,rfl,q _ hf⟩;exact⟨z,us,r,⟨_,bo _ rfl,rfl,_,rfl⟩⟩
theorem Z1(h:PA X es t):PE X (.List es pos) (Wc t):=by
 intro pins s σ H Q I hq;refine wpAny_List_spliced (ap (h pos pins s σ H _ I hq) λus s1 ⟨xs,H1,I1,r,z,q⟩=>⟨by rw[<- r.length];exact z,?_⟩);have hf:H1 s1.heap.objs.size=none:=I1.ah.fresh (aq _);refine⟨.ref s1.heap.objs.size,upd H1 s1.heap.objs.size (.lst xs),I1.laid (t':=s1.toks) (λb u e=>ax _ e) (aq _) ?_,rfl,q _ hf⟩;exact⟨z,us,0,r,bo _ rfl⟩
abbrev Sp:=List V->Hp->VK->XK->Prop
abbrev js:=List Env->Hp->Shared->XK->Value->Shared->Prop
structure qK(P:Program)(w:World)(K:PySem.W.Frag)(mg:Str->Option Value)(base:Heap)(A:Around)(outer:List Env)(s:Shared)(H:Hp):Prop where
 frames:A.frames=some outer
 mod:Mod K mg base
 bs:∀b o,base.get? b=some o->s.heap.get? b=some o/\H b=none
 gh:base.objs.size<=s.heap.objs.size
 fj:s.heap.FunFrames base outer
 iZ:∀b∈gj outer,H b=none
 ah:a9 P w H s.heap
 bare:AllBare s.gens
def CE(outer:List Env)(P:Program)(w:World)(H:Hp)(s:Shared)(Q:VK)(u:Value)(s':Shared):Prop :=
 ∃v H',s'.os=s.os/\AllBare s'.gens/\Un (gj outer) [] H H' s.heap s'.heap/\a9 P w H' s'.heap/\RelV v u/\Q v H'
def CR(CX:js)(outer:List Env)(P:Program)(w:World)(H:Hp)(s:Shared)(Q:VK)(E:XK)(r:Result)(s':Shared):Prop :=
 match r with
 | .ok (.ret u)=>CE outer P w H s Q u s'
 | .ok _=>False
 | .error e=>CX outer H s E e s'
structure aX(P:Program)(w:World)(K:PySem.W.Frag)(mg:Str->Option Value)(base:Heap)(CX:js)(k:Nat)(f:Addr)(fd:FuncData)(ps:List Str)(sp:Sp):Prop where
 len:∀vs H Q E,sp vs H Q E->vs.length=ps.length
 run:∀(A:Around)(outer:List Env)(s:Shared)(H:Hp)(args:Args)(us:List Value)(vs:List V)(Q:VK)(E:XK),bj k A->qK P w K mg base A outer s H->BindsTo s fd args (ps.zip us)->Vals vs us->sp vs H Q E ->
  codeAny (model P w) A (.call (.ref f) args) (CR CX outer P w H s Q E) s
variable{mg:Str->Option Value}{base:Heap}{outer:List Env}
theorem qK.make(e:qK P w K mg base A outer s H)(C:Addr)(us:List Value)(kw:List (Str×Value)) :
  qK P w K mg base (A.under (.builtin "type.__call__" ⟨.ref C::us,kw⟩)) outer s H:=⟨by first|exact e.frames|(simpa[Around.under,Code.envs,Code.isFrame,pushEnvs] using e.frames),e.mod,e.bs,e.gh,e.fj,e.iZ,e.ah,e.bare⟩
theorem Inv.Eu(I:Inv X pins σ H s):qK X.prog X.w X.K X.mg X.base X.A X.stack s H :=
 ⟨I.ok.frames,I.ok.mod,I.bs,bD I.ok.gh I.sz,I.stack,I.BM,I.ah,I.bare⟩
variable{s':Shared}
theorem Inv.after{Q:VK}(I:Inv X pins σ H s)(h:CE X.stack X.prog X.w H s Q u s'):EP X pins σ Q u s':=by
 obtain⟨v,H',os,bare,un,ah,r,q⟩:=h;obtain⟨hh,g,d,t,Pr⟩:=s';obtain rfl:Pr=s.os:=os;exact⟨v,H',I.call (h':=hh) (g':=g) (d':=d) (t':=t) (ch:=[]) un ah bare (λb z=>absurd z (by simp)),r,q⟩
def LU(sp:Sp)(dvs:List V)(E:XK)(t:TA):TE:=λσ H Q=>t σ H λvs H1=>sp (vs++dvs) H1 Q E
def Ar(C:Addr)(m:Str)(sp:Sp)(dvs:List V)(E:XK)(ta:TE)(t:TA):TE:=λσ H Q=>ta σ H λx H1=>∃a dx fs,x=.ref a/\H1 a=some (.ins C dx fs)/\fs.lookup m=none /\
 t σ H1 λvs H2=>sp (x::(vs++dvs)) H2 Q E
def LW(C:Addr)(sp:Sp)(dvs:List V)(E:XK)(t:TA):TE:=λσ H Q=>t σ H λvs H1=>∀x dx,H1 x=none->H1 dx=none->dx≠x ->
 sp (.ref x::(vs++dvs)) (upd (upd H1 dx (.own x)) x (.ins C dx [])) (λv H2=>v=.aG/\Q (.ref x) H2) E
def Binds(K:PySem.W.Frag)(fd:FuncData)(ps:List Str)(ds:List Value):Prop :=
 ∀(s:Shared)(us:List Value),K.In s.heap->(us++ds).length=ps.length->BindsTo s fd ⟨us,[]⟩ (ps.zip (us++ds))
variable{ps:List Str}
theorem Binds.all{fd:FuncData}(h:∀us:List Value,us.length=ps.length->bindArgs fd ⟨us,[]⟩=pure (ps.zip us)):Binds K fd ps []:=λs us _ hl=>by
 rw[gE] at hl ⊢;exact .of_eq (h us hl)
def rg(CX:js)(X:Cx)(E:XK):Prop := ∀(pins:List (Addr×Obj))(σ : St)(H:Hp)(s:Shared)(e:Value)(s':Shared),Inv X pins σ H s->CX X.stack H s E e s'->X.xe e s'
section
variable{X:Cx}{CX:js}{k:Nat}{f C:Addr}{fd:FuncData}{ps:List Str}{sp:Sp}{dvs:List V}{ds:List Value}{E:XK}{x m:Str}{p pos apos:Pos}{e o:Expr}{es:List Expr}{ta:TE}{t:TA}
variable{pins:List (Addr×Obj)}{σ:St}{s:Shared}{us:List Value}{vs:List V}
theorem Aq{H:Hp}{Q:VK}(F:aX X.prog X.w X.K X.mg X.base CX k f fd ps sp)(hr:bj k X.A)(hb:Binds X.K fd ps ds)(hd:Vals dvs ds)(hx:rg CX X E)
  (I:Inv X pins σ H s) (r:Vals vs us) (h:sp (vs++dvs) H Q E):wpAny (model X.prog X.w) X.A (call (.ref f) us) (EP X pins σ Q) X.xe s:=by
 have r2:Vals (vs++dvs) (us++ds):=r.append hd;have hl:(us++ds).length=ps.length:=by rw[<- r2.length];exact F.len _ _ _ _ h
 refine wpAny_call (ow (F.run X.A X.stack s H ⟨us,[]⟩ (us++ds) (vs++dvs) Q E hr I.Eu (hb s us I.bK hl) r2 h) λr s' hq=>?_);cases r with
 | error e=>exact hx pins σ H s e s' I hq
 | ok fl =>
  cases fl with
  | ret u=>exact I.after hq
  | next=>exact False.elim hq
  | brk=>exact False.elim hq
  | cont=>exact False.elim hq
theorem TX(F:aX X.prog X.w X.K X.mg X.base CX k f fd ps sp)(hr:bj k X.A)(hg:Gl X x)(hm:X.mg x=some (.ref f))(hk:PySem.W.keepIn X.K (.ref f)=true)(hb:Binds X.K fd ps ds)(hd:Vals dvs ds)(hx:rg CX X E)
  (ha:PA X (e::es) t) (du:(x == ("__debug__" : Str))=false:=by decide) (he:starEach (e::es) X.env=(false,eval e X.env)::starEach es X.env:=by rfl) (aA:(backTo pos (starEach es X.env)).any (·.1)=false:=by rfl) :
  PE X (.Call (.Name x p) (e::es) [] pos) (LU sp dvs E t):=by
 intro pins s σ H Q I h;refine mK (wG I hg hm ?_ du);refine zc (h₀ := X.base) I.ok.mod.so hk (ap (ha pos pins s σ H _ I h) λus s1 ⟨vs,H1,I1,r,q⟩=>⟨I1.bK,?_⟩) he aA;exact Aq F hr hb hd hx I1 r q
variable{pl:Sem Bool}
theorem UN(he:PE X o ta)(c:fJ X.K C)(hm:Meth X.K C m f)(F:aX X.prog X.w X.K X.mg X.base CX k f fd ps sp)(hr:bj k X.A)(hb:Binds X.K fd ps ds)(hd:Vals dvs ds)(hx:rg CX X E)(ha:PA X (e::es) t)
  (bY:starEach (e::es) X.env=(false,eval e X.env)::starEach es X.env:=by rfl) (aA:(backTo pos (starEach es X.env)).any (·.1)=false:=by rfl)
  (ht:eval (.Call (.Attribute o m apos) (e::es) [] pos) X.env=(do
   let ov <- eval o X.env
   standAt apos.atName
   let (f,first) <- holding [ov] (getMethod ov m pl)
   callWith pos f first (backTo pos (starEach (e::es) X.env)) (backToKw pos (keywordEach [] X.env))):=by rfl) :
  PE X (.Call (.Attribute o m apos) (e::es) [] pos) (Ar C m sp dvs E ta t):=by
 intro pins s σ H Q I h;refine PySem.W.methodCall_KW (pl:=pl) (ap (he pins s σ H _ I h) λu s1 ⟨x,H1,I1,rx,a,dx,fs,ex,ea,l,q⟩=>?_) ht;subst ex;obtain rfl:u=Value.ref a:=rx;refine IL I1 ea c hm l ?_;refine zc (first:=[.ref a]) (h₀ := X.base) I.ok.mod.so hm.kp (ap (ha pos pins s1 σ H1 _ I1 q) λus s2 ⟨vs,H2,I2,r,q2⟩=>⟨I2.bK,?_⟩) bY aA
 exact Aq (us:=.ref a::us) (vs:=.ref a::vs) F hr hb hd hx I2 (.cons rfl r) q2
theorem To(he:PE X o ta)(c:fJ X.K C)(hm:Meth X.K C m f)(F:aX X.prog X.w X.K X.mg X.base CX k f fd ps sp)(hr:bj k X.A)(hb:Binds X.K fd ps ds)(hd:Vals dvs ds)(hx:rg CX X E)
  (ht:eval (.Call (.Attribute o m apos) [] [] pos) X.env=(do
   let ov <- eval o X.env
   standAt apos.atName
   let (f,first) <- holding [ov] (getMethod ov m pl)
   callWith pos f first (backTo pos (starEach [] X.env)) (backToKw pos (keywordEach [] X.env))):=by rfl) :
  PE X (.Call (.Attribute o m apos) [] [] pos) (Ar C m sp dvs E ta gf):=by
 intro pins s σ H Q I h;refine PySem.W.methodCall_KW (pl:=pl) (ap (he pins s σ H _ I h) λu s1 ⟨x,H1,I1,rx,a,dx,fs,ex,ea,l,q⟩=>?_) ht;subst ex;obtain rfl:u=Value.ref a:=rx;refine IL I1 ea c hm l ?_;exact PySem.W.callWith_K0 (first:=[.ref a]) I1.bK hm.kp (Aq (us:=[.ref a]) (vs:=[.ref a]) F hr hb hd hx I1 (.cons rfl .nil) q)
structure Mk(K:PySem.W.Frag)(C f:Addr):Prop where
 makes:PySem.W.makesIn K C=true
 init:PySem.W.findIn K (.ref C) "__init__" = some (some (.ref f))
 fn:PySem.W.isFn K (.ref f)=true
 kp:PySem.W.keepIn K (.ref C)=true
theorem R7{H:Hp}{Q:VK}(M:Mk X.K C f)(F:aX X.prog X.w X.K X.mg X.base CX k f fd ps sp)(hr:bj (k+1) X.A)(hb:Binds X.K fd ps ds)(hd:Vals dvs ds)
  (hx:rg CX X E) (I:Inv X pins σ H s) (r:Vals vs us)
  (h:∀x dx,H x=none->H dx=none->dx≠x->sp (.ref x::(vs++dvs)) (upd (upd H dx (.own x)) x (.ins C dx [])) (λv H2=>v=.aG/\Q (.ref x) H2) E) :
  wpAny (model X.prog X.w) X.A (call (.ref C) us) (EP X pins σ Q) X.xe s:=by
 have hq:=h (s.heap.objs.size+1) s.heap.objs.size (I.ah.fresh (ot _)) (I.ah.fresh (aq _)) (aV (mE _));have I2:=Inv.made (C:=C) I;have r2:Vals (V.ref (s.heap.objs.size+1)::(vs++dvs)) (Value.ref (s.heap.objs.size+1)::(us++ds)):=.cons rfl (r.append hd);have hl:(Value.ref (s.heap.objs.size+1)::us++ds).length=ps.length:=by
  have e:=r2.length;rw[F.len _ _ _ _ hq] at e;exact e.symm
 refine wpAny_call (Tu (f:=f) I.bK M.makes M.init (mH.mp M.fn) (ow (F.run _ X.stack _ _ ⟨Value.ref (s.heap.objs.size+1)::us,[]⟩ (Value.ref (s.heap.objs.size+1)::(us++ds)) _ _ E (hr.make C us [])
  (I2.Eu.make C us []) (hb _ (Value.ref (s.heap.objs.size+1)::us) I2.bK hl) r2 hq) λr s' cg=>?_))
 cases r with
 | error e=>exact hx pins σ _ _ e s' I2 cg
 | ok fl =>
  cases fl with
  | ret u =>
   obtain⟨v,H',I3,rv,ev,q3⟩:=I2.after cg;subst ev;exact⟨rv,⟨V.ref (s.heap.objs.size+1),H',I3,rfl,q3⟩⟩
  | next=>exact False.elim cg
  | brk=>exact False.elim cg
  | cont=>exact False.elim cg
theorem TR(M:Mk X.K C f)(F:aX X.prog X.w X.K X.mg X.base CX k f fd ps sp)(hr:bj (k+1) X.A)(hg:Gl X x)(hm:X.mg x=some (.ref C))(hb:Binds X.K fd ps ds)(hd:Vals dvs ds)(hx:rg CX X E)
  (ha:PA X (e::es) t) (du:(x == ("__debug__" : Str))=false:=by decide) (he:starEach (e::es) X.env=(false,eval e X.env)::starEach es X.env:=by rfl) (aA:(backTo pos (starEach es X.env)).any (·.1)=false:=by rfl) :
  PE X (.Call (.Name x p) (e::es) [] pos) (LW C sp dvs E t):=by
 intro pins s σ H Q I h;refine mK (wG I hg hm ?_ du);refine zc (h₀ := X.base) I.ok.mod.so M.kp (ap (ha pos pins s σ H _ I h) λus s1 ⟨vs,H1,I1,r,q⟩=>⟨I1.bK,?_⟩) he aA;exact R7 M F hr hb hd hx I1 r q
end
def PK(X:Cx)(yg:List Keyword)(t:TA):Prop :=
 ∀(pos:Pos)(pins:List (Addr×Obj))(s:Shared)(σ : St)(H:Hp)(Q:List V->Hp->Prop),Inv X pins σ H s->t σ H Q->wpAny (model X.prog X.w) X.A (evalAll ((backToKw pos (keywordEach yg X.env)).map (·.2))) (AP X pins σ Q) X.xe s
section
variable{X:Cx}{CX:js}{k:Nat}{f C:Addr}{fd:FuncData}{ps ks:List Str}{sp:Sp}{E:XK}{x m:Str}{p pos apos Zp7:Pos}{e o:Expr}{es:List Expr}{yg:List Keyword}{te ta:TE}{t tk:TA}{nm:Option Str}
theorem UD:PK X [] gf:=λ_ _ _ _ H Q I h=>wpAny_evalAll_nil ⟨[],H,I,.nil,h⟩
theorem U8(ha:PE X e te)(hr:PK X yg t):PK X (⟨nm,e,Zp7⟩::yg) (lL te t):=by
 intro pos pins s σ H Q I h;show wpAny _ _ (evalAll ((do let v <- eval e X.env;standAt pos;pure v)::(backToKw pos (keywordEach yg X.env)).map (·.2))) _ _ s;refine wpAny_evalAll_cons (ae (ap (ha pins s σ H _ I h) λu s1 ⟨x,H1,I1,r1,q1⟩=>ae (tj (af ?_))));exact ap (hr pos pins s1 σ H1 _ I1 q1) λus s2 ⟨xs,H2,I2,r2,q2⟩=>⟨x::xs,H2,I2,.cons r1 r2,q2⟩
variable{g:List Value->List Value->List Value}{gV:List V->List V->List V}
end
structure cV(N P:List Str)(sc:Scope):Prop where
 kind:sc.kind=.function
 co:sc.isCoroutine=false
 gen:sc.isGenerator=false
 nd:N.Nodup
 pre:N.take P.length=P
 uX:∀x∈P,sc.names.lookup x=some .local\/sc.names.lookup x=some .cell
 t7:∀y∈sc.names,y.2 ≠ .free
theorem JP{kindOf:Str->Option NameKind}{x:Str}:∀{binds:List (Str×Value)}{m:Str->Option Value},(∀v,(x,v)∉binds)->bindL kindOf binds m x=m x
 | [],_,_=>rfl
 | (n,v)::r,m,h=>by
  unfold bindL;rw[JP λw hw=>h w (aR _ hw)]
  split
  ·have:x≠n:=by rintro rfl;exact h v aU
   simp[this]
  ·rfl
theorem JH{kindOf:Str->Option NameKind}{x:Str}:∀{binds:List (Str×Value)}{m:Str->Option Value},(∀v,(x,v)∉binds)->bindC kindOf binds m x=m x
 | [],_,_=>rfl
 | (n,v)::r,m,h=>by
  unfold bindC;rw[JH λw hw=>h w (aR _ hw)]
  split
  ·rfl
  ·have:x≠n:=by rintro rfl;exact h v aU
   simp[this]
theorem Jf{kindOf:Str->Option NameKind}{x:Str}{v:Value}:∀{P:List Str}{vs:List Value}{i:Nat}{m:Str->Option Value},P.Nodup->P[i]?= some x->vs[i]?= some v->kindOf x=some .local ->
  bindL kindOf (P.zip vs) m x=some v
 | [],_,_,_,_,h,_,_=>by simp at h
 | _::_,[],_,_,_,_,h,_=>by simp at h
 | p::P,w::vs,0,m,nd,h1,h2,hk=>by
  simp at h1 h2;subst h1;subst h2;show bindL kindOf ((p,w)::P.zip vs) m p=_;unfold bindL;rw[JP λv hv=>(fD.mp nd).1 (List.of_mem_zip hv).1,ai hk];simp
 | p::P,w::vs,i+1,m,nd,h1,h2,hk=>by
  show bindL kindOf ((p,w)::P.zip vs) m x=_;unfold bindL;exact Jf (i:=i) (fD.mp nd).2 (by simpa using h1) (by simpa using h2) hk
theorem Js{kindOf:Str->Option NameKind}{x:Str}{v:Value}:∀{P:List Str}{vs:List Value}{i:Nat}{m:Str->Option Value},P.Nodup->P[i]?= some x->vs[i]?= some v->kindOf x≠some .local ->
  bindC kindOf (P.zip vs) m x=some v
 | [],_,_,_,_,h,_,_=>by simp at h
 | _::_,[],_,_,_,_,h,_=>by simp at h
 | p::P,w::vs,0,m,nd,h1,h2,hk=>by
  simp at h1 h2;subst h1;subst h2;show bindC kindOf ((p,w)::P.zip vs) m p=_;unfold bindC;rw[JH λv hv=>(fD.mp nd).1 (List.of_mem_zip hv).1,ag hk];simp
 | p::P,w::vs,i+1,m,nd,h1,h2,hk=>by
  show bindC kindOf ((p,w)::P.zip vs) m x=_;unfold bindC;exact Js (i:=i) (fD.mp nd).2 (by simpa using h1) (by simpa using h2) hk
def start(N:List Str)(vs:List V):St:=vs.map some++List.replicate (N.length-vs.length) none
def lQ(CX:js)(P:Program)(w:World)(K:PySem.W.Frag)(mg:Str->Option Value)(base:Heap)(N:List Str)(qual:Str)(scope:Scope)(f:Addr)(cd:Value)(A:Around)(outer:List Env)(s:Shared)(H:Hp)(E:XK):Cx where
 prog:=P
 w:=w
 K:=K
 mg:=mg
 base:=base
 A:=A.deeper (envOfC qual scope s.heap.objs.size f cd)
 N:=N
 cO := s
 jv := H
 env:=envOfC qual scope s.heap.objs.size f cd
 outer:=outer
 stack:=envOfC qual scope s.heap.objs.size f cd::outer
 ex:=[]
 calm:=true
 fn:=λ_=>true
 pn:=[]
 xe:=λe s'=>wpAny (model P w) (A.deeper (envOfC qual scope s.heap.objs.size f cd)) (leaving (envOfC qual scope s.heap.objs.size f cd) e) (λ_ Cn=>CX outer H s E e Cn) (λe' Cn=>CX outer H s E e' Cn) s'
theorem JV{sc:Scope}{x:Str}(h:sc.names.lookup x=some .cell):∃c,(cellsFrom n sc.names []).lookup x=some c:=by
 have q:=PySem.W.cellsFrom_some sc.names n [] (.inl h);exact B5.mp q
variable{f:Addr}{CX:js}{N:List Str}{qual:Str}{scope:Scope}
theorem RS{cd:Value}{s1:Shared}{E:XK}{vs:List V}
  (S:cV N ps scope) (hd:A.handled=none) (e0:qK P w K mg base A outer s H) (hl:vs.length=ps.length) (r:Vals vs us)
  (x:InCallC s s.heap.objs.size (bindL (envOfC qual scope s.heap.objs.size f cd).kindOf (ps.zip us) λ_=>none) (cellsFrom (s.heap.objs.size+1) scope.names []) (bindC (envOfC qual scope s.heap.objs.size f cd).kindOf (ps.zip us) λ_=>none) s1) :
  Inv (lQ CX P w K mg base N qual scope f cd A outer s H E) [] (start N vs) H s1:=by
 have aA:ps.length<=N.length:=by have:=congrArg List.length S.pre;rw[cY] at this;lia
 obtain⟨h1,tk,rfl,hk⟩:=x.done;have GJ:∀b:Addr,b∉(lQ CX P w K mg base N qual scope f cd A outer s H E).ex:=λb z=>absurd (show b∈([]:List Addr) from z) (by simp);refine⟨⟨e0.mod,S.kind,rfl,rfl,aq _,λy z c h1 h2=>?_,λy hy=>?_,λy c _ h=>?_,λ_=>hd,Around.frames_deeper e0.frames,.inr ⟨rfl,rfl⟩,λb z=>absurd z (GJ b),e0.bs,e0.gh,λb _ _=>GJ b,λb z=>absurd z (GJ b),e0.fj,e0.iZ⟩,
  rfl,e0.bare,Un.kept hk,⟨_,x.toInCall.ns,λi y v h1 h2 h3=>?_⟩,λy c h=>⟨_,x.cell y c h⟩,e0.ah.fresh (aq _),λy c h=>?_,λp hp=>absurd (show p∈([]:List (Addr×Obj)) from hp) (by simp),e0.ah.kept hk,?_⟩
 ·exact name_of_addr x.apart (sY h1) (sY h2)
 ·have hy:scope.names.lookup y=some .cell\/scope.names.lookup y=some .free:=hy;rcases hy with hy|hy
  ·exact JV hy
  ·exact absurd rfl (S.t7 _ (sY hy))
 ·exact iN (x.above y c (sY h))
 ·have hi:i<vs.length:=by
   unfold start at h2;by_cases hi:i<vs.length
   ·exact hi
   ·rw[yU (by simpa using hi)] at h2;rw[List.getElem?_replicate] at h2
    split at h2 <;> cases h2
  have ha:vs[i]?= some v:=by
   unfold start at h2;rw[BZ (by simpa using hi),cp] at h2;cases e:vs[i]? with
   | none=>rw[e] at h2;cases h2
   | some a=>rw[e] at h2;cases h2;rfl
  obtain⟨u,hu,rv⟩:=r.get ha;have hp:ps[i]?= some y:=by
   rw[<- S.pre,B0 (by lia)];exact h1
  have uV:ps.Nodup:=by rw[<- S.pre];exact S.nd.sublist (List.take_sublist _ _)
  refine⟨u,rv,?_⟩;rcases S.uX y (bU hp) with k|k
  ·exact .inl ⟨k,Jf uV hp hu k⟩
  ·obtain⟨c,e⟩:=JV (n:=s.heap.objs.size+1) k;refine .inr ⟨.inl k,c,e,?_⟩;have q:=x.cell y c e;rw[Js uV hp hu (by show scope.names.lookup y≠_;rw[k];decide)] at q;exact q
 ·exact e0.ah.fresh (iN (x.above y c (sY h)))
 ·unfold start;show _=N.length;rw[bL,ay,yV];lia
theorem Ea{k:Nat}{params:Arguments}{dV kV doc pm aP ct oc:Value}{an od:Option Addr}
  {mn:Array (Option Value)}  {sp:Sp} (lk:K.lookup f=some ⟨oc,od,.func (PySem.W.fnOf name qual params body scope dV kV doc pm an aP ct),mn⟩) (eF:PySem.W.codeIn K aP qual=true) (S:cV N ps scope)
  (len:∀vs H Q E,sp vs H Q E->vs.length=ps.length)
  (ny:∀(A:Around)(outer:List Env)(s:Shared)(H:Hp)(vs:List V)(Q:VK)(E:XK),bj k (A.deeper (envOfC qual scope s.heap.objs.size f aP))->sp vs H Q E ->
   ∃t,cF (lQ CX P w K mg base N qual scope f aP A outer s H E) body t/\t { nx:=λ_ H'=>Q .aG H',rt:=Q } (start N vs) H) :
  aX P w K mg base CX (k+1) f (PySem.W.fnOf name qual params body scope dV kV doc pm an aP ct) ps sp:=by
 refine⟨len,λA outer s H args us vs Q E hr e0 hb r iF=>?_⟩;have hl:=len _ _ _ _ iF;have KX:K.In s.heap:=e0.mod.so.keeps λb o e=>(e0.bs b o e).1;have lim:s.heap.NoLimit:=e0.mod.nolimit.keeps λb o e=>(e0.bs b o e).1;have Y9:∀y∈ps.zip us,scope.names.lookup y.1=some .local\/(scope.names.lookup y.1=some .cell/\((cellsFrom (s.heap.objs.size+1) scope.names []).lookup y.1).isSome=true):=λ⟨n,v⟩ hy=>by
  rcases S.uX n (List.of_mem_zip hy).1 with q|q
  ·exact .inl q
  ·exact .inr ⟨q,PySem.W.cellsFrom_some _ _ _ (.inl q)⟩
 refine codeAny_call_function hr.depth (KX _ _ lk) rfl S.co S.gen rfl (PySem.W.codeRec_of KX eF) (hb _ _ _ _ ?_);refine wpAny_newFunctionEnv_cells S.kind Y9 λenv he s1 x=>?_;subst he;refine⟨lim.keeps x.toInCall.keep,codeAny_func ?_⟩;obtain⟨t,ht,hq⟩:=ny A outer s H vs Q E (hr.deeper _) iF;have I:Inv (lQ CX P w K mg base N qual scope f aP A outer s H E) [] (start N vs) H s1:=RS S hr.hd e0 hl r x;refine cw (ht [] s1 (start N vs) H _ I hq) (λfl s' hs=>?_) λe s' hs=>hs;have fin:∀{ao:St}{H':Hp}{v:V}{u:Value},Inv (lQ CX P w K mg base N qual scope f aP A outer s H E) [] ao H' s'->RelV v u->Q v H'->CE outer P w H s Q u s' :=
  λ{ao H' v u} J rv q=>⟨v,H',J.os,J.bare,J.base,J.ah,rv,q⟩
 cases fl with
 | ret u =>
  obtain⟨v,ao,H',J,rv,q⟩:=hs;exact fin J rv q
 | next =>
  obtain⟨ao,H',J,q⟩:=hs;exact fin (v:=V.aG) (u:=Value.none) J rfl q
 | brk =>
  obtain⟨_,_,_,q⟩:=hs;exact False.elim q
 | cont =>
  obtain⟨_,_,_,q⟩:=hs;exact False.elim q
section
variable{X:Cx}{x:Str}{p pos:Pos}{e:Expr}{es:List Expr}{t:TA}{id T:String}{r:List V->Hp->VK->Prop}
def OT(r:List V->Hp->VK->Prop)(t:TA):TE:=λσ H Q=>t σ H λvs H1=>r vs H1 Q
theorem Zx(hc:f_ X (.builtin id) r)(hg:Gl X x)(hm:X.mg x=none)(hv:bootBuiltins x=some (.builtin id))(ha:PA X (e::es) t)(hn:x ≠ "__name__" := by decide) (du:(x == ("__debug__" : Str))=false:=by decide)
  (he:starEach (e::es) X.env=(false,eval e X.env)::starEach es X.env:=by rfl) (aA:(backTo pos (starEach es X.env)).any (·.1)=false:=by rfl):PE X (.Call (.Name x p) (e::es) [] pos) (OT r t):=by
 intro pins s σ H Q I h;refine mK (kl I hg hm hv ?_ hn du);exact PyProof.Rows.callWith_builtin1 (ap (ha pos pins s σ H _ I h) λus s1 ⟨vs,H1,I1,r1,q1⟩=>hc pins s1 σ H1 vs us Q I1 r1 q1) he aA
theorem ZV(hc:f_ X (.type T) r)(hg:Gl X x)(hm:X.mg x=none)(hv:bootBuiltins x=some (.type T))(ha:PA X (e::es) t)(hn:x ≠ "__name__" := by decide) (du:(x == ("__debug__" : Str))=false:=by decide)
  (he:starEach (e::es) X.env=(false,eval e X.env)::starEach es X.env:=by rfl) (aA:(backTo pos (starEach es X.env)).any (·.1)=false:=by rfl):PE X (.Call (.Name x p) (e::es) [] pos) (OT r t):=by
 intro pins s σ H Q I h;refine mK (kl I hg hm hv ?_ hn du);exact vz (ap (ha pos pins s σ H _ I h) λus s1 ⟨vs,H1,I1,r1,q1⟩=>hc pins s1 σ H1 vs us Q I1 r1 q1) he aA
end
end L2
namespace HT
open PySem PyProof.Rows
def fR(n d:Nat):Option Int->Nat
 | none=>d
 | some v=>if v<0 then(v+(n:Int)).toNat else min v.toNat n
theorem J0(n d:Nat):fR n d none=d:=rfl
theorem K7(n d k:Nat):fR n d (some (k:Int))=min k n:=by
 show(if(k:Int)<0 then((k:Int)+(n:Int)).toNat else min (k:Int).toNat n)=min k n
 rw[ag (by lia),Int.toNat_natCast]
end HT
namespace L2
open PySem PySem.Spec PyProof.Rows
abbrev TO:=St->Hp->(Option Int->Hp->Prop)->Prop
def PO(X:Cx)(e:Option Expr)(t:TO):Prop :=
 ∀(pins:List (Addr×Obj))(s:Shared)(σ : St)(H:Hp)(Q:Option Int->Hp->Prop),Inv X pins σ H s->t σ H Q ->
  wpAny (model X.prog X.w) X.A (evalPart e X.env) (λu s'=>∃o H',Inv X pins σ H' s'/\IsPart u o/\Q o H') X.xe s
def UW:TO:=λ_ H Q=>Q none H
def Vt(t:TE):TO:=λσ H Q=>t σ H λx H1=>∃i,x=.int i/\Q (some i) H1
variable{X:Cx}
theorem tT:PO X none UW:=by
 intro pins s σ H Q I h;rw[evalPart_none];exact af ⟨none,H,I,.none,h⟩
variable{e:Expr}{te:TE}
theorem tY(h:PE X e te):PO X (some e) (Vt te):=by
 intro pins s σ H Q I hw;rw[evalPart_some];refine ap (h pins s σ H _ I hw) λu s1 ⟨x,H1,I1,r1,q1⟩=>?_;obtain⟨i,rfl,q⟩:=q1;obtain⟨t,rfl⟩:=r1;exact⟨some i,H1,I1,.int i t,q⟩
variable{lo hi:Option Expr}
def HU(X:Cx)(r:V->Option Int->Option Int->Hp->VK->Prop):Prop :=
 ∀(pins:List (Addr×Obj))(s:Shared)(σ : St)(H:Hp)(x:V)(v vl vu:Value)(lo hi:Option Int)(sl:Addr)(Q:VK),Inv X pins σ H s->RelV x v->s.heap.IsSliceOf sl vl vu .none->IsPart vl lo->IsPart vu hi->r x lo hi H Q ->
  ∃T id,typeLookup (.type T) "__getitem__" = pure (some (.builtin id))/\s.TypeIs v T/\wpAny (model X.prog X.w) X.A (getItem v (.ref sl)) (EP X pins σ Q) X.xe s
def tSl(r:V->Option Int->Option Int->Hp->VK->Prop)(te:TE)(tl th:TO):TE:=λσ H Q=>te σ H λx H1=>tl σ H1 λl H2=>th σ H2 λu H3=>r x l u H3 Q
variable{tl th:TO}{pos p2:Pos}
theorem tO{r:V->Option Int->Option Int->Hp->VK->Prop}(hr:HU X r)(he:PE X e te)(hl:PO X lo tl)(hu:PO X hi th):PE X (.Subscript e (.Slice lo hi none p2) pos) (tSl r te tl th):=by
 intro pins s σ H Q I h;refine Subscript_ (ap (he pins s σ H _ I h) λv s1 ⟨x,H1,I1,r1,q1⟩=>?_);refine wpAny_Slice (ap (hl pins s1 σ H1 _ I1 q1) λvl s2 ⟨l,H2,I2,pl,q2⟩=>ap (hu pins s2 σ H2 _ I2 q2) λvu s3 ⟨u,H3,I3,pu,q3⟩=>?_);rw[evalPart_none];refine af ?_;have I4:Inv X pins σ H3 { s3 with heap:=s3.heap.push { cls:=.type "slice",data:=.fields #[vl,vu,.none] } }:=I3.kept (t':=s3.toks) λb ob q=>ax _ q;obtain⟨T,id,hT,ht,hg⟩:=hr pins { s3 with heap:=s3.heap.push { cls:=.type "slice",data:=.fields #[vl,vu,.none] } } σ H3 x v vl vu l u s3.heap.objs.size Q I4 r1 (Heap.IsSliceOf.new ..) pl pu q3;show wpAny (model X.prog X.w) X.A (subscriptTail e (.Slice lo hi none p2) v (.ref s3.heap.objs.size)) (EP X pins σ Q) X.xe { s3 with heap:=s3.heap.push { cls:=.type "slice",data:=.fields #[vl,vu,.none] } };exact tail_any (ops:=[.ref s3.heap.objs.size,v]) ht hT hg (by with_unfolding_all rfl)
def bV(xs:List V)(lo hi:Option Int):List V:=(xs.drop (HT.fR xs.length 0 lo)).take (HT.fR xs.length xs.length hi-HT.fR xs.length 0 lo)
theorem QF(xs:List V)(lo hi:Option Int):(bV xs lo hi).length<=xs.length:=by
 unfold bV;rw[cY,oo];lia
def pU(n:Nat)(i:Int):Option Nat:=if 0<=i then(if i<n then some i.toNat else none) else if -(n:Int)<=i then some (i+n).toNat else none
def iy{α : Type}(xs:List α)(i:Int):Option α := (pU xs.length i).bind λj=>xs[j]?
variable{n j:Nat}{i:Int}
theorem U4(h:pU n i=some j):seqIndex? i n=some j/\j<n /\ -(n:Int)<=i/\i<n:=by
 unfold pU at h;by_cases h0:0<=i
 ·rw[ai h0] at h;by_cases h1:i<n
  ·rw[ai h1] at h;have e:i.toNat=j:=cE h;exact⟨by rw[seqIndex_of h0 h1,e],by lia,by lia,h1⟩
  ·rw[ag h1] at h;cases h
 ·rw[ag h0] at h;by_cases h1 : -(n:Int)<=i
  ·rw[ai h1] at h;have e:(i+n).toNat=j:=cE h;exact⟨by rw[seqIndex_neg (by lia) h1,e],by lia,h1,by lia⟩
  ·rw[ag h1] at h;cases h
variable{α:Type}
theorem DO{xs:List α}{v : α}(h:iy xs i=some v):∃j,seqIndex? i xs.length=some j/\xs[j]?= some v/\j<xs.length /\ -(xs.length:Int)<=i/\i<xs.length:=by
 unfold iy at h;cases e:pU xs.length i with
 | none=>rw[e] at h;cases h
 | some j =>
  rw[e] at h;obtain⟨h1,h2,h3,h4⟩:=U4 e;exact⟨j,h1,h,h2,h3,h4⟩
theorem wg{xs:List α}{v : α}(h:xs[j]?= some v):iy xs (j:Int)=some v:=by
 have hj:j<xs.length:=(dc.mp h).1;have e:pU xs.length (j:Int)=some j:=by
  unfold pU;rw[ai (by lia),ai (by lia)];simp
 unfold iy;rw[e];exact h
theorem S2(xs:List α)(v : α):iy (xs ++ [v]) (-1)=some v:=by
 have hl:(xs ++ [v]).length=xs.length+1:=by simp
 have e:pU (xs ++ [v]).length (-1)=some xs.length:=by
  unfold pU;rw[hl,ag (by decide),ai (by lia)]
  congr 1
  lia
 unfold iy;rw[e];show(xs ++ [v])[xs.length]?= some v;simp
def Ub(b:Expr):Prop := ∀o i,subscripted b false o i=operate [o,i] (getItem o i)
def vO(X:Cx)(r:R2):Prop :=
 ∀(value slice:Expr)(pins:List (Addr×Obj))(s:Shared)(σ : St)(H:Hp)(x y:V)(v u:Value)(Q:VK),Inv X pins σ H s->RelV x v->RelV y u->r x y H Q ->
  subscripted slice false v u=operate [v,u] (getItem v u)->wpAny (model X.prog X.w) X.A (subscriptTail value slice v u) (EP X pins σ Q) X.xe s
def CF(X:Cx)(id:String)(r:V->List V->Hp->VK->Prop):Prop :=
 ∀(pins:List (Addr×Obj))(s:Shared)(σ : St)(H:Hp)(x:V)(xs:List V)(v:Value)(us:List Value)(Q:VK),Inv X pins σ H s->RelV x v->Vals xs us->r x xs H Q ->
  wpAny (model X.prog X.w) X.A (call (.builtin id) (v::us)) (EP X pins σ Q) X.xe s
section
variable{X:Cx}{a b:Expr}{ta tb:TE}{pos:Pos}
theorem ZJ{r:R2}(hr:vO X r)(ha:PE X a ta)(hb:PE X b tb)(hs:Ub b):PE X (.Subscript a b pos) (BO r ta tb):=by
 intro pins s σ H Q I h;exact Subscript_ (Ec ha hb I h λv u s2 x y H2 I2 rx ry q=>hr a b pins s2 σ H2 x y v u Q I2 rx ry q (hs _ _))
def Wt(K:PySem.W.Frag):R2:=λx y H Q=>∃p xs i v,x=.ref p/\y=.int i/\aj K H p xs/\iy xs i=some v/\Q v H
def L_(K:PySem.W.Frag):R2:=λx y H Q=>∃p xs i v,x=.ref p/\y=.int i/\ar K H p xs/\iy xs i=some v/\Q v H
def Wf:R2:=λx y H Q=>∃z i c,x=.str z/\y=.int i/\z.length<=sizeLine/\iy z.cps.toList i=some c/\Q (.str ⟨#[c]⟩) H
theorem wB:vO X (Wt X.K):=by
 intro value slice pins s σ H x y v u Q I rx ry h hs;obtain⟨p,xs,i,z,rfl,rfl,hq,he,q⟩:=h;cases rx;obtain⟨t,rfl⟩:=ry;obtain⟨its,r,pl,hz⟩:=I.list hq;obtain⟨j,h1,h2,h3,h4,h5⟩:=DO he;obtain⟨w,ew,mR⟩:=r.get h2;have hl:=r.length;have hn:=ua;have fin:EP X pins σ Q w s:=⟨z,H,I,mR,q⟩;by_cases h0:0<=i
 ·have hj:i.toNat=j:=by
   rw[seqIndex_of h0 h5] at h1;exact cE h1
  exact item_listR pl.isList h0 (by lia) (by rw[hj];simpa using ew) fin hs
 ·have hj:(i+(its.toArray.size:Int)).toNat=j:=by
   rw[seqIndex_neg (by lia) h4] at h1;rw[bP,<- hl];exact cE h1
  exact subscriptTail_builtinR (x:=w) pl.isList.typeIs slot_list_getitem.lookup
   (wpAny_getItem_list_neg (Q:=λr s'=>r=w/\EP X pins σ Q r s') pl.isList (by lia) (by rw[bP] <;> lia) (by lia) (by rw[hj];simpa using ew) ⟨rfl,fin⟩) hs
theorem ZD:vO X (L_ X.K):=by
 intro value slice pins s σ H x y v u Q I rx ry h hs;obtain⟨p,xs,i,z,rfl,rfl,hq,he,q⟩:=h;cases rx;obtain⟨t,rfl⟩:=ry;obtain⟨its,r,pl,hz⟩:=I.tuple hq;obtain⟨j,h1,h2,h3,h4,h5⟩:=DO he;obtain⟨w,ew,mR⟩:=r.get h2;have hl:=r.length;have hn:=ua;have fin:EP X pins σ Q w s:=⟨z,H,I,mR,q⟩;exact subscriptTail_builtinR (x:=w) pl.typeIs slot_tuple_getitem.lookup
  (getItem_tuple (j:=j) (Q:=λr s'=>r=w/\EP X pins σ Q r s') pl (by lia) (by lia) (by rw[bP,<- hl];exact h1) (by simpa using ew) ⟨rfl,fin⟩) hs
theorem VU:vO X Wf:=by
 intro value slice pins s σ H x y v u Q I rx ry h hs;obtain⟨z,i,c,rfl,rfl,hz,he,q⟩:=h;obtain⟨t,rfl⟩:=rx;obtain⟨t',rfl⟩:=ry;obtain⟨j,h1,h2,h3,h4,h5⟩:=DO he;have hl:z.cps.toList.length=z.length:=by simp[Str.length]
 rw[hl] at h1 h4 h5;have hn:=ua;exact tail_any (typeIs_str s z t) slot_str_getitem.lookup (getItem_str (c:=c) (by
  have e1:decide (i < -(2 ^ 63:Int))=false:=a8 (by lia);have e2:decide (i>=2 ^ 63)=false:=a8 (by lia);rw[e1,e2,Bool.or_false]) (by rw[h1];simpa using h2) ⟨.str ⟨#[c]⟩,H,I.tok _,⟨_,rfl⟩,q⟩) hs
theorem Qw(lo hi:Option Int)(n:Nat):(sliceBounds lo hi none n).1=((HT.fR n 0 lo:Nat):Int)/\(sliceBounds lo hi none n).2.1=((HT.fR n n hi:Nat):Int)/\(sliceBounds lo hi none n).2.2=1:=by
 refine⟨?_,?_,rfl⟩
 ·cases lo with
  | none=>simp[sliceBounds,HT.fR]
  | some i =>
   simp only[sliceBounds,HT.fR,Option.getD_none,show(1:Int) > 0 by decide,lq];by_cases h:i<0
   ·simp only[h,lq] <;> lia
   ·simp only[h,dB] <;> lia
 ·cases hi with
  | none=>simp[sliceBounds,HT.fR]
  | some i =>
   simp only[sliceBounds,HT.fR,Option.getD_none,show(1:Int) > 0 by decide,lq];by_cases h:i<0
   ·simp only[h,lq] <;> lia
   ·simp only[h,dB] <;> lia
theorem Qg(its:List Value)(lo hi:Option Int):slicePick its.toArray lo hi none=((its.drop (HT.fR its.length 0 lo)).take (HT.fR its.length its.length hi-HT.fR its.length 0 lo)).toArray:=by
 obtain⟨h1,h2,h3⟩:=Qw lo hi its.toArray.size;unfold slicePick;rw[h1,h2,h3];simp only[sliceRange_one,pick_run,bP] <;> rfl
def V8(K:PySem.W.Frag):V->Option Int->Option Int->Hp->VK->Prop:=λx lo hi H Q=>∃a xs,x=.ref a/\aj K H a xs/\∀p,H p=none->Q (.ref p) (upd H p (.lst (bV xs lo hi)))
theorem tV:HU X (V8 X.K):=by
 intro pins s σ H x v vl vu lo hi sl Q I rx hs pl pu h;obtain⟨a,xs,rfl,hx,q⟩:=h;cases rx;obtain⟨its,r,ht,hz⟩:=I.list hx;have hlen:=r.length;refine⟨"list",_,slot_list_getitem.lookup,ht.isList.typeIs,?_⟩;refine wpAny_getItem_list_slice ht.isList hs pl pu .none (by simp) ?_ (by rw[bP] <;> lia)
 rw[Qg,<- hlen];refine⟨.ref s.heap.objs.size,_,I.laid (t':=s.toks) (o:=.lst (bV xs lo hi)) (λb ob q=>ax _ q) (aq _) ?_,rfl,q _ (I.ah.fresh (aq _))⟩;exact⟨bD (QF xs lo hi) hz,_,0,(r.drop (HT.fR xs.length 0 lo)).take (HT.fR xs.length xs.length hi-HT.fR xs.length 0 lo),bo _ rfl⟩
def mZ:V->Bool
 | .aG=>true
 | .bl _=>true
 | .int _=>true
 | .str _=>true
 | _=>false
def lW:V->V->Bool
 | .aG,.aG=>true
 | .bl a,.bl b=>a == b
 | .bl a,.int b=>(if a then 1 else 0) == b
 | .int a,.bl b=>a == (if b then 1 else 0)
 | .int a,.int b=>a == b
 | .str a,.str b=>a == b
 | _,_=>false
variable{s:Shared}{x:V}{u v:Value}
theorem VP{A:Around}{y:V}(ry:RelV y u)(rx:RelV x v)(fy:mZ y=true)(fx:mZ x=true):SeqAt.EqAt A s u v (lW y x):=by
 cases y with
 | aG =>
  cases ry;cases x with
  | aG=>cases rx;exact SeqAt.EqAt.same _
  | bl b=>cases rx;exact SeqAt.EqAt.none_bool b
  | int b=>obtain⟨t,rfl⟩:=rx;exact SeqAt.EqAt.none_int b t
  | str b=>obtain⟨t,rfl⟩:=rx;exact SeqAt.EqAt.none_str b t
  | _=>exact absurd (show false=true from fx) dW
 | bl a =>
  cases ry;cases x with
  | aG=>cases rx;exact SeqAt.EqAt.bool_none a
  | bl b=>cases rx;exact SeqAt.EqAt.bool_bool a b
  | int b=>obtain⟨t,rfl⟩:=rx;exact SeqAt.EqAt.bool_int a b t
  | str b=>obtain⟨t,rfl⟩:=rx;exact SeqAt.EqAt.bool_str a b t
  | _=>exact absurd (show false=true from fx) dW
 | int a =>
  obtain⟨t',rfl⟩:=ry;cases x with
  | aG=>cases rx;exact SeqAt.EqAt.int_none a t'
  | bl b=>cases rx;exact SeqAt.EqAt.int_bool a t' b
  | int b=>obtain⟨t,rfl⟩:=rx;exact SeqAt.EqAt.int_int a t' b t
  | str b=>obtain⟨t,rfl⟩:=rx;exact SeqAt.EqAt.int_str a t' b t
  | _=>exact absurd (show false=true from fx) dW
 | str a =>
  obtain⟨t',rfl⟩:=ry;cases x with
  | aG=>cases rx;exact SeqAt.EqAt.str_none a t'
  | bl b=>cases rx;exact SeqAt.EqAt.str_bool a t' b
  | int b=>obtain⟨t,rfl⟩:=rx;exact SeqAt.EqAt.str_int a t' b t
  | str b=>obtain⟨t,rfl⟩:=rx;exact SeqAt.EqAt.str_str a t' b t
  | _=>exact absurd (show false=true from fx) dW
 | _=>exact absurd (show false=true from fy) dW
def nq(x:V)(u:Value):Bool:=match u with
 | .none=>lW .aG x
 | .bool b=>lW (.bl b) x
 | .int i _=>lW (.int i) x
 | .str z _=>lW (.str z) x
 | _=>false
theorem Lg{y:V}(r:RelV y u)(f:mZ y=true):nq x u=lW y x:=by
 cases y with
 | aG=>cases r;rfl
 | bl b=>cases r;rfl
 | int i=>obtain⟨t,rfl⟩:=r;rfl
 | str z=>obtain⟨t,rfl⟩:=r;rfl
 | _=>exact absurd (show false=true from f) dW
theorem DS{x:V}:∀{xs:List V}{us:List Value},Vals xs us->xs.all mZ=true->us.any (nq x)=xs.any λy=>lW y x
 | _,_,.nil,_=>rfl
 | y::xs,u::us,.cons r t,f=>by
  rw[List.all_cons,eY] at f;rw[vh,vh,Lg r f.1,DS t f.2]
theorem Du{A:Around}{s:Shared}{x:V}{v:Value}(rx:RelV x v)(fx:mZ x=true):∀{xs:List V}{us:List Value},Vals xs us->xs.all mZ=true->∀u∈us,SeqAt.EqAt A s u v (nq x u)
 | _,_,.nil,_=>λu hu=>by cases hu
 | y::xs,u::us,.cons r t,f=>λu' hu=>by
  rw[List.all_cons,eY] at f;rcases aJ.mp hu with rfl|hu
  ·rw[Lg r f.1];exact VP r rx f.1 fx
  ·exact Du rx fx t f.2 u' hu
def Br(x:V)(xs:List V):Bool:=xs.any λy=>lW y x
def OH(K:PySem.W.Frag)(neg:Bool):R2:=λx y H Q=>∃p xs,y=.ref p/\(aj K H p xs\/ar K H p xs)/\mZ x=true/\xs.all mZ=true/\Q (.bl (if neg then !Br x xs else Br x xs)) H
theorem Sv:dh X (compareOp .In) (OH X.K false):=by
 intro pins s σ H x y v u Q I rx ry h;obtain⟨p,xs,rfl,hq,fx,fs,q⟩:=h;cases ry;rcases hq with hq|hq
 ·obtain⟨its,r,pl,hz⟩:=I.list hq;refine SeqAt.in_listAt (nq x) pl.isList (λw hw=>Du rx fx r fs w (by simpa using hw)) ⟨.bl _,H,I,rfl,?_⟩;rw[show its.toArray.any (nq x)=its.any (nq x) by simp,DS r fs];exact q
 ·obtain⟨its,r,pl,hz⟩:=I.tuple hq;refine SeqAt.in_tupleAt (nq x) pl (λw hw=>Du rx fx r fs w (by simpa using hw)) ⟨.bl _,H,I,rfl,?_⟩;rw[show its.toArray.any (nq x)=its.any (nq x) by simp,DS r fs];exact q
theorem Zy:f_ X (.builtin "len") (λxs H Q=>∃p ys,xs=[.ref p]/\(aj X.K H p ys\/ar X.K H p ys)/\Q (.int ys.length) H):=by
 intro pins s σ H xs us Q I r h;obtain⟨p,ys,rfl,hq,q⟩:=h;obtain⟨u,rfl,rx⟩:=vals1 r;cases rx;have hn:=ua;rcases hq with hq|hq
 ·obtain⟨its,r',pl,hz⟩:=I.list hq;have hlen:=r'.length;exact Calls.call_len_list pl.isList (by simp only[bP] <;> lia) ⟨.int ys.length,H,I.tok _,⟨s.toks+1,by rw[bP,hlen]⟩,q⟩
 ·obtain⟨its,r',pl,hz⟩:=I.tuple hq;have hlen:=r'.length;exact len_tuple pl (by simp only[bP] <;> lia) ⟨.int ys.length,H,I.tok _,⟨s.toks+1,by rw[bP,hlen]⟩,q⟩
theorem Qv:f_ X (.builtin "len") (λxs H Q=>∃z,xs=[.str z]/\z.length<=sizeLine/\Q (.int z.length) H):=by
 intro pins s σ H xs us Q I r h;obtain⟨z,rfl,hz,q⟩:=h;obtain⟨u,rfl,t,rfl⟩:=vals1 r;have hn:=ua;exact len_str (by lia) ⟨.int z.length,H,I.tok _,⟨_,rfl⟩,q⟩
theorem Io:f_ X (.type "list") (λxs H Q=>∃p ys,xs=[.ref p]/\(aj X.K H p ys\/ar X.K H p ys)/\∀l,H l=none->Q (.ref l) (upd H l (.lst ys))):=by
 intro pins s σ H xs us Q I r h;obtain⟨p,ys,rfl,hq,q⟩:=h;obtain⟨u,rfl,rx⟩:=vals1 r;cases rx;have fin:∀(its:List Value),Vals ys its->ys.length<=sizeLine->∀(h':Heap)(c':Nat),(∀b o',s.heap.get? b=some o'->h'.get? b=some o') ->
   h'.get? s.heap.objs.size=some { cls:=.type "list",dict:=none,data:=.seq its.toArray c',slots :=#[] }->EP X pins σ Q (.ref s.heap.objs.size) { s with heap:=h' }:=λits r' hz h' c' kp e =>
  ⟨.ref s.heap.objs.size,_,I.laid (t':=s.toks) kp (aq _) (show ZL X.prog X.w _ h' _ (.lst ys) from⟨hz,its,c',r',e⟩),rfl,q _ (I.ah.fresh (aq _))⟩
 rcases hq with hq|hq
 ·obtain⟨its,r',pl,hz⟩:=I.list hq;have hlen:=r'.length;obtain⟨o,ho,hc,n,hd⟩:=pl.isList;exact call_list_seq p (.inl rfl) ho hc hd (λh' c' kp e=>fin its r' hz h' c' kp e) (by simp only[bP] <;> lia)
 ·obtain⟨its,r',pl,hz⟩:=I.tuple hq;have hlen:=r'.length;obtain⟨o,ho,hc,n,hd⟩:=pl;exact call_list_seq p (.inr rfl) ho hc hd (λh' c' kp e=>fin its r' hz h' c' kp e) (by simp only[bP] <;> lia)
theorem Z9:f_ X (.type "tuple") (λxs H Q=>∃p ys,xs=[.ref p]/\((aj X.K H p ys/\∀l,H l=none->Q (.ref l) (upd H l (.tup ys)))\/(ar X.K H p ys/\Q (.ref p) H))):=by
 intro pins s σ H xs us Q I r h;obtain⟨p,ys,rfl,h⟩:=h;obtain⟨u,rfl,rx⟩:=vals1 r;cases rx;rcases h with⟨hq,q⟩|⟨hq,q⟩
 ·obtain⟨its,r',pl,hz⟩:=I.list hq;have hlen:=r'.length;refine call_tuple_list pl.isList (λh' kp=>?_) (by simp only[bP] <;> lia)
  have I1:Inv X pins σ H { s with heap:=h' }:=I.kept (t':=s.toks) kp;have I2:Inv X pins σ (upd H h'.objs.size (.tup ys)) { s with heap:=h'.push { cls:=.type "tuple",data:=.seq its.toArray } } :=
   I1.laid (t':=s.toks) (λb o e=>ax _ e) (aq _) (show ZL X.prog X.w _ _ _ (.tup ys) from⟨hz,its,r',IsTup.new _ _⟩)
  exact⟨.ref h'.objs.size,_,I2,rfl,q _ (I1.ah.fresh (aq _))⟩
 ·obtain⟨its,r',pl,hz⟩:=I.tuple hq;exact call_tuple_same pl ⟨.ref p,H,I,rfl,q⟩
def Hi(K:PySem.W.Frag)(T:String)(x:V)(H:Hp):Prop:=match x with
 | .str _=>T= "str"
 | .int _=>T= "int"
 | .ref p=>(T= "list" /\ ∃xs,aj K H p xs)\/(T= "tuple" /\ ∃o,K.lookup p=some o/\o.cls=.type "tuple" /\ o.dict=none) \/
   (T= "dict" /\ ((∃aa,H p=some (.dK aa))\/∃aa,H p=some (.dT aa)))\/(T= "set" /\ ∃S n,H p=some (.set S n))
 | _=>False
theorem LA{pins:List (Addr×Obj)}{σ : St}{H:Hp}{T:String}(I:Inv X pins σ H s)(r:RelV x v)(ty:Hi X.K T x H) :
  s.TypeIs v T/\∀a,v=.ref a->∃ob,s.heap.get? a=some ob/\ob.dict=none:=by
 cases x with
 | str z =>
  obtain⟨t,rfl⟩:=r;cases (show T= "str" from ty);exact⟨typeIs_str s z t,λ_ e=>nomatch e⟩
 | int i =>
  obtain⟨t,rfl⟩:=r;cases (show T= "int" from ty);exact⟨typeIs_int s i t,λ_ e=>nomatch e⟩
 | ref p =>
  cases r;rcases ty with⟨rfl,xs,hq⟩|⟨rfl,o,hk,hc,hd⟩|⟨rfl,hk⟩|⟨rfl,S,n,hk⟩
  ·obtain⟨its,_,pl,_⟩:=I.list hq;refine⟨pl.isList.typeIs,λa e=>?_⟩;cases e;obtain⟨o,n,e,c,hd,_⟩:=pl;exact⟨o,e,hd⟩
  ·refine⟨⟨o,I.bK p o hk,hc⟩,λa e=>?_⟩;cases e;exact⟨o,I.bK _ o hk,hd⟩
  ·have z:∃o,s.heap.get? p=some o/\o.ExactDict:=by
    rcases hk with⟨aa,hk⟩|⟨aa,hk⟩
    ·obtain⟨_,_,_,_,o,_,_,e,ex,_⟩:=I.ah p _ hk;exact⟨o,e,ex⟩
    ·obtain⟨_,_,_,_,o,_,_,e,ex,_⟩:=I.ah p _ hk;exact⟨o,e,ex⟩
   obtain⟨o,e,ex⟩:=z;refine⟨⟨o,e,ex.1⟩,λa e2=>?_⟩;cases e2;exact⟨o,e,ex.2.1⟩
  ·obtain⟨o,_,_,_,e,ex,_⟩:=I.ah p _ hk;refine⟨⟨o,e,ex.1⟩,λa e2=>?_⟩;cases e2;exact⟨o,e,ex.2.1⟩
 | _=>exact False.elim ty
def We(K:PySem.W.Frag)(T:String)(r:V->List V->Hp->VK->Prop)(to:TE):TE:=λσ H Q=>to σ H λx H1=>Hi K T x H1/\r x [] H1 Q
def tBM(K:PySem.W.Frag)(T:String)(r:V->List V->Hp->VK->Prop)(to:TE)(t:TA):TE:=λσ H Q=>to σ H λx H1=>Hi K T x H1/\t σ H1 λxs H2=>r x xs H2 Q
variable{o e:Expr}{es:List Expr}{to:TE}{t:TA}{name:Str}{apos bJ:Pos}{T id:String}{r:V->List V->Hp->VK->Prop}
theorem Lk(pa:PlainAttrs T)(slot:Slot T name id)(pS:typeOf (.builtin id)=pure (.type "method_descriptor")) (hm:CF X id r) (ho:PE X o to)
  (Fc:attributeBase o name X.env (eval o X.env)=eval o X.env:=by rfl) (Fy:(apos.endLine == bJ.line)=true:=by rfl):PE X (.Call (.Attribute o name apos) [] [] bJ) (We X.K T r to):=by
 intro pins s σ H Q I h;refine wpAny_Call_method0_late Fc Fy (ap (ho pins s σ H _ I h) λv s1 ⟨x,H1,I1,r1,ty,q1⟩=>?_);obtain⟨h1,h2⟩:=LA I1 r1 ty;exact⟨T,id,pa,slot,pS,h1,h2,vf rfl (PySem.evalArgs_none (hm pins s1 σ H1 x [] v [] Q I1 r1 .nil q1))⟩
theorem lO(pa:PlainAttrs T)(slot:Slot T name id)(pS:typeOf (.builtin id)=pure (.type "method_descriptor")) (hm:CF X id r) (ho:PE X o to) (ha:PA X (e::es) t)
  (Fc:attributeBase o name X.env (eval o X.env)=eval o X.env:=by rfl)
  (YV:((backTo bJ (starEach (e::es) X.env)).all (λx=>!x.1)&&(backToKw bJ (keywordEach [] X.env)).all (λx=>x.1.isSome)
   && decide ((e::es).length+([]:List Keyword).length+(if([]:List Keyword).isEmpty then 0 else 1)<30))=true:=by rfl)
  (Fy:(apos.endLine == bJ.line)=true:=by rfl) (hs:starEach (e::es) X.env=(false,eval e X.env)::starEach es X.env:=by rfl) (Zpf:(backTo bJ (starEach es X.env)).any (·.1)=false:=by rfl) :
  PE X (.Call (.Attribute o name apos) (e::es) [] bJ) (tBM X.K T r to t):=by
 intro pins s σ H Q I h;refine wpAny_Call_method_late Fc YV Fy rfl (ap (ho pins s σ H _ I h) λv s1 ⟨x,H1,I1,r1,ty,q1⟩=>?_);obtain⟨h1,h2⟩:=LA I1 r1 ty;refine⟨T,id,pa,slot,pS,h1,h2,?_⟩;have hA:=ha bJ pins s1 σ H1 _ I1 q1;rw[hs] at hA ⊢;refine vf (by show(false || (backTo bJ (starEach es X.env)).any (·.1))=false;rw[Zpf] <;> rfl) (yO ?_)
 exact ap hA λus s2 ⟨vs,H2,I2,r2,q2⟩=>hm pins s2 σ H2 x vs v us Q I2 r1 r2 q2
/- xs.append(e),list.index on a ZrG tuple .. are CF facts of 06m -/
end
def HQ(X:Cx)(id:String)(r:V->List V->Hp->VK->Prop):Prop :=
 ∀(pins:List (Addr×Obj))(s:Shared)(σ : St)(H:Hp)(x:V)(xs:List V)(v:Value)(us:List Value)(Q:VK),Inv X pins σ H s->RelV x v->Vals xs us->r x xs H Q ->
  wpAny (model X.prog X.w) X.A (call (.builtin id) (v::us)) (EP X pins σ Q) X.xe s
theorem Vals.one:∀{x:V}{us:List Value},Vals [x] us->∃u,us=[u]/\RelV x u
 | _,_,.cons r .nil=>⟨_,rfl,r⟩
theorem Vals.two:∀{x y:V}{us:List Value},Vals [x,y] us->∃u v,us=[u,v]/\RelV x u/\RelV y v
 | _,_,_,.cons r (.cons q .nil)=>⟨_,_,rfl,r,q⟩
theorem Vals.zero:∀{us:List Value},Vals [] us->us=[]
 | _,.nil=>rfl
theorem Vals.dropLast{xs:List V}{us:List Value}(h:Vals xs us):Vals xs.dropLast us.dropLast:=by
 induction h with
 | nil=>exact .nil
 | cons r t ih =>
  cases t with
  | nil=>exact .nil
  | cons q t'=>exact .cons r ih
theorem QK(l:List α):l.eraseIdx (l.length-1)=l.dropLast:=by
 induction l with
 | nil=>rfl
 | cons a r ih =>
  cases r with
  | nil=>rfl
  | cons b r =>
   have e:(a::b::r).length-1=((b::r).length-1)+1:=by
    have h1:(a::b::r).length=r.length+2:=rfl;have h2:(b::r).length=r.length+1:=rfl;lia
   rw[e,List.eraseIdx_cons_succ,ih]
   all_goals rfl
variable{pins:List (Addr×Obj)}{σ:St}{H:Hp}{s:Shared}{l:Addr}{xs ys:List V}{its:List Value}{t':Nat}
theorem Inv.yi{its':List Value}{f:Array Value->Array Value}(I:Inv X pins σ H s)(hH:H l=some (.lst xs))
  (e:s.heap.get? l=some { cls:=.type "list",data:=.seq its.toArray n }) (hf:f its.toArray=its'.toArray) (hv:Vals ys its') (hz:ys.length<=sizeLine) :
  Inv X pins σ (upd H l (.lst ys)) { s with heap:=s.heap.update l (Obj.mapSeq f),toks:=t' }:=by
 have q:=PySem.IsL.update e f;rw[hf] at q;refine I.write (x:=l) (e:=l) (by rw[hH];exact trivial) (.inl rfl) (λb' u hb hu=>(g8 s.heap (Obj.mapSeq f) (eu hb)).trans hu) ⟨_,q⟩ ?_;exact⟨hz,its',_,hv,q⟩
theorem Inv.yh(I:Inv X pins σ H s)(hv:Vals ys its)(hz:ys.length<=sizeLine) :
  Inv X pins σ (upd H s.heap.objs.size (.lst ys)) { s with heap:=s.heap.push { cls:=.type "list",data:=.seq its.toArray },toks:=t' } :=
 I.laid (λ_ _ q=>ax _ q) (aq _) ⟨hz,its,0,hv,bo _ rfl⟩
theorem Inv.fresh(I:Inv X pins σ H s):H s.heap.objs.size=none:=I.ah.fresh (aq _)
theorem Inv.mh(I:Inv X pins σ H s)(hH:H l=some (.lst xs)):xs.length<=sizeLine/\∃(its:List Value)(n:Nat),Vals xs its/\xs.length=its.length/\s.heap.get? l=some { cls:=.type "list",data:=.seq its.toArray n }:=by
 obtain⟨z,its,n,r,e⟩:=I.ah l _ hH;exact⟨z,its,n,r,r.length,e⟩
def TM:V->List V->Hp->VK->Prop:=λx vs H Q=>∃l xs y,x=.ref l/\vs=[y]/\H l=some (.lst xs)/\xs.length<sizeLine/\Q .aG (upd H l (.lst (xs ++ [y])))
theorem jA:HQ X "list.append" TM:=by
 intro pins s σ H x vs v us Q I rx rv h;obtain⟨l,xs,y,rfl,rfl,hH,hz,q⟩:=h;cases rx;obtain⟨u,rfl,ru⟩:=rv.one;obtain⟨z,its,n,r,hl,e⟩:=I.mh hH;refine call_meets F.slot_list_append ⟨_,e,rfl⟩ F.entry_list_append (F.args_list_append_2 _ _) (PySem.list_append l its.toArray n u (by rw[bP];lia)) ⟨e,?_⟩;refine⟨.aG,_,I.yi (its':=its ++ [u]) hH e (by simp) (r.append (.cons ru .nil)) ?_,rfl,q⟩;rw[bL,fS];lia
def Wh:V->List V->Hp->VK->Prop:=λx vs H Q=>∃l xs y,x=.ref l/\vs=[]/\H l=some (.lst xs)/\xs[xs.length-1]?= some y/\Q y (upd H l (.lst xs.dropLast))
theorem Lh:HQ X "list.pop" Wh:=by
 intro pins s σ H x vs v us Q I rx rv h;obtain⟨l,xs,y,rfl,rfl,hH,hy,q⟩:=h;cases rx;have hus:=rv.zero;subst hus;obtain⟨z,its,n,r,hl,e⟩:=I.mh hH;obtain⟨u,hu,ru⟩:=r.get hy;have Cg:its.toArray[its.toArray.size-1]?= some u:=by
  show its.toArray[its.length-1]?= some u;rw[<- dU,<- hl];exact hu
 refine call_meets F.slot_list_pop ⟨_,e,rfl⟩ F.entry_list_pop (F.args_list_pop_1 _) (MeetsSeq.list_pop_last l its.toArray n u Cg (by rw[bP];lia)) ⟨e,?_⟩;refine⟨y,_,I.yi (its':=its.dropLast) hH e ?_ r.dropLast ?_,ru,q⟩
 ·show its.toArray.eraseIdxIfInBounds (its.toArray.size-1)=its.dropLast.toArray;rw[bP,List.eraseIdxIfInBounds_toArray,QK]
 ·rw[List.length_dropLast];lia
def VV:R2:=λx y H Q=>∃l b xs zs,x=.ref l/\y=.ref b/\H l=some (.lst xs)/\H b=some (.lst zs)/\xs.length+zs.length<=sizeLine/\∀p,H p=none->Q (.ref p) (upd H p (.lst (xs++zs)))
theorem lG:dh X (binaryOp .Add) VV:=by
 intro pins s σ H x y v u Q I rx ry h;obtain⟨l,b,xs,zs,rfl,rfl,hH,hB,hz,q⟩:=h;cases rx;cases ry;obtain⟨z,its,n,r,hl,e⟩:=I.mh hH;obtain⟨z2,pT,n2,r2,gm,e2⟩:=I.mh hB;refine PySem.P.add_list e e2 ?_ (by rw[bP,bP];lia);have ea:its.toArray++pT.toArray=(its++pT).toArray:=by simp
 rw[ea];exact⟨.ref _,_,I.yh (t':=s.toks) (r.append r2) (by rw[bL];lia),rfl,q _ I.fresh⟩
end L2
namespace HH
open PySem PySem.W PySem.Calls PyProof.Rows
theorem P9{P:Params}{h:Heap}:∀(ns:List Int)(vs:List Value),WellAll P h vs (ns.map WData.int)->IntsAre vs ns:=by
 intro ns
 induction ns with
 | nil =>
  intro vs w;rw[List.map_nil] at w;cases w;exact .nil
 | cons n ns ih =>
  intro vs w;rw[cu] at w;cases w with
  | cons a b =>
   cases a;exact .cons _ _ (ih _ b)
variable{l:OpenLaw}{n:Nat}
theorem RY(hn:l.most=some n){P:Params}{h:Heap}{args:List WData}{vals:List Value}
  (Bh:l.row.toRowW.claim.pre args=true) (F9:WellAll P h vals args) :
  ∃a vs ns,vals=[Value.ref a]/\args=[WData.list (ns.map WData.int)]/\h.get? a=some { cls:=.type "list",data:=.seq vs.toArray }/\IntsAre vs ns/\ns.length<=n:=by
 have hsh:WShape.hasAll [] args [.list .int]=true:=(pre_splitW Bh).1;have hc:l.pre.holds [] { args:=args }=true:=(pre_splitW Bh).2;obtain⟨d,r,rfl,h1,h2⟩:=hasAllW_cons hsh;obtain rfl:=hasAllW_nil h2;obtain⟨xs,rfl,h3⟩:=hasW_list h1;obtain⟨ns,rfl⟩:=items_int h3;have hlen:ns.length<=n:=by
  unfold OpenLaw.pre at hc;have h4:(WTm.not (.lt (.lit (.int (n:Int))) (.len (.arg 0)))).holds [] { args:=[.list (ns.map .int)] }=true:=by
   have h4:=(holds_andW hc).1;rw[hn] at h4;exact h4
  have h5:=condW_of h4 (w_not (w_lt w_lit (w_len_list (w_arg rfl))));rw[ay] at h5;refine Nat.le_of_not_lt λq=>?_;have q':(n:Int)<((ns.length:Nat):Int):=by lia
  first
   | (rw[aF q'] at h5;exact absurd h5 (by decide))
   | (simp at h5;lia)
 cases F9 with
 | cons w1 w2 =>
  cases w2;cases w1 with
  | list ho cM=>exact⟨_,_,ns,rfl,rfl,ho,P9 ns _ cM,hlen⟩
theorem RA(l:OpenLaw)(args:List WData):l.row.toRowW.claim.post args (.bool true) args=true :=
 postW_of (r:=l.row.toRowW) (X:=(true == true))
  (show WShape.has [] (.bool true) .bool=true by first|rfl|decide|simp[WShape.has,WShape.arms,WShape.armsAll])
  (show(WTm.eq .res (.lit (.bool true))).value [] { args:=args,res:=some (.bool true),after:=args }=some (.bool (true == true)) from w_eq_bool (w_res rfl) w_lit) rfl
theorem Qh{q:Program}{loose:List Str}{XP:(Str->Option Value)->Heap->Prop}{YP:World->Heap->Prop}{d:DefRec}
  (hn:l.most=some n) (xG:d.params.defaults=[])
  (call:∀(w:World)(cO aL : Shared)(mg mb:Str->Option Value)(fa:Addr)(o:Obj)(pm cd doc:Value)(a:Addr)(vs:List Value)(ns:List Int),
   Ground q loose [] XP w cO mg mb aL.heap->YP w aL.heap ->
   aL.heap.get? fa=some o->o.data=.func (docDef d.name d.params d.body d.scope pm cd doc)->aL.heap.CodeRec cd d.name->mg d.name=some (.ref fa) ->
   aL.heap.get? a=some { cls:=.type "list",data:=.seq vs.toArray }->IntsAre vs ns->ns.length<=n->aL.gens=#[] ->
   codeAny (model l.prog w) callerA (.call (.ref fa) ⟨[.ref a],[]⟩) (λr s'=>r=.ok (.ret (.bool true))/\OldK aL.heap s'.heap/\s'.os=aL.os/\AllBare s'.gens) aL) :
  WalkO q loose XP YP l.row.toRowW d [] (λf vs=>PySem.call f vs):=by
 intro w cO aL mg mb G Y fa o pm cd doc dV kV ho hd eF hD rT hg args vals as Bh Zsn hrd F9 hlo;obtain rfl:dV=.none:=Dflts.none hD xG;obtain rfl:kV=.none:=Dflts.noKw hD;obtain⟨a,vs,ns,rfl,rfl,FE,hints,hlen⟩:=RY hn Bh F9;refine enter_call (ow (call w cO aL mg mb fa o pm cd doc a vs ns G Y ho (fd_plain hd) eF rT FE hints hlen hg) λr s' hq=>?_);obtain⟨rfl,h2,h3,h4⟩:=hq;exact⟨.inl ⟨.bool true,.bool true,[],rfl,λ_=>rfl,.bool true,RA l _,λ_=>⟨List.Pairwise.nil,λ_ hm=>(nomatch hm)⟩⟩,h2,h3,h4⟩
end HH
namespace L2
open PySem PySem.Spec PyProof.Rows
theorem Jp:∀{vs:List Value}{ns:List Int},IntsAre vs ns->Vals (ns.map V.int) vs
 | _,_,.nil=>.nil
 | _,_,.cons n t h=>.cons ⟨t,rfl⟩ (Jp h)
end L2
/- THE ZrP ZrS (shape;LID,My.* are Zti):
   My.Adr: a structure of jS addresses BP Zth ZsI names (classes,Zr1);My.Txt K t: a structure (Prop) of jS equations over K;
   My.Zrm:{K} {implicit addresses ..} (e1:nsIn K mainGlobals "law" = some (some (.ref f))) (e2:K.lookup f=some ⟨oc,od,.func (fnOf "law" "law" params body scope dV kV doc pm an aP ct),sl⟩) (e3:codeIn K aP "law" = true) .. : ∃t,My.Txt K t
set_option maxRecDepth 100000 in
set_option maxHeartbeats 0 in
theorem PySem.Challenge.cw_LID_holds : PySem.Challenge.rw_LID.Holds := by
 w_on;o_law;k_head;(case hw=>w_witness2)
 k_fill
 refine L2.Ztd (l:=PySem.Challenge.rw_LID) (n:=63) (k:=40) (x := "script") (CX:=λw=>..) (sp:=λ_=>My.ZsV) rfl (by decide) rfl ⟨rfl,by decide,by decide⟩ (λw h Y=>PySem.W.kIn_of Y) ?F ?S ?C
 case F =>
  intro w mg fa h KX G rT;have T:∃t,My.Txt (L2.PL KX) t:=by
   dsimp only[L2.PL]                          -- K ZsP qd as «<heap const> w.params» for k_is
   refine' My.Zrm ?e1 ?e2 ?e3 ..
   (case e1=>PySem.W.k_is)                    -- in jS order: a name->its address->its object->its parts
   (case e2=>PySem.W.k_is)
   ..
  obtain⟨t,T⟩:=T;have e0:=rT.symm.trans (dg KX G T.law);cases e0                                       -- fa is jS ZrF own address
  exact⟨_,λs u=>.of_eq rfl,λbase kb nb=>My.Zqc T kb nb⟩     -- if «.of_eq rfl» comes too early: refine' ⟨_,?b,λbase kb nb=>My.Zqc T kb nb⟩;exact λs u=>.of_eq rfl
 case S=>exact λw H a ns hl hO hS=>..
 case C=>exact ..
(jS tactic k_is has no namespace: write k_is) -/
namespace L2
open PySem PySem.Spec PyProof.Rows
def inClass(s:Stmt)(j:Nat):Stmt:=match s with
 | .ClassDef _ _ _ body _ _ _ _ _ _ _=>body.getD j (.Pass ⟨0,0,0,0⟩)
 | _=>.Pass ⟨0,0,0,0⟩
def wC(s:Stmt):Arguments:=match s with
 | .FunctionDef _ a _ _ _ _ _ _ _ _=>a
 | _=>{ posonlyargs:=[],args:=[],vararg:=none,kwonlyargs:=[],kw_defaults:=[],kwarg:=none,defaults:=[] }
def Zf(s:Stmt):List Stmt:=match s with
 | .FunctionDef _ _ b _ _ _ _ _ _ _=>b
 | _=>[]
def Zn(s:Stmt):Scope:=match s with
 | .FunctionDef _ _ _ _ _ _ sc _ _ _=>sc
 | _=>{ kind:=.function,names:=[],isGenerator:=false,isCoroutine:=false }
abbrev cx:js:=λ_ _ _ _ _ _=>False
abbrev E0:XK:=λ_ _ _=>False
variable{X:Cx}
theorem wR:rg cx X E0:=λ_ _ _ _ _ _ _ h=>h.elim
structure bR(K:PySem.W.Frag)(x qual:Str)(st:Stmt)(f:Addr)(fd:FuncData):Prop where
 ex:∃(oc:Value)(od:Option Addr)(kV doc pm:Value)(an:Option Addr)(aP ct:Value)(mn:Array (Option Value)),
  fd=PySem.W.fnOf x qual (wC st) (Zf st) (Zn st) .none kV doc pm an aP ct/\K.lookup f=some ⟨oc,od,.func fd,mn⟩/\PySem.W.codeIn K aP qual=true
 kp:PySem.W.keepIn K (.ref f)=true
variable{P:Program}{w:World}{K:PySem.W.Frag}{mg:Str->Option Value}{base:Heap}{x qual:Str}{st:Stmt}{f:Addr}{fd:FuncData}{ps:List Str}
theorem bR.ok{N:List Str}{k:Nat}{sp:Sp}(F:bR K x qual st f fd)(S:cV N ps (Zn st))(len:∀vs H Q E,sp vs H Q E->vs.length=ps.length)
  (ny:∀(aP:Value)(A:Around)(outer:List Env)(s:Shared)(H:Hp)(vs:List V)(Q:VK)(E:XK),bj k (A.deeper (envOfC qual (Zn st) s.heap.objs.size f aP))->sp vs H Q E ->
   ∃t,cF (lQ cx P w K mg base N qual (Zn st) f aP A outer s H E).BC (Zf st) t/\t { nx:=λ_ H'=>Q .aG H',rt:=Q } (start N vs) H):aX P w K mg base cx (k+1) f fd ps sp:=by
 obtain⟨oc,od,kV,doc,pm,an,aP,ct,mn,rfl,lk,eF⟩:=F.ex;refine Ea lk eF S len λA outer s H vs Q E hr iF=>?_;obtain⟨t,h,q⟩:=ny aP A outer s H vs Q E hr iF;exact⟨t,h.BC,q⟩
theorem bR.binds(F:bR K x qual st f fd)
  (h:∀(kV doc pm:Value)(an:Option Addr)(aP ct:Value)(us:List Value),us.length=ps.length->bindArgs (PySem.W.fnOf x qual (wC st) (Zf st) (Zn st) .none kV doc pm an aP ct) ⟨us,[]⟩=pure (ps.zip us)):Binds K fd ps []:=by
 obtain⟨oc,od,kV,doc,pm,an,aP,ct,mn,rfl,lk,eF⟩:=F.ex;exact .all (h kV doc pm an aP ct)
theorem dJ{oc:Value}{od an:Option Addr}{mn:Array (Option Value)}{kV doc pm aP ct:Value}(l:K.lookup f=some ⟨oc,od,.func (PySem.W.fnOf x qual (wC st) (Zf st) (Zn st) .none kV doc pm an aP ct),mn⟩)
  (c:PySem.W.codeIn K aP qual=true) (k:PySem.W.keepIn K (.ref f)=true):bR K x qual st f (PySem.W.fnOf x qual (wC st) (Zf st) (Zn st) .none kV doc pm an aP ct):=⟨⟨oc,od,kV,doc,pm,an,aP,ct,mn,rfl,l,c⟩,k⟩
theorem pv(i:Nat){x:Str}{pos:Pos}(hN:X.N[i]?= some x:=by rfl)(hv:CI X.env.scope x:=by first|exact Or.inl rfl|exact Or.inr (Or.inl rfl)|exact Or.inr (Or.inr rfl))(hd:(x == ("__debug__" : Str))=false:=by decide)
  (eF:(x == ("__classdict__" : Str))=false:=by decide):PE X (.Name x pos) (L' i):=UB hN hv hd eF
variable{A B:Prop}
theorem jE(h:B):if false=true then A else B:=by
 rw[ag dW];exact h
theorem AA(h:A):if true=true then A else B:=by
 rw[ai rfl];exact h
theorem cz{c:Prop}[Decidable c](h1:c->A)(h2 : ¬ c->B):if c then A else B:=by
 by_cases h:c
 ·rw[ai h];exact h1 h
 ·rw[ag h];exact h2 h
def Zi(H H':Hp):Prop := ∀b o,H b=some o->H' b=some o
theorem Zi.refl(H:Hp):Zi H H:=λ_ _ h=>h
theorem Zi.trans{H H1 H2:Hp}(a:Zi H H1)(b:Zi H1 H2):Zi H H2:=λc o h=>b c o (a c o h)
variable{H':Hp}
theorem Zi.free{H:Hp}(e:Zi H H'){l:Addr}(h:H' l=Option.none):H l=Option.none:=by
 cases q:H l with
 | none=>rfl
 | some o =>
  rw[e l o q] at h;cases h
theorem Zi.seq{H:Hp}{a:Addr}{xs:List V}(e:Zi H H')(h:aj K H a xs):aj K H' a xs:=by
 rcases h with(h|⟨o,h⟩)|h
 ·exact .inl (.inl (e _ _ h))
 ·exact .inl (.inr ⟨o,e _ _ h⟩)
 ·exact .inr h
end L2
namespace lA
inductive Gr(A:Type) where
 | nil
 | cons (t:A) (w o:Gr A)
section
variable{A:Type}
def words(sl:A):Gr A->List A
 | .nil=>[]
 | .cons t w o=>t::(words sl w++sl::words sl o)
def snoc:Gr A->A->Gr A->Gr A
 | .nil,t,w=>.cons t w .nil
 | .cons t' w' o,t,w=>.cons t' w' (snoc o t w)
theorem C4(sl:A)(t:A)(w:Gr A):∀g:Gr A,words sl (snoc g t w)=words sl g++t::(words sl w ++ [sl])
 | .nil=>by simp[snoc,words]
 | .cons t' w' o=>by simp[snoc,words,C4 sl t w o]
def fc(sl:A):List (Gr A)->List A->List A
 | [r],[]=>words sl r
 | r::rs,t::ts=>fc sl rs ts++t::words sl r
 | _,_=>[]
theorem Rx(sl:A)(t:A){rs:List (Gr A)}{ts:List A}:fc sl (.nil::rs) (t::ts)=fc sl rs ts ++ [t]:=by
 cases rs <;> simp[fc,words]
theorem Q7(sl:A)(t:A)(w:Gr A){r:Gr A}{rs:List (Gr A)}{ts:List A}(h:rs.length=ts.length) :
  fc sl (snoc r t w::rs) ts=fc sl (r::rs) ts++t::(words sl w ++ [sl]):=by
 cases ts with
 | nil =>
  have:rs=[]:=om (by simpa using h);subst this;simp[fc,C4]
 | cons t' ts =>
  cases rs with
  | nil=>simp at h
  | cons r' rs=>simp[fc,C4]
theorem QI(sl:A)(t:A){w r:Gr A}{rs:List (Gr A)}{ts:List A}(h:rs.length=ts.length) :
  fc sl (snoc r t w::rs) ts=fc sl (w::r::rs) (t::ts) ++ [sl]:=by
 rw[Q7 sl t w h];simp[fc]
theorem SW(sl:A){r:Gr A}{rs:List (Gr A)}{ts:List A}(h:rs.length=ts.length):(words sl r).length<=(fc sl (r::rs) ts).length:=by
 cases ts with
 | nil =>
  have:rs=[]:=om (by simpa using h);subst this;simp[fc]
 | cons t' ts =>
  cases rs with
  | nil=>simp at h
  | cons r' rs=>simp[fc];lia
theorem JD(sl:A):∀{ts:List A}{rs:List (Gr A)},rs.length=ts.length+1->ts.length<=(fc sl rs ts).length
 | [],_,_=>bE _
 | t::ts,[],h=>by simp at h
 | t::ts,[r],h=>by simp at h
 | t::ts,r::r'::rs,h=>by
  have:=JD sl (ts:=ts) (rs:=r'::rs) (by simpa using h);simp only[fc,bL,bM];lia
section
variable[DecidableEq A]
def fI(sl:A):Nat->List A->Prop
 | h,[]=>h=0
 | h,w::ws=>if w=sl then 1<=h/\fI sl (h-1) ws else fI sl (h+1) ws
theorem Ah{sl w:A}(hw:w≠sl){h:Nat}{ws:List A}:fI sl h (w::ws)↔fI sl (h+1) ws:=by
 simp[fI,hw]
theorem Af{sl:A}{h:Nat}{ws:List A}:fI sl h (sl::ws)↔1<=h/\fI sl (h-1) ws:=by
 simp[fI]
def rl(sl:A):Gr A->Prop
 | .nil=>True
 | .cons t w o=>t≠sl/\rl sl w/\rl sl o
theorem IP{sl t:A}{w:Gr A}(ht:t≠sl)(hw:rl sl w):∀{g:Gr A},rl sl g->rl sl (snoc g t w)
 | .nil,_=>⟨ht,hw,trivial⟩
 | .cons _ _ _,⟨a,b,c⟩=>⟨a,b,IP ht hw c⟩
end
end
end lA
namespace L2
open PySem PySem.Spec PyProof.Rows
theorem KU:bootBuiltins "list" = some (.type "list"):=by decide +kernel
theorem q_:bootBuiltins "tuple" = some (.type "tuple"):=by decide +kernel
theorem Ly:bootBuiltins "int" = some (.type "int"):=by decide +kernel
theorem KL:bootBuiltins "bool" = some (.type "bool"):=by decide +kernel
theorem DM:bootBuiltins "dict" = some (.type "dict"):=by decide +kernel
theorem wI:bootBuiltins "min" = some (.builtin "min"):=by decide +kernel
theorem Iv:bootBuiltins "isinstance" = some (.builtin "isinstance"):=by decide +kernel
variable{X:Cx}
theorem LP{x:Str}{n:String}{pos:Pos}(hg:Gl X x)(hm:X.mg x=none)(hv:bootBuiltins x=some (.type n))(hn:x ≠ "__name__" := by decide) (hd:(x == ("__debug__" : Str))=false:=by decide):PE X (.Name x pos) (tC (.ty n)) :=
 T6 (v:=.ty n) hg hm hv rfl hn hd
theorem IZ:f_ X (.builtin "isinstance") (λxs H Q=>∃x n t b,xs=[x,.ty n]/\iS X.K H x t/\PySem.W.kitOne X.K t (.type n)=some b/\Q (.bl b) H):=by
 intro pins s σ H xs us Q I r h;obtain⟨x,n,t,b,rfl,ty,e,q⟩:=h;obtain⟨u,v,rfl,rx,ry⟩:=Vals.two r;obtain rfl:v=Value.type n:=ry;exact Sb I rx ty e λtk=>⟨.bl b,H,I.tok tk,rfl,q⟩
structure dY(P:Program)(w:World)(K:PySem.W.Frag)(mg:Str->Option Value)(base:Heap)(x:Str)(ps:List Str)(k:Nat)(sp:Sp):Prop where
 ex:∃(f:Addr)(fd:FuncData),aX P w K mg base cx k f fd ps sp/\Binds K fd ps []/\PySem.W.keepIn K (.ref f)=true/\mg x=some (.ref f)
section
variable{X:Cx}{x:Str}{ps:List Str}{j k:Nat}{sp:Sp}{e:Expr}{es:List Expr}{t:TA}{p pos:Pos}
theorem aX.room{P:Program}{w:World}{K:PySem.W.Frag}{mg:Str->Option Value}{base:Heap}{CX:js}{f:Addr}{fd:FuncData}(F:aX P w K mg base CX j f fd ps sp)(h:j<=k):aX P w K mg base CX k f fd ps sp :=
 ⟨F.len,λA outer s H args us vs Q E hr=>F.run A outer s H args us vs Q E (hr.mono h)⟩
theorem d5(G:dY X.prog X.w X.K X.mg X.base x ps j sp)(hr:bj k X.A)(hg:Gl X x)(ha:PA X (e::es) t)(hk:j<=k:=by decide)(du:(x == ("__debug__" : Str))=false:=by decide)
  (he:starEach (e::es) X.env=(false,eval e X.env)::starEach es X.env:=by rfl) (aA:(backTo pos (starEach es X.env)).any (·.1)=false:=by rfl) :
  PE X (.Call (.Name x p) (e::es) [] pos) (LU sp [] E0 t):=by
 obtain⟨f,fd,F,b,kp,m⟩:=G.ex;exact TX (F.room hk) hr hg m kp b .nil wR ha du he aA
end
mutual
inductive Dp(K:PySem.W.Frag)(H:Hp):V->PyData->Prop
 | aG:Dp K H .aG .none
 | bl (b:Bool):Dp K H (.bl b) (.bool b)
 | int (i:Int):Dp K H (.int i) (.int i)
 | str (x:Str):Dp K H (.str x) (.str x)
 | lst {a:Addr} {xs:List V} {ds:List PyData}:aj K H a xs->j7 K H xs ds->Dp K H (.ref a) (.list ds)
 | tup {a:Addr} {xs:List V} {ds:List PyData}:ar K H a xs->j7 K H xs ds->Dp K H (.ref a) (.tuple ds)
inductive j7(K:PySem.W.Frag)(H:Hp):List V->List PyData->Prop
 | nil:j7 K H [] []
 | cons {v:V} {vs:List V} {d:PyData} {ds:List PyData}:Dp K H v d->j7 K H vs ds->j7 K H (v::vs) (d::ds)
end
mutual
variable{X:Cx}{pins:List (Addr×Obj)}{σ:St}{H:Hp}{s:Shared}
theorem Dp.reads(I:Inv X pins σ H s):∀{v:V}{d:PyData}{u:Value},Dp X.K H v d->RelV v u->∃as,Reads s.heap u d as
 | _,_,u,.aG,r=>by
  obtain rfl:u=Value.none:=r;exact⟨_,.none⟩
 | _,_,u,.bl b,r=>by
  obtain rfl:u=Value.bool b:=r;exact⟨_,.bool b⟩
 | _,_,_,.int i,⟨t,e⟩=>by
  subst e;exact⟨_,.int i t⟩
 | _,_,_,.str x,⟨t,e⟩=>by
  subst e;exact⟨_,.str x t⟩
 | _,_,u,@Dp.lst _ _ a xs ds hq cM,r=>by
  obtain rfl:u=Value.ref a:=r;obtain⟨its,rv,⟨o,n,e,hc,_,hd⟩,_⟩:=I.list hq;obtain⟨as,ha⟩:=j7.reads I cM rv;exact⟨_,.list e hc hd (by simpa using ha)⟩
 | _,_,u,@Dp.tup _ _ a xs ds hq cM,r=>by
  obtain rfl:u=Value.ref a:=r;obtain⟨its,rv,⟨o,e,hc,n,hd⟩,_⟩:=I.tuple hq;obtain⟨as,ha⟩:=j7.reads I cM rv;exact⟨_,.tuple e hc hd (by simpa using ha)⟩
theorem j7.reads(I:Inv X pins σ H s):∀{vs:List V}{ds:List PyData}{us:List Value},j7 X.K H vs ds->Vals vs us->∃as,ReadsAll s.heap us ds as
 | _,_,_,.nil,.nil=>⟨_,.nil⟩
 | _,_,_,.cons h t,.cons r rs=>by
  obtain⟨as,ha⟩:=Dp.reads I h r;obtain⟨bs,hb⟩:=j7.reads I t rs;exact⟨_,.cons ha hb⟩
end
def Wv(K:PySem.W.Frag)(neg:Bool):R2:=λx y H Q=>∃d e,Dp K H x d/\Dp K H y e/\d.canLay0=true/\e.canLay0=true/\min d.depth e.depth<=200/\Q (.bl (if neg then !PyData.eqv d e else PyData.eqv d e)) H
theorem Uv(hu:X.A.units+200<cLine):dh X (compareOp .Eq) (Wv X.K false):=by
 intro pins s σ H x y v u Q I rx ry h;obtain⟨d,e,hx,hy,h1,h2,hd,q⟩:=h;obtain⟨as,ra⟩:=hx.reads I rx;obtain⟨bs,rb⟩:=hy.reads I ry;exact PySem.SeqAt.compareEq_reads ra rb h1 h2 (by lia) ⟨.bl _,H,I,rfl,q⟩
theorem wA{A:Around}{k:Nat}(hr:bj k A):A.units+200<cLine:=by
 have:=hr.un;lia
def TK(H H':Hp):Prop := ∀b xs,H b=some (.tup xs)->H' b=some (.tup xs)
theorem TK.trans{H H1 H2:Hp}(a:TK H H1)(b:TK H1 H2):TK H H2:=λc xs h=>b c xs (a c xs h)
variable{p:Addr}{o:HO}
theorem TK.new(h:H p=none):TK H (upd H p o):=λb xs q=>by
 rw[Zc (Zg q h)];exact q
theorem TK.lst{H:Hp}{p:Addr}{xs:List V}{o:HO}(h:H p=some (.lst xs)):TK H (upd H p o):=λb ys q=>by
 by_cases e:b=p
 ·subst e;rw[h] at q;cases q
 ·rw[Zc e];exact q
variable{H':Hp}
theorem Zi.tk(h:Zi H H'):TK H H':=λb xs q=>h b _ q
theorem Zi.new(h:H p=none):Zi H (upd H p o):=λb u q=>by
 rw[Zc (Zg q h)];exact q
theorem Zi.cC(h:Zi H H')(hp:H p=none):Zi H (upd H' p o):=λb u q=>by
 rw[Zc (Zg q hp)];exact h b u q
theorem oO{b:Addr}(h:upd H p o b=none):b≠p/\H b=none:=by
 by_cases e:b=p
 ·subst e;rw[Za] at h;cases h
 ·rw[Zc e] at h;exact⟨e,h⟩
theorem cut{body:List Stmt}{D:Ends}(n:Nat)(R:St->Hp->Prop)(h2:∃u,cF X (body.drop n) u/\∀ ao H',R ao H'->u D ao H')
  (h1:∀u,cF X (body.drop n) u->(∀ ao H',R ao H'->u D ao H')->∃t,cF X body t/\t D σ H):∃t,cF X body t/\t D σ H :=
 let ⟨u,a,b⟩:=h2
 h1 u a b
theorem Paired.app{α β : Type}{F : α -> β -> Prop}:∀{l₁ Oa : List α}{l₂ Ob : List β},Paired F l₁ l₂ -> Paired F Oa Ob -> Paired F (l₁ ++ Oa) (l₂ ++ Ob)
 | _,_,_,_,.nil,s=>s
 | _,_,_,_,.cons r t,s=>.cons r (Paired.app t s)
variable{α:Type}
theorem Jy(l:List α)(a : α):(l ++ [a])[(l ++ [a]).length-1]?= some a:=by
 simp
theorem JJ(l:List α)(a : α):(l ++ [a]).dropLast=l:=by
 simp
end L2
namespace Fg
open PySem L2 lA
abbrev SL:Str := "/"
inductive eN(H:Hp):List V->Gr Str->Prop
 | nil:eN H [] .nil
 | cons {p q:Addr} {t:Str} {ys vs:List V} {w o:Gr Str}:H p=some (.tup [.str t,.ref q])->H q=some (.tup ys)->eN H ys w->eN H vs o->eN H (.ref p::vs) (.cons t w o)
theorem eN.mono{H H':Hp}(k:TK H H'):∀{vs:List V}{g:Gr Str},eN H vs g->eN H' vs g
 | _,_,.nil=>.nil
 | _,_,.cons h1 h2 h3 h4=>.cons (k _ _ h1) (k _ _ h2) (h3.mono k) (h4.mono k)
theorem eN.snoc{H:Hp}{p q:Addr}{t:Str}{ys:List V}{w:Gr Str}(h1:H p=some (.tup [.str t,.ref q]))(h2:H q=some (.tup ys))(h3:eN H ys w) :
  ∀{vs:List V}{g:Gr Str},eN H vs g->eN H (vs ++ [.ref p]) (snoc g t w)
 | _,_,.nil=>.cons h1 h2 h3 .nil
 | _,_,.cons a b c d=>.cons a b c (eN.snoc h1 h2 h3 d)
theorem eN.length{H:Hp}:∀{vs:List V}{g:Gr Str},eN H vs g->vs.length<=(words SL g).length
 | _,_,.nil=>aq _
 | _,_,.cons _ _ _ d=>by
  have:=d.length;simp only[bM,words,bL];lia
abbrev As(H:Hp):List Addr->List (Gr Str)->Prop:=Paired λa g=>∃vs,H a=some (.lst vs)/\eN H vs g
theorem zS{H H':Hp}(k:TK H H'):∀{as:List Addr}{gs:List (Gr Str)},As H as gs->(∀b∈as,∀o,H b=some o->H' b=some o)->As H' as gs
 | _,_,.nil,_=>.nil
 | _,_,.cons ⟨vs,h1,h2⟩ t,hk=>.cons ⟨vs,hk _ (aU ..) _ h1,h2.mono k⟩ (zS k t λb hb=>hk b (aR _ hb))
theorem IM{H:Hp}:∀{as:List Addr}{gs:List (Gr Str)},As H as gs->∀b∈as,∃o,H b=some o
 | _,_,.nil,_,hb=>nomatch hb
 | _,_,.cons ⟨vs,h1,_⟩ t,b,hb=>by
  rcases aJ.mp hb with rfl|hb
  ·exact⟨_,h1⟩
  ·exact IM t b hb
def km(t:Str):Prop:=t.cps.toList ≠ []/\∀c∈t.cps.toList,97<=c/\c<=122
def o5(t:Str):Prop := ∀c∈t.cps.toList,97<=c/\c<=122
theorem T_(x y:Str):(x++y).cps.toList=x.cps.toList++y.cps.toList:=by
 show(x.cps++y.cps).toList=_;simp
theorem TC{x y:Str}(hx:o5 x)(hy:o5 y):o5 (x++y):=λc hc=>by
 rw[T_] at hc;exact(bc.mp hc).elim (hx c) (hy c)
variable{t:Str}
theorem km.Oc(h:km t):o5 t:=h.2
theorem Sm{c:Nat}(h1:97<=c)(h2:c<=122):km ⟨#[c]⟩:=⟨by simp,λd hd=>by simp at hd;lia⟩
theorem km.ne(h:km t):t≠SL:=λe=>by
 subst e;have:=h.2 47 (by decide);lia
theorem o5.ok(h:o5 t):PyData.strOk t=true:=by
 unfold PyData.strOk;rw[Array.all_eq_true_iff_forall_mem];intro c hc;have:=h c (by simpa using hc);exact aF (by lia)
theorem Vx:PyData.strOk SL=true:=by decide +kernel
def tF:Str := "abcdefghijklmnopqrstuvwxyz"
theorem TL:∀n:_root_.Fin 26,97<=tF.cps.toList.getD n.val 0/\tF.cps.toList.getD n.val 0<=122/\n.val<tF.cps.toList.length:=by decide
theorem VI{i:Int}(h0:0<=i)(h1:i<26):∃c,iy tF.cps.toList i=some c/\97<=c/\c<=122:=by
 obtain⟨n,rfl⟩:=Int.eq_ofNat_of_zero_le h0;obtain⟨a,b,c⟩:=TL ⟨n,by lia⟩;refine⟨_,wg (bT c),?_,?_⟩
 ·rw[List.getD_eq_getElem?_getD,bT c] at a;exact a
 ·rw[List.getD_eq_getElem?_getD,bT c] at b;exact b
theorem UU{ns:List Int}{k:Int}(h0:0<=k)(h:k<(ns.length:Int)):∃v:Int,iy (ns.map V.int) k=some (.int v):=by
 obtain⟨n,rfl⟩:=Int.eq_ofNat_of_zero_le h0;have hn:n<ns.length:=by lia
 exact⟨ns[n],wg (by rw[cp,bT hn];rfl)⟩
variable{n:Nat}
theorem DJ(h:n<=100000):n<=sizeLine:=bD h (by decide)
theorem jC(h:n<=100000):n<sizeLine:=ou h (by decide)
theorem Ui(x y:Str):(x++y).length=x.length+y.length:=by
 show(x.cps++y.cps).size=_;rw[Array.size_append];rfl
theorem S0(xs:List V)(n:Nat):bV xs (some (n:Int)) none=xs.drop n:=by
 unfold bV;rw[HT.K7,HT.J0];rw[yX (by rw[oo];exact aq _)];by_cases h:n<=xs.length
 ·rw[Nat.min_eq_left h]
 ·rw[Nat.min_eq_right (by lia),List.drop_length,List.drop_eq_nil_of_le (by lia)]
theorem Kz{K:PySem.W.Frag}{H:Hp}:∀ws:List Str,j7 K H (ws.map V.str) (ws.map PyData.str)
 | []=>.nil
 | w::ws=>.cons (.str w) (Kz ws)
theorem Kc:∀{ws:List Str},(∀w∈ws,PyData.strOk w=true)->PyData.canLayAll0 (ws.map PyData.str)=true
 | [],_=>rfl
 | w::ws,h=>by
  show(PyData.strOk w&&PyData.canLayAll0 (ws.map PyData.str))=true;rw[h w (aU ..),Kc λx hx=>h x (aR _ hx)];rfl
theorem II:∀ws:List Str,PyData.depthAll (ws.map PyData.str)=0
 | []=>rfl
 | w::ws=>by
  show max (PyData.depth (.str w)) (PyData.depthAll (ws.map PyData.str))=0;rw[II ws];rfl
theorem SJ(xs:List V)(n:Nat):bV xs none (some (n:Int))=xs.take n:=by
 unfold bV;rw[HT.K7,HT.J0,List.drop_zero,Nat.sub_zero];by_cases h:n<=xs.length
 ·rw[Nat.min_eq_left h]
 ·rw[Nat.min_eq_right (by lia),cH,yX (by lia)]
end Fg
namespace L2
open PySem PySem.Spec PyProof.Rows
variable{X:Cx}
theorem Sk(hu:X.A.units+200<cLine):dh X (compareOp .Eq) (λx y H Q=>∃a b xs,x=.ref a/\y=.ref b/\aj X.K H a xs/\aj X.K H b []/\Q (.bl xs.isEmpty) H):=by
 intro pins s σ H x y v u Q I rx ry h;obtain⟨a,b,xs,rfl,rfl,ha,hb,q⟩:=h;cases xs with
 | nil=>exact Uv hu pins s σ H _ _ v u Q I rx ry ⟨.list [],.list [],.lst ha .nil,.lst hb .nil,rfl,rfl,by decide,q⟩
 | cons x xs =>
  cases rx;cases ry;obtain⟨its,r,pl,_⟩:=I.list ha;obtain⟨pT,r2,sv,_⟩:=I.list hb;have l1:=r.length;have l2:=r2.length;refine PySem.SeqAt.RcAt.lists_lengths pl.isList sv.isList ?_ (by lia) X.prog X.w X.xe _ ⟨.bl _,H,I,rfl,q⟩;rw[bP,bP,<- l1,<- l2];rfl
end L2
namespace Fg
open PySem L2 lA
def cs(x:Str):List Nat:=x.cps.toList
theorem VT{x y:Str}(h:cs x=cs y):x=y:=by
 cases x with
 | mk a =>
  cases y with
  | mk b=>exact congrArg Str.mk (Array.toList_inj.mp h)
end Fg
namespace L2
open PySem PySem.Spec PyProof.Rows
variable{P:Program}{w:World}{H:Hp}{h:Heap}{a:Addr}{o:HO}
theorem ZL.there(x:ZL P w H h a o):∃ob,h.get? a=some ob:=by
 cases o with
 | lst xs=>obtain⟨_,_,_,_,e⟩:=x;exact⟨_,e⟩
 | tup xs=>obtain⟨_,_,_,ob,e,_⟩:=x;exact⟨_,e⟩
 | dK aa=>obtain⟨_,_,_,_,ob,_,_,e,_⟩:=x;exact⟨_,e⟩
 | dT aa=>obtain⟨_,_,_,_,ob,_,_,e,_⟩:=x;exact⟨_,e⟩
 | set S n=>obtain⟨ob,_,_,_,e,_⟩:=x;exact⟨_,e⟩
 | ins C dx fs=>obtain⟨_,_,_,e,_⟩:=x;exact⟨_,e⟩
 | own y=>obtain⟨_,e⟩:=x;exact⟨_,e⟩
 | xd fs=>obtain⟨_,⟨_,_,_,e,_⟩,_⟩:=x;exact⟨_,e⟩
 | BI lo hi=>obtain⟨_,_,_,e⟩:=x;exact⟨_,e⟩
 | aI ob u=>obtain⟨e,_⟩:=x;exact⟨_,e⟩
 | bC ps=>exact⟨_,(show h.get? a=some _ from x)⟩
 | met f y=>exact⟨_,(show h.get? a=some _ from x)⟩
 | ext φ=>obtain⟨_,⟨_,e⟩,_⟩:=x;exact⟨_,e⟩
theorem a9.MM(x:a9 P w H h)(e:h.get? a=none):H a=none:=by
 cases q:H a with
 | none=>rfl
 | some u =>
  obtain⟨ob,e'⟩:=(x a u q).there;rw[e] at e';cases e'
variable{X:Cx}{pins:List (Addr×Obj)}{σ:St}{s:Shared}{h':Heap}
theorem Inv.Zp9{t':Nat}(I:Inv X pins σ H s)(k:∀b u,s.heap.get? b=some u->h'.get? b=some u)(hp:s.heap.get? a=none)(new:ZL X.prog X.w (upd H a o) h' a o) :
  Inv X pins σ (upd H a o) { s with heap:=h',toks:=t' }:=by
 have hn:=I.ah.MM hp;have ne:∀b u,s.heap.get? b=some u->b≠a:=λb u e z=>by
  rw[z,hp] at e;cases e
 refine I.un ⟨λb u q _ _ _=>k b u q,λb u q _ _ _=>⟨u.slots,k b u q⟩,λb u q n _=>by rw[Zc (ne b u q)];exact n,λb u q _=>⟨u,k b u q⟩,
  λb xs q=>by rw[Zc (Zg q hn)];exact q,λb u xs q=>by rw[Zc (Zg q hn)];exact q,λb ps q=>⟨#[],by rw[Zc (Zg q hn),q];simp⟩⟩ λb u e=>?_
 by_cases hb:b=a
 ·subst hb;rw[Za] at e;cases e;exact new
 ·rw[Zc hb] at e;exact(I.ah b u e).jR (λc v _ q=>k c v q) (λc q=>by rw[Zc (Zg q hn)];exact q) λc xs q=>by rw[Zc (Zg q hn)];exact q
theorem Dv:∀{bs:List Bool}{us:List Value},Vals (bs.map V.bl) us->∀(i:Nat)(v:Value),us[i]?= some v->∃b,bs[i]?= some b/\v=.bool b
 | [],_,.nil,i,v,e=>by simp at e
 | b::bs,_,.cons r t,0,v,e=>by
  obtain rfl:_=Value.bool b:=r;simp at e;exact⟨b,rfl,e.symm⟩
 | b::bs,_,.cons r t,i+1,v,e=>by
  obtain⟨c,h1,h2⟩:=Dv t i v (by simpa using e);exact⟨c,by simpa using h1,h2⟩
theorem all_range:∀(bs:List Bool),((List.range bs.length).all λi=>(bs[i]?).getD true)=bs.all id:=by
 intro bs;rw[mB,vg,vg];constructor
 ·intro h b hb;obtain⟨i,hi,rfl⟩:=List.getElem_of_mem hb;have:=h i (fU.mpr hi);rw[bT hi] at this;exact this
 ·intro h i hi;have cI:=fU.mp hi;rw[bT cI];exact h _ (vq cI)
theorem TB(hc:X.calm=true):f_ X (.builtin "all") (λxs H Q=>∃(p:Addr)(bs:List Bool),xs=[.ref p]/\aj X.K H p (bs.map V.bl)/\Q (.bl (bs.all id)) H):=by
 intro pins s σ H xs us Q I r h;obtain⟨p,bs,rfl,hS,q⟩:=h;obtain⟨u,rfl,ru⟩:=Vals.one r;cases ru;obtain⟨its,rv,pl,hz⟩:=I.list hS;have hl:=pl.isList;have hlen:bs.length=its.length:=by
  have:=rv.length;rw[ay] at this;exact this
 refine call_all_walk (ti hl ⟨s.heap.objs.size,[s.heap.objs.size,p],[s.heap.objs.size],its.toArray.size,_,_,λi=>(bs[i]?).getD true,rfl,
  Walks.list (A:=X.A.in1) (I.ok.hd hc) _ p (aV pl.lt) its.toArray,⟨⟨_,bo _ rfl,rfl,rfl⟩,hl.push _⟩,λi v s' Q' E' hP hQ=>?_,λh' tk hk=>?_⟩)
 ·obtain⟨b,e,e2⟩:=Dv rv i v (by simpa using hP);subst e2;simp only[e,Option.getD_some] at hQ;exact mN hQ
 ·rw[bP,<- hlen,all_range];refine⟨.bl _,H,I.kept (t':=tk) λb o e=>hk b o (λhm=>?_) (ax _ e),rfl,q⟩;rw[az.mp hm] at e;exact cD _ (aH e)
def iz(c:Nat):Bool:=decide (97<=c)&&decide (c<=122)
theorem LJ(a b:Nat):decide (([a]:List Nat) < [b])=decide (a<b):=by
 have h:(([a]:List Nat) < [b])↔a<b:=by
  constructor
  ·intro h;cases h with
   | rel h=>exact h
   | cons h=>cases h
  ·intro h;exact List.Lex.rel h
 exact decide_eq_decide.mpr h
variable{prog:Program}{A:Around}{E Q:Value->Shared->Prop}{x:Str}{u:Tok}
theorem LS{y:Str}{t:Tok}(h:Q (.bool (!decide (y.cps.toList<x.cps.toList))) s):wpAny (model prog w) A (compareOp .LtE (.str x t) (.str y u)) Q E s:=PySem.P.le_str h
variable{C:Addr}{m:Str->Option Value}{env:Env}{pos:Pos}
theorem Vc{jh : Shared}{sc:Scope}{n:Str}{v:Value}(x:InComp jh C m s)(hk:sc.kind=.function)(hl:sc.names.lookup n=some .local)
  (hv:m n=some v) (hd:(n == ("__debug__" : Str))=false) (h:Q v s):wpAny (model prog w) A (eval (.Name n pos) (compEnv sc C env)) Q E s:=PySem.ldK x hk hl hv h hd
variable{scope:Scope}{j j2:Nat}{p1 p2 p3:Pos}
theorem VO{c:Nat}(hk:scope.kind=.function)(hx:scope.names.lookup x=some .local)(hd:(x == ("__debug__" : Str))=false)
  (hn:s.heap.Ns C m) (hm:m x=some (.str ⟨#[c]⟩ u)) :
  wpAny (model prog w) A (eval (.Compare (.Constant (.str "a") j p1) [.LtE,.LtE] [.Name x p2,.Constant (.str "z") j2 p3] pos) (compEnv scope C env)) (λr s'=>r=.bool (iz c)/\Keeps s s') E s:=by
 have I0:=(InComp.start hn).tok (s.toks+1);have ea:("a" : Str).cps.toList=[97]:=by decide +kernel
 have ez:("z" : Str).cps.toList=[122]:=by decide +kernel
 have e1:decide (([c]:List Nat) < [97])=decide (c<97):=LJ c 97;have e2:decide (([122]:List Nat) < [c])=decide (122<c):=LJ 122 c;refine Compare_chain (Calls.Constant_str ?_);refine chain_link ?_;refine Vc I0 hk hx hm hd ?_;refine LS ?_;rw[ea];show wpAny (model prog w) A (truthy (.bool (!decide (([c]:List Nat) < [97])))) _ _ _;rw[e1];refine mN ?_;by_cases h1:c<97
 ·rw[aF h1];refine ite_ff ⟨?_,I0.done⟩;unfold iz;rw[a8 (by lia : ¬ 97<=c)];rfl
 ·rw[a8 h1];refine ite_tt ?_;refine chain_last ?_;refine Calls.Constant_str ?_;refine LS ?_;rw[ez];refine⟨?_,(I0.tok _).done⟩;show Value.bool (!decide (([122]:List Nat) < [c]))=_;rw[e2];unfold iz;rw[aF (by lia:97<=c)];by_cases h2:c<=122
  ·rw[aF h2,a8 (by lia)];rfl
  ·rw[a8 h2,aF (by lia)];rfl
theorem Lv:∀{cs:List Nat}{vs us:List Value},(∀(j:Nat)(v:Value),vs[j]?= some v->∃(c:Nat)(u:Tok),cs[j]?= some c/\v=Value.str ⟨#[c]⟩ u)->vs.length=cs.length->Paired (λv r=>∃c u,v=Value.str ⟨#[c]⟩ u/\r=Value.bool (iz c)) vs us ->
  Vals (cs.map λc=>.bl (iz c)) us
 | [],[],_,_,_,.nil=>.nil
 | [],v::vs,_,_,h,_=>by simp at h
 | c::cs,[],_,_,h,_=>by simp at h
 | c::cs,v::vs,_,hP,hl,.cons hr t=>by
  obtain⟨c',u',e1,e2⟩:=hP 0 v rfl;obtain⟨c2,u2,e3,e4⟩:=hr;simp at e1;subst e1;rw[e2] at e3;injection e3 with e5 _;injection e5 with e6;simp at e6;subst e6;refine .cons e4 (Lv (λj v hv=>?_) (by simpa using hl) t);obtain⟨c3,u3,f1,f2⟩:=hP (j+1) v (by simpa using hv);exact⟨c3,u3,by simpa using f1,f2⟩
variable{iter:Expr}{te:TE}{px p4:Pos}
theorem Rn(hi:PE X iter te)(hc:X.calm=true)(A7:∀y∈scope.names,y.2 ≠ .free)(iC:∀y∈scope.names,y.2 ≠ .cell)(hk:scope.kind=.function)
  (rX:∀y∈scope.names,y.2=.local->scope.names.lookup y.1=some .local) (hx:scope.names.lookup x=some .local) (hd:(x == ("__debug__" : Str))=false) (hs:∀v,foldedSetIterable iter X.env v=pure v) :
  PE X (.ListComp (.Compare (.Constant (.str "a") j p1) [.LtE,.LtE] [.Name x p2,.Constant (.str "z") j2 p3] p4) [⟨.Name x px,iter,[],0⟩] scope pos)
   (λσ H Q=>te σ H λv H1=>∃z,v=.str z/\z.length<=sizeLine/\∀p,H1 p=none->Q (.ref p) (upd H1 p (.lst (z.cps.toList.map λc=>.bl (iz c))))):=by
 intro pins s σ H Q I h;refine wpAny_ListComp_walk (λ_=>true) (λv r=>∃c u,v=Value.str ⟨#[c]⟩ u/\r=Value.bool (iz c)) A7 iC hk rX hx (ap (hi pins s σ H _ I h) λv s1 ⟨xv,H1,I1,r1,q1⟩=>?_) hs;obtain⟨z,rfl,hz,q⟩:=q1;obtain⟨t,rfl⟩:=r1;refine wpAny_pyIter_str λo St W bY=>⟨s1.heap.objs.size,[s1.heap.objs.size],[s1.heap.objs.size],z.cps.size,SignAt z,St,rfl,W X.A (I1.ok.hd hc),hz,bY,λb hb=>?_,⟨?_,?_⟩,?_⟩
 ·show b<(s1.heap.push o).objs.size;rw[gD,az.mp hb];exact mE _
 ·intro C i v s3 m3 E' hP hn hm _ _;exact af ⟨rfl,(InComp.start hn).done⟩
 ·intro C i v s3 m3 E' hP hp hn hm _ _;obtain⟨c,u,_,e⟩:=hP;subst e;exact cw (VO hk hx hd hn hm) (λr s4 h4=>⟨⟨c,u,rfl,h4.1⟩,h4.2⟩) λ_ _ e=>e
 ·intro D h' tk ys vs jN iD Zpe hlen hP hF ef;have Pj:Paired (λv r=>∃c u,v=Value.str ⟨#[c]⟩ u/\r=Value.bool (iz c)) vs ys.toList:=by
   rw[List.filter_eq_self.mpr (λ_ _=>rfl)] at hF;exact hF
  have hV:=Lv (cs:=z.cps.toList) (λj v hv=>by
   obtain⟨c,u,e1,e2⟩:=hP j v hv;exact⟨c,u,by rw[dU];exact e1,e2⟩) (by rw[hlen,aK]) Pj
  have up:∀b ob,s1.heap.get? b=some ob->h'.get? b=some ob:=λb ob e=>ef b ob (λhm=>by
   rw[az.mp hm] at e;exact cD _ (aH e)) (ax _ e)
  have hD:s1.heap.get? D=none:=by
   cases e:s1.heap.get? D with
   | none=>rfl
   | some ob =>
    rw[ax _ e] at jN;cases jN
  obtain⟨nD,eD⟩:=Zpe;refine⟨.ref D,_,I1.Zp9 (a:=D) (o:=.lst (z.cps.toList.map λc=>.bl (iz c))) (t':=tk) up hD ⟨?_,ys.toList,nD,hV,by rw[Array.toArray_toList];exact eD⟩,rfl,q D (I1.ah.MM hD)⟩;rw[ay,aK];exact hz
end L2
namespace L2
open PySem
theorem VE:bootBuiltins "all" = some (.builtin "all"):=by decide +kernel
end L2
namespace Fg
open PySem L2 lA
def wZ(z:Str):Bool:=decide (1<=z.length)&&decide (z.length<=8)&&z.cps.toList.all iz
def Kt:Sp:=λvs H Q _=>∃z:Str,vs=[.str z]/\z.length<=100000/\∀H',Zi H H'->Q (.bl (wZ z)) H'
end Fg
namespace L2
open PySem PySem.Spec PyProof.Rows
theorem Qo:bootBuiltins "enumerate" = some (.type "enumerate"):=by decide +kernel
def vM(K:PySem.W.Frag)(l:Addr):It :=
 ⟨λi H=>∃xs x,aj K H l xs/\xs[i]?= some x,λi H x H'=>∃p,H p=none/\x=.ref p/\∀xs,aj K H l xs->∃y,xs[i]?= some y/\H'=upd H p (.tup [.int i,y]),λi H=>∃xs,aj K H l xs/\xs.length<=i⟩
variable{w:World}{K:PySem.W.Frag}{Et:List Expr}{tp:Pos}
theorem SF{P:Program}{x1}(l e it:Addr)(aO:e≠it) :
  Turn P w K (.Tuple Et x1 tp) (vM K l) [e,it] e (λi h=>(∃old,IsEnum h e it (i:Int) old)/\h.IsListIter it l i) where
 mem:=by simp
 obj:=λi h st b hb=>by
  obtain⟨⟨old,he⟩,o,ho,hc,hd⟩:=st;rcases aJ.mp hb with rfl|hb
  ·exact⟨_,he,λv z=>by cases z⟩
  ·obtain rfl:=az.mp hb;exact⟨o,ho,λv z=>by rw[hd] at z;cases z⟩
 keep:=λi h h' st k=>by
  obtain⟨⟨old,he⟩,o,ho,r⟩:=st;exact⟨⟨old,k e (by simp) _ he⟩,o,k it (by simp) o ho,r⟩
 item:=by
  intro X hP hw hK hc i pins s σ H E I hf st hg;subst hP hw hK;obtain⟨⟨old,he⟩,hit⟩:=st;obtain⟨xs,x,hq,hx⟩:=hg;obtain⟨its,rv,pl,hz⟩:=I.list hq;obtain⟨u,hu,ru⟩:=rv.get hx;have fe:=hf e (by simp);have fi:=hf it (by simp);refine wpAny_pyNext_enum_item he hit pl.isList (x:=u) (by simpa using hu) aO λh1 YR Y3 gn N2 Y7=>⟨_,rfl,wpAny_letOwnedTupleGo_enum YR λh2 kz nR=>?_⟩;have kA:H s.heap.objs.size=none:=I.ah.fresh (aq _);have Ox:s.heap.objs.size≠e:=sX (aH he);obtain⟨oi,hoi,_⟩:=id hit;have nei:s.heap.objs.size≠it:=sX (aH hoi);have kp:∀b o,b ∉ [e,it]->s.heap.get? b=some o->h2.get? b=some o:=λb o hb q=>by
   have b1:b≠e:=λz=>hb (by rw[z];simp);have b2:b≠it:=λz=>hb (by rw[z];simp);exact(nR.2 b b1).trans (Y7 b o b1 b2 q)
  have dP:h2.get? s.heap.objs.size=some { cls:=.type "tuple",data:=.seq #[.int i s.toks,u] }:=(nR.2 _ Ox).trans gn;have nb:∀b o,s.heap.get? b=some o->b≠s.heap.objs.size:=λb o q=>aV (aH q);have tracked:∀b o,H b=some o->b ∉ [e,it]:=λb o q hb=>by
   rcases aJ.mp hb with rfl|hb
   ·rw[fe.1] at q;cases q
   ·obtain rfl:=az.mp hb;rw[fi.1] at q;cases q
  have it2:h2.IsListIter it l (i+1):=by
   obtain⟨o,ho,r⟩:=Y3;exact⟨o,(nR.2 it aO.symm).trans ho,r⟩
  have Zo4:a9 X.prog X.w (upd H s.heap.objs.size (.tup [.int i,x])) h2:=λb o q=>by
   by_cases hb:b=s.heap.objs.size
   ·subst hb;rw[Za] at q;cases q;exact⟨by show 2<=sizeLine;decide,[.int i s.toks,u],.cons ⟨_,rfl⟩ (.cons ru .nil),_,dP,rfl,_,rfl⟩
   ·rw[Zc hb] at q;refine(I.ah b o q).jR (λc v rK r=>kp c v ?_ r) (λc r=>by rw[Zc (Zg r kA)];exact r) λc ys r=>by rw[Zc (Zg r kA)];exact r
    rcases rK with rfl|rK
    ·exact tracked _ _ q
    ·exact tracked _ _ rK
  have I2:Inv X pins σ (upd H s.heap.objs.size (.tup [.int i,x])) { s with heap:=h2,gens:=s.gens,drawn:=s.drawn,toks:=s.toks+1 }:=by
   refine I.step (ch:=[e,it]) (λb hb=>?_) (λb o _ _ hb q _=>kp b o hb q) (λb o _ _ hb q _=>⟨o.slots,kp b o hb q⟩) (λb o _ q n=>by rw[Zc (nb b o q)];exact n) (λb o hb q=>⟨o,kp b o hb q⟩)
    (λb ys q=>by rw[Zc (Zg q kA)];exact q) (λb o ys q=>by rw[Zc (Zg q kA)];exact q) (λb ps q=>⟨#[],by rw[Zc (Zg q kA),q];simp⟩) (λm hm=>?_) Zo4 I.bare
   ·have f:bt X pins H b:=hf b hb;exact⟨f.2.2.2.1,f.2.1,f.2.2.2.2.1,f.2.2.2.2.2⟩
   ·obtain⟨o,es,ep,ho,r⟩:=hm;refine⟨o,es,ep,kp _ o (λhb=>?_) ho,r⟩;exact(hf _ hb).2.1 rfl
  refine⟨.ref s.heap.objs.size,_,I2,rfl,⟨_,kA,rfl,λys hy=>⟨x,by rw[I.GB hy hq];exact hx,rfl⟩⟩,⟨⟨_,kz⟩,it2⟩,λb hb=>?_⟩;rcases aJ.mp hb with rfl|hb
  ·rw[Zc Ox.symm];exact fe.1
  ·obtain rfl:=az.mp hb;rw[Zc nei.symm];exact fi.1
 done:=by
  intro X hP hw hK hc i pins s σ H E I hf st hg;subst hP hw hK;obtain⟨⟨old,he⟩,hit⟩:=st;obtain⟨xs,hq,hx⟩:=hg;obtain⟨its,rv,pl,hz⟩:=I.list hq;obtain⟨f0,f1,f2,f3,f4,f5⟩:=hf it (by simp);have hlen:=rv.length;exact wpAny_pyNext_enum_end (I.ok.hd hc) he hit pl.isList (by simp;lia) λh' eb=>⟨rfl,I.turned (t':=s.toks) (λb o hb q=>eb b o hb q) f0 f1 f3 f4 f5⟩
 self:=λ_ _ _ _ _ st h=>by
  obtain⟨⟨old,he⟩,_⟩:=st;exact wpAny_pyIter_enum he h
def Vb(K:PySem.W.Frag)(tl:TA):TI:=λσ H R=>tl σ H λvs H1=>∃a xs,vs=[.ref a]/\aj K H1 a xs/\R (vM K a) H1
variable{X:Cx}{x1:Nat}{pos:Pos}
theorem U7{l:Expr}{ta:TA}{p:Pos}(hg:Gl X "enumerate") (hm:X.mg "enumerate" = none) (ha:PA X [l] ta) (hs:starEach [l] X.env=[(false,eval l X.env)]:=by rfl) :
  PI X (.Tuple Et x1 tp) (.Call (.Name "enumerate" p) [l] [] pos) (Vb X.K ta):=by
 intro pins s σ H R I h;refine Call_ (kl I hg hm Qo (vz (ap (ha pos pins s σ H _ I h) λus s1 ⟨vs,H1,I1,r1,q1⟩=>?_) hs rfl));obtain⟨a,xs,e,hq,q⟩:=q1;subst e;obtain⟨u,rfl,ru⟩:=Vals.one r1;cases ru;obtain⟨its,rv,pl,hz⟩:=I1.list hq;refine call_enumerate_list pl.isList λh' he hit hz' hk=>wpAny_pyIter_enum he ?_;refine⟨s1.heap.objs.size+1,[s1.heap.objs.size+1,s1.heap.objs.size],_,_,H1,rfl,I1.kept (t':=s1.toks) hk,SF a _ _ (Nat.succ_ne_self _),⟨⟨_,he⟩,hit⟩,λb hb=>?_,q⟩;have aB:s1.heap.objs.size<=b:=by
  rcases aJ.mp hb with rfl|hb
  ·exact ot _
  ·rw[az.mp hb];exact aq _
 exact I1.iY aB (I1.ah.fresh aB)
variable{g:TG}{σ:St}{H:Hp}
theorem Td{a:Addr}{xs:List V}{tb:TS}{D:Ends}(Pv:Nat->St->Hp->Prop)(h0:Pv 0 σ H)(hl:∀i σ H,i<=xs.length->Pv i σ H->aj K H a xs)
  (hs:∀i y p σ H,xs[i]?= some y->Pv i σ H->H p=none->g (.ref p) σ (upd H p (.tup [.int i,y])) λei H2=>tb { D with nx:=Pv (i+1),ct:=Pv (i+1),bk:=D.nx } ei H2) (hd:∀ σ H,Pv xs.length σ H->D.nx σ H) :
  ∃W:Nat->Nat->St->Hp->Prop,(∃m,W 0 m σ H)/\∀i m σ H,W i m σ H ->
   ((vM K a).stop i H/\D.nx σ H)\/((vM K a).go i H/\∃N:St->Hp->Prop,(∀ ao H',N ao H'->∃m',m'<m/\W (i+1) m' ao H')/\∀x H',(vM K a).fB i H x H'->g x σ H' λei H2=>tb { D with nx:=N,ct:=N,bk:=D.nx } ei H2):=by
 refine⟨λi m σ H=>m=xs.length-i/\i<=xs.length/\Pv i σ H,⟨xs.length,by simp,bE _,h0⟩,?_⟩;rintro i m σ H ⟨rfl,hi,p⟩;have q:=hl i σ H hi p;by_cases au:i<xs.length
 ·refine .inr ⟨⟨xs,xs[i],q,by simp[au]⟩,Pv (i+1),λao H' p'=>⟨xs.length-(i+1),by lia,rfl,au,p'⟩,λx H' y=>?_⟩;obtain⟨b,hb,hx,hy⟩:=y;obtain⟨z,hz,hH⟩:=hy xs q;subst hx hH;exact hs i z b σ H hz p hb
 ·have e:i=xs.length:=by lia
  subst e;exact .inl ⟨⟨xs,q,aq _⟩,hd σ H p⟩
abbrev dR:Value->Shared->Prop:=λ_ _=>False
variable{prog:Program}{A:Around}{s:Shared}{R:Result->Shared->Prop}{elt target iter:Expr}{scope:Scope}{it acc:Value}{env:Env}
theorem QS(I:Nat->Shared->Prop)
  (turn:∀n s,I n s->wpAny (model prog w) A (pyNext it) (λr s1=>match r with
   | none=>R (.ok .next) s1
   | some v=>wpAny (model prog w) A (letOwnedTupleGo target it v) (λ_ s2=>wpAny (model prog w) A (assign target env v) (λ_ s3=>wpAny (model prog w) A (eval elt env) (λx s4 =>
     wpAny (model prog w) A (call (.builtin "list.append") [acc,x]) (λ_ s5=>∃m,m<n/\I m s5) dR s4) dR s3) dR s2) dR s1) dR s)
  (n:Nat) (h:I n s):codeAny (model prog w) A (.compLoop (.ListComp elt [⟨target,iter,[],0⟩] scope pos) 0 it acc env) R s:=by
 refine codeAny_loop rfl I (λn s hI=>?_) n h;show wpAny _ _ ((compTurn (.ListComp elt [⟨target,iter,[],0⟩] scope pos) 0 it acc env).onRaise (λx=>do noteFrame x env;theTreesLotGoes x)) _ _ s;refine wpAny_noted ?_;rw[compTurn_list1];refine ae (tj (ae (cw (turn n s hI) (λr s1 h1=>?_) λ_ _ h'=>h'.elim)));cases r with
 | none=>exact af h1
 | some v =>
  refine ae (cw h1 (λ_ s2 h2=>?_) λ_ _ h'=>h'.elim);refine ae (cw h2 (λ_ s3 h3=>?_) λ_ _ h'=>h'.elim);refine ae (ae (cw h3 (λx s4 h4=>?_) λ_ _ h'=>h'.elim));exact ae (cw h4 (λ_ s5 h5=>af (af ⟨rfl,h5⟩)) λ_ _ h'=>h'.elim)
def dj(X:Cx)(N:List Str)(scope:Scope)(cl:List (Str×Addr))(C:Addr)(fp:List Addr)(s:Shared)(H:Hp):Cx where
 prog:=X.prog
 w:=X.w
 K:=X.K
 mg:=X.mg
 base:=X.base
 A:=X.A
 N:=N
 cO := s
 jv := H
 env:=compEnvC scope cl C X.env
 outer:=X.stack
 stack:=X.stack
 ex:=fp
 fn:=λ_=>false
 calm:=X.calm
 pn:=[]
 xe:=dR
variable{pins:List (Addr×Obj)}{cl:List (Str×Addr)}{fp:List Addr}
theorem Sj{N:List Str}{C:Addr}(I:Inv X pins σ H s)(hk:scope.kind=.function)(hC:s.heap.objs.size<=C)(bu:∀x c,cl.lookup x=some c->X.env.cells.lookup x=some c)
  (ft:∀x,((compEnvC scope cl C X.env).kindOf x=some .cell\/(compEnvC scope cl C X.env).kindOf x=some .free)->∃c,cl.lookup x=some c)
  (hf:∀b∈fp,bt X pins H b) (au:∀b∈fp,b<s.heap.objs.size):(dj X N scope cl C fp s H).Ok where
 mod:=I.ok.mod
 kind:=hk
 glob:=I.ok.glob
 blt:=I.ok.blt
 above:=hC
 inj:=λx y c e1 e2=>I.ok.inj x y c (bu x c e1) (bu y c e2)
 has:=ft
 ko:=λx c e=>by cases e
 hd:=I.ok.hd
 frames:=I.ok.frames
 mw:=.inl rfl
 jH:=λb hb=>⟨λz=>absurd (cf (au b hb) hC) (by rw[show b=C from z];exact cD _),λx c e=>(hf b hb).2.2.2.2.1 x c (bu x c e)⟩
 bs:=λb o e=>⟨(I.bs b o e).1,(I.bs b o e).2⟩
 gh:=bD I.ok.gh I.sz
 kK:=λb o e hb=>by
  rcases(hf b hb).2.2.2.1 with z|z
  ·exact I.ok.kK b o e z
  ·exact absurd (cf (aH e) (bD I.ok.gh z)) (cD _)
 jI:=λb hb hm=>by
  rcases aJ.mp (I.Hc b hm) with z|z
  ·exact(hf b hb).2.1 z
  ·exact(hf b hb).2.2.1 z
 fj:=I.stack
 iZ:=I.BM
def rA(σ : St)(k:Nat)(aw:List (Str×Nat)):St:=List.replicate k none++aw.map λp=>(σ[p.2]?).getD none
theorem Im{tn:List Str}{aw:List (Str×Nat)}{h1:Heap}(I:Inv X pins σ H s)(hk:scope.kind=.function)(bu:∀x c,cl.lookup x=some c->X.env.cells.lookup x=some c)
  (ft:∀x,((compEnvC scope cl s.heap.objs.size X.env).kindOf x=some .cell\/(compEnvC scope cl s.heap.objs.size X.env).kindOf x=some .free)->∃c,cl.lookup x=some c)
  (hf:∀b∈fp,bt X pins H b) (au:∀b∈fp,b<s.heap.objs.size)
  (ku:∀p∈aw,X.N[p.2]?= some p.1/\X.env.scope.names.lookup p.1=some .cell/\((compEnvC scope cl s.heap.objs.size X.env).kindOf p.1=some .cell\/(compEnvC scope cl s.heap.objs.size X.env).kindOf p.1=some .free))
  (i9:h1.Ns s.heap.objs.size (λ_=>none)) (ef:∀b o,s.heap.get? b=some o->h1.get? b=some o) :
  Inv (dj X (tn++aw.map (·.1)) scope cl s.heap.objs.size fp s H) [] (rA σ tn.length aw) H { s with heap:=h1 } where
 ok:=Sj I hk (aq _) bu ft hf au
 os:=rfl
 bare:=I.bare
 base:=Un.kept ef
 loc:=by
  refine⟨λ_=>none,i9,λi x v e1 e2 hv=>?_⟩;unfold rA at e2;by_cases hi:i<tn.length
  ·rw[BZ (by rw[yV];exact hi),List.getElem?_replicate,ai hi] at e2;cases e2
  ·have hN:(aw.map (·.1))[i-tn.length]?= some x:=by
    have:(tn++aw.map (·.1))[i]?= some x:=e1;rw[yU (by lia)] at this;exact this
   rw[yU (by rw[yV];lia),yV,cp] at e2;rw[cp] at hN;cases hp:aw[i-tn.length]? with
   | none=>rw[hp] at hN;cases hN
   | some p =>
    rw[hp] at hN e2;have hx:p.1=x:=cE hN;have he:(σ[p.2]?).getD none=some v:=cE e2;obtain⟨c1,c2,c3⟩:=ku p (bU hp);subst hx;have hs : σ[p.2]?= some (some v):=by
     cases q : σ[p.2]? with
     | none=>rw[q] at he;cases he
     | some z=>rw[q] at he;rw[show z=some v from he]
    obtain⟨m,hn,hl⟩:=I.loc;obtain⟨u,r,l⟩:=hl p.2 p.1 v c1 hs (.inr (.inl c2));refine⟨u,r,.inr ⟨c3,?_⟩⟩;obtain⟨c,hc⟩:=ft p.1 c3;refine⟨c,hc,?_⟩;rcases l with⟨l1,_⟩|⟨_,c',l2,o,ho,hd⟩
    ·have:X.env.kindOf p.1=some .cell:=c2;rw[this] at l1;cases l1
    ·have:c=c':=cE ((bu p.1 c hc).symm.trans l2);subst this;exact⟨o,ef _ _ ho,hd⟩
 cell:=λx c e=>by
  obtain⟨v,o,ho,hd⟩:=I.cell x c (bu x c e);exact⟨v,o,ef _ _ ho,hd⟩
 free:=I.ah.fresh (aq _)
 ee:=λx c e=>I.ee x c (bu x c e)
 pin:=λp hp=>by cases hp
 ah:=I.ah.kept ef
 len:=by
  unfold rA;show _=(tn++aw.map (·.1)).length;rw[bL,bL,yV,ay,ay]
def LR(wi:TI)(k:Nat)(aw:List (Str×Nat))(g:TG)(te:TE):TE:=λσ H Q=>wi σ H λJ H1=>∀p,H1 p=none->∃W:Nat->Nat->List V->St->Hp->Prop,(∃m,W 0 m [] (rA σ k aw) (upd H1 p (.lst []))) /\
 ∀i m ys cm H2,W i m ys cm H2->H2 p=some (.lst ys)/\((J.stop i H2/\Q (.ref p) H2)\/(J.go i H2/\∀x H3,J.fB i H2 x H3->g x cm H3 λaC H4=>te aC H4 λv H5 =>
  H5 p=some (.lst ys)/\ys.length<sizeLine/\∃m',m'<m/\W (i+1) m' (ys ++ [v]) aC (upd H5 p (.lst (ys ++ [v])))))
variable{tg:Expr}{te:TE}{H2:Hp}{s2:Shared}{jT:Nat->Heap->Prop}{use:Option (Value->Sem Unit)}{Qp:Value->Shared->Prop}
theorem IH{it:Addr}{J:It}{R:Addr->Hp->Prop}(tn:List Str)(aw:List (Str×Nat))(hg:∀C fp s H,PG (dj X (tn++aw.map (·.1)) scope cl C fp s H) tg g)(he:∀C fp s H,PE (dj X (tn++aw.map (·.1)) scope cl C fp s H) elt te)(hc:X.calm=true)(iC:∀y∈scope.names,y.2 ≠ .cell)(hk:scope.kind=.function)(bu:∀x c,cl.lookup x=some c->X.env.cells.lookup x=some c)(ft:∀C x,((compEnvC scope cl C X.env).kindOf x=some .cell\/(compEnvC scope cl C X.env).kindOf x=some .free)->∃c,cl.lookup x=some c)(ku:∀C,∀p∈aw,X.N[p.2]?= some p.1/\X.env.scope.names.lookup p.1=some .cell/\((compEnvC scope cl C X.env).kindOf p.1=some .cell\/(compEnvC scope cl C X.env).kindOf p.1=some .free))
  (I2:Inv X pins σ H2 s2) (T:Turn X.prog X.w X.K tg J fp it jT) (cT:jT 0 s2.heap) (f2:∀b∈fp,bt X pins H2 b) (q2:∀p,H2 p=none->∃W:Nat->Nat->List V->St->Hp->Prop,(∃m,W 0 m [] (rA σ tn.length aw) (upd H2 p (.lst []))) /\
 ∀i m ys cm H2,W i m ys cm H2->H2 p=some (.lst ys)/\((J.stop i H2/\R p H2)\/(J.go i H2/\∀x H3,J.fB i H2 x H3->g x cm H3 λaC H4=>te aC H4 λv H5=>H5 p=some (.lst ys)/\ys.length<sizeLine/\∃m',m'<m/\W (i+1) m' (ys ++ [v]) aC (upd H5 p (.lst (ys ++ [v]))))))
  (Fm:∀(s3:Shared)(H3:Hp),Inv X pins σ H3 s3->(∀b∈fp,bt X pins H3 b)->∀(acc:Addr)(qh:St)(H6:Hp)(s6:Shared),Inv (dj X (tn++aw.map (·.1)) scope cl s3.heap.objs.size fp s3 H3) [] qh H6 s6->R acc H6->compPost (model X.prog X.w) X.A X.xe use Qp (.ref acc) s3.heap.objs.size (.ok .next) s6) :
  wpAny (model X.prog X.w) X.A (newList []) (λacc va=>wpAny (model X.prog X.w) X.A (newFunctionEnv scope X.env.globals cl [] X.env.qual none Value.none (some X.env)) (λxb He=>codeAny (model X.prog X.w) X.A (Code.compStart (.ListComp elt [⟨tg,iter,[],0⟩] scope pos) 0 (Value.ref it) acc { xb with scope:=relabel scope X.env }) (compPost (model X.prog X.w) X.A X.xe use Qp acc xb.locals) He) X.xe va) X.xe s2:=by
 have fresh:H2 s2.heap.objs.size=none:=I2.fresh;obtain⟨W,⟨m0,w0⟩,turn⟩:=q2 s2.heap.objs.size fresh;have mj:∀b∈fp,b<s2.heap.objs.size:=λb hb=>by
  obtain⟨o,ho,_⟩:=T.obj _ _ cT b hb;exact aH ho
 have I3:Inv X pins σ (upd H2 s2.heap.objs.size (.lst [])) { s2 with heap:=s2.heap.push { cls:=.type "list",data:=.seq ([]:List Value).toArray } }:=I2.yh (its:=[]) (t':=s2.toks) .nil (bE _);refine mM (wpAny_newFunctionEnv iC (by intro y hy;simp at hy) (λh1 r8 sj=>?_) hk);dsimp only at r8 sj ⊢;generalize lY:({ s2 with heap:=s2.heap.push { cls:=.type "list",dict:=none,data:=.seq ([]:List Value).toArray } }:Shared)=s3 at I3;have rM:s2.heap.push { cls:=.type "list",dict:=none,data:=.seq ([]:List Value).toArray }=s3.heap:=by rw[<- lY]
 rw[rM] at r8 sj ⊢;have Hd:s3.heap.objs.size=s2.heap.objs.size+1:=by rw[<- rM,gD]
 have GC:∀b∈fp,b<s3.heap.objs.size:=λb hb=>cf (mj b hb) (by rw[Hd];exact ot _);have f3:∀b∈fp,bt X pins (upd H2 s2.heap.objs.size (.lst [])) b:=λb hb=>⟨by rw[Zc (aV (mj b hb))];exact(f2 b hb).1,(f2 b hb).2⟩;have ye:∀b o,s3.heap.get? b=some o->h1.get? b=some o:=λb o q=>sj.extBut b o (aV (aH q)) (ax _ q);have gB:jT 0 h1:=T.keep _ _ _ cT λb hb o q=>ye b o (by rw[<- rM];exact ax _ q);have I4:=(Im (tn:=tn) I3 hk bu (ft _) f3 GC (ku _) r8 ye).tok (s2.toks+([]:List (Str×Value)).length);have loop:codeAny (model X.prog X.w) X.A (.compLoop (.ListComp elt [⟨tg,iter,[],0⟩] scope pos) 0 (.ref it) (.ref s2.heap.objs.size) (compEnvC scope cl s3.heap.objs.size X.env))
   (compPost (model X.prog X.w) X.A X.xe use Qp (.ref s2.heap.objs.size) s3.heap.objs.size) { s3 with heap:=h1,toks:=s2.toks+([]:List (Str×Value)).length }:=by
  refine QS (λn s'=>∃i ys ao H',Inv (dj X (tn++aw.map (·.1)) scope cl s3.heap.objs.size fp s3 (upd H2 s2.heap.objs.size (.lst []))) [] ao H' s'/\jT i s'.heap/\(∀b∈fp,H' b=none)/\W i n ys ao H') ?_ m0
   ⟨0,[],_,_,I4,gB,λb hb=>(f3 b hb).1,w0⟩
  rintro n s5 ⟨i,ys,k7,H5,I5,kR,rE,w5⟩;obtain⟨hD,alt⟩:=turn i n ys k7 H5 w5;have kX:∀{H':Hp},(∀b∈fp,H' b=none)->∀b∈fp,bt (dj X (tn++aw.map (·.1)) scope cl s3.heap.objs.size fp s3 (upd H2 s2.heap.objs.size (.lst []))) [] H' b :=
   λhn b hb=>⟨hn b hb,(I4.ok.jH b hb).1,I4.ok.jI b hb,.inl hb,(I4.ok.jH b hb).2,λp hp=>by cases hp⟩
  rcases alt with⟨stop,qn⟩|⟨go,step⟩
  ·refine ap (T.done (dj X (tn++aw.map (·.1)) scope cl s3.heap.objs.size fp s3 (upd H2 s2.heap.objs.size (.lst []))) rfl rfl rfl hc i [] s5 k7 H5 dR I5 (kX rE) kR stop) λr s6 ⟨hr,I6⟩=>?_;subst hr;exact Fm s3 _ I3 f3 _ k7 H5 s6 I6 qn
  ·refine ap (T.item (dj X (tn++aw.map (·.1)) scope cl s3.heap.objs.size fp s3 (upd H2 s2.heap.objs.size (.lst []))) rfl rfl rfl hc i [] s5 k7 H5 dR I5 (kX rE) kR go) λr s6 ⟨u,hr,h6⟩=>?_;subst hr;refine ap h6 λ_ s7 ⟨x,H7,I7,r7,y7,kU,Ex⟩=>?_;have B9:=I7.pinned (kX Ex) (T.obj _ _ kU);refine ap (hg _ _ _ _ _ s7 k7 H7 x u _ B9 r7 (step x H7 y7)) λ_ s8 ⟨oh,H8,I8,q8⟩=>?_;refine ap (he _ _ _ _ _ s8 oh H8 _ I8 q8) λxv s9 ⟨v9,H9,I9,r9,q9⟩=>?_;obtain⟨EX,xM,m',qE,w9⟩:=q9;refine ap (jA _ s9 oh H9 (.ref s2.heap.objs.size) [v9] (.ref s2.heap.objs.size) [xv] (λz H'=>z=.aG/\H'=upd H9 s2.heap.objs.size (.lst (ys ++ [v9]))) I9 rfl (.cons r9 .nil)
    ⟨s2.heap.objs.size,ys,v9,rfl,rfl,EX,xM,rfl,rfl⟩) λz fA ⟨zv,oI,qL,_,_,eH⟩=>?_
   subst eH;refine⟨m',qE,i+1,ys ++ [v9],oh,_,qL.sM,T.keep _ _ _ kU λb hb o q=>(qL.pin (b,o) (bO _ (bO _ (oR hb q)))).1,λb hb=>?_,w9⟩;obtain⟨o,q,d⟩:=T.obj _ _ kU b hb;exact(qL.pin (b,o) (bO _ (bO _ (oR hb q)))).2.1
 subst lY;exact codeAny_compStart_list loop (T.self X.A 0 _ _ _ gB loop)
variable{wi:TI}
theorem oX(tn:List Str)(aw:List (Str×Nat))(hi:PI X tg iter wi)(hg:∀C fp s H,PG (dj X (tn++aw.map (·.1)) scope cl C fp s H) tg g)(he:∀C fp s H,PE (dj X (tn++aw.map (·.1)) scope cl C fp s H) elt te)
  (hc:X.calm=true) (xC:closureFor scope X.env=pure cl) (iC:∀y∈scope.names,y.2 ≠ .cell) (hk:scope.kind=.function) (rX:∀y∈scope.names,y.2=.local->scope.names.lookup y.1=some .local)
  (bu:∀x c,cl.lookup x=some c->X.env.cells.lookup x=some c)
  (ft:∀C x,((compEnvC scope cl C X.env).kindOf x=some .cell\/(compEnvC scope cl C X.env).kindOf x=some .free)->∃c,cl.lookup x=some c)
  (ku:∀C,∀p∈aw,X.N[p.2]?= some p.1/\X.env.scope.names.lookup p.1=some .cell/\((compEnvC scope cl C X.env).kindOf p.1=some .cell\/(compEnvC scope cl C X.env).kindOf p.1=some .free))
  (hs:∀v,foldedSetIterable iter X.env v=pure v):PE X (.ListComp elt [⟨tg,iter,[],0⟩] scope pos) (LR wi tn.length aw g te):=by
 intro pins s σ H Q I h;rw[eval_ListComp];refine wpAny_comprehension_free (use:=none) rfl hs xC hk rX (ap (hi pins s σ H _ I h) λv s1 h1=>ap h1 λyc s2 h2=>?_);obtain⟨it,fp,jT,J,H2,e,I2,T,cT,f2,q2⟩:=h2;subst e;refine IH (R:=λp H6=>Q (.ref p) H6) tn aw hg he hc iC hk bu ft ku I2 T cT f2 q2 λs3 H3 I3 f3 acc qh H6 s6 I6 q6=>?_;obtain⟨m,hn,_⟩:=I6.loc;refine⟨m,hn,λh' sb=>?_⟩;have nC:∀b o,s3.heap.get? b=some o->b≠s3.heap.objs.size:=λb o q=>aV (aH q);have u:Un (gj X.stack) fp H3 H6 s3.heap h':=by
  have u0:=I6.base;refine⟨λb o q n hb hx=>(sb.2 b (nC b o q)).trans (u0.keep b o q n hb hx),λb o q n hb hx=>?_,u0.free,λb o q hx=>?_,u0.mx,u0.kr,u0.kY⟩
  ·obtain⟨sl,e⟩:=u0.slot b o q n hb hx;exact⟨sl,(sb.2 b (nC b o q)).trans e⟩
  ·obtain⟨o',e⟩:=u0.there b o q hx;exact⟨o',(sb.2 b (nC b o q)).trans e⟩
 have MK:H6 s3.heap.objs.size=none:=I6.free;have ok6:a9 X.prog X.w H6 h':=λb o q=>(I6.ah b o q).jR (λc v rK r=>(sb.2 c (by
  rcases rK with z|z
  ·rw[z];exact Zg q MK
  ·exact Zg z MK)).trans r) (λ_ q=>q) λ_ _ q=>q
 have I':=I3.call (g':=s6.gens) (d':=s6.drawn) (t':=s6.toks) (ch:=fp) u ok6 I6.bare λb hb=>⟨(f3 b hb).2.2.2.1,(f3 b hb).2.1,(f3 b hb).2.2.2.2.1,(f3 b hb).2.2.2.2.2⟩;have e:({ s6 with heap:=h' }:Shared)= { s3 with heap:=h',gens:=s6.gens,drawn:=s6.drawn,toks:=s6.toks }:=by
  have ho:s6.os=s3.os:=I6.os;obtain⟨a1,a2,a3,a4,a5⟩:=s6;obtain⟨b1,b2,b3,b4,b5⟩:=s3;simp only at ho;subst ho;rfl
 rw[e];exact⟨.ref _,H6,I',rfl,q6⟩
variable{ct:Expr}
theorem Rc(I:Nat->Shared->Prop)
  (turn:∀n s,I n s->wpAny (model prog w) A (pyNext it) (λr s1=>match r with
   | none=>R (.ok .next) s1
   | some v=>wpAny (model prog w) A (letOwnedTupleGo target it v) (λ_ s2=>wpAny (model prog w) A (assign target env v) (λ_ s3=>wpAny (model prog w) A (isTrue ct env (eval ct env)) (λok qF =>
     if ok=true then wpAny (model prog w) A (eval elt env) (λx s4 =>
     wpAny (model prog w) A (call (.builtin "list.append") [acc,x]) (λ_ s5=>∃m,m<n/\I m s5) dR s4) dR qF else ∃m,m<n/\I m qF) dR s3) dR s2) dR s1) dR s)
  (n:Nat) (h:I n s):codeAny (model prog w) A (.compLoop (.ListComp elt [⟨target,iter,[ct],0⟩] scope pos) 0 it acc env) R s:=by
 refine codeAny_loop rfl I (λn s hI=>?_) n h;show wpAny _ _ ((compTurn (.ListComp elt [⟨target,iter,[ct],0⟩] scope pos) 0 it acc env).onRaise (λx=>do noteFrame x env;theTreesLotGoes x)) _ _ s;refine wpAny_noted ?_;rw[compTurn_list];refine ae (tj (ae (cw (turn n s hI) (λr s1 h1=>?_) λ_ _ h'=>h'.elim)));cases r with
 | none=>exact af h1
 | some v =>
  refine ae (cw h1 (λ_ s2 h2=>?_) λ_ _ h'=>h'.elim);refine ae (cw h2 (λ_ s3 h3=>?_) λ_ _ h'=>h'.elim);refine ae (wpAny_tests_one (cw h3 (λok qF fW=>?_) λ_ _ h'=>h'.elim));cases ok with
  | true =>
   simp only[lq] at fW ⊢;refine ae (ae (cw fW (λx s4 h4=>?_) λ_ _ h'=>h'.elim));exact ae (cw h4 (λ_ s5 h5=>af (af ⟨rfl,h5⟩)) λ_ _ h'=>h'.elim)
  | false =>
   simp only[eZ,dB] at fW ⊢;exact af ⟨rfl,fW⟩
def UI(wi:TI)(k:Nat)(aw:List (Str×Nat))(g:TG)(tt:TT)(te:TE):TE:=λσ H Q=>wi σ H λJ H1=>∀p,H1 p=none->∃W:Nat->Nat->List V->St->Hp->Prop,(∃m,W 0 m [] (rA σ k aw) (upd H1 p (.lst []))) /\
 ∀i m ys cm H2,W i m ys cm H2->H2 p=some (.lst ys)/\((J.stop i H2/\Q (.ref p) H2)\/(J.go i H2/\∀x H3,J.fB i H2 x H3->g x cm H3 λaC H4=>tt aC H4 λb fG=>if b=true then te aC fG λv H5 =>
  H5 p=some (.lst ys)/\ys.length<sizeLine/\∃m',m'<m/\W (i+1) m' (ys ++ [v]) aC (upd H5 p (.lst (ys ++ [v])))
  else ∃m',m'<m/\W (i+1) m' ys aC fG))
variable{tt:TT}
theorem QN{it:Addr}{J:It}{R:Addr->Hp->Prop}(tn:List Str)(aw:List (Str×Nat))(hg:∀C fp s H,PG (dj X (tn++aw.map (·.1)) scope cl C fp s H) tg g)(ht:∀C fp s H,PT (dj X (tn++aw.map (·.1)) scope cl C fp s H) ct tt)(he:∀C fp s H,PE (dj X (tn++aw.map (·.1)) scope cl C fp s H) elt te)(hc:X.calm=true)(iC:∀y∈scope.names,y.2 ≠ .cell)(hk:scope.kind=.function)(bu:∀x c,cl.lookup x=some c->X.env.cells.lookup x=some c)(ft:∀C x,((compEnvC scope cl C X.env).kindOf x=some .cell\/(compEnvC scope cl C X.env).kindOf x=some .free)->∃c,cl.lookup x=some c)(ku:∀C,∀p∈aw,X.N[p.2]?= some p.1/\X.env.scope.names.lookup p.1=some .cell/\((compEnvC scope cl C X.env).kindOf p.1=some .cell\/(compEnvC scope cl C X.env).kindOf p.1=some .free))
  (I2:Inv X pins σ H2 s2) (T:Turn X.prog X.w X.K tg J fp it jT) (cT:jT 0 s2.heap) (f2:∀b∈fp,bt X pins H2 b) (q2:∀p,H2 p=none->∃W:Nat->Nat->List V->St->Hp->Prop,(∃m,W 0 m [] (rA σ tn.length aw) (upd H2 p (.lst []))) /\
 ∀i m ys cm H2,W i m ys cm H2->H2 p=some (.lst ys)/\((J.stop i H2/\R p H2)\/(J.go i H2/\∀x H3,J.fB i H2 x H3->g x cm H3 λaC H4=>tt aC H4 λb fG=>if b=true then te aC fG λv H5=>H5 p=some (.lst ys)/\ys.length<sizeLine/\∃m',m'<m/\W (i+1) m' (ys ++ [v]) aC (upd H5 p (.lst (ys ++ [v]))) else ∃m',m'<m/\W (i+1) m' ys aC fG)))
  (Fm:∀(s3:Shared)(H3:Hp),Inv X pins σ H3 s3->(∀b∈fp,bt X pins H3 b)->∀(acc:Addr)(qh:St)(H6:Hp)(s6:Shared),Inv (dj X (tn++aw.map (·.1)) scope cl s3.heap.objs.size fp s3 H3) [] qh H6 s6->R acc H6->compPost (model X.prog X.w) X.A X.xe use Qp (.ref acc) s3.heap.objs.size (.ok .next) s6) :
  wpAny (model X.prog X.w) X.A (newList []) (λacc va=>wpAny (model X.prog X.w) X.A (newFunctionEnv scope X.env.globals cl [] X.env.qual none Value.none (some X.env)) (λxb He=>codeAny (model X.prog X.w) X.A (Code.compStart (.ListComp elt [⟨tg,iter,[ct],0⟩] scope pos) 0 (Value.ref it) acc { xb with scope:=relabel scope X.env }) (compPost (model X.prog X.w) X.A X.xe use Qp acc xb.locals) He) X.xe va) X.xe s2:=by
 have fresh:H2 s2.heap.objs.size=none:=I2.fresh;obtain⟨W,⟨m0,w0⟩,turn⟩:=q2 s2.heap.objs.size fresh;have mj:∀b∈fp,b<s2.heap.objs.size:=λb hb=>by
  obtain⟨o,ho,_⟩:=T.obj _ _ cT b hb;exact aH ho
 have I3:Inv X pins σ (upd H2 s2.heap.objs.size (.lst [])) { s2 with heap:=s2.heap.push { cls:=.type "list",data:=.seq ([]:List Value).toArray } }:=I2.yh (its:=[]) (t':=s2.toks) .nil (bE _);refine mM (wpAny_newFunctionEnv iC (by intro y hy;simp at hy) (λh1 r8 sj=>?_) hk);dsimp only at r8 sj ⊢;generalize lY:({ s2 with heap:=s2.heap.push { cls:=.type "list",dict:=none,data:=.seq ([]:List Value).toArray } }:Shared)=s3 at I3;have rM:s2.heap.push { cls:=.type "list",dict:=none,data:=.seq ([]:List Value).toArray }=s3.heap:=by rw[<- lY]
 rw[rM] at r8 sj ⊢;have Hd:s3.heap.objs.size=s2.heap.objs.size+1:=by rw[<- rM,gD]
 have GC:∀b∈fp,b<s3.heap.objs.size:=λb hb=>cf (mj b hb) (by rw[Hd];exact ot _);have f3:∀b∈fp,bt X pins (upd H2 s2.heap.objs.size (.lst [])) b:=λb hb=>⟨by rw[Zc (aV (mj b hb))];exact(f2 b hb).1,(f2 b hb).2⟩;have ye:∀b o,s3.heap.get? b=some o->h1.get? b=some o:=λb o q=>sj.extBut b o (aV (aH q)) (ax _ q);have gB:jT 0 h1:=T.keep _ _ _ cT λb hb o q=>ye b o (by rw[<- rM];exact ax _ q);have I4:=(Im (tn:=tn) I3 hk bu (ft _) f3 GC (ku _) r8 ye).tok (s2.toks+([]:List (Str×Value)).length);have loop:codeAny (model X.prog X.w) X.A (.compLoop (.ListComp elt [⟨tg,iter,[ct],0⟩] scope pos) 0 (.ref it) (.ref s2.heap.objs.size) (compEnvC scope cl s3.heap.objs.size X.env))
   (compPost (model X.prog X.w) X.A X.xe use Qp (.ref s2.heap.objs.size) s3.heap.objs.size) { s3 with heap:=h1,toks:=s2.toks+([]:List (Str×Value)).length }:=by
  refine Rc (λn s'=>∃i ys ao H',Inv (dj X (tn++aw.map (·.1)) scope cl s3.heap.objs.size fp s3 (upd H2 s2.heap.objs.size (.lst []))) [] ao H' s'/\jT i s'.heap/\(∀b∈fp,H' b=none)/\W i n ys ao H') ?_ m0
   ⟨0,[],_,_,I4,gB,λb hb=>(f3 b hb).1,w0⟩
  rintro n s5 ⟨i,ys,k7,H5,I5,kR,rE,w5⟩;obtain⟨hD,alt⟩:=turn i n ys k7 H5 w5;have kX:∀{H':Hp},(∀b∈fp,H' b=none)->∀b∈fp,bt (dj X (tn++aw.map (·.1)) scope cl s3.heap.objs.size fp s3 (upd H2 s2.heap.objs.size (.lst []))) [] H' b :=
   λhn b hb=>⟨hn b hb,(I4.ok.jH b hb).1,I4.ok.jI b hb,.inl hb,(I4.ok.jH b hb).2,λp hp=>by cases hp⟩
  rcases alt with⟨stop,qn⟩|⟨go,step⟩
  ·refine ap (T.done (dj X (tn++aw.map (·.1)) scope cl s3.heap.objs.size fp s3 (upd H2 s2.heap.objs.size (.lst []))) rfl rfl rfl hc i [] s5 k7 H5 dR I5 (kX rE) kR stop) λr s6 ⟨hr,I6⟩=>?_;subst hr;exact Fm s3 _ I3 f3 _ k7 H5 s6 I6 qn
  ·refine ap (T.item (dj X (tn++aw.map (·.1)) scope cl s3.heap.objs.size fp s3 (upd H2 s2.heap.objs.size (.lst []))) rfl rfl rfl hc i [] s5 k7 H5 dR I5 (kX rE) kR go) λr s6 ⟨u,hr,h6⟩=>?_;subst hr;refine ap h6 λ_ s7 ⟨x,H7,I7,r7,y7,kU,Ex⟩=>?_;have B9:=I7.pinned (kX Ex) (T.obj _ _ kU);refine ap (hg _ _ _ _ _ s7 k7 H7 x u _ B9 r7 (step x H7 y7)) λ_ s8 ⟨oh,H8,I8,q8⟩=>?_;refine ap (ht _ _ _ _ _ s8 oh H8 _ I8 q8) λok Py ⟨O6,zm,zA⟩=>?_;cases ok with
   | true =>
    simp only[lq] at zA ⊢;refine ap (he _ _ _ _ _ Py oh O6 _ zm zA) λxv s9 ⟨v9,H9,I9,r9,q9⟩=>?_;obtain⟨EX,xM,m',qE,w9⟩:=q9;refine ap (jA _ s9 oh H9 (.ref s2.heap.objs.size) [v9] (.ref s2.heap.objs.size) [xv] (λz H'=>z=.aG/\H'=upd H9 s2.heap.objs.size (.lst (ys ++ [v9]))) I9 rfl (.cons r9 .nil)
     ⟨s2.heap.objs.size,ys,v9,rfl,rfl,EX,xM,rfl,rfl⟩) λz fA ⟨zv,oI,qL,_,_,eH⟩=>?_
    subst eH;refine⟨m',qE,i+1,ys ++ [v9],oh,_,qL.sM,T.keep _ _ _ kU λb hb o q=>(qL.pin (b,o) (bO _ (bO _ (oR hb q)))).1,λb hb=>?_,w9⟩;obtain⟨o,q,d⟩:=T.obj _ _ kU b hb;exact(qL.pin (b,o) (bO _ (bO _ (oR hb q)))).2.1
   | false =>
    simp only[eZ,dB] at zA ⊢;obtain⟨m',qE,w9⟩:=zA;refine⟨m',qE,i+1,ys,oh,_,zm.sM,T.keep _ _ _ kU λb hb o q=>(zm.pin (b,o) (bO _ (bO _ (oR hb q)))).1,λb hb=>?_,w9⟩;obtain⟨o,q,d⟩:=T.obj _ _ kU b hb;exact(zm.pin (b,o) (bO _ (bO _ (oR hb q)))).2.1
 subst lY;exact codeAny_compStart_list loop (T.self X.A 0 _ _ _ gB loop)
end L2
namespace PySem.SeqAt
open AutoSeq1 (wpAny_loadPart')
open MeetsSeq MeetsSeq2 MeetsSeq3 SeqRoads2
def o8(A:Around)(s:Shared)(y x:Value)(b:Bool):Prop :=
 ∀(prog:Program)(w:World)(E:Value->Shared->Prop)(Q:Value->Shared->Prop),Q (.bool b) s->wpAny (model prog w) A (richCompare .Lt y x) Q E s
inductive gI(A:Around)(s:Shared):List Value->List Value->Bool->Prop
 | nn:gI A s [] [] false
 | nc {y:Value} {ys:List Value}:gI A s [] (y::ys) true
 | cn {x:Value} {xs:List Value}:gI A s (x::xs) [] false
 | eq {x y:Value} {xs ys:List Value} {b:Bool}:EqAt A s x y true->gI A s xs ys b->gI A s (x::xs) (y::ys) b
 | lt {x y:Value} {xs ys:List Value} {b:Bool}:EqAt A s x y false->o8 A s x y b->gI A s (x::xs) (y::ys) b
variable{A:Around}{s:Shared}
theorem gI.fin{xs ys:List Value}{b:Bool}(h:gI A s xs ys b)(h0:xs=[]\/ys=[]):b=decide (xs.length<ys.length):=by
 cases h with
 | nn=>rfl
 | nc=>simp
 | cn=>simp
 | eq _ _=>rcases h0 with q|q <;> cases q
 | lt _ _=>rcases h0 with q|q <;> cases q
theorem RG(l b:Addr)(items bZ:Array Value)(n n2:Nat)(dd lU:Option Addr)(sl mv:Array (Option Value))(v:Bool)(k:Nat) :
  ∀i:Nat,i+k=min items.size bZ.size->Meets (Builtin.«list.__eq__.loop» ⟨[.ref l,.ref b,rawInt i,rawInt 0],[]⟩)
   (λA R s=>s.heap.get? l=some { cls:=.type "list",dict:=dd,data:=.seq items n,slots:=sl }/\s.heap.get? b=some { cls:=.type "list",dict:=lU,data:=.seq bZ n2,slots:=mv } /\
    gI A.in1 s (items.toList.drop i) (bZ.toList.drop i) v/\R (.ok (.ret (.bool v))) s):=by
 induction k with
 | zero =>
  intro i hk prog w A R s h;obtain⟨hp,g,d,tk,os⟩:=s;obtain⟨hl,hb,he,h⟩:=h;have hv:v=decide (items.size<bZ.size):=by
   have h0:items.toList.drop i=[]\/bZ.toList.drop i=[]:=by
    rcases Nat.le_total items.size bZ.size with q|q
    ·exact .inl (List.drop_of_length_le (by rw[aK];lia))
    ·exact .inr (List.drop_of_length_le (by rw[aK];lia))
   rw[he.fin h0,oo,oo,aK,aK];by_cases q:items.size<bZ.size
   ·rw[aF q];exact aF (by lia)
   ·rw[a8 q];exact a8 (by lia)
  subst hv
  wp_walk using wpAny_loadPart' hl,wpAny_loadPart' hb
  by_cases h1:i<items.size
  ·have jM:items[((i:Nat):Int).toNat]?= some items[i]:=by simp[h1]
   have rN:bZ[((i:Nat):Int).toNat]?= none:=by simp;lia
   rw[jM,rN]
   wp_walk using wpAny_loadPart' hl,wpAny_loadPart' hb
   exact h
  ·have jM:items[((i:Nat):Int).toNat]?= none:=by simp;lia
   rw[jM]
   wp_walk using wpAny_loadPart' hl,wpAny_loadPart' hb
   exact h
 | succ k ih =>
  intro i hk prog w A R s h;obtain⟨hp,g,d,tk,os⟩:=s;obtain⟨hl,hb,he,h⟩:=h
  wp_walk using wpAny_loadPart' hl,wpAny_loadPart' hb
  have au:i<items.size:=by lia
  have Bc:i<bZ.size:=by lia
  have jM:items[((i:Nat):Int).toNat]?= some items[i]:=by simp[au]
  have rN:bZ[((i:Nat):Int).toNat]?= some bZ[i]:=by simp[Bc]
  have hc:((i:Int)+1)=((i+1:Nat):Int):=by push_cast;rfl
  have d1:items.toList.drop i=items[i]::items.toList.drop (i+1):=by rw[yR (by rw[aK];exact au)];simp
  have d2:bZ.toList.drop i=bZ[i]::bZ.toList.drop (i+1):=by rw[yR (by rw[aK];exact Bc)];simp
  rw[d1,d2] at he;rw[jM,rN];cases he with
  | eq h1 h2 =>
   refine ae (h1 prog w _ _ ?_)
   wp_walk
   rw[hc];exact⟨g_ plain_eq_loop _,fF entry_eq_loop (by
    rw[jj plain_eq_loop _];exact ih (i+1) (by lia) prog w A R _ ⟨hl,hb,h2,h⟩)⟩
  | lt h1 h2 =>
   refine ae (h1 prog w _ _ ?_)
   wp_walk using wpAny_loadPart' hl,wpAny_loadPart' hb
   rw[jM,rN];refine ae (h2 prog w _ _ ?_)
   wp_walk
   exact h
theorem RZ(l b:Addr)(items bZ:Array Value)(n n2:Nat)(dd lU:Option Addr)(sl mv:Array (Option Value))(v:Bool) :
  Meets (Builtin.«list.__lt__» ⟨[.ref l,.ref b],[]⟩)
   (λA R s=>s.heap.get? l=some { cls:=.type "list",dict:=dd,data:=.seq items n,slots:=sl }/\s.heap.get? b=some { cls:=.type "list",dict:=lU,data:=.seq bZ n2,slots:=mv } /\
    gI A.in1 s items.toList bZ.toList v/\R (.ok (.ret (.bool v))) s):=by
 intro prog w A R s h;obtain⟨hp,g,d,tk,os⟩:=s;obtain⟨hl,hb,he,h⟩:=h;have f3:=AutoSeq1.sub_list_list
 wp_walk using wpAny_loadPart' hl,wpAny_loadPart' hb
 exact⟨g_ plain_eq_loop _,fF entry_eq_loop (by
  rw[jj plain_eq_loop _];exact RG l b items bZ n n2 dd lU sl mv v _ 0 (qu _) prog w A R _ ⟨hl,hb,by simpa using he,h⟩)⟩
theorem QO(l b:Addr)(items bZ:Array Value)(n n2:Nat)(dd lU:Option Addr)(sl mv:Array (Option Value))(v:Bool) :
  Meets (Builtin.«tuple.__lt__» ⟨[.ref l,.ref b],[]⟩)
   (λA R s=>s.heap.get? l=some { cls:=.type "tuple",dict:=dd,data:=.seq items n,slots:=sl }/\s.heap.get? b=some { cls:=.type "tuple",dict:=lU,data:=.seq bZ n2,slots:=mv } /\
    gI A.in1 s items.toList bZ.toList v/\R (.ok (.ret (.bool v))) s) :=
 .of_wp λprog w A R s h=>by
  obtain⟨hp,g,d,tk,os⟩:=s;obtain⟨hl,hb,he,h⟩:=h;have f2:=AutoSeq1.sub_tuple_tuple
  wp_walk using wpAny_loadPart' hl,wpAny_loadPart' hb,zh _ (λrest b s'=>b.1=none/\s'=⟨hp,g,d,tk,os⟩/\∃(vs ws:List Value),rest=vs.zip ws /\
   vs.length+bZ.size=ws.length+items.size/\gI A.in1 ⟨hp,g,d,tk,os⟩ vs ws v) _
  case turn =>
   rintro⟨y,x⟩ rest b s' ⟨aB,rfl,vs,ws,hz,hlen,hL⟩;cases hL with
   | nn=>rw[List.zip_nil_left] at hz;cases hz
   | nc=>rw[List.zip_nil_left] at hz;cases hz
   | cn=>rw[List.zip_nil_right] at hz;cases hz
   | eq h1 h2 =>
    rw[List.zip_cons_cons] at hz;injection hz with Ge xW;injection Ge with hy hx;subst hy hx;simp only[bM] at hlen;refine ae (h1 prog w _ _ ?_)
    wp_walk
    exact⟨rfl,rfl,_,_,xW,by lia,h2⟩
   | lt h1 h2 =>
    rw[List.zip_cons_cons] at hz;injection hz with Ge xW;injection Ge with hy hx;subst hy hx;refine ae (h1 prog w _ _ ?_);have hri:=h2 prog w
    wp_walk using hri
    exact⟨_,rfl,h⟩
  case fin =>
   rintro⟨b1,b2⟩ s' ⟨aB,rfl,vs,ws,hz,hlen,hL⟩;simp only at aB;subst aB;have hv:v=decide (items.size<bZ.size):=by
    rw[hL.fin (by
     cases vs with
     | nil=>exact .inl rfl
     | cons a t=>cases ws with
      | nil=>exact .inr rfl
      | cons c u=>rw[List.zip_cons_cons] at hz;cases hz)]
    by_cases q:items.size<bZ.size
    ·rw[aF q];exact aF (by lia)
    ·rw[a8 q];exact a8 (by lia)
   subst hv
   wp_walk
   exact⟨_,rfl,by simpa[Builtin.Tuple.tupleCompareSizes] using h⟩
  case h =>
   exact⟨rfl,rfl,items.toList,bZ.toList,rfl,by simp;lia,he⟩
variable{b l:Addr}{items bZ:Array Value}{v:Bool}
theorem o8.lists(hl:s.heap.IsList l items)(hb:s.heap.IsList b bZ)(hu:A.units<cLine)(he:gI A.in1 s items.toList bZ.toList v) :
  o8 A s (.ref l) (.ref b) v:=λprog w E Q h=>by
 obtain⟨⟨cls,dd,data,sl⟩,ho,hc,n,hd⟩:=id hl;obtain⟨⟨WH,lU,data2,mv⟩,bX,fQ,n2,hd2⟩:=id hb;simp only at hc hd fQ hd2;subst hc hd fQ hd2;exact richCompare_meets_room (op:=.Lt) ⟨_,ho,rfl⟩ ⟨_,bX,rfl⟩ F.slot_list_lt F.entry_list_lt (F.args_list_lt_2 _ _) (RZ l b items bZ n n2 dd lU sl mv v)
  ⟨ho,bX,he,show Value.bool v≠Value.notImplemented/\Q (.bool v) s from⟨(λx=>nomatch x),h⟩⟩ hu
theorem o8.tuples(hl:s.heap.IsTuple l items)(hb:s.heap.IsTuple b bZ)(hu:A.units<cLine)(he:gI A.in1 s items.toList bZ.toList v) :
  o8 A s (.ref l) (.ref b) v:=λprog w E Q h=>by
 obtain⟨⟨cls,dd,data,sl⟩,ho,hc,n,hd⟩:=id hl;obtain⟨⟨WH,lU,data2,mv⟩,bX,fQ,n2,hd2⟩:=id hb;simp only at hc hd fQ hd2;subst hc hd fQ hd2;exact richCompare_meets_room (op:=.Lt) ⟨_,ho,rfl⟩ ⟨_,bX,rfl⟩ F.slot_tuple_lt F.entry_tuple_lt (F.args_tuple_lt_2 _ _) (QO l b items bZ n n2 dd lU sl mv v)
  ⟨ho,bX,he,show Value.bool v≠Value.notImplemented/\Q (.bool v) s from⟨(λx=>nomatch x),h⟩⟩ hu
end PySem.SeqAt
namespace L2
open PySem PySem.Spec PyProof.Rows PySem.SeqAt
mutual
inductive j9:PyData->PyData->Bool->Prop
 | int (i j:Int):j9 (.int i) (.int j) (decide (i<j))
 | str (x y:Str):j9 (.str x) (.str y) (decide (x.cps.toList<y.cps.toList))
 | lst {xs ys:List PyData} {b:Bool}:fK xs ys b->j9 (.list xs) (.list ys) b
 | tup {xs ys:List PyData} {b:Bool}:fK xs ys b->j9 (.tuple xs) (.tuple ys) b
inductive fK:List PyData->List PyData->Bool->Prop
 | nn:fK [] [] false
 | nc {y:PyData} {ys:List PyData}:fK [] (y::ys) true
 | cn {x:PyData} {xs:List PyData}:fK (x::xs) [] false
 | eq {x y:PyData} {xs ys:List PyData} {b:Bool}:PyData.eqv x y=true->fK xs ys b->fK (x::xs) (y::ys) b
 | lt {x y:PyData} {xs ys:List PyData} {b:Bool}:PyData.eqv x y=false->j9 x y b->fK (x::xs) (y::ys) b
end
mutual
theorem j9.at{s:Shared}:∀{da db:PyData}{v:Bool},j9 da db v->∀(A:Around){a b:Value}{as bs:List Addr},Reads s.heap a da as->Reads s.heap b db bs->da.canLay0=true->db.canLay0=true->A.units+min da.depth db.depth<cLine->o8 A s a b v
 | _,_,_,.int i j,A,_,_,_,_,ra,rb,_,_,_=>by
  cases ra;cases rb;exact λprog w E Q h=>(lt_int h:wpAny (model prog w) A (compareOp .Lt (.int _ _) (.int _ _)) Q E s)
 | _,_,_,.str x y,A,_,_,_,_,ra,rb,_,_,_=>by
  cases ra;cases rb;exact λprog w E Q h=>(lt_str h:wpAny (model prog w) A (compareOp .Lt (.str _ _) (.str _ _)) Q E s)
 | _,_,_,.lst h,A,_,_,_,_,ra,rb,ha,hb,hu=>by
  cases ra with
  | list h1 h2 h3 h4 =>
   cases rb with
   | list k1 k2 k3 k4=>exact o8.lists ⟨_,h1,h2,_,h3⟩ ⟨_,k1,k2,_,k3⟩ (room_here hu) (fK.at h A.in1 h4 k4 ha hb (room_in hu))
 | _,_,_,.tup h,A,_,_,_,_,ra,rb,ha,hb,hu=>by
  cases ra with
  | tuple h1 h2 h3 h4 =>
   cases rb with
   | tuple k1 k2 k3 k4=>exact o8.tuples ⟨_,h1,h2,_,h3⟩ ⟨_,k1,k2,_,k3⟩ (room_here hu) (fK.at h A.in1 h4 k4 ha hb (room_in hu))
theorem fK.at{s:Shared}:∀{xs ys:List PyData}{v:Bool},fK xs ys v->∀(A:Around){vs ws:List Value}{as bs:List Addr},ReadsAll s.heap vs xs as->ReadsAll s.heap ws ys bs->PyData.canLayAll0 xs=true->PyData.canLayAll0 ys=true ->
  A.units+min (PyData.depthAll xs) (PyData.depthAll ys)<cLine->gI A s vs ws v
 | _,_,_,.nn,A,_,_,_,_,ra,rb,_,_,_=>by
  cases ra;cases rb;exact .nn
 | _,_,_,.nc,A,_,_,_,_,ra,rb,_,_,_=>by
  cases ra;cases rb;exact .nc
 | _,_,_,.cn,A,_,_,_,_,ra,rb,_,_,_=>by
  cases ra;cases rb;exact .cn
 | _,_,_,@fK.eq x y xs ys b e h,A,_,_,_,_,ra,rb,ha,hb,hu=>by
  have iO:x.canLay0=true/\PyData.canLayAll0 xs=true:=by simpa[PyData.canLayAll0] using ha
  have aB:y.canLay0=true/\PyData.canLayAll0 ys=true:=by simpa[PyData.canLayAll0] using hb
  cases ra with
  | cons r rs =>
   cases rb with
   | cons r' HF =>
    refine .eq (e ▸ eqAt_reads x y A s _ _ _ _ r r' iO.1 aB.1 (room_head hu)) (fK.at h A rs HF iO.2 aB.2 ?_);have:PyData.depthAll (x::xs)=max x.depth (PyData.depthAll xs):=rfl;have:PyData.depthAll (y::ys)=max y.depth (PyData.depthAll ys):=rfl;lia
 | _,_,_,@fK.lt x y xs ys b e h,A,_,_,_,_,ra,rb,ha,hb,hu=>by
  have iO:x.canLay0=true/\PyData.canLayAll0 xs=true:=by simpa[PyData.canLayAll0] using ha
  have aB:y.canLay0=true/\PyData.canLayAll0 ys=true:=by simpa[PyData.canLayAll0] using hb
  cases ra with
  | cons r rs =>
   cases rb with
   | cons r' HF=>exact .lt (e ▸ eqAt_reads x y A s _ _ _ _ r r' iO.1 aB.1 (room_head hu)) (j9.at h A r r' iO.1 aB.1 (room_head hu))
end
def bA(X:Cx):Cx where
 prog:=X.prog
 w:=X.w
 K:=X.K
 mg:=X.mg
 base:=X.base
 A:=X.A.in1
 N:=X.N
 cO := X.cO
 jv := X.jv
 env:=X.env
 outer:=X.outer
 stack:=X.stack
 ex:=X.ex
 fn:=X.fn
 calm:=X.calm
 pn:=X.pn
 xe:=dR
theorem Cx.Ok.in1(o:X.Ok):(bA X).Ok :=
 ⟨o.mod,o.kind,o.glob,o.blt,o.above,o.inj,o.has,o.ko,o.hd,o.frames,o.mw,o.jH,o.bs,o.gh,o.kK,o.jI,o.fj,o.iZ⟩
theorem Inv.in1(I:Inv X pins σ H s):Inv (bA X) pins σ H s:=⟨I.ok.in1,I.os,I.bare,I.base,I.loc,I.cell,I.free,I.ee,I.pin,I.ah,I.len⟩
theorem Inv.ZqL(o:X.Ok)(I:Inv (bA X) pins σ H s):Inv X pins σ H s:=⟨o,I.os,I.bare,I.base,I.loc,I.cell,I.free,I.ee,I.pin,I.ah,I.len⟩
def LZ(K:PySem.W.Frag)(H:Hp)(x y:V)(v:Bool):Prop := ∃d e,Dp K H x d/\Dp K H y e/\d.canLay0=true/\e.canLay0=true/\min d.depth e.depth<=200/\j9 d e v
section
variable{X:Cx}{pins:List (Addr×Obj)}{σ : St}{H:Hp}{s:Shared}{k:Nat}{f:Addr}{fd:FuncData}{ps:List Str}{sp:Sp}{Q:VK}{l p it:Addr}{xs:List V}{W:Nat->V->V->Hp->Prop}
abbrev L9(X:Cx)(pins:List (Addr×Obj))(σ : St)(Q:VK):Result->Shared->Prop:=λr s'=>match r with | .ok (.ret v)=>EP X pins σ Q v s' | .ok _=>False | .error e=>X.xe e s'
variable{i:Nat}{Q':Option Value->Shared->Prop}{E:Value->Shared->Prop}
theorem R8{x:V}(I:Inv (bA X) pins σ H s)(st:s.heap.IsListIter it l i)(hq:aj X.K H l xs)(hx:xs[i]?= some x)(hf:bt (bA X) pins H it)
  (h:∀u s',Inv (bA X) pins σ H s'->s'.heap.IsListIter it l (i+1)->RelV x u->Q' (some u) s'):wpAny (model X.prog X.w) X.A.in1 (pyNext (.ref it)) Q' E s:=by
 obtain⟨its,rv,p,hz⟩:=I.list hq;obtain⟨u,hu,ru⟩:=rv.get hx;obtain⟨f0,f1,f2,f3,f4,f5⟩:=hf;exact wpAny_pyNext_list_item st p.isList (x:=u) (by simpa using hu) λh' bq sb=>h u _ (I.turned (t':=s.toks) (λb o hb e=>(sb.2 b hb).trans e) f0 f1 f3 f4 f5) bq ru
theorem UL(hc:X.calm=true)(I:Inv (bA X) pins σ H s)(st:s.heap.IsListIter it l i)(hq:aj X.K H l xs)(hx:xs.length<=i)(hf:bt (bA X) pins H it)
  (h:∀s',Inv (bA X) pins σ H s'->Q' none s'):wpAny (model X.prog X.w) X.A.in1 (pyNext (.ref it)) Q' E s:=by
 obtain⟨its,rv,p,hz⟩:=I.list hq;obtain⟨f0,f1,f2,f3,f4,f5⟩:=hf;have hl:=rv.length;exact wpAny_pyNext_list_end (I.ok.hd hc) st p.isList (by simp;lia) λh' eb=>h _ (I.turned (t':=s.toks) (λb o hb e=>eb b o hb e) f0 f1 f3 f4 f5)
end
section
variable{X:Cx}{pins:List (Addr×Obj)}{σ : St}{H:Hp}{s:Shared}{k:Nat}{f:Addr}{fd:FuncData}{ps:List Str}{sp:Sp}{Q:VK}{l p it:Addr}{xs:List V}{W:Nat->V->V->Hp->Prop}{ud:Value}
theorem LC{o:HO}(h:bt X pins H it)(hp:∃u,H p=some u):bt X pins (upd H p o) it:=by
 refine⟨?_,h.2⟩;obtain⟨u,hu⟩:=hp;rw[Zc (Zg hu h.1).symm];exact h.1
theorem RR{h:Heap}{i:Nat}(st:h.IsListIter it l i):∃o,h.get? it=some o/\(∀v,o.data ≠ .cell v)/\∀h':Heap,h'.get? it=some o->h'.IsListIter it l i:=by
 obtain⟨o,e,c,d⟩:=st;exact⟨o,e,λv z=>(by rw[d] at z;cases z),λh' e'=>⟨o,e',c,d⟩⟩
end
end L2
namespace Fg
open PySem L2 lA PySem.SeqAt
def gg:List Str->List Str->Bool
 | [],[]=>false
 | [],_::_=>true
 | _::_,[]=>false
 | x::xs,y::ys=>if x=y then gg xs ys else decide (x.cps.toList<y.cps.toList)
def a_(xs ys:List Str):Bool:=if xs.length=ys.length then gg xs ys else decide (xs.length<ys.length)
theorem C8:∀xs:List Str,gg xs xs=false
 | []=>rfl
 | x::xs=>by rw[gg,ai rfl];exact C8 xs
theorem DL(x y:Str):PyData.eqv (.str x) (.str y)=decide (x=y):=by
 show(x == y)=_;by_cases e:x=y
 ·subst e;simp
 ·rw[a8 e];exact lj.mpr e
theorem Dn:∀xs ys:List Str,PyData.eqvAll (xs.map PyData.str) (ys.map PyData.str)=decide (xs=ys)
 | [],[]=>rfl
 | [],_::_=>by simp[PyData.eqvAll]
 | _::_,[]=>by simp[PyData.eqvAll]
 | x::xs,y::ys=>by
  show(PyData.eqv (.str x) (.str y)&&PyData.eqvAll (xs.map PyData.str) (ys.map PyData.str))=_;rw[DL,Dn xs ys];by_cases e:x=y <;> by_cases e2:xs=ys <;> simp[e,e2]
theorem Je:∀xs ys:List Str,fK (xs.map PyData.str) (ys.map PyData.str) (gg xs ys)
 | [],[]=>.nn
 | [],_::_=>.nc
 | _::_,[]=>.cn
 | x::xs,y::ys=>by
  by_cases e:x=y
  ·rw[gg,ai e];exact .eq (by rw[DL];exact aF e) (Je xs ys)
  ·rw[gg,ag e];exact .lt (by rw[DL];exact a8 e) (.str x y)
abbrev wO(xs:List Str):PyData:=.tuple [.int (xs.length:Nat),.list (xs.map PyData.str)]
theorem R_(xs ys:List Str):j9 (wO xs) (wO ys) (a_ xs ys):=by
 refine .tup ?_;by_cases hn:xs.length=ys.length
 ·refine .eq (by show((xs.length:Int) == (ys.length:Int))=true;rw[hn];simp) ?_;rw[a_,ai hn];by_cases e:xs=ys
  ·subst e;rw[C8];exact .eq (by show PyData.eqvAll _ _=true;rw[Dn];simp) .nn
  ·exact .lt (by show PyData.eqvAll _ _=false;rw[Dn];exact a8 e) (.lst (Je xs ys))
 ·rw[a_,ag hn];have e:decide (xs.length<ys.length)=decide ((xs.length:Int)<(ys.length:Int)):=by
   by_cases q:xs.length<ys.length
   ·rw[aF q];exact(aF (by lia)).symm
   ·rw[a8 q];exact(a8 (by lia)).symm
  rw[e];exact .lt (by show((xs.length:Int) == (ys.length:Int))=false;exact lj.mpr (by lia)) (.int _ _)
def ug(H:Hp)(r p:Addr)(xs:List Str):Prop:=H p=some (.lst (xs.map V.str))/\H r=some (.tup [.int (xs.length:Nat),.ref p])
variable{K:PySem.W.Frag}{p:Addr}{xs:List Str}
theorem ug.dp{H:Hp}{r:Addr}(h:ug H r p xs):Dp K H (.ref r) (wO xs) :=
 .tup (ar.of h.2) (.cons (.int _) (.cons (.lst (aj.of h.1) (Kz xs)) .nil))
theorem Kp(h:∀x∈xs,PyData.strOk x=true):(wO xs).canLay0=true:=by
 show(true&&(PyData.canLayAll0 (xs.map PyData.str)&&true))=true;rw[Kc h];rfl
theorem Rq(xs:List Str):(wO xs).depth<=2:=by
 show max 0 (max (PyData.depthAll (xs.map PyData.str)+1) 0)+1<=2;rw[II];decide
def jx(ws:List Str):Prop := ∀x∈ws,PyData.strOk x=true
theorem K9{H:Hp}{r r' p':Addr}{ys:List Str}(h1:ug H r p xs)(h2:ug H r' p' ys)(o1:jx xs)(o2:jx ys):LZ K H (.ref r) (.ref r') (a_ xs ys) :=
 ⟨_,_,h1.dp,h2.dp,Kp o1,Kp o2,bD (Nat.min_le_left _ _) (bD (Rq xs) (by decide)),R_ xs ys⟩
end Fg
namespace L2
open PySem PySem.Spec PyProof.Rows PySem.SeqAt
theorem Qi:bootBuiltins "reversed" = some (.type "reversed"):=by decide +kernel
end L2
namespace L2
open PySem PySem.Spec PyProof.Rows
def CW(n:Nat)(Pv:Nat->List V->St->Hp->Prop):Nat->Nat->List V->St->Hp->Prop:=λi m ys σ H=>m=n-i/\i<=n/\Pv i ys σ H
variable{σ:St}{H:Hp}
theorem CW.next{n i:Nat}{Pv:Nat->List V->St->Hp->Prop}{ys:List V}(hi:i<n)(h:Pv (i+1) ys σ H):∃m',m'<n-i/\CW n Pv (i+1) m' ys σ H:=⟨_,by lia,rfl,hi,h⟩
theorem jQ{x:Str}:[x].Nodup:=by simp
variable{a:Addr}{g:TG}{te:TE}
theorem Aa{K:PySem.W.Frag}{p:Addr}{xs:List V}{R:Hp->Prop}{dS:St}{H0:Hp}(Pv:Nat->List V->St->Hp->Prop)(h0:Pv 0 [] dS H0)
  (hl:∀i ys σ H,i<=xs.length->Pv i ys σ H->aj K H a xs/\H p=some (.lst ys))
  (hs:∀i ys x σ H,i<xs.length->xs[i]?= some x->Pv i ys σ H->g x σ H λaC H4=>te aC H4 λv H5=>H5 p=some (.lst ys)/\ys.length<sizeLine/\∃m',m'<xs.length-i/\CW xs.length Pv (i+1) m' (ys ++ [v]) aC (upd H5 p (.lst (ys ++ [v]))))
  (hd:∀ys σ H,Pv xs.length ys σ H->R H) :
  ∃W:Nat->Nat->List V->St->Hp->Prop,(∃m,W 0 m [] dS H0)/\∀i m ys cm H2,W i m ys cm H2->H2 p=some (.lst ys)/\(((oK K a).stop i H2/\R H2)\/((oK K a).go i H2/\∀x H3,(oK K a).fB i H2 x H3->g x cm H3 λaC H4=>te aC H4 λv H5 =>
   H5 p=some (.lst ys)/\ys.length<sizeLine/\∃m',m'<m/\W (i+1) m' (ys ++ [v]) aC (upd H5 p (.lst (ys ++ [v]))))):=by
 refine⟨CW xs.length Pv,⟨_,rfl,bE _,h0⟩,?_⟩;rintro i m ys σ H ⟨rfl,hi,hp⟩;obtain⟨h1,h2⟩:=hl i ys σ H hi hp;refine⟨h2,?_⟩;by_cases au:i<xs.length
 ·refine .inr ⟨⟨xs,xs[i],h1,bT au⟩,?_⟩;rintro x H3 ⟨rfl,hx⟩;exact hs i ys x σ _ au (hx xs h1) hp
 ·refine .inl ⟨⟨xs,h1,by lia⟩,hd ys σ H ?_⟩;have e:i=xs.length:=by lia
  rw[<- e];exact hp
variable{scope:Scope}{env:Env}
theorem t7(h:∀y∈scope.names,y.2 ≠ .cell/\y.2 ≠ .free){cl:List (Str×Addr)}:∀(C:Addr)(x:Str),((compEnvC scope cl C env).kindOf x=some .cell\/(compEnvC scope cl C env).kindOf x=some .free)->∃c,cl.lookup x=some c:=by
 have key:∀(l:List (Str×NameKind))(x:Str),(∀y∈l,y.2 ≠ .cell/\y.2 ≠ .free)->∀k,(l.map λ(n,k)=>if(k ==.free&&env.scope.kind ==.function&&env.kindOf n == some .cell) then(n,.cell) else(n,k)).lookup x=some k->k ≠ .cell/\k ≠ .free:=by
  intro l
  induction l with
  | nil=>intro x _ k e;simp at e
  | cons y l ih =>
   intro x hy k e;obtain⟨n,kd⟩:=y;have hk:=hy _ (aU ..);have e0:(kd == NameKind.free&&env.scope.kind ==.function&&env.kindOf n == some .cell)=false:=by
    have:(kd == NameKind.free)=false:=by
     cases kd <;> first|rfl|exact absurd rfl hk.2
    rw[this];rfl
   simp only[cu,e0,eZ,dB,List.lookup_cons] at e;cases hx:x == n with
   | true =>
    rw[hx] at e;cases e;exact hk
   | false =>
    rw[hx] at e;exact ih x (λy hm=>hy y (aR _ hm)) k e
 intro C x hx;rcases hx with e|e
 ·exact absurd rfl (key _ x h _ e).1
 ·exact absurd rfl (key _ x h _ e).2
variable{X:Cx}{elt iter tg:Expr}{pos py yH:Pos}{wi:TI}{cl:List (Str×Addr)}{y:Str}{n0:Nat}
theorem zX(hN:X.N.Nodup)(pC:X.N[n0]?= some y)(hx:Loc X.env.scope y)(tn:List Str)(aw:List (Str×Nat))(hi:PI X tg iter wi)(hg:∀C fp s H,PG (dj X (tn++aw.map (·.1)) scope cl C fp s H) tg g)(he:∀C fp s H,PE (dj X (tn++aw.map (·.1)) scope cl C fp s H) elt te)
  (hc:X.calm=true) (xC:closureFor scope X.env=pure cl) (iC:∀y∈scope.names,y.2 ≠ .cell) (hk:scope.kind=.function) (rX:∀y∈scope.names,y.2=.local->scope.names.lookup y.1=some .local)
  (bu:∀x c,cl.lookup x=some c->X.env.cells.lookup x=some c)
  (ft:∀C x,((compEnvC scope cl C X.env).kindOf x=some .cell\/(compEnvC scope cl C X.env).kindOf x=some .free)->∃c,cl.lookup x=some c)
  (ku:∀C,∀p∈aw,X.N[p.2]?= some p.1/\X.env.scope.names.lookup p.1=some .cell/\((compEnvC scope cl C X.env).kindOf p.1=some .cell\/(compEnvC scope cl C X.env).kindOf p.1=some .free))
  (hs:∀v,foldedSetIterable iter X.env v=pure v) (FV:swapsWith (.ListComp elt [⟨tg,iter,[],0⟩] scope pos) (some (.Name y py)) yH.line X.env=pure true) (hf:X.fn y=true\/X.env.scope.names.lookup y=some .local:=by first|exact .inl rfl|exact .inr rfl|assumption) :
  PS X (.Assign [.Name y py] (.ListComp elt [⟨tg,iter,[],0⟩] scope pos) yH) (Eg (LR wi tn.length aw g te) (uh n0)):=by
 intro pins s σ H D I h;rw[exec_Assign_Name_used _ _ _ _ FV];refine ae (tj (ae ?_));show wpAny _ X.A (do let _ <- comprehension (.ListComp elt [⟨tg,iter,[],0⟩] scope pos) scope X.env _ (newList []) false (eval iter X.env) (some (assign (.Name y py) X.env))) _ _ s;refine ae (cw (wpAny_comprehension_free (use:=some (assign (.Name y py) X.env)) (Q:=λ_ s'=>SP X pins D .next s') rfl hs xC hk rX (ap (hi pins s σ H _ I h) λv s1 h1=>ap h1 λyc s2 h2=>?_)) (λ_ s' hq=>af (af hq)) λ_ _ e=>e)
 obtain⟨it,fp,jT,J,H2,e,I2,T,cT,f2,q2⟩:=h2;subst e;refine IH (R:=λp H6=>uh n0 (.ref p) σ H6 (λao H'=>D.nx ao H')) tn aw hg he hc iC hk bu ft ku I2 T cT f2 q2 λs3 H3 I3 f3 acc qh H6 s6 I6 q6=>?_;obtain⟨m,hn,_⟩:=I6.loc;have I':Inv X pins σ H6 s6:=I3.zp (ch:=fp) I6.os I6.base I6.ah I6.bare λb hb=>⟨(f3 b hb).2.2.2.1,(f3 b hb).2.1,(f3 b hb).2.2.2.2.1,(f3 b hb).2.2.2.2.2⟩;have fC:bt X pins H6 s3.heap.objs.size:=I3.iY (aq _) I6.free;show wpAny _ X.A (assign (.Name y py) X.env (.ref acc)) _ _ s6;refine wpAny_assign_Name (C6 (v:=.ref acc) I' hN pC hx rfl (λs7 I7 ⟨a,sb,ha⟩=>?_) hf);have GF:s3.heap.objs.size≠a:=by
  rcases ha with z|z
  ·rw[z];exact fC.2.1
  ·exact(fC.2.2.2.2.1 _ _ z).symm
 exact⟨m,hn.sameBut sb GF,λh' tE=>⟨_,H6,I7.turned (t':=s7.toks) (λb o hb e=>(tE.2 b hb).trans e) fC.1 fC.2.1 fC.2.2.2.1 fC.2.2.2.2.1 fC.2.2.2.2.2,q6⟩⟩
variable{ct:Expr}{tt:TT}
theorem CQ(hN:X.N.Nodup)(pC:X.N[n0]?= some y)(hx:Loc X.env.scope y)(tn:List Str)(aw:List (Str×Nat))(hi:PI X tg iter wi)(hg:∀C fp s H,PG (dj X (tn++aw.map (·.1)) scope cl C fp s H) tg g)(ht:∀C fp s H,PT (dj X (tn++aw.map (·.1)) scope cl C fp s H) ct tt)(he:∀C fp s H,PE (dj X (tn++aw.map (·.1)) scope cl C fp s H) elt te)
  (hc:X.calm=true) (xC:closureFor scope X.env=pure cl) (iC:∀y∈scope.names,y.2 ≠ .cell) (hk:scope.kind=.function) (rX:∀y∈scope.names,y.2=.local->scope.names.lookup y.1=some .local)
  (bu:∀x c,cl.lookup x=some c->X.env.cells.lookup x=some c)
  (ft:∀C x,((compEnvC scope cl C X.env).kindOf x=some .cell\/(compEnvC scope cl C X.env).kindOf x=some .free)->∃c,cl.lookup x=some c)
  (ku:∀C,∀p∈aw,X.N[p.2]?= some p.1/\X.env.scope.names.lookup p.1=some .cell/\((compEnvC scope cl C X.env).kindOf p.1=some .cell\/(compEnvC scope cl C X.env).kindOf p.1=some .free))
  (hs:∀v,foldedSetIterable iter X.env v=pure v) (FV:swapsWith (.ListComp elt [⟨tg,iter,[ct],0⟩] scope pos) (some (.Name y py)) yH.line X.env=pure true) (hf:X.fn y=true\/X.env.scope.names.lookup y=some .local:=by first|exact .inl rfl|exact .inr rfl|assumption) :
  PS X (.Assign [.Name y py] (.ListComp elt [⟨tg,iter,[ct],0⟩] scope pos) yH) (Eg (UI wi tn.length aw g tt te) (uh n0)):=by
 intro pins s σ H D I h;rw[exec_Assign_Name_used _ _ _ _ FV];refine ae (tj (ae ?_));show wpAny _ X.A (do let _ <- comprehension (.ListComp elt [⟨tg,iter,[ct],0⟩] scope pos) scope X.env _ (newList []) false (eval iter X.env) (some (assign (.Name y py) X.env))) _ _ s;refine ae (cw (wpAny_comprehension_free (use:=some (assign (.Name y py) X.env)) (Q:=λ_ s'=>SP X pins D .next s') rfl hs xC hk rX (ap (hi pins s σ H _ I h) λv s1 h1=>ap h1 λyc s2 h2=>?_)) (λ_ s' hq=>af (af hq)) λ_ _ e=>e)
 obtain⟨it,fp,jT,J,H2,e,I2,T,cT,f2,q2⟩:=h2;subst e;refine QN (R:=λp H6=>uh n0 (.ref p) σ H6 (λao H'=>D.nx ao H')) tn aw hg ht he hc iC hk bu ft ku I2 T cT f2 q2 λs3 H3 I3 f3 acc qh H6 s6 I6 q6=>?_;obtain⟨m,hn,_⟩:=I6.loc;have I':Inv X pins σ H6 s6:=I3.zp (ch:=fp) I6.os I6.base I6.ah I6.bare λb hb=>⟨(f3 b hb).2.2.2.1,(f3 b hb).2.1,(f3 b hb).2.2.2.2.1,(f3 b hb).2.2.2.2.2⟩;have fC:bt X pins H6 s3.heap.objs.size:=I3.iY (aq _) I6.free;show wpAny _ X.A (assign (.Name y py) X.env (.ref acc)) _ _ s6;refine wpAny_assign_Name (C6 (v:=.ref acc) I' hN pC hx rfl (λs7 I7 ⟨a,sb,ha⟩=>?_) hf);have GF:s3.heap.objs.size≠a:=by
  rcases ha with z|z
  ·rw[z];exact fC.2.1
  ·exact(fC.2.2.2.2.1 _ _ z).symm
 exact⟨m,hn.sameBut sb GF,λh' tE=>⟨_,H6,I7.turned (t':=s7.toks) (λb o hb e=>(tE.2 b hb).trans e) fC.1 fC.2.1 fC.2.2.2.1 fC.2.2.2.2.1 fC.2.2.2.2.2,q6⟩⟩
section
variable{κ : Type}[DecidableEq κ]
def aQ(aa:List (κ × V))(k : κ):Option V:=(aa.find? λkv=>decide (kv.1=k)).map (·.2)
def putK(aa:List (κ × V))(k : κ)(v:V):List (κ × V) :=
 if(aa.any λkv=>decide (kv.1=k))=true then aa.map (λkv=>if kv.1=k then(kv.1,v) else kv) else aa ++ [(k,v)]
theorem kh{p : κ × V}{r:List (κ × V)}{k : κ}(e:p.1=k):aQ (p::r) k=some p.2:=by simp[aQ,vm,e]
theorem kg{p : κ × V}{r:List (κ × V)}{k : κ}(e : ¬ p.1=k):aQ (p::r) k=aQ r k:=by simp[aQ,vm,e]
theorem oP(k : κ):∀aa:List (κ × V),(aa.any λkv=>decide (kv.1=k))=(aQ aa k).isSome
 | []=>rfl
 | p::r=>by
  rw[vh];by_cases e:p.1=k
  ·simp only[kh e,aF e,Bool.true_or,Option.isSome_some]
  ·rw[kg e,a8 e,Bool.false_or];exact oP k r
theorem J8(k j : κ)(y:V):∀aa:List (κ × V),aQ (aa.map λkv=>if kv.1=k then(kv.1,y) else kv) j=(aQ aa j).map λx=>if j=k then y else x
 | []=>rfl
 | p::r=>by
  have ih:=J8 k j y r;rw[cu];by_cases h:p.1=k
  ·rw[ai h];by_cases e:p.1=j
   ·rw[kh (p:=(p.1,y)) e,kh e,Option.map_some,ai (e.symm.trans h)]
   ·rw[kg (p:=(p.1,y)) e,kg e,ih]
  ·rw[ag h];by_cases e:p.1=j
   ·rw[kh (p:=p) e,kh e,Option.map_some,ag (λz=>h (e.trans z))]
   ·rw[kg (p:=p) e,kg e,ih]
theorem Jr(k j : κ)(y:V):∀aa:List (κ × V),aQ aa k=none->aQ (aa ++ [(k,y)]) j=if j=k then some y else aQ aa j
 | [],_=>by
  by_cases e:k=j
  ·rw[ai e.symm];exact kh (p:=(k,y)) e
  ·rw[ag (λz=>e z.symm)];exact kg (p:=(k,y)) e
 | p::r,hn=>by
  rw[vi];have hk : ¬ p.1=k:=λz=>by rw[kh z] at hn;cases hn
  rw[kg hk] at hn;have ih:=Jr k j y r hn;by_cases e:p.1=j
  ·rw[kh e,kh e,ag (λz=>hk (e.trans z))]
  ·rw[kg e,kg e,ih]
theorem q5(aa:List (κ × V))(k j : κ)(y:V):aQ (putK aa k y) j=if j=k then some y else aQ aa j:=by
 unfold putK;by_cases a:(aa.any λkv=>decide (kv.1=k))=true
 ·rw[ai a,J8];rw[oP] at a;by_cases e:j=k
  ·obtain⟨x,hx⟩:=B5.mp a;rw[ai e,e,hx,Option.map_some,ai rfl]
  ·rw[ag e];cases aQ aa j with
   | none=>rfl
   | some x=>rw[Option.map_some,ag e]
 ·rw[ag a];refine Jr k j y aa ?_;rw[oP] at a;cases q:aQ aa k with
  | none=>rfl
  | some x=>rw[q] at a;exact(a rfl).elim
theorem qV(aa:List (κ × V))(k : κ)(v:V):(putK aa k v).length<=aa.length+1:=by
 unfold putK
 split
 ·rw[ay];lia
 ·rw[bL,bM,sU];lia
theorem S6{aa:List (κ × V)}{k : κ}(v:V)(h:aQ aa k=none):putK aa k v=aa ++ [(k,v)]:=by
 unfold putK;rw[oP,h];exact ag (by decide)
theorem fg.yb{o:Option V}{u:Option Value}(r:fg o u):o.isSome=u.isSome:=by
 cases o with
 | none=>cases u with
  | none=>rfl
  | some _=>exact(show False from r).elim
 | some _=>cases u with
  | none=>exact(show False from r).elim
  | some _=>rfl
theorem fg.getD{o:Option V}{u:Option Value}{d:V}{d':Value}(r:fg o u)(rd:RelV d d'):RelV (o.getD d) (u.getD d'):=by
 cases o with
 | none=>cases u with
  | none=>exact rd
  | some _=>exact(show False from r).elim
 | some _=>cases u with
  | none=>exact(show False from r).elim
  | some _=>exact r
theorem KV.val{aa:List (κ × V)}{vs:List (κ × Value)}(r:KV aa vs)(k : κ):fg (aQ aa k) (valueAt vs k):=by
 unfold KV at r
 induction r with
 | nil=>exact True.intro
 | @cons p q ps qs h t ih =>
  obtain⟨h1,h2⟩:=h;by_cases e:p.1=k
  ·have e':q.1=k:=h1.symm.trans e;have b:valueAt (q::qs) k=some q.2:=by simp[valueAt,vm,e']
   rw[kh e,b];exact h2
  ·have e' : ¬ q.1=k:=λz=>e (h1.trans z);have b:valueAt (q::qs) k=valueAt qs k:=by simp[valueAt,vm,e']
   rw[kg e,b];exact ih
theorem KV.any{aa:List (κ × V)}{vs:List (κ × Value)}(r:KV aa vs)(k : κ):(aa.any λkv=>decide (kv.1=k))=vs.any λkv=>decide (kv.1=k):=by
 unfold KV at r
 induction r with
 | nil=>rfl
 | cons h t ih=>rw[vh,vh,ih,h.1]
theorem KV.GZ{aa:List (κ × V)}{vs:List (κ × Value)}(r:KV aa vs)(k : κ){y:V}{u:Value}(ry:RelV y u) :
  KV (aa.map λkv=>if kv.1=k then(kv.1,y) else kv) (vs.map λkv=>if kv.1=k then(kv.1,u) else kv):=by
 unfold KV at r ⊢
 induction r with
 | nil=>exact .nil
 | @cons p q ps qs h t ih =>
  rw[cu,cu];refine .cons ?_ ih;obtain⟨h1,h2⟩:=h;by_cases e:p.1=k
  ·rw[ai e,ai (h1.symm.trans e)];exact⟨h1,ry⟩
  ·rw[ag e,ag (λz=>e (h1.trans z))];exact⟨h1,h2⟩
theorem KV.put{aa:List (κ × V)}{vs:List (κ × Value)}(r:KV aa vs)(k : κ){y:V}{u:Value}(ry:RelV y u):KV (putK aa k y) (stored vs k u):=by
 unfold putK stored;rw[r.any k];by_cases e:(vs.any λkv=>decide (kv.1=k))=true
 ·rw[ai e,ai e];exact r.GZ k ry
 ·rw[ag e,ag e];exact Paired.snoc r ⟨rfl,ry⟩
theorem KV.length{aa:List (κ × V)}{vs:List (κ × Value)}(r:KV aa vs):aa.length=vs.length:=de r
end
variable{P:Program}{w:World}
theorem rj{k:Key}{u:Value}(r:RelV (kV k) u):(ZC P w).is k u=true:=by
 cases k with
 | inl i=>obtain⟨t,e⟩:=(show ∃t,u=Value.int i t from r);subst e;exact QG P w i t
 | inr x=>obtain⟨t,e⟩:=(show ∃t,u=Value.str x t from r);subst e;exact QD P w x t
theorem Jg{P:Program}{w:World}:∀{ks:List Key}{us:List Value},Vals (ks.map kV) us->ItemsAre (ZC P w) ks us
 | [],_,r=>by rw[List.map_nil] at r;cases r;exact .nil
 | k::ks,_,r=>by
  rw[cu] at r;cases r with
  | cons h t=>exact .cons (rj h) (Jg t)
abbrev KT(H:Hp):List (List Key×V)->List (List Key×Addr×Value)->Prop:=Paired λp q=>p.1=q.1/\H q.2.1=some (.tup (p.1.map kV))/\RelV p.2 q.2.2
variable{xs:List (List Key×Addr×Value)}{aa:List (List Key×V)}
theorem KT.val(r:KT H aa xs)(k:List Key):fg (aQ aa k) ((atKey xs k).map (·.2)):=by
 induction r with
 | nil=>exact True.intro
 | @cons p q ps qs h t ih =>
  obtain⟨h1,_,h2⟩:=h;by_cases e:p.1=k
  ·have e':q.1=k:=h1.symm.trans e;have b:atKey (q::qs) k=some q.2:=by simp[atKey,vm,e']
   rw[kh e,b];exact h2
  ·have e' : ¬ q.1=k:=λz=>e (h1.trans z);have b:atKey (q::qs) k=atKey qs k:=by simp[atKey,vm,e']
   rw[kg e,b];exact ih
theorem KT.GZ(r:KT H aa xs)(k:List Key){y:V}{u:Value}(ry:RelV y u) :
  KT H (aa.map λkv=>if kv.1=k then(kv.1,y) else kv) (xs.map (putAt k u)):=by
 induction r with
 | nil=>exact .nil
 | @cons p q ps qs h t ih =>
  rw[cu,cu];refine .cons ?_ ih;obtain⟨h1,h2,h3⟩:=h;unfold putAt;by_cases e:p.1=k
  ·rw[ai e,ai (h1.symm.trans e)];exact⟨h1,h2,ry⟩
  ·rw[ag e,ag (λz=>e (h1.trans z))];exact⟨h1,h2,h3⟩
theorem KT.put(r:KT H aa xs)(k:List Key){b:Addr}{y:V}{u:Value}(hb:H b=some (.tup (k.map kV)))(ry:RelV y u) :
  KT H (putK aa k y) (storedH xs k b u):=by
 have e:(aa.any λkv=>decide (kv.1=k))=(atKey xs k).isSome:=by
  rw[oP,(r.val k).yb,qw]
 unfold putK storedH;rw[e];by_cases q:(atKey xs k).isSome=true
 ·rw[ai q,ai q];exact r.GZ k ry
 ·rw[ag q,ag q];exact Paired.snoc r ⟨rfl,hb,ry⟩
theorem KT.keeps{H':Hp}(r:KT H aa xs)(ht:∀b ys,H b=some (.tup ys)->H' b=some (.tup ys)):KT H' aa xs :=
 Paired.GD r λ_ _ z=>⟨z.1,ht _ _ z.2.1,z.2.2⟩
variable{h:Heap}
theorem LN{u:HO}(ok:a9 P w H h)(e:Rd H a u):ZL P w H h a u:=e.ok ok
theorem Av{aa:List (Key×V)}(ok:a9 P w H h)(e:Rd H a (.dK aa)):aa.length<=sizeLine/\(a == sysModules)=false/\∃vs,KV aa vs/\h.DictOf (ZC P w) a vs :=
 show ZL P w H h a (.dK aa) from LN ok e
theorem D9{aa:List (Key×V)}(ok:a9 P w H h)(e:H a=some (.dK aa)):aa.length<=sizeLine/\(a == sysModules)=false/\∃vs,KV aa vs/\h.DictOf (ZC P w) a vs:=Av ok (.inl e)
theorem t_{ks:List Key}(ok:a9 P w H h)(e:H a=some (.tup (ks.map kV))):(tupleKind (ZC P w)).is h ks a:=by
 obtain⟨_,its,r,o,h1,h2,n,h3⟩:=(show ZL P w H h a (.tup (ks.map kV)) from ok a _ e);exact⟨o,its.toArray,n,h1,h2,h3,by simpa using Jg r⟩
theorem Aw(ok:a9 P w H h)(e:Rd H a (.dT aa)):aa.length<=sizeLine/\(a == sysModules)=false /\
  ∃xs,KT H aa xs/\h.DictOfH (tupleKind (ZC P w)) a xs:=by
 obtain⟨z,y,xs,r,o,es,ep,h1,h2,h3,h4,h5⟩:=(show ZL P w H h a (.dT aa) from LN ok e);refine⟨z,y,xs,r,o,es,ep,h1,h2,h3,h4,λx hx=>?_,h5⟩;have all:∀{l:List (List Key×V)}{m:List (List Key×Addr×Value)},KT H l m->∀x∈m,(tupleKind (ZC P w)).is h x.1 x.2.1:=by
  intro l m q
  induction q with
  | nil=>intro x hx;exact nomatch hx
  | @cons p q ps qs hq t ih =>
   intro x hx;rcases aJ.mp hx with e|hx
   ·subst e;exact t_ ok (by rw[<- hq.1];exact hq.2.1)
   ·exact ih x hx
 exact all r x hx
theorem Vk(ok:a9 P w H h)(e:H a=some (.dT aa)):aa.length<=sizeLine/\(a == sysModules)=false /\
  ∃xs,KT H aa xs/\h.DictOfH (tupleKind (ZC P w)) a xs:=Aw ok (.inl e)
def iX(H:Hp)(a:Addr)(y:V)(r:Option V):Prop :=
 (∃aa k,Rd H a (.dK aa)/\y=kV k/\r=aQ aa k)\/∃aa k b,Rd H a (.dT aa)/\y=.ref b/\H b=some (.tup (k.map kV))/\r=aQ aa k
def wU(H:Hp)(a:Addr)(y v:V)(H':Hp):Prop :=
 (∃aa k,H a=some (.dK aa)/\y=kV k/\aa.length<sizeLine/\H'=upd H a (.dK (putK aa k v))) \/
 ∃aa k b,H a=some (.dT aa)/\y=.ref b/\H b=some (.tup (k.map kV))/\aa.length<sizeLine/\H'=upd H a (.dT (putK aa k v))
theorem iX.k{H:Hp}{a:Addr}{aa:List (Key×V)}{k:Key}(e:H a=some (.dK aa)):iX H a (kV k) (aQ aa k):=.inl ⟨aa,k,.inl e,rfl,rfl⟩
theorem wU.k{H:Hp}{a:Addr}{aa:List (Key×V)}{k:Key}{v:V}(e:H a=some (.dK aa))(hl:aa.length<sizeLine):wU H a (kV k) v (upd H a (.dK (putK aa k v))):=.inl ⟨aa,k,e,rfl,hl,rfl⟩
section
variable{X:Cx}{pins:List (Addr×Obj)}{σ : St}{H:Hp}{s:Shared}{a:Addr}{y v:V}{u r:Value}{o:Option V}{A:Around}{E:Value->Shared->Prop}
theorem Inv.big(I:Inv X pins σ H s):sysModules<s.heap.objs.size:=by
 have h:mainGlobals<s.heap.objs.size:=(I.mod.glob.keeps I.bk).lt;exact g9 (by decide) h
theorem V4{Q:Value->Shared->Prop}(hu:A.units+1<cLine)(I:Inv X pins σ H s)(g:iX H a y o)(ry:RelV y u)(h:∀s',Inv X pins σ H s'->Q (.bool o.isSome) s') :
  wpAny (model X.prog X.w) A (compareOp .In u (.ref a)) Q E s:=by
 rcases g with⟨aa,k,e,ey,l⟩|⟨aa,k,b,e,ey,eb,l⟩
 ·subst ey;obtain⟨z,hd,vs,rel,dd⟩:=Av I.ah e;refine wpAny_in_of (rj ry) hd dd.mapOf ?_;rw[<- (rel.val k).yb,<- l];exact h _ (I.tok _)
 ·subst ey;cases (show u=Value.ref b from ry);obtain⟨z,hd,xs,rel,dd⟩:=Aw I.ah e;refine wpAny_in_heap (tupleKind_room_in1 hu) (t_ I.ah eb) hd dd ?_;have q:=(rel.val k).yb;rw[qw] at q;rw[<- q,<- l];exact h _ (I.tok _)
variable{h':Heap}
theorem wD{t':Nat}{ob:HO}(I:Inv X pins σ H s)(mu:vQ (H a))(hs:Heap.SameBut a s.heap h')(he:∃q,h'.get? a=some q)(new:ZL X.prog X.w (upd H a ob) h' a ob) :
  Inv X pins σ (upd H a ob) { s with heap:=h',toks:=t' } :=
 I.write (x:=a) (e:=a) mu (.inl rfl) (λb q hb z=>(hs.2 b hb).trans z) he new
variable{H':Hp}
theorem Ln{P:Program}{w:World}{aa:List (Key×V)}{vs:List (Key×Value)}(z:aa.length<=sizeLine)(hd:(a == sysModules)=false)(rel:KV aa vs)(dd:h'.DictOf (ZC P w) a vs) :
  ZL P w H' h' a (.dK aa):=⟨z,hd,vs,rel,dd⟩
theorem Si{Q:Unit->Shared->Prop}(hu:A.units+1<cLine)(I:Inv X pins σ H s)(g:wU H a y v H')(ry:RelV y u)(rv:RelV v r)(h:∀s',Inv X pins σ H' s'->Q () s') :
  wpAny (model X.prog X.w) A (setItem (.ref a) u r) Q E s:=by
 rcases g with⟨aa,k,e,ey,l,eH⟩|⟨aa,k,b,e,ey,eb,l,eH⟩
 ·subst ey eH;obtain⟨z,hd,vs,rel,dd⟩:=D9 I.ah e;have hz:vs.length<=sizeLine:=by rw[<- rel.length];exact z
  have hl:(putK aa k v).length<=sizeLine:=by have:=qV aa k v;lia
  refine wpAny_setItem_pairs (hsz:=hz) (rj ry) dd λh' jY hs=>h _ ?_;have he:∃q,h'.get? a=some q:=let ⟨q,_,_,hq,_⟩:=jY;⟨q,hq⟩;exact wD I (by rw[e];exact True.intro) hs he (Ln hl hd (rel.put k rv) jY)
 ·subst ey eH;cases (show u=Value.ref b from ry);obtain⟨z,hd,xs,rel,dd⟩:=Vk I.ah e;have hz:xs.length<=sizeLine:=by rw[<- de rel];exact z
  have hl:(putK aa k v).length<=sizeLine:=by have:=qV aa k v;lia
  refine wpAny_setItem_heap (hsz:=hz) (tupleKind_room_in1 hu) (t_ I.ah eb) dd λh' jY hs=>h _ ?_;obtain⟨q,es,ep,hq,h2,h3,h4,_,h5⟩:=jY;refine wD I (by rw[e];exact True.intro) hs ⟨q,hq⟩ ⟨hl,hd,_,(rel.put k eb rv).keeps λc ys ec=>?_,q,es,ep,hq,h2,h3,h4,h5⟩;rw[Zc (Vu ec e (λz=>nomatch z))]
  exact ec
end
def Eh(i:Expr):Prop := ∀ov iv,subscripted i false ov iv=operate [ov,iv] (getItem ov iv)
variable{s:Shared}
theorem UK{prog:Program}{A:Around}{E:Value->Shared->Prop}{value slice:Expr}{T id:String}{Q:Value->Shared->Prop}
  (hl:typeLookup (.type T) "__getitem__" = pure (some (.builtin id))) (hs:Eh slice)
  (h:wpAny (model prog w) A (eval value env) (λo aL=>wpAny (model prog w) A (eval slice env) (λi jh=>jh.TypeIs o T/\wpAny (model prog w) A (getItem o i) Q E jh) E aL) E s) :
  wpAny (model prog w) A (eval (.Subscript value slice pos) env) Q E s:=by
 refine Subscript_ (cw h (λo aL Bq=>cw Bq (λi jh Gk=>?_) λ_ _ x=>x) λ_ _ x=>x);obtain⟨hT,Gk⟩:=Gk;unfold subscriptTail;refine ae ?_;rw[getitemInPython_of_ne hT.not_modules];refine ae (oB hT hl ?_);have fin:wpAny (model prog w) A (subscripted slice false o i) (λr va=>wpAny (model prog w) A (letTemporaryGo value o r >>= λ_=>pure r) Q E va) E jh := by
  rw[hs o i];exact wpAny_operating (cw Gk (λr va ZpV=>ae (wpAny_letTemporaryGo (af ZpV))) λ_ _ x=>x)
 first
  | exact af (ae fin)
  | exact ae (af (ae fin))
  | exact ae fin
def VW(ty td:TE):TE:=λσ H Q=>ty σ H λy H1=>td σ H1 λx H2=>∃a o,x=.ref a/\iX H2 a y o/\Q (.bl o.isSome) H2
def Wl(td ty tv:TE):TS:=λD σ H=>tv σ H λv H1=>td σ H1 λx H2=>ty σ H2 λy H3=>∃a H4,x=.ref a/\wU H3 a y v H4/\D.nx σ H4
section
variable{X:Cx}{o i e value:Expr}{pos pos' Hg:Pos}{td ty tv:TE}
theorem LM(hu:X.A.units+1<cLine)(hi:PE X i ty)(ho:PE X o td):PC X .In i o (VW ty td):=by
 intro pins s σ H Q I h;refine ap (hi pins s σ H _ I h) λiv s1 ⟨y,H1,I1,ry,q1⟩=>ap (ho pins s1 σ H1 _ I1 q1) λu s2 ⟨x,H2,I2,rx,a,ov,ex,g,q2⟩=>?_;subst ex;obtain rfl:u=Value.ref a:=rx;exact V4 hu I2 g ry λs3 I3=>⟨.bl ov.isSome,H2,I3,rfl,q2⟩
theorem UP(hu:X.A.units+1<cLine)(ho:PE X o td)(hi:PE X i ty)(hv:PE X value tv)(hs:swapsWith value (some (.Subscript o i pos')) pos.line X.env=pure false) :
  PS X (.Assign [.Subscript o i pos'] value pos) (Wl td ty tv):=by
 intro pins s σ H D I h;refine wpAny_Assign_Subscript (ap (hv pins s σ H _ I h) λr s1 ⟨v,H1,I1,rv,q1⟩=>ap (ho pins s1 σ H1 _ I1 q1) λu s2 ⟨x,H2,I2,rx,q2⟩=>ap (hi pins s2 σ H2 _ I2 q2) λiv s3 ⟨y,H3,I3,ry,a,H4,ex,g,q3⟩=>?_) hs;subst ex;obtain rfl:u=Value.ref a:=rx;exact Si hu I3 g ry rv λs4 I4=>⟨σ,H4,I4,q3⟩
end
theorem Tr(h:Heap)(hb:sysModules<h.objs.size):ZL P w H (h.push { cls:=.type "dict",data:=.dict #[] }) h.objs.size (.dK []) :=
 ⟨bE _,lj.mpr (eu (aV hb)),[],.nil,Heap.DictOf.new h⟩
def VM:TE:=λ_ H Q=>∀p,H p=none->Q (.ref p) (upd H p (.dK []))
theorem zY:PE X (.Dict [] [] pos) VM:=λpins s σ H Q I h =>
 wpAny_Dict_empty ⟨.ref s.heap.objs.size,_,I.laid (a:=s.heap.objs.size) (o:=.dK []) (t':=s.toks) (λ_ _ q=>ax _ q) (aq _) (Tr s.heap I.big),rfl,h _ (I.ah.fresh (aq _))⟩
structure M1(X:Cx)(o:Expr)(m:Str)(apos:Pos)(e:Expr)(bJ:Pos):Prop where
 base:attributeBase o m X.env (eval o X.env)=eval o X.env
 fh:((backTo bJ (starEach [e] X.env)).all (λx=>!x.1)&&(backToKw bJ (keywordEach [] X.env)).all (λx=>x.1.isSome)
  && decide (([e]:List Expr).length+([]:List Keyword).length+(if([]:List Keyword).isEmpty then 0 else 1)<30))=true
 line:(apos.endLine == bJ.line)=true
 yI:backTo bJ (starEach [e] X.env)=[(false,eval e X.env)]
structure M2(X:Cx)(o:Expr)(m:Str)(apos:Pos)(e f:Expr)(bJ:Pos):Prop where
 base:attributeBase o m X.env (eval o X.env)=eval o X.env
 fh:((backTo bJ (starEach [e,f] X.env)).all (λx=>!x.1)&&(backToKw bJ (keywordEach [] X.env)).all (λx=>x.1.isSome)
  && decide (([e,f]:List Expr).length+([]:List Keyword).length+(if([]:List Keyword).isEmpty then 0 else 1)<30))=true
 line:(apos.endLine == bJ.line)=true
 yI:backTo bJ (starEach [e,f] X.env)=[(false,eval e X.env),(false,eval f X.env)]
def CD(H:Hp)(a:Addr):Prop:=(∃aa,Rd H a (.dK aa))\/∃aa,Rd H a (.dT aa)
theorem LH{pins:List (Addr×Obj)}(I:Inv X pins σ H s)(d:CD H a) :
  s.TypeIs (.ref a) "dict" /\ (∀b,Value.ref a=.ref b->∃ob,s.heap.get? b=some ob/\ob.dict=none)/\(a == sysModules)=false:=by
 rcases d with⟨aa,e⟩|⟨aa,e⟩
 ·obtain⟨_,hd,vs,_,dd⟩:=Av I.ah e;refine⟨dd.typeIs,λb q=>?_,hd⟩;cases q;obtain⟨ob,_,_,h1,h2,_⟩:=dd;exact⟨ob,h1,h2.2.1⟩
 ·obtain⟨_,hd,xs,_,dd⟩:=Aw I.ah e;refine⟨dd.typeIs,λb q=>?_,hd⟩;cases q;obtain⟨ob,_,_,h1,h2,_⟩:=dd;exact⟨ob,h1,h2.2.1⟩
section
variable{X:Cx}{pins:List (Addr×Obj)}{σ : St}{H:Hp}{s:Shared}{a:Addr}{y d:V}{u r:Value}{o:Option V}{A:Around}{E:Value->Shared->Prop}
theorem VQ{Q:Value->Shared->Prop}(hu:A.units+1<cLine)(I:Inv X pins σ H s)(g:iX H a y o)(ry:RelV y u)(rd:RelV d r)(h:∀w' s',Inv X pins σ H s'->RelV (o.getD d) w'->Q w' s') :
  wpAny (model X.prog X.w) A (call (.builtin "dict.get") [.ref a,u,r]) Q E s:=by
 rcases g with⟨aa,k,e,ey,l⟩|⟨aa,k,b,e,ey,eb,l⟩
 ·subst ey;obtain⟨z,hd,vs,rel,dd⟩:=Av I.ah e;refine call_meetsIn y_ dd.typeIs PySem.F.entry_dict_get (PySem.F.args_dict_get_3 _ _ _) (meets_dict_get_default (ZC X.prog X.w) a (rj ry) hd r) ⟨_,dd.mapOf,h _ _ (I.tok _) ?_⟩;rw[l];exact(rel.val k).getD rd
 ·subst ey;cases (show u=Value.ref b from ry);obtain⟨z,hd,xs,rel,dd⟩:=Aw I.ah e;refine call_meetsIn y_ dd.typeIs PySem.F.entry_dict_get (PySem.F.args_dict_get_3 _ _ _) (meetsH_dict_get_default (tupleKind (ZC X.prog X.w)) a b hd r) ⟨tupleKind_room_in1 hu,k,xs,t_ I.ah eb,dd,h _ _ (I.tok _) ?_⟩;rw[l];exact(rel.val k).getD rd
end
def Vz(td ty tx:TE):TE:=λσ H Q=>td σ H λx H1=>∃a,x=.ref a/\CD H1 a/\ty σ H1 λy H2=>tx σ H2 λz H3=>∃o,iX H3 a y o/\Q (o.getD z) H3
section
variable{X:Cx}{o e f:Expr}{apos bJ:Pos}{td ty tx:TE}
theorem wq(hu:X.A.units+1<cLine)(ho:PE X o td)(he:PE X e ty)(hf:PE X f tx)(m:M2 X o "get" apos e f bJ):PE X (.Call (.Attribute o "get" apos) [e,f] [] bJ) (Vz td ty tx):=by
 intro pins s σ H Q I h;refine wpAny_Call_method m.base m.fh m.line B6 y_ PySem.F.type_dict_get (ap (ho pins s σ H _ I h) λu s1 ⟨x,H1,I1,rx,a,ex,d,q1⟩=>?_);subst ex;obtain rfl:u=Value.ref a:=rx;obtain⟨t1,t2,_⟩:=LH I1 d;refine⟨t1,t2,?_⟩;rw[m.yI];refine vf rfl (yO (oj (ap (he pins s1 σ H1 _ I1 q1) λiv s2 ⟨y,H2,I2,ry,q2⟩ =>
  oj (ap (hf pins s2 σ H2 _ I2 q2) λfv s3 ⟨z,H3,I3,rz,ov,g,q3⟩=>sQ ?_))))
 exact VQ hu I3 g ry rz λw' s4 I4 mR=>⟨_,H3,I4,mR,q3⟩
end
structure ic(P:Program)(w:World)(K:PySem.W.Frag)(mg:Str->Option Value)(base:Heap)(C:Addr)(m:Str)(ps:List Str)(j:Nat)(sp:Sp):Prop where
 ex:∃f fd,aX P w K mg base cx j f fd ps sp/\Binds K fd ps []/\Meth K C m f
structure oJ(P:Program)(w:World)(K:PySem.W.Frag)(mg:Str->Option Value)(base:Heap)(C:Addr)(x:Str)(ps:List Str)(j:Nat)(sp:Sp):Prop where
 ex:∃f fd,aX P w K mg base cx j f fd ps sp/\Binds K fd ps []/\Mk K C f/\mg x=some (.ref C)
section
variable{X:Cx}{C:Addr}{m x:Str}{ps:List Str}{j k:Nat}{sp:Sp}{o e:Expr}{es:List Expr}{ta:TE}{t:TA}{p pos apos:Pos}
variable{pl:Sem Bool}
theorem tS(G:ic X.prog X.w X.K X.mg X.base C m ps j sp)(hr:bj k X.A)(he:PE X o ta)(c:fJ X.K C)(ha:PA X (e::es) t)(hk:j<=k:=by decide)
  (bY:starEach (e::es) X.env=(false,eval e X.env)::starEach es X.env:=by rfl) (aA:(backTo pos (starEach es X.env)).any (·.1)=false:=by rfl)
  (ht:eval (.Call (.Attribute o m apos) (e::es) [] pos) X.env=(do
   let ov <- eval o X.env
   standAt apos.atName
   let (f,first) <- holding [ov] (getMethod ov m pl)
   callWith pos f first (backTo pos (starEach (e::es) X.env)) (backToKw pos (keywordEach [] X.env))):=by rfl):PE X (.Call (.Attribute o m apos) (e::es) [] pos) (Ar C m sp [] E0 ta t):=by
 obtain⟨f,fd,F,b,hm⟩:=G.ex;exact UN (pl:=pl) he c hm (F.room hk) hr b .nil wR ha bY aA ht
theorem Ki(G:ic X.prog X.w X.K X.mg X.base C m ps j sp)(hr:bj k X.A)(he:PE X o ta)(c:fJ X.K C)(hk:j<=k:=by decide)
  (ht:eval (.Call (.Attribute o m apos) [] [] pos) X.env=(do
   let ov <- eval o X.env
   standAt apos.atName
   let (f,first) <- holding [ov] (getMethod ov m pl)
   callWith pos f first (backTo pos (starEach [] X.env)) (backToKw pos (keywordEach [] X.env))):=by rfl):PE X (.Call (.Attribute o m apos) [] [] pos) (Ar C m sp [] E0 ta gf):=by
 obtain⟨f,fd,F,b,hm⟩:=G.ex;exact To (pl:=pl) he c hm (F.room hk) hr b .nil wR ht
end
theorem Jd:f_ X (.type "int") (λxs H Q=>∃b,xs=[.bl b]/\Q (.int (if b=true then 1 else 0)) H):=by
 intro pins s σ H xs us Q I r h;obtain⟨b,rfl,q⟩:=h;obtain⟨u,rfl,ru⟩:=vals1 r;cases ru;exact call_int_bool ⟨.int (if b=true then 1 else 0),H,I.tok _,⟨_,rfl⟩,q⟩
end L2
namespace Fg
open PySem L2 lA
theorem U5(x y:Str)(h:x≠y):decide (x.cps.toList<y.cps.toList)= !decide (y.cps.toList<x.cps.toList):=by
 have aO:x.cps.toList≠y.cps.toList:=λe=>h (VT e);by_cases h1:x.cps.toList<y.cps.toList
 ·rw[aF h1,a8 (λh2=>List.lt_irrefl _ (List.lt_trans h1 h2))];rfl
 ·rw[a8 h1];have h2:y.cps.toList<x.cps.toList:=by
   have:=List.not_lt.mp h1;rcases List.le_iff_lt_or_eq.mp this with z|z
   ·exact z
   ·exact absurd z.symm aO
  rw[aF h2];rfl
theorem Ke:∀{xs ys:List Str},xs.length=ys.length->xs≠ys->gg xs ys= !gg ys xs
 | [],[],_,h=>absurd rfl h
 | [],_::_,h,_=>by simp at h
 | _::_,[],h,_=>by simp at h
 | x::xs,y::ys,hl,hn=>by
  rw[gg,gg];by_cases e:x=y
  ·subst e;rw[ai rfl,ai rfl];exact Ke (by simpa using hl) λz=>hn (by rw[z])
  ·rw[ag e,ag (eu e)];exact U5 x y e
theorem Di{xs ys:List Str}(h:xs≠ys):a_ xs ys= !a_ ys xs:=by
 unfold a_;by_cases e:xs.length=ys.length
 ·rw[ai e,ai e.symm];exact Ke e h
 ·rw[ag e,ag (eu e)];by_cases q:xs.length<ys.length
  ·rw[aF q,a8 (by lia)];rfl
  ·rw[a8 q,aF (by lia)];rfl
end Fg
namespace L2
open PySem PySem.Spec PyProof.Rows
theorem lookup_mem{β : Type}{x:Str}{c : β}:∀{l:List (Str × β)},l.lookup x=some c->(x,c)∈l
 | [],h=>by cases h
 | (y,d)::l,h=>by
  rw[List.lookup_cons] at h;cases e:x == y with
  | true =>
   rw[e] at h;cases h;rw[mH.mp e];exact aU ..
  | false =>
   rw[e] at h;exact aR _ (lookup_mem h)
variable{env:Env}{cl:List (Str×Addr)}
theorem jD(h:∀p∈cl,env.cells.lookup p.1=some p.2):∀x c,cl.lookup x=some c->env.cells.lookup x=some c:=λx c e=>h (x,c) (lookup_mem e)
variable{scope:Scope}
theorem ke(h:∀y∈scope.names,(y.2=.cell\/y.2=.free)->∃c,cl.lookup y.1=some c):∀(C:Addr)(x:Str),((compEnvC scope cl C env).kindOf x=some .cell\/(compEnvC scope cl C env).kindOf x=some .free)->∃c,cl.lookup x=some c:=by
 have key:∀(k:NameKind)(x:Str),(k=.cell\/k=.free)->(scope.names.map λ(n,k)=>if(k ==.free&&env.scope.kind ==.function&&env.kindOf n == some .cell) then(n,.cell) else(n,k)).lookup x=some k->∃c,cl.lookup x=some c:=by
  intro k x hk e;obtain⟨⟨n,k0⟩,hy,he⟩:=aS.mp (lookup_mem e);by_cases hc:(k0 ==.free&&env.scope.kind ==.function&&env.kindOf n == some .cell)=true
  ·simp only[hc,lq] at he;have h0:k0=.free:=by
    simp only[eY] at hc;have:=hc.1.1;cases k0 <;> first|rfl|exact absurd this (by decide)
   injection he with e1 e2;subst e1;exact h _ hy (.inr h0)
  ·simp only[hc] at he;injection he with e1 e2;subst e1 e2;exact h _ hy hk
 intro C x hx;rcases hx with e|e
 ·exact key _ x (.inl rfl) e
 ·exact key _ x (.inr rfl) e
variable{X:Cx}{K:PySem.W.Frag}
theorem oV(h:X.K=K):vO X (L_ K):=by
 subst h;exact ZD
def Z4:Stmt->List Stmt
 | .For _ _ b _ _=>b
 | .While _ b _ _=>b
 | .If _ b _ _=>b
 | _=>[]
def LO:Stmt->List Stmt
 | .If _ _ b _=>b
 | _=>[]
variable{σ:St}{H:Hp}
theorem Zt{b:List Stmt}{D:Ends}(s:List Stmt){t:TS}(h:cF X s t)(k:∀u,cF X s u->u=t->∃t,cF X b t/\t D σ H):∃t,cF X b t/\t D σ H:=k t h rfl
theorem Zr{u t:TS}(e:u=t){D:Ends}{σ : St}{H:Hp}(h:t D σ H):u D σ H:=e ▸ h
variable{α:Type}
theorem L0:∀{us:List α},us.length=1->∃a,us=[a]
 | [a],_=>⟨a,rfl⟩
theorem Ed{n:Nat}:∀{us:List α},us.length=n+1->∃a vs,us=a::vs/\vs.length=n
 | a::vs,h=>⟨a,vs,rfl,Nat.succ.inj h⟩
theorem Ma{us:List α}(h:us.length=2):∃a b,us=[a,b]:=by
 obtain⟨a,vs,rfl,h2⟩:=Ed h;obtain⟨b,rfl⟩:=L0 h2;exact⟨a,b,rfl⟩
theorem L6{us:List α}(h:us.length=3):∃a b c,us=[a,b,c]:=by
 obtain⟨a,vs,rfl,h2⟩:=Ed h;obtain⟨b,c,rfl⟩:=Ma h2;exact⟨a,b,c,rfl⟩
theorem VZ{us:List α}(h:us.length=4):∃a b c d,us=[a,b,c,d]:=by
 obtain⟨a,vs,rfl,h2⟩:=Ed h;obtain⟨b,c,d,rfl⟩:=L6 h2;exact⟨a,b,c,d,rfl⟩
variable{us:List Value}
theorem Vals.inv{v:V}{vs:List V}(h:Vals (v::vs) us):∃u qI,us=u::qI/\RelV v u/\Vals vs qI:=by
 cases h with
 | cons r t=>exact⟨_,_,rfl,r,t⟩
theorem Vals.end_(h:Vals [] us):us=[]:=by
 cases h;rfl
def XO(e:Addr)(C:Value)(d:Option Addr):Heap->Prop:=λh=>∃oe vs,h.get? e=some oe/\oe.cls=C/\oe.dict=d/\oe.data=.fields vs/\4<vs.size
variable{P:Program}{w:World}{h:Heap}{e:Addr}{C:Value}{d:Option Addr}
theorem XO.Mw(x:XO e C d h):ZL P w H h e (.ext (XO e C d)):=by
 refine⟨x,?_,λh1 h2 p k=>?_⟩
 ·obtain⟨oe,_,ho,_⟩:=x;exact⟨oe,ho⟩
 ·obtain⟨oe,vs,ho,r⟩:=p;exact⟨oe,vs,k oe ho,r⟩
variable{a:Addr}
theorem Sl{o:HO}(h:H a=some o):upd H a o=H:=by
 funext b
 unfold upd;by_cases e:b=a
 ·subst e;rw[ai rfl,h]
 ·rw[ag e]
variable{pins:List (Addr×Obj)}{s:Shared}
theorem Inv.xo(I:Inv X pins σ H s)(he:H e=some (.ext (XO e C d))):XO e C d s.heap:=(I.ah e _ he).1
variable{h':Heap}
theorem Inv.OE{t':Nat}(I:Inv X pins σ H s)(he:H e=some (.ext (XO e C d)))(k:∀b u,b≠e->s.heap.get? b=some u->h'.get? b=some u)(x:XO e C d h'):Inv X pins σ H { s with heap:=h',toks:=t' }:=by
 have:=I.write (x:=e) (e:=e) (o:=.ext (XO e C d)) (h':=h') (t':=t') (by rw[he];trivial) (.inl rfl) k (by obtain⟨oe,_,ho,_⟩:=x;exact⟨oe,ho⟩) x.Mw
 rwa [Sl he] at this
variable{T:Addr}
def vV(X:Cx)(pins:List (Addr×Obj))(H:Hp)(h:Heap)(e:Addr)(fl:Value):Prop :=
 ∃T oT ts oe vs,h.get? e=some oe/\oe.data=.fields vs/\vs[1]?= some (.ref T)/\bt X pins H T/\h.get? T=some oT/\oT.data=.fields ts/\ts[3]?= some fl
def HV(X:Cx)(pins:List (Addr×Obj))(H:Hp)(h:Heap)(e:Addr):Prop:=(∃oe vs,h.get? e=some oe/\oe.data=.fields vs/\vs[1]?= some .none)\/vV X pins H h e .none
theorem Am{o:Obj}{vs:Array Value}(i:Nat)(x:Value)(ho:h.get? a=some o)(hd:o.data=.fields vs) :
  (h.update a (Obj.mapFields (·.setIfInBounds i x))).get? a=some (o.mapFields (·.setIfInBounds i x)):=qj _ ho (Obj.isFreed_of_fields (qv hd _))
theorem Tc(o:Obj)(f:Array Value->Array Value):(o.mapFields f).dict=o.dict:=by
 obtain⟨c,d,dt,sl⟩:=o;cases dt <;> rfl
theorem XO.put(x:XO e C d h)(i:Nat)(v:Value):XO e C d (h.update e (Obj.mapFields (·.setIfInBounds i v))):=by
 obtain⟨oe,vs,ho,hc,l5,hd,hz⟩:=x;exact⟨_,_,Am i v ho hd,(Obj.cls_mapFields ..).trans hc,(Tc ..).trans l5,qv hd _,by simpa using hz⟩
theorem Inv.slots(I:Inv X pins σ H s)(hs:Heap.SlotsOnly (gj X.stack) s.heap h'):Inv X pins σ H { s with heap:=h' }:=by
 refine I.zp (s':={ s with heap:=h' }) (ch:=[]) rfl ⟨λb o q n hb _=>(hs.2.1 b hb).trans q,λb o q _ _ _=>hs.2.2 b o q,λ_ _ _ n _=>n,λb o q _=>let ⟨sl,e⟩:=hs.2.2 b o q;⟨_,e⟩,λ_ _ q=>q,λ_ _ _ q=>q,λ_ ps q=>⟨#[],by rw[q];simp⟩⟩ ?_ I.bare (λb z=>absurd z (by simp));intro b o q;have l6:=I.BM;refine(I.ah b o q).jR (λc u hc z=>?_) (λ_ z=>z) (λ_ _ z=>z);have hn:c∉gj X.stack:=by
  intro hm;rcases hc with rfl|hc
  ·rw[l6 _ hm] at q;cases q
  ·rw[l6 _ hm] at hc;cases hc
 exact(hs.2.1 c hn).trans z
variable{M:Model}{A:Around}{E:Value->Shared->Prop}{Q:Unit->Shared->Prop}
theorem J7{head:Value}{Yi:Bool}(hA:A.frames=some (X.env::X.outer))(pP:X.stack=X.env::X.outer)(hf:X.env.frame=some X.env.locals)(I:Inv X pins σ H s)(he:H e=some (.ext (XO e C d)))
  (h:∀h',Inv X pins σ H { s with heap:=h' }->vV X pins H h' e (rawInt X.env.locals)->Q () { s with heap:=h' }) :
  wpAny M A (frameOf X.env >>= λa=>entryPlaceOf X.env.locals Yi >>= λpl=>EntryCells.newEntry head a .none (rawInt X.env.locals) .none pl >>= λb=>setField (.ref e) 1 b) Q E s:=by
 have hl:s.heap.FunFrames X.base (X.env::X.outer):=pP ▸ I.stack;refine ae (wpAny_frameOf_fun hA hl hf λh1 jd=>?_);have I1:Inv X pins σ H { s with heap:=h1 }:=I.slots (by rw[pP];exact jd);refine ae (wpAny_entryPlaceOf λpl aA=>?_);unfold EntryCells.newEntry newFields;refine ae (mM ?_ (aA.sizeOk5 _ _ _ _ _));generalize gU:({ cls:=Value.type "traceback",dict:=none,data:=Data.fields ([head,Value.ref X.env.locals,Value.none,rawInt X.env.locals,Value.none]++(if pl.isEmpty then List.replicate 6 Value.none else pl)).toArray }:Obj)=ob
 have I2:Inv X pins σ H { s with heap:=h1.push ob }:=I1.kept (h':=h1.push ob) (t':=s.toks) λb u q=>ax _ q;obtain⟨oe,vs,ho,hc,l5,hd,hz⟩:=I2.xo he;refine qA ho hd (by lia) (h _ (I2.OE (t':=s.toks) he (λb u hb q=>(g8 _ _ (eu hb)).trans q) ((I2.xo he).put 1 _)) ?_);have hT:(h1.push ob).get? h1.objs.size=some ob:=bo _ (by rw[<- gU];rfl);have aO:e≠h1.objs.size:=λz=>by
  have:=I1.ah.lt he;rw[z] at this;exact absurd this (cD _)
 refine⟨h1.objs.size,ob,([head,Value.ref X.env.locals,Value.none,rawInt X.env.locals,Value.none]++(if pl.isEmpty then List.replicate 6 Value.none else pl)).toArray,_,_,Am 1 _ ho hd,qv hd _,?_,I1.iY (aq _) (I1.ah.fresh (aq _)),(g8 _ _ aO).trans hT,?_,?_⟩
 ·rw[Array.getElem?_setIfInBounds_self_of_lt (by lia)]
 ·rw[<- gU]
 ·simp
theorem K_(hA:A.frames=some (X.env::X.outer))(pP:X.stack=X.env::X.outer)(hf:X.env.frame=some X.env.locals)(I:Inv X pins σ H s)(he:H e=some (.ext (XO e C d)))(x:HV X pins H s.heap e)
  (h:∀h',Inv X pins σ H { s with heap:=h' }->vV X pins H h' e (rawInt X.env.locals)->Q () { s with heap:=h' }):wpAny M A (noteFrame (.ref e) X.env) Q E s:=by
 unfold noteFrame;simp only[hf];rcases x with⟨oe,vs,ho,hd,h1⟩|⟨T,oT,ts,oe,vs,ho,hd,h1,fT,hT,c9,h3⟩
 ·refine ae (s_ ho hd h1 ?_);rw[ag (by decide)];exact J7 hA pP hf I he h
 ·refine ae (s_ ho hd h1 ?_);rw[ai (show(Value.ref T != Value.none)=true by simp)];refine ae (s_ hT c9 h3 ?_);rw[ag (show ¬ ((Value.none == rawInt X.env.locals)=true) by simp[rawInt])];refine ae (qA hT c9 (mz.mp h3).1 ?_);obtain⟨f0,f1,f2,f3,f4,f5⟩:=fT;have I1:=I.turned (t':=s.toks) (h':=s.heap.update T (Obj.mapFields (·.setIfInBounds 3 Value.none))) (λb u hb q=>(g8 _ _ (eu hb)).trans q) f0 f1 f3 f4 f5;exact J7 hA pP hf I1 he h
theorem Ks{fl:Value}(I:Inv X pins σ H s)(he:H e=some (.ext (XO e C d)))(x:vV X pins H s.heap e fl)
  (h:∀h',Inv X pins σ H { s with heap:=h' }->vV X pins H h' e .none->Q () { s with heap:=h' }):wpAny M A (setFlight (.ref e) none) Q E s:=by
 obtain⟨T,oT,ts,oe,vs,ho,hd,h1,fT,hT,c9,h3⟩:=x;unfold setFlight;refine ae (s_ ho hd h1 ?_);rw[ai (show(Value.ref T != Value.none)=true by simp)];refine qA hT c9 (mz.mp h3).1 ?_;obtain⟨f0,f1,f2,f3,f4,f5⟩:=id fT;have aO:T≠e:=λz=>by subst z;rw[f0] at he;cases he
 refine h _ (I.turned (t':=s.toks) (λb u hb q=>(g8 _ _ (eu hb)).trans q) f0 f1 f3 f4 f5) ⟨T,_,_,oe,vs,(g8 _ _ aO).trans ho,hd,h1,fT,Am 3 _ hT c9,qv c9 _,?_⟩;rw[Array.getElem?_setIfInBounds_self_of_lt (mz.mp h3).1];rfl
abbrev lC:=St->XK
def j6(P:Program)(w:World):js:=λouter H s E ev s'=>∃(e:Addr)(C:Value)(d:Option Addr)(H':Hp),ev=.ref e/\s'.os=s.os/\AllBare s'.gens/\Un (gj outer) [] H H' s.heap s'.heap/\a9 P w H' s'.heap /\
 H' e=some (.ext (XO e C d))/\s.heap.objs.size<=e/\(∃T oT ts oe vs,s'.heap.get? e=some oe/\oe.data=.fields vs/\vs[1]?= some (.ref T)/\H' T=none/\s.heap.objs.size<=T/\s'.heap.get? T=some oT/\oT.data=.fields ts/\ts[3]?= some .none)/\E C d H'
def uo(X:Cx)(E:lC):Prop := ∀(pins:List (Addr×Obj))(σ : St)(H:Hp)(s:Shared)(e:Addr)(C:Value)(d:Option Addr),Inv X pins σ H s->H e=some (.ext (XO e C d))->(X.ex=[]->X.cO.heap.objs.size<=e)->HV X pins H s.heap e->E σ C d H->X.xe (.ref e) s
variable{mg:Str->Option Value}{base:Heap}{N:List Str}{qual:Str}{f:Addr}
theorem JR{cd:Value}{outer:List Env}{E:XK} :
  uo (lQ (j6 P w) P w K mg base N qual scope f cd A outer s H E) (λ_=>E):=by
 intro pins σ H1 s1 e C d I he hy x hE;show wpAny _ _ (leaving _ _) _ _ s1;unfold leaving;refine ae (K_ (X:=lQ (j6 P w) P w K mg base N qual scope f cd A outer s H E) I.ok.frames rfl rfl I he x λh2 I2 x2=>Ks I2 he x2 λh3 I3 x3=>?_);obtain⟨T,oT,ts,oe,vs,ho,hd,h1,fT,hT,c9,fW⟩:=x3;refine⟨e,C,d,H1,rfl,I3.os,I3.bare,I3.base,I3.ah,he,hy rfl,⟨T,oT,ts,oe,vs,ho,hd,h1,fT.1,?_,hT,c9,fW⟩,hE⟩;rcases fT.2.2.2.1 with z|z
 ·exact absurd z (by show T∉([]:List Addr);simp)
 ·exact z
theorem Rj{E:lC}(hT:uo X E){pins:List (Addr×Obj)}{σ : St}{H:Hp}{s s':Shared}{ev:Value}(I:Inv X pins σ H s)(h:j6 X.prog X.w X.stack H s (E σ) ev s'):X.xe ev s':=by
 obtain⟨e,C,d,H',rfl,os,bare,un,ah,he,gR,⟨T,oT,ts,oe,vs,ho,hd,h1,Ye,AX,vG,c9,h3⟩,hE⟩:=h;have I1:=I.zp (ch:=[]) os un ah bare (λb z=>absurd z (by simp));exact hT pins σ H' s' e C d I1 he (λ_=>bD I.sz gR) (.inr ⟨T,oT,ts,oe,vs,ho,hd,h1,I.iY AX Ye,vG,c9,h3⟩) hE
structure vL(P:Program)(w:World)(K:PySem.W.Frag)(mg:Str->Option Value)(base:Heap)(x:Str)(ps:List Str)(k:Nat)(sp:Sp):Prop where
 ex:∃(f:Addr)(fd:FuncData),aX P w K mg base (j6 P w) k f fd ps sp/\Binds K fd ps []/\PySem.W.keepIn K (.ref f)=true/\mg x=some (.ref f)
def UH(sp:Sp)(E:lC)(t:TA):TE:=λσ H Q=>t σ H λvs H1=>sp vs H1 Q (E σ)
section
variable{X:Cx}{j k:Nat}{f:Addr}{fd:FuncData}{ps:List Str}{sp:Sp}{E:lC}{x:Str}{p pos:Pos}{e:Expr}{es:List Expr}{t:TA}
theorem Ug{pins:List (Addr×Obj)}{σ : St}{H:Hp}{s:Shared}{Q:VK}{us:List Value}{vs:List V}(F:aX X.prog X.w X.K X.mg X.base (j6 X.prog X.w) k f fd ps sp)(hr:bj k X.A)(hb:Binds X.K fd ps [])(hT:uo X E)
  (I:Inv X pins σ H s) (r:Vals vs us) (h:sp vs H Q (E σ)):wpAny (model X.prog X.w) X.A (call (.ref f) us) (EP X pins σ Q) X.xe s:=by
 have hl:us.length=ps.length:=by rw[<- r.length];exact F.len _ _ _ _ h
 have A0:=hb s us I.bK (by rw[gE];exact hl);rw[gE] at A0;refine wpAny_call (ow (F.run X.A X.stack s H ⟨us,[]⟩ us vs Q (E σ) hr I.Eu A0 r h) λr s' hq=>?_);cases r with
 | error e=>exact Rj hT I hq
 | ok fl =>
  cases fl with
  | ret u=>exact I.after hq
  | next=>exact False.elim hq
  | brk=>exact False.elim hq
  | cont=>exact False.elim hq
theorem KN(G:vL X.prog X.w X.K X.mg X.base x ps j sp)(hT:uo X E)(hr:bj k X.A)(hg:Gl X x)(ha:PA X (e::es) t)(hk:j<=k:=by decide)(du:(x == ("__debug__" : Str))=false:=by decide)
  (he:starEach (e::es) X.env=(false,eval e X.env)::starEach es X.env:=by rfl) (aA:(backTo pos (starEach es X.env)).any (·.1)=false:=by rfl) :
  PE X (.Call (.Name x p) (e::es) [] pos) (UH sp E t):=by
 obtain⟨f,fd,F,b,kp,m⟩:=G.ex;intro pins s σ H Q I h;refine mK (wG I hg m ?_ du);refine zc (h₀ := X.base) I.ok.mod.so kp (ap (ha pos pins s σ H _ I h) λus s1 ⟨vs,H1,I1,r,q⟩=>⟨I1.bK,?_⟩) he aA;exact Ug (F.room hk) hr b hT I1 r q
end
theorem bR.okX{x:Str}{st:Stmt}{fd:FuncData}{ps:List Str}{k:Nat}{sp:Sp}(F:bR K x qual st f fd)(S:cV N ps (Zn st))(len:∀vs H Q E,sp vs H Q E->vs.length=ps.length)
  (ny:∀(aP:Value)(A:Around)(outer:List Env)(s:Shared)(H:Hp)(vs:List V)(Q:VK)(E:XK),bj k (A.deeper (envOfC qual (Zn st) s.heap.objs.size f aP))->sp vs H Q E ->
   ∃t,cF (lQ (j6 P w) P w K mg base N qual (Zn st) f aP A outer s H E) (Zf st) t/\t { nx:=λ_ H'=>Q .aG H',rt:=Q } (start N vs) H):aX P w K mg base (j6 P w) (k+1) f fd ps sp:=by
 obtain⟨oc,od,kV,doc,pm,an,aP,ct,mn,rfl,lk,eF⟩:=F.ex;exact Ea lk eF S len λA outer s H vs Q E hr iF=>ny aP A outer s H vs Q E hr iF
structure tK(K:PySem.W.Frag)(D:Addr):Prop where
 cl:PySem.W.isClsIn K D=true
 exc:PySem.W.mroIn K D (.type "BaseException")=some true
 nt:PySem.W.instIn K (.ref D) (.type "tuple")=some false
inductive Spec(K:PySem.W.Frag)(H:Hp):V->List Addr->Prop
 | one {D:Addr}:tK K D->Spec K H (.ref D) [D]
 | many {p:Addr} {Ds:List Addr}:ar K H p (Ds.map V.ref)->(∀D∈Ds,tK K D)->Spec K H (.ref p) Ds
theorem Jv:∀{Ds:List Addr}{us:List Value},Vals (Ds.map V.ref) us->us=Ds.map Value.ref
 | [],_,.nil=>rfl
 | D::Ds,_,.cons r t=>by
  rw[Jv t];obtain rfl:_=Value.ref D:=r;rfl
variable{D:Addr}
theorem tK.isExc(x:tK K D)(X:K.In s.heap){Q:Bool->Shared->Prop}(h:Q true s):wpAny M A (isExcClass (.ref D)) Q E s:=by
 have hc:=x.cl;unfold PySem.W.isClsIn PySem.W.clsIn at hc
 split at hc
 ·rename_i ho
  unfold isExcClass;refine ae ?_;show wpAny M A (loadHead D >>= _) _ _ s;refine ae (wpAny_loadPart (X _ _ ho) (af ?_));dsimp only;rw[if_pos rfl];exact(PySem.W.looks_mroIn X x.exc).here h
 ·cases hc
theorem DV{g:Value->PUnit->Sem (ForInStep PUnit)}:∀(Ls:List Addr),(∀D∈Ls,∀{Q:ForInStep PUnit->Shared->Prop},Q (.yield PUnit.unit) s->wpAny M A (g (.ref D) PUnit.unit) Q E s)->∀{Q:PUnit->Shared->Prop},Q PUnit.unit s->wpAny M A (forIn (Ls.map Value.ref) PUnit.unit g) Q E s
 | [],_,_,h=>af h
 | D::Ls,hg,_,h=>by
  rw[cu,qr];exact ae (hg D (aU ..) (DV Ls (λy hy=>hg y (aR _ hy)) h))
theorem D7{f:Addr->Bool}{g:Value->Option Bool×Unit->Sem (ForInStep (Option Bool×Unit))}:∀(Ls:List Addr),(∀D∈Ls,∀{Q:ForInStep (Option Bool×Unit)->Shared->Prop},Q (if f D=true then .done (some true,()) else .yield (none,())) s->wpAny M A (g (.ref D) (none,())) Q E s) ->
  ∀{Q:Option Bool×Unit->Shared->Prop},Q (if Ls.any f=true then some true else none,()) s->wpAny M A (forIn (Ls.map Value.ref) ((none,()):Option Bool×Unit) g) Q E s
 | [],_,_,h=>af h
 | D::Ls,hg,_,h=>by
  rw[cu,qr];rw[vh] at h;refine ae (hg D (aU ..) ?_);cases hf:f D with
  | true =>
   rw[hf] at h;exact af h
  | false =>
   rw[hf] at h;exact D7 Ls (λy hy=>hg y (aR _ hy)) h
variable{oe:Obj}
theorem Vm{f:Addr->Bool}{C:Addr}{Q:Bool->Shared->Prop}{v:V}{u:Value}{Ds:List Addr}(I:Inv X pins σ H s)(hv:Spec X.K H v Ds)(r:RelV v u)(he:s.heap.get? e=some oe)(hc:oe.cls=.ref C)
  (hb:∀D∈Ds,PySem.W.mroIn X.K C (.ref D)=some (f D)) (h:Q (Ds.any f) s):wpAny M A (excMatches (.ref e) u) Q E s:=by
 cases hv with
 | @one D hD =>
  obtain rfl:u=Value.ref D:=r;unfold excMatches;refine ae ((PySem.W.looks_instIn I.bK hD.nt).here ?_);dsimp only;rw[if_neg Bool.false_ne_true];refine ae (af ?_);refine ae (DV [D] (λy hy {Q} q=>?_) (ae (wpAny_typeOf_ref he (ae (D7 (f:=f) [D] (λy hy {Q} q=>?_) ?_)))))
  ·obtain rfl:=az.mp hy;exact ae (hD.isExc I.bK (af q))
  ·rw[hc];refine ae ((PySem.W.looks_mroIn I.bK (hb y hy)).here ?_);cases hf:f y with
   | true=>rw[hf] at q;exact af q
   | false=>rw[hf] at q;exact af q
  ·cases hf:[D].any f with
   | true=>rw[hf] at h;exact af h
   | false=>rw[hf] at h;exact af h
 | @many p _ hp hD =>
  obtain rfl:u=Value.ref p:=r;obtain⟨its,rv,⟨o,ho,bu,n,hd⟩,_⟩:=I.tuple hp;unfold excMatches;refine ae (oy (T := "tuple") ⟨o,ho,bu⟩ (show isSubtype (.type "tuple") (.type "tuple")=pure true by rw[isSubtype_type];kernel_rfl) ?_);dsimp only;rw[if_pos rfl];refine ae (oA ho hd (ae (af ?_)));have e1:((some its.toArray).getD #[]).toList=Ds.map Value.ref:=by
   rw[<- Jv rv];rfl
  rw[e1];refine ae (DV Ds (λy hy {Q} q=>?_) (ae (wpAny_typeOf_ref he (ae (D7 (f:=f) Ds (λy hy {Q} q=>?_) ?_)))))
  ·exact ae ((hD y hy).isExc I.bK (af q))
  ·rw[hc];refine ae ((PySem.W.looks_mroIn I.bK (hb y hy)).here ?_);cases hf:f y with
   | true=>rw[hf] at q;exact af q
   | false=>rw[hf] at q;exact af q
  ·cases hf:Ds.any f with
   | true=>rw[hf] at h;exact af h
   | false=>rw[hf] at h;exact af h
abbrev Cx.tr(X:Cx)(pins:List (Addr×Obj))(E:Value->Shared->Prop):Cx:={ X with pn:=X.pn++pins,xe:=E }
abbrev Cx.hd(X:Cx)(e:Addr):Cx:={ X with A:=X.A.mark (some (.ref e)),calm:=false,xe:=λ_ _=>False }
theorem Inv.tr(I:Inv X pins σ H s)(E:Value->Shared->Prop):Inv (X.tr pins E) [] σ H s :=
 ⟨⟨I.ok.mod,I.ok.kind,I.ok.glob,I.ok.blt,I.ok.above,I.ok.inj,I.ok.has,I.ok.ko,I.ok.hd,I.ok.frames,I.ok.mw,I.ok.jH,I.ok.bs,I.ok.gh,I.ok.kK,I.ok.jI,I.ok.fj,I.ok.iZ⟩,I.os,I.bare,I.base,I.loc,I.cell,I.free,I.ee,λp hp=>I.pin p (by simpa using hp),I.ah,I.len⟩
variable{oG:List (Addr×Obj)}
theorem Inv.jU(I:Inv (X.tr pins E) oG σ H s):Inv X pins σ H s :=
 ⟨⟨I.ok.mod,I.ok.kind,I.ok.glob,I.ok.blt,I.ok.above,I.ok.inj,I.ok.has,I.ok.ko,I.ok.hd,I.ok.frames,I.ok.mw,I.ok.jH,I.ok.bs,I.ok.gh,I.ok.kK,I.ok.jI,I.ok.fj,I.ok.iZ⟩,I.os,I.bare,I.base,I.loc,I.cell,I.free,I.ee,λp hp=>I.pin p (dy _ hp),I.ah,I.len⟩
theorem bt.jU(f:bt (X.tr pins E) oG H T):bt X pins H T:=⟨f.1,f.2.1,f.2.2.1,f.2.2.2.1,f.2.2.2.2.1,λp hp=>f.2.2.2.2.2 p (dy _ hp)⟩
theorem Inv.hd(I:Inv X pins σ H s)(e:Addr):Inv (X.hd e) pins σ H s :=
 ⟨⟨I.ok.mod,I.ok.kind,I.ok.glob,I.ok.blt,I.ok.above,I.ok.inj,I.ok.has,I.ok.ko,(λz=>nomatch z),I.ok.frames,I.ok.mw,I.ok.jH,I.ok.bs,I.ok.gh,I.ok.kK,I.ok.jI,I.ok.fj,I.ok.iZ⟩,I.os,I.bare,I.base,I.loc,I.cell,I.free,I.ee,I.pin,I.ah,I.len⟩
theorem Inv.yJ(I:Inv (X.hd e) pins σ H s)(ok:X.Ok):Inv X pins σ H s:=⟨ok,I.os,I.bare,I.base,I.loc,I.cell,I.free,I.ee,I.pin,I.ah,I.len⟩
theorem Inv.WW{p:Addr×Obj}(I:Inv X (p::pins) σ H s):Inv X pins σ H s:=I.yu λq hq=>I.pin q (bO _ (aR _ hq))
theorem SP.jU{D:Ends}{f:Flow}{s':Shared}(h:SP (X.tr pins E) oG D f s'):SP X pins D f s':=by
 cases f with
 | next=>obtain⟨ao,H',I,q⟩:=h;exact⟨ao,H',I.jU,q⟩
 | brk=>obtain⟨ao,H',I,q⟩:=h;exact⟨ao,H',I.jU,q⟩
 | cont=>obtain⟨ao,H',I,q⟩:=h;exact⟨ao,H',I.jU,q⟩
 | ret u=>obtain⟨v,ao,H',I,r,q⟩:=h;exact⟨v,ao,H',I.jU,r,q⟩
def Known(e:Addr)(oe:Obj):HO:=.ext λh=>h.get? e=some oe
theorem Tw(x:h.get? e=some oe):ZL P w H h e (Known e oe):=⟨x,⟨oe,x⟩,λ_ _ p k=>k _ p⟩
abbrev CG:=Ends->St->Hp->Addr->Obj->Prop
def PH(X:Cx)(hs:List ExceptHandler)(t:CG):Prop := ∀(pins:List (Addr×Obj))(s:Shared)(σ : St)(H:Hp)(D:Ends)(e:Addr)(oe:Obj)(T:Addr)(oT:Obj)(ts vs:Array Value),
 Inv X ((T,oT)::pins) σ H s->bt X pins H T->oe.data=.fields vs->vs[1]?= some (.ref T)->oT.data=.fields ts->ts[3]?= some .none->H e=some (Known e oe)->t D σ H e oe ->
 wpAny (model X.prog X.w) X.A (handleBy (.ref e) X.env hs) (SP X pins D) X.xe s
def Wb(tb:lC->TS)(th:CG):TS:=λD σ H=>∃E:lC,tb E D σ H/\∀(ao:St)(C:Value)(d:Option Addr)(H':Hp)(e:Addr)(oe:Obj),E ao C d H'->H' e=some (.ext (XO e C d))->oe.cls=C->oe.dict=d->(∃vs,oe.data=.fields vs)->th D ao (upd H' e (Known e oe)) e oe
section
variable{X:Cx}{body:List Stmt}{h₀ : ExceptHandler}{hs rest:List ExceptHandler}{tb:lC->TS}{th tr:CG}{pos:Pos}
theorem UG(pP:X.stack=X.env::X.outer)(hf:X.env.frame=some X.env.locals)
  (hb:∀(E:lC)(pins:List (Addr×Obj))(zF : Value->Shared->Prop),uo (X.tr pins zF) E->PassesOwn (model X.prog X.w) X.A X.env zF -> cF (X.tr pins zF) body (tb E)) (hh:PH X (h₀ :: hs) th):PS X (.Try body (h₀ :: hs) [] [] pos) (Wb tb th):=by
 intro pins s σ H D I h;obtain⟨E,h1,h2⟩:=h;refine wpAny_Try_except ?_;refine cw (hb E pins _ ?_ PassesOwn.looking [] s σ H D (I.tr _) h1) (λf s1 q=>?_) λe s1 q=>q
 ·intro oG ao H' s1 e C d I1 he hy x hE;refine K_ (X:=X.tr pins _) (by rw[I.ok.frames,pP]) pP hf I1 he x λh_ I2 x2=>Ks I2 he x2 λh3 I3 x3=>?_;obtain⟨T,oT,ts,oe,vs,ho,hd,NY,fT,hT,c9,fW⟩:=x3;obtain⟨oe',zD,bN,hc,l5,_⟩:=I3.xo he;rw[ho] at bN;cases bN;have I4:=I3.jU;have I5:=I4.write (x:=e) (e:=e) (o:=Known e oe) (t':=s1.toks) (h':=h3) (by rw[he];trivial) (.inl rfl) (λb u _ z=>z) ⟨oe,ho⟩ (Tw ho);have Ca:=fT.jU;have aO:T≠e:=λz=>by subst z;rw[Ca.1] at he;cases he
  have AM:bt X pins (upd H' e (Known e oe)) T:=⟨by rw[Zc aO];exact Ca.1,Ca.2⟩;have I6:Inv X ((T,oT)::pins) ao (upd H' e (Known e oe)) { s1 with heap:=h3 }:=I5.yu λp hp=>by
   rcases aJ.mp hp with rfl|hp
   ·exact⟨hT,AM.1,AM.2.1,AM.2.2.1,λv z=>by rw[c9] at z;cases z⟩
   ·exact I5.pin p (bO _ hp)
  exact hh pins _ ao _ D e oe T oT ts vs I6 AM hd NY c9 fW Za (h2 ao C d H' e oe hE he hc l5 ⟨vs,hd⟩)
 ·cases f with
  | next =>
   obtain⟨ao,H',I',q⟩:=q;exact wpAny_execs_nil ⟨ao,H',I'.jU,q⟩
  | brk=>exact SP.jU q
  | cont=>exact SP.jU q
  | ret u=>exact SP.jU q
theorem Qm{M:Model}{A:Around}{E:Value->Shared->Prop}{s:Shared}{e T:Addr}{oe oT:Obj}{vs ts:Array Value}{Q:Unit->Shared->Prop}(ho:s.heap.get? e=some oe)(hd:oe.data=.fields vs)(h1:vs[1]?= some (.ref T))(hT:s.heap.get? T=some oT)(c9:oT.data=.fields ts)(h3:ts[3]?= some .none)(h:Q () s) :
  wpAny M A (setFlight (.ref e) none) Q E s:=by
 unfold setFlight;refine ae (s_ ho hd h1 ?_);rw[ai (show(Value.ref T != Value.none)=true by simp)];refine qA hT c9 (mz.mp h3).1 ?_;show Q () { s with heap:=s.heap.update T (Obj.mapFields (·.setIfInBounds 3 Value.none)) };rw[Heap.update_setField_same s.heap T oT ts 3 .none hT c9 h3];exact h
theorem VL{t:Expr}{Me : Stmt}{sb:List Stmt}{tt:TE}{tu:TS}(ht:∀e,PE (X.hd e) t tt)(hs:∀e,cF (X.hd e) (Me :: sb) tu):PH X (.ExceptHandler (some t) none (Me :: sb) pos::rest)
  (λD σ H e oe=>tt σ H λv H1=>∃Ds C f,Spec X.K H1 v Ds/\oe.cls=.ref C/\(∀D∈Ds,PySem.W.mroIn X.K C (.ref D)=some (f D))/\Ds.any f=true/\H1 e=some (Known e oe)/\tu D σ H1):=by
 intro pins s σ H D e oe T oT ts vs I fT hd h1 c9 h3 he h;refine wpAny_handleBy_cons (codeAny_handlers_test (cw ((ht e) ((T,oT)::pins) s σ H _ (I.hd e) h) (λu s1 q=>?_) λ_ _ z=>z.elim)) (by intro z;cases z);obtain⟨v,H1,I1,r,Ds,C,f,iF,hc,hb,Yj,dO,q⟩:=q;have zk:=I1.yJ I.ok;have NB:=(zk.ah e _ dO).1;refine Vm (f:=f) zk iF r NB hc hb ?_;rw[Yj];refine codeAny_handlers_suite ?_;have Yf:=(zk.pin (T,oT) (bO _ (aU ..))).1;refine Qm NB hd h1 Yf c9 h3 ?_;refine cw ((hs e) pins s1 _ H1 D (zk.WW.hd e) q) (λfl s3 q3=>?_) λ_ _ z=>z.elim;cases fl with
 | next=>obtain⟨ao,H',I3,q3⟩:=q3;exact⟨ao,H',I3.yJ I.ok,q3⟩
 | brk=>obtain⟨ao,H',I3,q3⟩:=q3;exact⟨ao,H',I3.yJ I.ok,q3⟩
 | cont=>obtain⟨ao,H',I3,q3⟩:=q3;exact⟨ao,H',I3.yJ I.ok,q3⟩
 | ret u=>obtain⟨v3,ao,H',I3,r3,q3⟩:=q3;exact⟨v3,ao,H',I3.yJ I.ok,r3,q3⟩
end
end L2
namespace L2
open PySem PySem.Spec PyProof.Rows PySem.W
abbrev xa:List Value:=[.type "ValueError",.type "Exception",.type "BaseException",.type "object"]
def keysOk(es:Array DictEntry):Bool:=es.toList.all λe=>match e.key with | .str _ _=>true|_=>false
structure CJ(K:Frag)(G:Addr):Prop where
 ob:∃c0 dd cd sl oc od es ep zC,K.lookup G=some ⟨c0,dd,.cls cd,sl⟩/\K.lookup cd.ns=some ⟨oc,od,.dict es ep,zC⟩/\keysOk es=true/\nsIn K cd.ns "__init__" = some none
structure qR(K:Frag)(C G:Addr):Prop where
 ob:∃nm q N bs uE sn sub ab col dd k0 k1 k2 k3 k5,K.lookup C=some (excClassObj nm q C N bs (.ref G::xa) uE sn sub ab col dd k0 k1 k2 k3 k5 "ValueError.__new__")
 mid:CJ K G
 call:specialIn K (.ref C) "__call__" = some (some (.builtin "type.__call__"))
 typ:instIn K (.ref C) (.type "type")=some true
 kp:keepIn K (.ref C)=true
variable{K:Frag}{G:Addr}
theorem CJ.tail{h:Heap}(x:CJ K G)(X:K.In h):OwnTail h xa (.ref G::xa):=by
 obtain⟨c0,dd,cd,sl,oc,od,es,ep,zC,h1,h2,h3,h4⟩:=x.ob;have i9:h.isNs cd.ns=true:=by
  unfold Heap.isNs;rw[X _ _ h2];have h5:=h3;unfold keysOk at h5;rw[Array.all_toList] at h5;exact h5
 have hN:=Heap.Ns.of_isNs i9;exact .own (X _ _ h1) hN (ns_none_of X hN h4) .base
theorem qR.mro{K:Frag}{C G:Addr}(x:qR K C G):∃cd,clsIn K C=some cd/\cd.mro=.ref C :: .ref G::xa:=by
 obtain⟨nm,q,N,bs,uE,sn,sub,ab,col,dd,k0,k1,k2,k3,k5,h1⟩:=x.ob;have e:clsIn K C=some { name:=nm,bases:=bs,mro:=.ref C :: .ref G::xa,ns:=N,qualname:=q,hasDict:=uE,slotNames:=sn,subclasses:=sub,abstract:=ab,collection:=col,hasDel:=false }:=by
  unfold clsIn;rw[h1]
 exact⟨_,e,rfl⟩
abbrev dH(C t:Addr):Obj:={ cls:=.ref C,data:=.fields #[.ref t,.none,.none,.none,.bool false,.none] }
abbrev Z5(vs:List Value):Obj:={ cls:=.type "tuple",data:=.seq vs.toArray }
variable{prog:Program}{w:World}{A:Around}{C:Addr}{R:Result->Shared->Prop}{s:Shared}{us:List Value}
theorem Ru{init:Value}(x:qR K C G)(X:K.In s.heap)(hi:findIn K (.ref C) "__init__" = some (some init)) (b0:∀self,Looks (model prog w) s.heap (bindSpecial init self) (init,[self])) (hl:us.length<=sizeLine)
  (hq:codeAny (model prog w) (A.under (.builtin "type.__call__" ⟨.ref C::us,[]⟩)) (.call init ⟨.ref (s.heap.objs.size+1)::us,[]⟩) (InitBack (s.heap.objs.size+1) R)
   { s with heap:=(s.heap.push (Z5 us)).push (dH C s.heap.objs.size) }) :
  codeAny (model prog w) A (.call (.ref C) ⟨us,[]⟩) R s:=by
 obtain⟨hh,g,d,t,os⟩:=s;obtain⟨nm,q,N,bs,uE,sn,sub,ab,col,dd,k0,k1,k2,k3,k5,hK⟩:=x.ob;have hC:=X _ _ hK;have T:=x.mid.tail X;have call:=looks_specialIn (M:=model prog w) X x.call;have typ:=looks_instIn (M:=model prog w) X x.typ;have i0:=looks_findIn (M:=model prog w) X hi;refine codeAny_of_tree ?_;show wpAny _ _ (callAny (.ref C) _) _ _ _;refine nd_load hC ?_;show wpAny _ _ (callAny.viaDunder (.ref C) _) _ _ _;unfold callAny.viaDunder;refine ae (call.at ?_);dsimp only;rw[tc_bind];refine ae (af (ae (af ?_)));refine af (a:=Fin.again (.call (.builtin "type.__call__") ⟨.ref C::us,[]⟩)) ⟨rfl,?_⟩;refine codeAny_call_builtin_at (yP _ (by decide +kernel)) entry_typeCall (check_slot tc_kind tc_split typ (tc_args _ _ _) ?_)
 repeat (first|with_reducible refine wpAny_loadPart_at hC ?_|with_reducible refine wpAny_madeBy_exc hC ?_|wp_step)
 refine codeAny_call_builtin_code (yP _ F.excBase_ValueError.quiet) (wpAny_check_new_subT F.excBase_ValueError T hC (codeAny_exc_new_subT F.excBase_ValueError T hC ?_ hl));show wpAny _ _ _ _ _ _;have k:∀b o,hh.get? b=some o->((hh.push (Z5 us)).push (dH C hh.objs.size)).get? b=some o:=λb o e=>ax _ (ax _ e);have hx:((hh.push (Z5 us)).push (dH C hh.objs.size)).get? (hh.objs.size+1)=some (dH C hh.objs.size):=by heap_get
 have t1:Looks (model prog w) ((hh.push (Z5 us)).push (dH C hh.objs.size)) (typeOf (.ref (hh.objs.size+1))) (.ref C):=(Looks.ld hx).andThen .now;have s1:Looks (model prog w) ((hh.push (Z5 us)).push (dH C hh.objs.size)) (isSubtype (.ref C) (.ref C)) true:=by
  obtain⟨cd,hc,hm⟩:=x.mro;refine(looks_mroIn X ?_).keeps k;unfold mroIn;rw[hc,Option.bind_some,hm];simp
 have i1:=i0.keeps k;have b1:=(b0 (.ref (hh.objs.size+1))).keeps k;unfold isInstance callSpecial? specialOf
 repeat (first|with_reducible refine wpAny_call ?_|lk)
 refine ow hq λr s' z=>?_;rcases r with e|(v|_|_|_) <;> first|exact z|exact z.elim|skip
 obtain⟨rfl,z⟩:=z;exact af (af z)
def V2(x:Addr)(C:Value)(d:Option Addr):Heap->Prop:=λh=>∃ox vs t,h.get? x=some ox/\ox.cls=C/\ox.dict=d/\ox.data=.fields vs/\4<vs.size/\vs[0]?= some (.ref t)/\vs[1]?= some .none
theorem Ts{M:Model}{E:Value->Shared->Prop}{env:Env}{x0:Sem Value}{Q:Flow->Shared->Prop}(hh:A.handled=none)(y:qR K C G)
  (h:wpAny M A x0 (λv s1=>∃x d,v=.ref x/\K.In s1.heap/\V2 x (.ref C) d s1.heap/\E (.ref x) s1) E s):wpAny M A (raiseStmt env (some x0) none) Q E s:=by
 unfold raiseStmt;refine ae (cw h (λv s1 q=>?_) λ_ _ z=>z);obtain⟨x,d,rfl,X,⟨ox,vs,t,ho,hc,hd,hf,hz,h0,h1⟩,hE⟩:=q;obtain⟨cd,eF,NA⟩:=y.mro;have ty:Looks M s1.heap (typeOf (.ref x)) (.ref C):=hc ▸ (Looks.ld ho).andThen .now;have isb:Looks M s1.heap (isInstance (.ref x) (.type "BaseException")) true:=ty.andThen (looks_mroIn X (by unfold mroIn;rw[eF,Option.bind_some,NA];rfl));have nt:Looks M s1.heap (isType (.ref x)) false:=by
  intro A' Q' E' s' k q;unfold isType loadHead;refine ae (wpAny_loadPart (k _ _ ho) ?_);rw[hf];exact af q
 obtain⟨nm,q,N,bs,uE,sn,sub,ab,col,dd,k0,k1,k2,k3,k5,hK⟩:=y.ob;have tt:Looks M s1.heap (typeOf (.ref C)) (.type "type"):=(Looks.ld (X _ _ hK)).andThen .now;refine ae (af (ae (dC ?_)));unfold excFromValue isExcClass;refine ae (ae (nt.here ?_));rw[ag dW];refine af ?_;rw[ag dW];refine ae (isb.here ?_);rw[ai rfl];refine af ?_;refine ae (nt.here ?_);rw[ag dW];unfold raisedInstance;refine ae (ae (ty.here (ae (tt.here ?_))));rw[ai (by decide)];refine af ?_;unfold setFlight;refine ae (ae (s_ ho hf h1 ?_));rw[ag (by decide)];exact af (wpAny_raiseNew_none hh hE)
structure PQ(K:Frag)(G:Addr):Prop where
 ga:specialIn K (.ref G) "__getattribute__" = some (some (.builtin "type.__getattribute__"))
 rd:readsIn K G (.type "type")=true
 fi:findCls K (.ref G) (.type "type") "__init__" = some (.val (.builtin "ValueError.__init__"))
theorem VF(x:qR K C G)(X:K.In s.heap)(hi:findIn K (.ref C) "__init__" = some (some (.builtin "ValueError.__init__"))) (hl:us.length<=sizeLine)
  (hq:R (.ok (.ret (.ref (s.heap.objs.size+1)))) { s with heap:=(((s.heap.push (Z5 us)).push (dH C s.heap.objs.size)).push (Z5 us)).update (s.heap.objs.size+1) (Obj.mapFields (·.setIfInBounds 0 (.ref (s.heap.objs.size+2)))) }) :
  codeAny (model prog w) A (.call (.ref C) ⟨us,[]⟩) R s:=by
 have F0:=F.excBase_ValueError;refine Ru x X hi (λself=>Looks.of_pure (F0.init.bind self)) hl ?_;obtain⟨hh,g,d,tk,os⟩:=s;obtain⟨nm,q,N,bs,uE,sn,sub,ab,col,dd,k0,k1,k2,k3,k5,hK⟩:=x.ob;have k:∀b o,hh.get? b=some o->((hh.push (Z5 us)).push (dH C hh.objs.size)).get? b=some o:=λb o e=>ax _ (ax _ e);have hx:((hh.push (Z5 us)).push (dH C hh.objs.size)).get? (hh.objs.size+1)=some (dH C hh.objs.size):=by heap_get
 have X2:=X.keeps k;refine codeAny_call_builtin F0.init.plain F0.initEntry (wpAny_check_init_subT F0 (x.mid.tail X2) (X2 _ _ hK) hx rfl ?_);have kG:(((hh.push (Z5 us)).push (dH C hh.objs.size)).push (Z5 us)).get? (hh.objs.size+1)=some (dH C hh.objs.size):=ax _ hx;unfold Builtin.«BaseException.__init__»;refine ae (wpAny_newTuple ?_ hl);unfold Builtin.BaseException.bexcPut;refine ae (ae (s_ (s:=⟨((hh.push (Z5 us)).push (dH C hh.objs.size)).push (Z5 us),g,d,tk,os⟩) kG rfl (x:=.ref hh.objs.size) rfl (ae (qA (s:=⟨((hh.push (Z5 us)).push (dH C hh.objs.size)).push (Z5 us),g,d,tk,os⟩) kG rfl (by simp) ?_))))
 wp_walk
 refine⟨rfl,?_⟩;have e2:((hh.push (Z5 us)).push (dH C hh.objs.size)).objs.size=hh.objs.size+2:=by rw[gD,gD]
 rw[<- e2] at hq;exact hq
def Uk(C:Addr)(E:lC)(t:TA):TS:=λ_ σ H=>t σ H λvs H1=>vs.length<=1000/\∀y,H1 y=none->E σ (.ref C) none (upd H1 y (.ext (XO y (.ref C) none)))
section
variable{X:Cx}{j k:Nat}{C G:Addr}{E:lC}{x:Str}{p pos bJ:Pos}{e:Expr}{es:List Expr}{t:TA}
theorem Sw(Z:qR X.K C G)(hi:findIn X.K (.ref C) "__init__" = some (some (.builtin "ValueError.__init__"))) (nm:X.mg x=some (.ref C)) (hT:uo X E) (hr:bj k X.A) (hg:Gl X x) (ha:PA X (e::es) t) (du:(x == ("__debug__" : Str))=false:=by decide)
  (he:starEach (e::es) X.env=(false,eval e X.env)::starEach es X.env:=by rfl) (aA:(backTo bJ (starEach es X.env)).any (·.1)=false:=by rfl) :
  PS X (.Raise (some (.Call (.Name x p) (e::es) [] bJ)) none pos) (Uk C E t):=by
 intro pins s σ H D I h;show wpAny _ _ (standAt pos >>= λ_=>raiseStmt X.env (some (eval (.Call (.Name x p) (e::es) [] bJ) X.env >>= λv=>standAt pos >>= λ_=>pure v)) none) _ _ s;refine ae (tj (Ts (hr.hd) Z (ae ?_)));refine mK (wG I hg nm ?_ du);refine zc (h₀ := X.base) I.ok.mod.so Z.kp (ap (ha bJ pins s σ H _ I h) λus s1 ⟨vs,H1,I1,r,hl,q⟩=>⟨I1.bK,?_⟩) he aA;have ZE:us.length<=sizeLine:=by rw[<- r.length];exact bD hl (by decide)
 have hy:H1 (s1.heap.objs.size+1)=none:=I1.ah.fresh (ot _);have hE:=q (s1.heap.objs.size+1) hy;refine wpAny_call (VF Z I1.bK hi ZE ?_);have hx:((s1.heap.push (Z5 us)).push (dH C s1.heap.objs.size)).get? (s1.heap.objs.size+1)=some (dH C s1.heap.objs.size):=by heap_get
 have kG:(((s1.heap.push (Z5 us)).push (dH C s1.heap.objs.size)).push (Z5 us)).get? (s1.heap.objs.size+1)=some (dH C s1.heap.objs.size):=ax _ hx;have I2:Inv X pins σ (upd H1 (s1.heap.objs.size+1) (.ext (XO (s1.heap.objs.size+1) (.ref C) none))) { s1 with heap:=(s1.heap.push (Z5 us)).push (dH C s1.heap.objs.size) }:=by
  have a:=I1.kept (t':=s1.toks) (h':=s1.heap.push (Z5 us)) λb u q=>ax _ q;exact a.laid (t':=s1.toks) (λb u q=>ax _ q) (by show(s1.heap.push (Z5 us)).objs.size<=_;rw[gD];exact aq _) (XO.Mw ⟨_,_,hx,rfl,rfl,rfl,by simp⟩)
 have I3:=I2.kept (t':=s1.toks) (h':=((s1.heap.push (Z5 us)).push (dH C s1.heap.objs.size)).push (Z5 us)) λb u q=>ax _ q;have I4:=I3.OE (t':=s1.toks) (h':=(((s1.heap.push (Z5 us)).push (dH C s1.heap.objs.size)).push (Z5 us)).update (s1.heap.objs.size+1) (Obj.mapFields (·.setIfInBounds 0 (.ref (s1.heap.objs.size+2))))) Za (λb u hb z=>(g8 _ _ (eu hb)).trans z) (XO.put ⟨_,_,kG,rfl,rfl,rfl,by simp⟩ 0 _);have Nk:=Am 0 (.ref (s1.heap.objs.size+2)) kG rfl;refine ae (tj (af ⟨_,none,rfl,I4.bK,⟨_,_,s1.heap.objs.size+2,Nk,rfl,rfl,rfl,by simp,rfl,rfl⟩,?_⟩));exact hT pins σ _ _ _ (.ref C) none I4 Za (λ_=>bD I1.sz (ot _)) (.inl ⟨_,_,Nk,rfl,rfl⟩) hE
end
variable{X:Cx}
end L2
namespace vS
open PySem PyProof.Rows
theorem JN{vs:List Value}{xs:Array Keyed}(h:xs.toList.Perm (pairsOf vs).toList):(xs.map (·.2)).toList.Perm vs:=by
 rw[yM];refine(h.map (·.2)).trans (List.Perm.of_eq ?_);rw[pairsOf_toList,show(λp:Keyed=>p.2)=Prod.snd from rfl,List.map_snd_zip (aq _)]
end vS
namespace L2
open PySem PySem.Spec PyProof.Rows
theorem RJ{us qI:List Value}(h:qI.Perm us):∀{vs:List V},Vals vs us->∃zD,zD.Perm vs/\Vals zD qI:=by
 induction h with
 | nil=>exact λr=>⟨_,mD _,r⟩
 | cons x _ ih =>
  intro vs r;cases r with
  | cons a t =>
   obtain⟨ws,p,r'⟩:=ih t;exact⟨_::ws,p.cons _,.cons a r'⟩
 | swap x y l =>
  intro vs r;cases r with
  | cons a t =>
   cases t with
   | cons b t=>exact⟨_,List.Perm.swap ..,.cons b (.cons a t)⟩
 | trans _ _ ih1 ih2 =>
  intro vs r;obtain⟨ws,p,r1⟩:=ih2 r;obtain⟨HG,p',r2⟩:=ih1 r1;exact⟨HG,p'.trans p,r2⟩
theorem wt:∀{vs:List V}{us:List Value},Vals vs us->∀u∈us,∃v∈vs,RelV v u
 | _,_,.cons a t,u,hu=>by
  rcases aJ.mp hu with rfl|hu
  ·exact⟨_,aU ..,a⟩
  ·obtain⟨v,hv,r⟩:=wt t u hu;exact⟨v,aR _ hv,r⟩
end L2
namespace L2
open PySem PySem.Spec PyProof.Rows PySem.W
def ff(h:Heap)(d:Addr)(es:Array DictEntry)(ep:Nat):Prop := ∃o,h.get? d=some o/\o.ExactDict/\o.data=.dict es ep
variable{s:Shared}{d:Addr}{es:Array DictEntry}{ep:Nat}
theorem ff.Hh(x:ff s.heap d es ep):s.TypeIs (.ref d) "dict" := let ⟨o,ho,hc,_⟩:=x;⟨o,ho,hc.1⟩
theorem ff.to{h h':Heap}(x:ff h d es ep)(e:∀o,h.get? d=some o->h'.get? d=some o):ff h' d es ep:=let ⟨o,ho,r⟩:=x;⟨o,e _ ho,r⟩
variable{prog:Program}{w:World}{A:Around}{E:Value->Shared->Prop}
theorem DB{Q:Value->Shared->Prop}(lo:(d == sysModules)=false)(x:ff s.heap d es ep)
  (q:Q (.ref s.heap.objs.size) { s with heap:=s.heap.push { cls:=.type "dict_keyiterator",data:=.fields #[.ref d,.int 0 0,.int es.size 0,.int ep 0] } }):wpAny (model prog w) A (pyIter (.ref d)) Q E s:=by
 obtain⟨o,ho,hx,cA⟩:=id x;have hT:=x.Hh;refine wpAny_pyIter_slot hT PySem.F.slot_dict_iter (mL PySem.F.slot_dict_iter hT PySem.F.entry_dict_iter ?_ (PySem.F.args_dict_iter_1 _));unfold Builtin.«dict.__iter__»;refine ae ?_;unfold Builtin.Dict.dictSlotNone;refine ae (wpAny_notOrdered_dict hT ?_);refine af (?_:wpAny _ _ (Builtin.Dict.showsAll d >>= _) _ _ s);unfold Builtin.Dict.showsAll;rw[ag (by rw[lo];exact dW)];refine ae (af (ae (vA ho cA (ae (wpAny_dictEpoch ho cA ?_)))));exact ae (mM (af ⟨_,rfl,"dict_keyiterator",_,⟨_,bo _ rfl,rfl⟩,za.lookup,q⟩))
variable{Q:Option Value->Shared->Prop}{it:Addr}{i:Nat}
theorem DD(st:s.heap.IsKeyIter it d i es.size ep)(x:ff s.heap d es ep)(hi:i<es.size)
  (q:∀h',h'.IsKeyIter it d (i+1) es.size ep->Heap.SameBut it s.heap h'->Q (some es[i].key) { s with heap:=h' }):wpAny (model prog w) A (pyNext (.ref it)) Q E s:=by
 obtain⟨o,ho,hc,hd⟩:=id st;obtain⟨od,xS,hxd,l5⟩:=id x;unfold pyNext;refine ae (wpAny_attempt (zd (name:=Str.ofString "__next__") st.typeIs za (mL za st.typeIs PySem.F.entry_dict_keyiterator_next ?_ (PySem.F.args_dict_keyiterator_next_1 _))));refine ae (af (ae (ae ?_)))
 first|refine ae (B7 st.typeIs (af (ae (vB ho hd ?_))))|refine ae (B8 st.typeIs (af (ae (vB ho hd ?_))))
 have own:Builtin.Dict_items.ownsTuple "dict_keyiterator" = false:=by decide
 simp only[own,eZ,dB];change wpAny _ _ (if(Value.ref d == Value.none)=true then _ else _) _ _ s
 rw[ag (λz:(Value.ref d == Value.none)=true=>dW z)];refine ae (af (ae (vA xS l5 ?_)));rw[ag (by simp)];refine ae (af (ae (wpAny_dictEpoch xS l5 ?_)));rw[ag (by simp)];refine af ?_;simp only[show ¬ ((i:Int)<0) by lia,dB,Int.toNat_natCast,gC hi];refine ae ?_;first|refine ae (B7 st.typeIs (af (ae (wpAny_isOneOf_keyiter st.typeIs ?_))))|refine ae (B8 st.typeIs (af (ae (wpAny_isOneOf_keyiter st.typeIs ?_))))
 change wpAny _ _ (setField (.ref it) 1 (rawInt ((i:Int)+1)) >>= _) _ _ s;refine ae (qA ho hd (by simp) ?_);have cT:(s.heap.update it (Obj.mapFields (·.setIfInBounds 1 (rawInt ((i:Int)+1))))).IsKeyIter it d (i+1) es.size ep:=⟨_,qj _ ho (Obj.isFreed_of_fields (qv hd _)),(Obj.cls_mapFields ..).trans hc,by rw[qv hd];simp[rawInt]⟩;refine ae (dC (ae (wpAny_isOneOf_keyiter (s:={ s with heap:=s.heap.update it (Obj.mapFields (·.setIfInBounds 1 (rawInt ((i:Int)+1)))) }) cT.typeIs ?_)));change wpAny _ _ (pure es[i].key) _ _ _;exact af (af ⟨_,rfl,af (q _ cT (mC ..))⟩)
theorem DE(hh:A.handled=none)(st:s.heap.IsKeyIter it d i es.size ep)(x:ff s.heap d es ep)(hi:es.size<=i)
  (q:∀h',Heap.ExtBut it s.heap h'->Q none { s with heap:=h' }):wpAny (model prog w) A (pyNext (.ref it)) Q E s:=by
 obtain⟨o,ho,hc,hd⟩:=id st;obtain⟨od,xS,hxd,l5⟩:=id x;unfold pyNext;refine ae (wpAny_attempt (zd (name:=Str.ofString "__next__") st.typeIs za (mL za st.typeIs PySem.F.entry_dict_keyiterator_next ?_ (PySem.F.args_dict_keyiterator_next_1 _))));refine ae (af (ae (ae ?_)))
 first|refine ae (B7 st.typeIs (af (ae (vB ho hd ?_))))|refine ae (B8 st.typeIs (af (ae (vB ho hd ?_))))
 have own:Builtin.Dict_items.ownsTuple "dict_keyiterator" = false:=by decide
 simp only[own,eZ,dB];change wpAny _ _ (if(Value.ref d == Value.none)=true then _ else _) _ _ s
 rw[ag (λz:(Value.ref d == Value.none)=true=>dW z)];refine ae (af (ae (vA xS l5 ?_)));rw[ag (by simp)];refine ae (af (ae (wpAny_dictEpoch xS l5 ?_)));rw[ag (by simp)];refine af ?_;simp only[show ¬ ((i:Int)<0) by lia,dB,Int.toNat_natCast,vd hi];refine ae ?_;first|refine ae (B7 st.typeIs (af ?_))|refine ae (B8 st.typeIs (af ?_))
 change wpAny _ _ (setField (.ref it) 0 .none >>= _) _ _ s;refine ae (qA ho hd (by simp) ?_);change wpAny _ _ (newExc (.type "StopIteration") [] >>= _) _ _ _;refine ae ?_;simp only[newExc,newTuple];refine ae (mM (ae (m:=firstArgMember _ _) (qz (a:=Value.none) (by first|rfl|(simp only[firstArgMember];rfl)) (mM ?_ (by size_fits)))) (by size_fits))
 simp only[raiseNew];refine ae (wpAny_handled ?_);rw[show A.in1.handled=none from hh];refine ae (af (wpAny_throw ?_));refine ae (oy (T := "StopIteration") (b:=true) (v:=.ref _) (by exact⟨_,bo _ rfl,rfl⟩) isSubtype_stop ?_);exact af (q _ (((mC ..).extBut.push _).push _))
theorem Sg(hh:A.handled=none)(aO:d≠it):Walks prog w A it [it,d] [it] es.size (λi v=>∃e,es[i]?= some e/\v=e.key) (λi h=>h.IsKeyIter it d i es.size ep/\ff h d es ep) where
 sub:=λb hb=>aJ.mpr (.inl (az.mp hb))
 frame:=λ_ _ _ st hk=>⟨st.1.at λo e=>hk it (aU ..) o e,st.2.to λo e=>hk d (aR _ (aU ..)) o e⟩
 item:=λj s Q E hj st hQ=>DD st.1 st.2 hj λh' bq sb=>hQ _ h' s.toks ⟨_,gC hj,rfl⟩ ⟨bq,st.2.to λo e=>sb.extBut d o aO e⟩ λb o hb e=>sb.extBut b o (λz=>hb (az.mpr z)) e
 done:=λs Q E st hQ=>DE hh st.1 st.2 (aq _) λh' he=>hQ h' s.toks λb o hb e=>he b o (λz=>hb (az.mpr z)) e
 self:=λ_ _ _ _ st hQ=>wpAny_pyIter_keyiter st.1 hQ
theorem KO(lo:(d == sysModules)=false):KdlSrc prog w "dict" d d es.size (λi v=>∃e,es[i]?= some e/\v=e.key) (λh=>ff h d es ep) where
 type:=λ_ x=>x.Hh
 there:=λ_ ⟨o,ho,_⟩=>⟨aH ho,aH ho⟩
 keep:=λ_ _ x hk=>x.to λo e=>hk d (.inl rfl) o e
 notList:=by decide
 notTuple:=by decide
 hint:=λ_ _ _ _ x hq=>kdl_hint_dict x.Hh hq
 iter:=λ_ _ hh x=>⟨_,_,(λ_ _ hq=>DB lo x hq),Sg hh (let ⟨o,ho,_⟩:=x;aV (aH ho)),⟨⟨_,bo _ rfl,rfl,rfl⟩,x.to λ_ e=>ax _ e⟩⟩
end L2
namespace L2
open PySem PySem.Spec PyProof.Rows
def wV(lo c:Int)(n:Nat):It:=⟨λi _=>i<n,λi H x H'=>H'=H/\x=.int (lo+i*c),λi _=>n<=i⟩
theorem QT{P:Program}{w:World}{K:PySem.W.Frag}{tg:Expr}(it:Addr)(lo c:Int)(n:Nat):Turn P w K tg (wV lo c n) [it] it (λi h=>IsRangeIter h it (lo+(i:Nat)*c) ((n:Int)-(i:Nat)) c) where
 mem:=az.mpr rfl
 obj:=λi h st b hb=>by
  obtain rfl:=az.mp hb;exact⟨_,st,λv z=>by
   have z2:Data.fields _=Data.cell v:=z;exact nomatch z2⟩
 keep:=λi h h' st k=>k it (az.mpr rfl) _ st
 item:=by
  intro X eP ew eK hc i pins s σ H E I hf st hg;subst eP ew eK;obtain⟨f0,f1,f2,f3,f4,f5⟩:=hf it (az.mpr rfl);refine(Walks.range (prog:=X.prog) (w:=X.w) (I.ok.hd hc) it lo c n).item i s _ _ hg st λv h' tk hv bq kk=>?_;obtain⟨t,rfl⟩:=hv;have I1:Inv X pins σ H { s with heap:=h',toks:=tk }:=I.turned (λb o hb e=>kk b o (λz=>hb (az.mp z)) e) f0 f1 f3 f4 f5;exact⟨_,rfl,uj (s:={ s with heap:=h',toks:=tk }) (n := "range_iterator") bq rfl rfl (by decide) ⟨.int (lo+i*c),H,I1,⟨t,rfl⟩,⟨rfl,rfl⟩,bq,λb hb=>(hf b hb).1⟩⟩
 done:=by
  intro X eP ew eK hc i pins s σ H E I hf st hg;subst eP ew eK;obtain⟨f0,f1,f2,f3,f4,f5⟩:=hf it (az.mpr rfl);have hni:n<=i:=hg;exact wpAny_pyNext_range_end (I.ok.hd hc) st (by lia) λh' eb=>⟨rfl,I.turned (t':=s.toks) (λb o hb e=>eb b o hb e) f0 f1 f3 f4 f5⟩
 self:=λ_ _ _ _ _ st h=>wpAny_pyIter_rangeiter st h
theorem Sf{lo c:Int}{n:Nat}{g:TG}{tb:TS}{D:Ends}{σ : St}{H:Hp}(Pv:Nat->St->Hp->Prop)(h0:Pv 0 σ H)
  (hs:∀i σ H,i<n->Pv i σ H->g (.int (lo+i*c)) σ H λei H2=>tb { D with nx:=Pv (i+1),ct:=Pv (i+1),bk:=D.nx } ei H2) (hd:∀ σ H,Pv n σ H->D.nx σ H) :
  ∃W:Nat->Nat->St->Hp->Prop,(∃m,W 0 m σ H)/\∀i m σ H,W i m σ H ->
   ((wV lo c n).stop i H/\D.nx σ H)\/((wV lo c n).go i H/\∃N:St->Hp->Prop,(∀ ao H',N ao H'->∃m',m'<m/\W (i+1) m' ao H')/\∀x H',(wV lo c n).fB i H x H'->g x σ H' λei H2=>tb { D with nx:=N,ct:=N,bk:=D.nx } ei H2):=by
 refine⟨λi m σ H=>m=n-i/\i<=n/\Pv i σ H,⟨n,rfl,bE _,h0⟩,?_⟩;rintro i m σ H ⟨rfl,hi,hp⟩;rcases lc i n with hl|hl
 ·refine .inr ⟨hl,Pv (i+1),λao H' hN=>⟨n-(i+1),by lia,rfl,hl,hN⟩,?_⟩;rintro x H' ⟨rfl,rfl⟩;exact hs i σ _ hl hp
 ·obtain rfl:i=n:=by lia
  exact .inl ⟨hl,hd σ H hp⟩
end L2
namespace j_
open PySem
def nx(m i:Nat):Nat:=(i*5+1) % (m+1)
def mf(m:Nat):Nat->Nat->Nat
 | 0,i=>i
 | n+1,i=>mf m n (nx m i)
theorem Ai(m:Nat):∀a b i,mf m (a+b) i=mf m b (mf m a i)
 | 0,b,i=>by rw[qu];rfl
 | a+1,b,i=>by rw[B4];exact Ai m a b (nx m i)
def seen(m:Nat):Nat->Nat->Nat->Nat
 | 0,_,acc=>acc
 | n+1,i,acc=>seen m n (nx m i) (acc ||| (1 <<< i))
theorem Ko(m:Nat):∀n i acc j,(seen m n i acc).testBit j=true->acc.testBit j=true\/∃k,k<n/\mf m k i=j
 | 0,_,_,_,h=>.inl h
 | n+1,i,acc,j,h=>by
  rcases Ko m n (nx m i) _ j h with h|⟨k,hk,e⟩
  ·rw[Nat.testBit_or,Bool.or_eq_true] at h;rcases h with h|h
   ·exact .inl h
   ·rw[Nat.testBit_shiftLeft] at h;have h2:i<=j/\(1:Nat).testBit (j-i)=true:=by simpa using h
    have h3:j-i=0:=by
     have:=h2.2;rw[Nat.testBit_one_eq_true_iff_self_eq_zero] at this;exact this
    exact .inr ⟨0,vy _,by show i=j;lia⟩
  ·exact .inr ⟨k+1,Nat.succ_lt_succ hk,e⟩
def Good(m:Nat):Prop:=m=7\/m=15\/m=31\/m=63\/m=127\/m=255\/m=511\/m=1023\/m=2047\/m=4095
def Ef(m:Nat):Bool:=seen m (m+1) 0 0 == 2 ^ (m+1)-1&&mf m (m+1) 0 == 0
variable{m:Nat}
theorem KY(h:Good m):Ef m=true:=by
 rcases h with h|h|h|h|h|h|h|h|h|h <;> subst h <;> decide +kernel
variable{j:Nat}
theorem MN(h:Good m)(hj:j<=m):∃n,n<=m/\mf m n 0=j:=by
 have hc:=KY h;unfold Ef at hc;rw[eY] at hc;have h1:=eq_of_beq hc.1;have hb:(seen m (m+1) 0 0).testBit j=true:=by
  rw[h1,Nat.testBit_two_pow_sub_one];exact aF (by lia)
 rcases Ko m (m+1) 0 0 j hb with h|⟨k,hk,e⟩
 ·simp at h
 ·exact⟨k,by lia,e⟩
theorem Wk(h:Good m):mf m (m+1) 0=0:=by
 have hc:=KY h;unfold Ef at hc;rw[eY] at hc;exact eq_of_beq hc.2
theorem reach{i:Nat}(h:Good m)(hi:i<=m)(hj:j<=m):∃n,n<=m/\mf m n i=j:=by
 obtain⟨a,ha,ea⟩:=MN h hi;obtain⟨b,hb,eb⟩:=MN h hj;by_cases c8:a<=b
 ·refine⟨b-a,by lia,?_⟩;rw[<- ea,<- Ai,Nat.add_sub_cancel' c8];exact eb
 ·refine⟨m+1-a+b,by lia,?_⟩;rw[<- ea,<- Ai,show a+(m+1-a+b)=(m+1)+b by lia,Ai,Wk h];exact eb
def bg(t:SetTable):Nat->SetTable.Probe->SetTable.Probe
 | 0,p=>p
 | n+1,p=>bg t n (t.advance p)
theorem rc(t:SetTable):∀a b p,bg t (a+b) p=bg t b (bg t a p)
 | 0,b,p=>by rw[qu];rfl
 | a+1,b,p=>by rw[B4];exact rc t a b (t.advance p)
def lp(t:SetTable)(p:SetTable.Probe):SetTable.Probe:={ p with j:=(p.i*5+1+p.perturb / 32) % (t.mask+1),more:=SetTable.runEnd t.mask ((p.i*5+1+p.perturb / 32) % (t.mask+1))-(p.i*5+1+p.perturb / 32) % (t.mask+1),i:=(p.i*5+1+p.perturb / 32) % (t.mask+1),perturb:=p.perturb / 32 }
theorem D6(t:SetTable):∀(n:Nat)(p:SetTable.Probe),p.more=n->bg t (n+1) p=lp t p
 | 0,p,h=>by
  show t.advance p=lp t p;unfold SetTable.advance;rw[ag (by lia)];rfl
 | n+1,p,h=>by
  show bg t (n+1) (t.advance p)=lp t p;have e:t.advance p= { p with j:=p.j+1,more:=p.more-1 }:=by
   unfold SetTable.advance;rw[ai (by lia)]
  rw[e,D6 t n { p with j:=p.j+1,more:=p.more-1 } (by show p.more-1=n;lia)];rfl
def cB(t:SetTable):Nat->SetTable.Probe->SetTable.Probe
 | 0,p=>p
 | n+1,p=>cB t n (lp t p)
theorem TN(t:SetTable)(p:SetTable.Probe):(lp t p).more<=9:=by
 show SetTable.runEnd t.mask _-_<=9;unfold SetTable.runEnd
 split <;> lia
theorem Kn(t:SetTable):∀(k:Nat)(p:SetTable.Probe),p.more<=9->∃n,n<=10*k/\bg t n p=cB t k p
 | 0,p,_=>⟨0,aq _,rfl⟩
 | k+1,p,h=>by
  obtain⟨n,hn,e⟩:=Kn t k (lp t p) (TN t p);refine⟨p.more+1+n,by lia,?_⟩;rw[rc,D6 t p.more p rfl,e];rfl
theorem z9(t:SetTable):∀(k:Nat)(p:SetTable.Probe),cB t (k+1) p=lp t (cB t k p)
 | 0,_=>rfl
 | k+1,p=>z9 t k (lp t p)
theorem DH(t:SetTable):∀(k:Nat)(p:SetTable.Probe),(cB t k p).perturb=p.perturb / 32 ^ k
 | 0,p=>by simp[cB]
 | k+1,p=>by
  show(cB t k (lp t p)).perturb=_;rw[DH t k (lp t p)];show p.perturb / 32 / 32 ^ k=_;rw[Nat.div_div_eq_div_mul,Nat.pow_succ,Nat.mul_comm]
theorem Dr(t:SetTable):∀(n:Nat)(p:SetTable.Probe),p.perturb=0->(cB t n p).i=mf t.mask n p.i/\(1<=n->(cB t n p).j=(cB t n p).i)/\(cB t n p).perturb=0
 | 0,p,h=>⟨rfl,λz=>absurd z (by decide),h⟩
 | n+1,p,h=>by
  have h0:(lp t p).perturb=0:=by show p.perturb / 32=0;rw[h]
  have hi:(lp t p).i=nx t.mask p.i:=by show(p.i*5+1+p.perturb / 32) % (t.mask+1)=_;rw[h];rfl
  obtain⟨a,b,c⟩:=Dr t n (lp t p) h0;refine⟨?_,λ_=>?_,c⟩
  ·show(cB t n (lp t p)).i=_;rw[a,hi];rfl
  ·cases n with
   | zero=>rfl
   | succ n=>exact b (by lia)
variable{t:SetTable}{p:SetTable.Probe}
theorem meets(hg:Good t.mask)(hm:p.more<=9)(hp:p.perturb<2 ^ 64){j:Nat}(hj:j<=t.mask):∃n,n<10*SetTable.turns t.mask/\(bg t n p).j=j:=by
 have h0:(cB t 13 p).perturb=0:=by
  rw[DH];exact Nat.div_eq_of_lt (cf hp (by decide))
 have hi:(cB t 13 p).i<=t.mask:=by
  rw[z9];exact yZ (vx _ (vy _))
 have Y6:(cB t 13 p).j=(cB t 13 p).i:=by
  rw[z9];rfl
 obtain⟨n,hn,e⟩:=reach hg hi hj;obtain⟨a,b,_⟩:=Dr t n (cB t 13 p) h0;have hl:(cB t n (cB t 13 p)).j=j:=by
  cases n with
  | zero=>exact Y6.trans e
  | succ n=>rw[b (by lia),a,e]
 have A1:∀(a b:Nat)(p:SetTable.Probe),cB t (a+b) p=cB t b (cB t a p):=by
  intro a
  induction a with
  | zero=>intro b p;rw[qu];rfl
  | succ a ih=>intro b p;rw[B4];exact ih b (lp t p)
 obtain⟨c,hc,ec⟩:=Kn t (13+n) p hm;refine⟨c,?_,?_⟩
 ·unfold SetTable.turns;lia
 ·rw[ec,A1];exact hl
theorem qZ(t:SetTable)(h:Int):(t.probeStart h).more<=9/\(t.probeStart h).perturb<2 ^ 64/\(t.probeStart h).dummy=none:=by
 refine⟨?_,?_,rfl⟩
 ·show SetTable.runEnd t.mask _-_<=9;unfold SetTable.runEnd
  split <;> lia
 ·show SetTable.bits h<2 ^ 64;unfold SetTable.bits;have h1:=jW h (by decide:((2:Int) ^ 64)≠0);have h2:=jV h (by decide:(0:Int)<2 ^ 64);lia
theorem Rb(hd:t.dummies=#[])(hf:t.fill<=t.mask):∃j,j<=t.mask/\t.slot j=.empty:=by
 apply BU;intro hn;have cM:∀j,j<=t.mask->j∈t.place.toList:=λj hj=>by
  have h1:t.slot j ≠ .empty:=λz=>hn ⟨j,hj,z⟩;unfold SetTable.slot at h1;dsimp only at h1
  split at h1
  ·rename_i h2
   have h3:=eq_of_beq h2;rw[<- dU] at h3;exact bU h3
  ·exfalso;rw[hd] at h1;exact h1 rfl
 have l_:(List.range (t.mask+1)) ⊆ t.place.toList:=λj hj=>cM j (by have:=fU.mp hj;lia);have hlen:=(List.nodup_range (n:=t.mask+1)).length_le_of_subset l_;rw[vt,aK] at hlen;unfold SetTable.fill at hf;lia
theorem JF(hg:Good t.mask)(hp:p.perturb<2 ^ 64){j:Nat}(hj:j<=t.mask):∃k,k<=13+t.mask/\(cB t k p).i=j:=by
 have h0:(cB t 13 p).perturb=0:=by
  rw[DH];exact Nat.div_eq_of_lt (cf hp (by decide))
 have hi:(cB t 13 p).i<=t.mask:=by
  rw[z9];exact yZ (vx _ (vy _))
 obtain⟨n,hn,e⟩:=reach hg hi hj;obtain⟨a,_,_⟩:=Dr t n (cB t 13 p) h0;have A1:∀(a b:Nat)(p:SetTable.Probe),cB t (a+b) p=cB t b (cB t a p):=by
  intro a
  induction a with
  | zero=>intro b p;rw[qu];rfl
  | succ a ih=>intro b p;rw[B4];exact ih b (lp t p)
 exact⟨13+n,by lia,by rw[A1,a,e]⟩
theorem C9{t:SetTable}{owner:Array (Option Nat)}{j:Nat}(ho:owner.getD j (some 0)=none):∀(k ci:Nat)(p:SetTable.Probe),k<ci->(cB t k p).i=j ->
  ∃j',SetTable.layClean.free t.mask owner ci p.i p.perturb=some j'/\owner.getD j' (some 0)=none
 | k,0,_,h,_=>absurd h (lg _)
 | k,ci+1,p,hk,e=>by
  unfold SetTable.layClean.free;cases hf:(List.range (SetTable.runEnd t.mask p.i+1-p.i)).find? λk=>(owner.getD (p.i+k) (some 0)).isNone with
  | some k' =>
   have h1:=List.find?_some hf;exact⟨p.i+k',rfl,Option.isNone_iff_eq_none.mp h1⟩
  | none =>
   cases k with
   | zero =>
    exfalso;have e':p.i=j:=e;have h1:=List.find?_eq_none.mp hf 0 (fU.mpr (by unfold SetTable.runEnd;split <;> lia))
    rw[yY,e',ho] at h1;exact h1 rfl
   | succ k =>
    exact C9 ho k ci (lp t p) (by lia) e
theorem H_{β : Type}{g g':Nat->Option β}:∀l:List Nat,(∀k∈l,g' k=g k)->l.filterMap g'=l.filterMap g
 | [],_=>rfl
 | y::l,h=>by
  have ih:=H_ l λk hk=>h k (aR _ hk);have hy:=h y (aU ..);cases hg:g y with
  | none=>rw[vj (by rw[hy,hg]),vj hg,ih]
  | some z=>rw[qk (by rw[hy,hg]),qk hg,ih]
theorem Iq{β : Type}{g g':Nat->Option β}{j:Nat}{x : β}(h0:g j=none)(h1:g' j=some x)(h2:∀k,k≠j->g' k=g k):∀l:List Nat,l.Nodup->j∈l->(l.filterMap g').Perm (x::l.filterMap g)
 | y::l,hn,hj=>by
  obtain⟨hy,hl⟩:=fD.mp hn;by_cases e:y=j
  ·subst e;rw[qk h1,vj h0];have:l.filterMap g'=l.filterMap g:=H_ l λk hk=>h2 k λz=>hy (z ▸ hk);rw[this]
  ·have lu:j∈l:=(aJ.mp hj).resolve_left (eu e);have ih:=Iq h0 h1 h2 l hl lu;cases hg:g y with
   | none =>
    rw[vj (by rw[h2 y e,hg]),vj hg];exact ih
   | some z =>
    rw[qk (by rw[h2 y e,hg]),qk hg];exact(ih.cons z).trans (List.Perm.swap ..)
def Z8(m:Nat)(owner:Array (Option Nat)):List (Nat×Nat):=(List.range (m+1)).filterMap λj=>(owner.getD j none).map (j,·)
structure Own(m:Nat)(owner:Array (Option Nat))(k:Nat):Prop where
 size:owner.size=m+1
 perm:((Z8 m owner).map (·.2)).Perm (List.range k)
variable{owner:Array (Option Nat)}
theorem Lb{k:Nat}(h:Own m owner k):(Z8 m owner).length=k:=by
 have:=h.perm.length_eq;rw[ay,vt] at this;exact this
theorem Kf{k:Nat}(h:Own m owner k)(hk:k<=m):∃j,j<=m/\owner.getD j (some 0)=none:=by
 apply BU;intro hn;have cM:∀j∈List.range (m+1),((owner.getD j none).map (Prod.mk j)).isSome=true:=λj hj=>by
  have lu:=fU.mp hj;cases ho:owner.getD j none with
  | some v=>rfl
  | none =>
   exfalso;refine hn ⟨j,by lia,?_⟩;have hs:j<owner.size:=by rw[h.size];exact lu
   simp only[Array.getD,hs,dif_pos] at ho ⊢;exact ho
 have hl:(Z8 m owner).length=m+1:=by
  unfold Z8;have:∀(l:List Nat)(g:Nat->Option (Nat×Nat)),(∀j∈l,(g j).isSome=true)->(l.filterMap g).length=l.length:=by
   intro l g
   induction l with
   | nil=>exact λ_=>rfl
   | cons y l ih =>
    intro hg;obtain⟨z,hz⟩:=B5.mp (hg y (aU ..));rw[qk hz,bM,bM,ih λj hj=>hg j (aR _ hj)]
  rw[this _ _ cM,vt]
 have:=Lb h;lia
theorem KP{k:Nat}(h:Own m owner k)(hj:owner.getD j (some 0)=none):Own m (owner.setIfInBounds j (some k)) (k+1):=by
 have hs:j<owner.size:=by
  apply BU;intro hn;rw[Array.getD,dif_neg hn] at hj;cases hj
 refine⟨by rw[Array.size_setIfInBounds];exact h.size,?_⟩;have hp:(Z8 m (owner.setIfInBounds j (some k))).Perm ((j,k)::Z8 m owner):=by
  refine Iq ?_ ?_ (λy hy=>?_) _ List.nodup_range (fU.mpr (by rw[<- h.size];exact hs))
  ·have:owner.getD j none=none:=by
    simp only[Array.getD,hs,dif_pos] at hj ⊢;exact hj
   rw[this];rfl
  ·have:(owner.setIfInBounds j (some k)).getD j none=some k:=by
    simp[Array.getD,hs]
   rw[this];rfl
  ·have:(owner.setIfInBounds j (some k)).getD y none=owner.getD y none:=by
    simp only[Array.getD,Array.size_setIfInBounds]
    split
    ·rename_i ya
     exact Array.getElem_setIfInBounds_ne (by simpa using ya) (eu hy)
    ·rfl
   rw[this]
 refine(hp.map (·.2)).trans ?_;rw[cu];refine((h.perm.cons k)).trans ?_;rw[List.range_succ];exact List.perm_append_comm (l₁ :=[k]) (l₂ := List.range k)
theorem JX{m:Nat}(hg:Good m):∀(hs:List Int)(owner:Array (Option Nat))(k:Nat),Own m owner k->k+hs.length<=m ->
  ∃ly,hs.foldl (λ(acc:Option (Array (Option Nat)×Nat)) h=>do
   let (owner,k) <- acc
   let j <- SetTable.layClean.free m owner (SetTable.turns m) (SetTable.bits h % (m+1)) (SetTable.bits h)
   pure (owner.setIfInBounds j (some k),k+1)) (some (owner,k))=some (ly,k+hs.length)/\Own m ly (k+hs.length)
 | [],owner,k,h,_=>⟨owner,rfl,h⟩
 | x::hs,owner,k,h,hl=>by
  rw[bM] at hl;obtain⟨j,hj,ho⟩:=Kf h (by lia);have t:SetTable:={ mask:=m,place :=#[],dummies :=#[],finger:=0,led:=true,moves:=0,plain:=true };have hb:SetTable.bits x<2 ^ 64:=(qZ (SetTable.fresh 0 0 true) x).2.1;obtain⟨n,hn,e⟩:=JF (t:={ mask:=m,place :=#[],dummies :=#[],finger:=0,led:=true,moves:=0,plain:=true }) (p:={ j:=0,more:=0,i:=SetTable.bits x % (m+1),perturb:=SetTable.bits x,dummy:=none }) hg hb hj;obtain⟨j',hf,bN⟩:=C9 ho n (SetTable.turns m) _ (by unfold SetTable.turns;have:n<=13+m:=hn;lia) e;have zq:SetTable.layClean.free m owner (SetTable.turns m) (SetTable.bits x % (m+1)) (SetTable.bits x)=some j':=hf;obtain⟨ly,h1,h2⟩:=JX hg hs _ (k+1) (KP h bN) (by lia);refine⟨ly,?_,by rw[bM,show k+(hs.length+1)=k+1+hs.length by lia];exact h2⟩;rw[vp];simp only[Option.bind_eq_bind,Option.bind_some,zq,Option.pure_def];rw[bM,show k+(hs.length+1)=k+1+hs.length by lia];exact h1
theorem K'(hg:Good m)(fi mo:Nat)(led plain:Bool)(hs:Array Int)(hl:hs.size<=m):∃t order,SetTable.laid m fi mo led plain hs=some (t,order)/\t.mask=m/\t.dummies=#[]/\t.place.size=hs.size/\order.toList.Perm (List.range hs.size)/\t.led=led/\t.plain=plain/\t.moves=mo/\t.place.toList.Pairwise (· < ·):=by
 have h0:Own m (Array.replicate (m+1) none) 0:=by
  refine⟨Array.size_replicate,?_⟩;have:Z8 m (Array.replicate (m+1) none)=[]:=by
   unfold Z8;rw[List.filterMap_eq_nil_iff];intro j hj;have:(Array.replicate (m+1) (none:Option Nat)).getD j none=none:=by
    simp[Array.getD]
   rw[this];rfl
  rw[this];exact mD _
 obtain⟨owner,h1,h2⟩:=JX hg hs.toList _ 0 h0 (by rw[aK];lia);rw[qu,aK] at h1 h2;have hc:SetTable.layClean m hs=some owner:=by
  unfold SetTable.layClean;rw[<- Array.foldl_toList];have:=congrArg (Option.map (·.1)) h1;exact this
 refine⟨{ mask:=m,place:=((Z8 m owner).map (·.1)).toArray,dummies :=#[],finger:=fi,led:=led,moves:=mo,plain:=plain },((Z8 m owner).map (·.2)).toArray,?_,rfl,rfl,?_,?_,rfl,rfl,rfl,?_⟩
 ·unfold SetTable.laid;rw[hc];rfl
 ·show((Z8 m owner).map (·.1)).toArray.size=_;rw[bP,ay,Lb h2]
 ·show((Z8 m owner).map (·.2)).toArray.toList.Perm _;exact h2.perm
 ·show((Z8 m owner).map (·.1)).toArray.toList.Pairwise (· < ·);have l_:((Z8 m owner).map (·.1)).Sublist (List.range (m+1)):=by
   unfold Z8;generalize List.range (m+1)=l
   induction l with
   | nil=>exact List.Sublist.slnil
   | cons y l ih =>
    cases hy:owner.getD y none with
    | none =>
     rw[vj (by rw[hy];rfl)];exact ih.cons _
    | some v =>
     rw[qk (b:=(y,v)) (by rw[hy];rfl)];exact ih.cons_cons y
  exact List.Pairwise.sublist l_ List.pairwise_lt_range
def ii(xs:Array Nat):Prop:=xs.toList.Pairwise (· < ·)
variable{xs:Array Nat}
theorem tR(h:ii xs){i j:Nat}(kB:i<j)(hj:j<xs.size):xs[i]'(g9 kB hj)<xs[j]:=by
 have:=oq.mp h i j (by rw[aK];lia) (by rw[aK];exact hj) kB
 simpa using this
theorem DA{xs:Array Nat}(h:ii xs)(j:Nat):∀(ci lo hi:Nat),lo<=hi->hi<=xs.size->hi-lo<=ci->(∀i (cI:i<xs.size),i<lo->xs[i]<j)->(∀i (cI:i<xs.size),hi<=i -> ¬ xs[i]<j) ->
  ∀r,SetTable.below.go xs j ci lo hi=r->r<=xs.size/\(∀i (cI:i<xs.size),i<r->xs[i]<j)/\(∀i (cI:i<xs.size),r<=i -> ¬ xs[i]<j)
 | 0,lo,hi,h1,h2,h3,a,b,r,e=>by
  have e':lo=r:=e;subst e';have:lo=hi:=by lia
  subst this;exact⟨h2,a,b⟩
 | ci+1,lo,hi,h1,h2,h3,a,b,r,e=>by
  unfold SetTable.below.go at e;by_cases hl:lo<hi
  ·rw[ai hl] at e;dsimp only at e;have hm:(lo+hi) / 2<xs.size:=by lia
   have YY:xs.getD ((lo+hi) / 2) j=xs[(lo+hi) / 2]:=by simp[Array.getD,hm]
   rw[YY] at e;by_cases hx:xs[(lo+hi) / 2]<j
   ·rw[ai hx] at e;refine DA h j ci ((lo+hi) / 2+1) hi (by lia) h2 (by lia) (λi cI au=>?_) b r e;by_cases e2:i=(lo+hi) / 2
    ·subst e2;exact hx
    ·exact g9 (tR h (show i<(lo+hi) / 2 by lia) hm) hx
   ·rw[ag hx] at e;refine DA h j ci lo ((lo+hi) / 2) (by lia) (by lia) (by lia) a (λi cI hle=>?_) r e;by_cases e2:i=(lo+hi) / 2
    ·subst e2;exact hx
    ·have:=tR h (show(lo+hi) / 2<i by lia) cI;lia
  ·rw[ag hl] at e;subst e;have:lo=hi:=by lia
   subst this;exact⟨h2,a,b⟩
theorem we(h:ii xs)(j:Nat):SetTable.below xs j<=xs.size/\(∀i (cI:i<xs.size),i<SetTable.below xs j->xs[i]<j)/\(∀i (cI:i<xs.size),SetTable.below xs j<=i -> ¬ xs[i]<j) :=
 DA h j xs.size 0 xs.size (bE _) (aq _) (by lia) (λ_ _ z=>absurd z (lg _)) (λi cI z=>by lia) _ rfl
theorem Iy{α : Type}(xs:Array α)(p:Nat)(x : α):(SetTable.insertAt xs p x).toList=xs.toList.take p++x::xs.toList.drop p:=by
 unfold SetTable.insertAt;simp[Array.toList_extract,List.extract];rw[yX];simp
theorem IC(h:ii xs){j:Nat}(hj:j∉xs.toList):ii (SetTable.insertAt xs (SetTable.below xs j) j):=by
 obtain⟨h1,h2,h3⟩:=we h j;unfold ii;rw[Iy,List.pairwise_append];refine⟨List.Pairwise.sublist (List.take_sublist _ _) h,?_,?_⟩
 ·rw[sV];refine⟨λy hy=>?_,List.Pairwise.sublist (List.drop_sublist _ _) h⟩;obtain⟨i,hi,e⟩:=B3.mp hy;rw[oo,aK] at hi;rw[List.getElem_drop] at e;have:=h3 (SetTable.below xs j+i) (by lia) (by lia);have e2:y=xs[SetTable.below xs j+i]'(by lia):=by rw[<- e];simp
  have aO:y≠j:=λz=>hj (z ▸ List.mem_of_mem_drop hy);lia
 ·intro a ha b hb;obtain⟨i,hi,e⟩:=B3.mp ha;rw[cY,aK] at hi;rw[List.getElem_take] at e;have h4:=h2 i (by lia) (by lia);have e2:a=xs[i]'(by lia):=by rw[<- e];simp
  rcases aJ.mp hb with rfl|hb
  ·lia
  ·obtain⟨k,hk,ek⟩:=B3.mp hb;rw[oo,aK] at hk;rw[List.getElem_drop] at ek;have h5:=h3 (SetTable.below xs j+k) (by lia) (by lia);have e3:b=xs[SetTable.below xs j+k]'(by lia):=by rw[<- ek];simp
   lia
theorem Rh(h:ii xs){i:Nat}(hi:i<xs.size):SetTable.below xs (xs[i]+1)=i+1:=by
 obtain⟨h1,h2,h3⟩:=we h (xs[i]+1);rcases y0 (SetTable.below xs (xs[i]+1)) (i+1) with z|z|z
 ·exact absurd (mE xs[i]) (h3 i hi (by lia))
 ·exact z
 ·exfalso;have h4:=h2 (i+1) (by lia) (by lia);have h5:=tR h (show i<i+1 by lia) (show i+1<xs.size by lia);lia
theorem Rk(h:ii xs):SetTable.below xs 0=0:=by
 obtain⟨h1,h2,h3⟩:=we h 0;rcases Nat.eq_zero_or_pos (SetTable.below xs 0) with z|z
 ·exact z
 ·exact absurd (h2 0 (by lia) z) (lg _)
theorem Ab(h:ii t.place){j:Nat}(he:t.slot j=.empty):j∉t.place.toList:=λhm=>by
 obtain⟨i,hi,e⟩:=B3.mp hm;rw[aK] at hi;have e2:t.place[i]=j:=by rw[<- e];simp
 obtain⟨h1,h2,h3⟩:=we h j;have hb:SetTable.below t.place j=i:=by
  rcases y0 (SetTable.below t.place j) i with z|z|z
  ·have h4:=tR h z hi;have h5:=h3 (SetTable.below t.place j) (by lia) (aq _);lia
  ·exact z
  ·have h4:=h2 i hi z;lia
 unfold SetTable.slot at he;dsimp only at he;rw[hb,Array.getElem?_eq_getElem hi,e2] at he;simp at he
section
variable{prog:Program}{w:World}{K:Type}[DecidableEq K]{knd:KeyKind prog w K}{A:Around}{E:Value->Shared->Prop}{s:Shared}
variable{n:Nat}{v:Value}
theorem S1(h:carriedByValue v=true):ofAClassStatement n v=pure false:=by
 cases v <;> first|(unfold ofAClassStatement;rfl)|(cases h)
variable{a:Addr}{Q:Bool->Shared->Prop}
theorem Ji{ks:List K}(hk:IsTupleKey knd s.heap ks a)(h:Q false s):wpAny (model prog w) A (ofAClassStatement 8 (.ref a)) Q E s:=by
 have hT:=hk.typeIs;obtain⟨o,items,n,ho,hc,hd,hi⟩:=hk;unfold ofAClassStatement;refine ae (qC hT ?_);dsimp only;rw[if_pos (by decide)];refine ae (af ?_);rw[ag (by decide)];refine ae (oA ho hd ?_);dsimp only;rw[<- Array.forIn_toList];refine ae (zh _ (λrest r s'=>r.1=none/\s'=s/\∀v∈rest,carriedByValue v=true) _ ?_ ?_ _ _ ⟨rfl,rfl,hi.byValue⟩)
 ·rintro v rest r s' ⟨hr,rfl,cM⟩;rw[S1 (cM v aU)];refine ae (af ?_);rw[ag (by decide)];exact af ⟨rfl,rfl,λu vI=>cM u (aR _ vI)⟩
 ·rintro⟨r1,r2⟩ s' ⟨hr,rfl,_⟩;obtain rfl:r1=none:=hr;exact af h
theorem Tt(h:carriedByValue v=true):∃b,hashByValue n v=pure b:=by
 cases v <;> first|exact⟨_,by unfold hashByValue;rfl⟩|(cases h)
theorem RP{ks:List K}(hk:IsTupleKey knd s.heap ks a)(h:∀b,Q b s):wpAny (model prog w) A (hashByValue 8 (.ref a)) Q E s:=by
 have hT:=hk.typeIs;obtain⟨o,items,n,ho,hc,hd,hi⟩:=hk;unfold hashByValue;refine ae (oB hT yQ.lookup ?_);dsimp only;refine wpAny_bind (wpAny_seqItems ho hd ?_);dsimp only[Option.getD_some];rw[<- BR];refine ae (zh _ (λrest r s'=>r.1=none/\s'=s/\∀v∈rest,carriedByValue v=true) _ ?_ ?_ _ _ ⟨rfl,rfl,hi.byValue⟩)
 ·rintro v rest r s' ⟨hr,rfl,cM⟩;obtain⟨b,hb⟩:=Tt (n:=7) (cM v aU);rw[hb];refine ae (af ?_);cases b with
  | true =>
   rw[ag (by decide)];exact af ⟨rfl,rfl,λu vI=>cM u (aR _ vI)⟩
  | false =>
   rw[ai (by decide)];exact af (af (h _))
 ·rintro⟨r1,r2⟩ s' ⟨hr,rfl,_⟩;obtain rfl:r1=none:=hr;exact af (h _)
theorem Uw{ks:List K}(hk:IsTupleKey knd s.heap ks a):∀(stored:List Value){Q:Bool->Shared->Prop},(∀v∈stored,∃ks b,v=.ref b/\IsTupleKey knd s.heap ks b)->Q false s->wpAny (model prog w) A (searchCouldBeSeen (.ref a) stored) Q E s:=by
 intro stored Q hs h;unfold searchCouldBeSeen;refine ae (zh _ (λrest r s'=>r.1=none/\s'=s/\∀v∈rest,∃ks b,v=Value.ref b/\IsTupleKey knd s.heap ks b) _ ?_ ?_ _ _ ⟨rfl,rfl,hs⟩)
 ·rintro v rest r s' ⟨hr,rfl,cM⟩;obtain⟨lx,b,rfl,hb⟩:=cM v aU;have xW:∀v∈rest,∃ks b,v=Value.ref b/\IsTupleKey knd s'.heap ks b:=λv hv=>cM v (aR _ hv);dsimp only
  split
  ·exact af ⟨rfl,rfl,xW⟩
  ·refine ae (wpAny_eqIsQuiet_tuple hk ?_);rw[ag (by decide)];refine ae (wpAny_eqIsQuiet_tuple hb ?_);rw[ag (by decide)];refine ae (Ji hk ?_);rw[ag (by decide)];refine ae (Ji hb ?_);rw[ag (by decide)];exact af ⟨rfl,rfl,xW⟩
 ·rintro⟨r1,r2⟩ s' ⟨hr,rfl,_⟩;obtain rfl:r1=none:=hr;exact af h
def EK(knd:KeyKind prog w K):Bool->Heap->Int×Value->Prop
 | true,_,e=>∃i t,e.2=Value.int i t/\e.1=(intKind prog w).hash i
 | false,h,e=>∃ks b,e.2=.ref b/\IsTupleKey knd h ks b
def wX(knd:KeyKind prog w K)(b:Bool)(h:Heap)(es:Array (Int×Value)):Prop := ∀e∈es.toList,EK knd b h e
structure Tab(es:Array (Int×Value))(t:SetTable):Prop where
 size:t.place.size=es.size
 none:t.dummies=#[]
 good:Good t.mask
 room:t.fill*5<t.mask*3
 kO:ii t.place
variable{t:SetTable}
theorem Tab.fill_eq{es:Array (Int×Value)}(h:Tab es t):t.fill=es.size:=by
 unfold SetTable.fill;rw[h.size,h.none];rfl
theorem Tab.fits{es:Array (Int×Value)}{t:SetTable}(h:Tab es t):t.fits es.size=true:=by
 have:=h.room;unfold SetTable.fits;rw[h.size];simp;lia
theorem SY{m:Nat}(h:Good m):m % 2=1:=by
 rcases h with h|h|h|h|h|h|h|h|h|h <;> subst h <;> rfl
theorem IA(t:SetTable):∀(n:Nat)(p:SetTable.Probe),p.dummy=none->(bg t n p).dummy=none
 | 0,_,h=>h
 | n+1,p,h=>IA t n (t.advance p) (by
  unfold SetTable.advance
  split
  ·exact h
  ·exact h)
theorem Ld{j i:Nat}(h:t.slot j=.live i):i<t.place.size:=by
 unfold SetTable.slot at h;dsimp only at h
 split at h
 ·rename_i h2
  cases h;have h3:=eq_of_beq h2;exact(mz.mp h3).1
 ·split at h <;> cases h
end
def Lu(n:Nat):Bool:=(SetTable.sizeAbove n-1 == 7 || SetTable.sizeAbove n-1 == 15 || SetTable.sizeAbove n-1 == 31 || SetTable.sizeAbove n-1 == 63 || SetTable.sizeAbove n-1 == 127 || SetTable.sizeAbove n-1 == 255 || SetTable.sizeAbove n-1 == 511 || SetTable.sizeAbove n-1 == 1023 || SetTable.sizeAbove n-1 == 2047 || SetTable.sizeAbove n-1 == 4095)&&decide (n<SetTable.sizeAbove n)&&decide (SetTable.sizeAbove n<=4096)
theorem RN:(List.range 4096).all Lu=true:=by decide +kernel
theorem above{n:Nat}(h:n<4096):Good (SetTable.sizeAbove n-1)/\n<SetTable.sizeAbove n/\SetTable.sizeAbove n<=4096:=by
 have:=vg.mp RN n (fU.mpr h);unfold Lu at this;simp only[eY,Bool.or_eq_true,mH,jl] at this;obtain⟨⟨h1,h2⟩,h3⟩:=this;refine⟨?_,h2,h3⟩;unfold Good
 simpa only[or_assoc] using h1
section
variable{prog:Program}{w:World}{K:Type}[DecidableEq K]{knd:KeyKind prog w K}{A:Around}{E:Value->Shared->Prop}{s:Shared}
variable{h:Heap}{S:Addr}{o:Obj}{es:Array (Int×Value)}{ep:Nat}{t:SetTable}
theorem stored(ho:h.get? S=some o)(hd:o.data=.set es ep t)(bz:Array (Int×Value))(t':SetTable) :
  (h.update S (Obj.putSet bz t')).get? S=some { o with data:=.set bz (ep+1) t' }:=by
 have:=qj (Obj.putSet bz t') ho (by rw[putSet_of bz t' hd];rfl);rw[putSet_of bz t' hd] at this;exact this
theorem Uj{h':Heap}{a:Addr}{ks:List K}(ho:h.get? S=some o)(hd:o.data=.set es ep t)(sb:Heap.SameBut S h h')(hk:IsTupleKey knd h ks a):IsTupleKey knd h' ks a:=by
 obtain⟨o2,items,n,h1,h2,h3,h4⟩:=hk;have aO:a≠S:=λz=>by
  rw[z,ho] at h1;cases h1;rw[hd] at h3;cases h3
 exact⟨o2,items,n,(sb.2 a aO).trans h1,h2,h3,h4⟩
theorem IX(hT:Tab es t)(h:Int):∃n,n<10*SetTable.turns t.mask/\t.slot (bg t n (t.probeStart h)).j=.empty:=by
 obtain⟨a,b,c⟩:=qZ t h;have hr:=hT.room;obtain⟨j,hj,he⟩:=Rb hT.none (by lia);obtain⟨n,hn,e⟩:=meets hT.good a b hj;exact⟨n,hn,by rw[e];exact he⟩
theorem Qn{m:Nat}(h:Good m):10*SetTable.turns m<100000:=by
 unfold SetTable.turns;rcases h with h|h|h|h|h|h|h|h|h|h <;> subst h <;> decide
theorem KG{t:SetTable}(hd:t.dummies=#[])(ha:Nat->Int)(h:Int)(aO:∀i,(ha i == h)=false):∀(n ci:Nat)(p:SetTable.Probe),p.dummy=none->n<ci->t.slot (bg t n p).j=.empty ->
  ∃j,SetTable.probe.go t ha h ci p=some (.empty j none)/\t.slot j=.empty
 | n,0,_,_,hn,_=>absurd hn (lg _)
 | n,ci+1,p,hp,hn,he=>by
  unfold SetTable.probe.go;cases hs:t.slot p.j with
  | empty=>exact⟨p.j,by rw[hp],hs⟩
  | dummy =>
   exfalso;unfold SetTable.slot at hs;dsimp only at hs
   split at hs
   ·cases hs
   ·rw[hd] at hs;exact SetTable.Slot.noConfusion hs
  | live i =>
   dsimp only;cases n with
   | zero =>
    rw[show(bg t 0 p).j=p.j from rfl,hs] at he;cases he
   | succ n =>
    rw[ag (by rw[aO i];decide)];have rL:(t.advance p).dummy=none:=by
     unfold SetTable.advance
     split
     ·exact hp
     ·exact hp
    exact KG hd ha h aO n ci (t.advance p) rL (by lia) he
theorem Su(hT:Tab es t)(h:Int):∃j,t.freeSlot h=some (j,false)/\t.slot j=.empty:=by
 obtain⟨n,hn,he⟩:=IX hT h;obtain⟨j,e,hj⟩:=KG hT.none (λ_=>h+1) h (λ_=>by simp;lia) n (10*SetTable.turns t.mask) (t.probeStart h) (qZ t h).2.2 hn he;refine⟨j,?_,hj⟩;unfold SetTable.freeSlot SetTable.probe;rw[e];rfl
theorem Ue(hT:Tab es t)(h:Int)(x:Value):∃j,t.slot j=.empty/\layNew t es h x=(SetTable.insertAt es (SetTable.below t.place j) (h,x),{ t with place:=SetTable.insertAt t.place (SetTable.below t.place j) j },false,false):=by
 obtain⟨j,e,hj⟩:=Su hT h;refine⟨j,hj,?_⟩;have ft:SetTable.has t.dummies j=false:=by rw[hT.none];rfl
 have FI:t.put j=({ t with place:=SetTable.insertAt t.place (SetTable.below t.place j) j },SetTable.below t.place j):=by
  unfold SetTable.put;rw[ft];rfl
 have jd:(SetTable.insertAt es (SetTable.below t.place j) (h,x)).size=es.size+1:=by
  rw[<- aK,(sZ es (SetTable.below t.place j) (h,x)).length_eq,aK,ve]
 have eX:(SetTable.insertAt t.place (SetTable.below t.place j) j).size=es.size+1:=by
  rw[<- aK,(sZ t.place (SetTable.below t.place j) j).length_eq,aK,ve,hT.size]
 have hr:=hT.room;have Nj:=hT.fill_eq;have xI:({ t with place:=SetTable.insertAt t.place (SetTable.below t.place j) j }:SetTable).fits (SetTable.insertAt es (SetTable.below t.place j) (h,x)).size=true:=by
  unfold SetTable.fits SetTable.fill;rw[jd];dsimp only;rw[eX,hT.none];simp;lia
 unfold layNew;rw[e];dsimp only;rw[FI];dsimp only;unfold SetTable.orStandIn;rw[xI];rfl
theorem RC(h1:1<=es.size)(hn:es.size<=1000):∃bz t' g,relayAll t es (SetTable.grown es.size)=(bz,t',g)/\bz.toList.Perm es.toList/\Tab bz t'/\t'.led=t.led:=by
 have Fq:SetTable.grown es.size=es.size*4:=by unfold SetTable.grown;rw[ag (by lia)]
 rw[Fq];obtain⟨g1,g2,g3⟩:=above (n:=es.size*4) (by lia);obtain⟨t',order,e,m1,m2,m3,m4,m5,m6,m7,m8⟩:=K' g1 t.finger (t.movedTo (SetTable.sizeAbove (es.size*4)-1)) t.led t.plain (es.map (·.1)) (by rw[sP];lia);rw[sP] at m3 m4;have e2:t.relaid (es.map (·.1)) (es.size*4)=some (t',order):=e;have dq:(order.filterMap (es[·]?)).toList.Perm es.toList:=by
  rw[Array.toList_filterMap];exact(m4.filterMap _).trans (List.Perm.of_eq (filterMap_getElem?_range es))
 have hsz:(order.filterMap (es[·]?)).size=es.size:=by
  rw[<- aK,dq.length_eq,aK]
 have A5:t'.fill=es.size:=by
  unfold SetTable.fill;rw[m2,m3];rfl
 have xI:t'.fits (order.filterMap (es[·]?)).size=true:=by
  unfold SetTable.fits;rw[hsz,m3,A5,m1];simp;lia
 have YK:coversAll order es.size=true:=by
  unfold coversAll;exact List.isPerm_iff.mpr m4
 refine⟨order.filterMap (es[·]?),t',false,?_,dq,⟨by rw[m3,hsz],m2,by rw[m1];exact g1,?_,m8⟩,m5⟩
 ·unfold relayAll;rw[e2];dsimp only;rw[YK,xI];rfl
 ·rw[A5,m1];lia
theorem IG(hE:wX knd true h es):ElemsOf (intKind prog w) es.toList:=λe he=>by
 obtain⟨i,t,e1,e2⟩:=hE e he;refine⟨⟨i,?_,e2⟩,?_⟩
 ·rw[e1];exact intKind_is _ _ _ _
 ·rw[e1];rfl
end
end j_
namespace j_
open PySem PyProof.Rows
section
variable{prog:Program}{w:World}{K:Type}[DecidableEq K]{knd:KeyKind prog w K}{A:Around}{E:Value->Shared->Prop}{s:Shared}
abbrev um(w:World):Bool := !w.params.followText "set-order"
abbrev ip(w:World):Obj:={ cls:=.type "set",dict:=none,data:=.set #[] 0 (.fresh 0 0 (um w)) }
theorem SQ(a:Value){Q₁ : Value->Shared->Prop}(h:Q₁ (.ref s.heap.objs.size) { s with heap:=s.heap.push (ip w) }) :
  codeAny (model prog w) A (.call (.builtin "set.__new__") ⟨[.type "set",a],[]⟩) (wants Q₁ E) s:=by
 refine codeAny_of_tree ?_;change wpAny _ A.in1 (do checkBuiltinCall "set.__new__" ⟨[.type "set",a],[]⟩;again (.builtin "set.__new__" ⟨[.type "set",a],[]⟩)) _ _ s;refine ae (qz (PySem.F.newCall_set_1 a) (af ⟨g_ PySem.F.plain_set_new _,fF PySem.F.entry_set_new ?_⟩));rw[jj PySem.F.plain_set_new _];unfold Builtin.«set.__new__» Builtin.Frozenset.newClass;have ZsD:=sub_set_self;obtain⟨hp,g,d,tk,os⟩:=s;dsimp only
 wp_walk
 refine wpAny_askSetting (af ?_);dsimp only;simp only[newObj];exact ae (wpAny_alloc (af (af h)))
end
theorem qU:Slot "set_iterator" "__next__" "set_iterator.__next__" :=
 .of (owner := "set_iterator") (n := "__next__") (by rw[typeLookup_type,builtinLookup_eq_fast];kernel_rfl) (by decide +kernel) (by decide +kernel) (by decide +kernel) (by first|exact .inl (by decide +kernel)|exact .inr (by decide +kernel)) (by rw[isSubtype_type];kernel_rfl)
theorem Iu:entryFor table "set_iterator.__next__" = some Builtin.«set_iterator.__next__» := entryFor_of_tree (by kernel_rfl)
theorem Kq:Manifest.owners.lookup (String.ofList ['r','o','t','a','r','e','t','i','_','t','e','s'].reverse)=some Manifest.sig_set_iterator:=by kernel_rfl
theorem Ik(a:Value):argsOk "set_iterator.__next__" ⟨[a],[]⟩:=by
 unfold argsOk;rw[signature?_of (id := "set_iterator.__next__") (n:=['_','_','t','x','e','n','_','_']) (o:=['r','o','t','a','r','e','t','i','_','t','e','s']) (by kernel_rfl) Kq];kernel_rfl
theorem Il:Slot "set_iterator" "__iter__" "set_iterator.__iter__" :=
 .of (owner := "set_iterator") (n := "__iter__") (by rw[typeLookup_type,builtinLookup_eq_fast];kernel_rfl) (by decide +kernel) (by decide +kernel) (by decide +kernel) (by first|exact .inl (by decide +kernel)|exact .inr (by decide +kernel)) (by rw[isSubtype_type];kernel_rfl)
theorem Qc:entryFor table "set_iterator.__iter__" = some Builtin.«dict_keyiterator.__iter__» := entryFor_alias (id' := "dict_keyiterator.__iter__") (by kernel_rfl) rfl (by decide +kernel) (by kernel_rfl)
theorem Qk(a:Value):argsOk "set_iterator.__iter__" ⟨[a],[]⟩:=by
 unfold argsOk;rw[signature?_of (id := "set_iterator.__iter__") (n:=['_','_','r','e','t','i','_','_']) (o:=['r','o','t','a','r','e','t','i','_','t','e','s']) (by kernel_rfl) Kq];kernel_rfl
theorem Ql:entryFor table "set.__iter__" = some Builtin.«frozenset.__iter__» := entryFor_alias (id' := "frozenset.__iter__") (by kernel_rfl) rfl (by decide +kernel) (by kernel_rfl)
theorem CZ{α : Type}:∀{l:List α}{i:Nat}(hi:i<l.length),(l[i]::l.eraseIdx i).Perm l
 | x::l,0,_=>mD _
 | x::l,i+1,hi=>by
  have cI:i<l.length:=by simpa using hi
  show(l[i]::x::l.eraseIdx i).Perm (x::l);exact(List.Perm.swap ..).trans ((CZ cI).cons x)
variable{prog:Program}{w:World}{A:Around}{E:Value->Shared->Prop}{s:Shared}
theorem wp_choose{src:Source}{n:Nat}{Q:Nat->Shared->Prop}(hn:n≠0)(h:∀i d,i<n->Q i { s with drawn:=d }):wpAny (model prog w) A (choose src n) Q E s:=λ_ _ _=>⟨hn,h _ _ (vx _ (Nat.pos_of_ne_zero hn))⟩
theorem KS{α : Type}:∀(n:Nat)(xs:List α)(s:Shared){Q:List α -> Shared->Prop},xs.length=n->(∀ys d,ys.Perm xs->Q ys { s with drawn:=d })->wpAny (model prog w) A (drawOrder n xs) Q E s
 | 0,xs,s,Q,hl,h=>by
  obtain rfl:=om hl;unfold drawOrder;exact af (h [] s.drawn (mD _))
 | n+1,[],s,Q,hl,h=>by simp at hl
 | n+1,x::xs,s,Q,hl,h=>by
  unfold drawOrder;refine ae (wp_choose (by simp) λi d hi=>?_);rw[bT hi];dsimp only;refine wpAny_bind (KS n ((x::xs).eraseIdx i) { s with drawn:=d } (by rw[List.length_eraseIdx_of_lt hi,hl];rfl) λys d' hp=>af (h _ d' ?_));refine(hp.cons _).trans ?_;exact(CZ hi)
theorem I_{α : Type}(next:Nat->Nat):∀(n k:Nat)(left:List α)(out:Array α),left.length=n->(pickOrder.go next n k left out).toList.Perm (out.toList++left)
 | 0,k,left,out,hl=>by
  obtain rfl:=om hl;unfold pickOrder.go;rw[gE]
 | n+1,k,left,out,hl=>by
  unfold pickOrder.go;have hi:next k % left.length<left.length:=vx _ (by lia)
  rw[bT hi];dsimp only;refine(I_ next n (k+1) _ _ (by rw[List.length_eraseIdx_of_lt hi,hl];rfl)).trans ?_
  rw[yN,sS];exact List.Perm.append_left _ (CZ hi)
structure mW(w:World)(h:Heap)(I S T:Addr)(es:Array (Int×Value))(ep:Nat)(t:SetTable)(ys:List Value)(i:Nat):Prop where
  set:∃o,h.get? S=some o/\o.data=.set es ep t
  tab:t.fits es.size=true
  at_:∃first o,h.get? I=some o/\o.cls=.type "set_iterator" /\ o.data=.fields #[first,.int i 0,.ref S,.int es.size 0,.int ep 0] /\
    ((∃sl:Nat,first=Value.int sl 0/\w.params.followText "set-order" = true/\ys=(pickOrder (w.params.setOrder S ep) es).toList.map (·.2)) \/
     (∃sl:Nat,first=Value.int sl 0/\w.params.followText "set-order" = false/\(!t.plain&&decide (es.size > 1))=false/\t.led=true/\SetTable.below t.place sl=i/\ii t.place/\ys=es.toList.map (·.2)) \/
     (∃places n oT,first=Value.ref T/\h.get? T=some oT/\oT.data=.seq places n/\places.toList.length=es.size/\∀(k:Nat)(v:Value),places[k]?= some v->∃(j:Nat)(tk:Tok),v=Value.int (j:Nat) tk/\(es[j]?).map (·.2)=ys[k]? /\ j<es.size))
variable{I S T:Addr}{es:Array (Int×Value)}{ep i:Nat}{t:SetTable}{ys:List Value}
theorem mW.ty{h:Heap}(x:mW w s.heap I S T es ep t ys i):s.TypeIs (.ref I) "set_iterator" := let ⟨_,o,ho,hc,_⟩:=x.at_;⟨o,ho,hc⟩
variable{o:Obj}
theorem DR{Q:Array (Int×Value)->Shared->Prop}(ho:s.heap.get? S=some o)(hd:o.data=.set es ep t)(hf:t.fits es.size=true)(h:Q es s):wpAny (model prog w) A (setEntries S) Q E s:=by
 unfold setEntries;exact ae (jm ho hd hf (af h))
theorem AD{Q:Bool->Shared->Prop}(h:Q (w.params.followText "set-order") s):wpAny (model prog w) A setsByText Q E s:=by
 unfold setsByText;exact ae (wpAny_askSetting (af h))
theorem fld{fs:Array Value}{k:Nat}{v:Value}{Q:Unit->Shared->Prop}(ho:s.heap.get? I=some o)(hd:o.data=.fields fs)(hk:k<fs.size)(hc:o.cls=.type "set_iterator")
  (h:∀h' o',h'.get? I=some o'->o'.cls=.type "set_iterator" -> o'.data=.fields (fs.setIfInBounds k v)->Heap.SameBut I s.heap h'->Q () { s with heap:=h' }):wpAny (model prog w) A (setField (.ref I) k v) Q E s :=
 qA ho hd hk (h _ _ (qj _ ho (Obj.isFreed_of_fields (qv hd _))) ((Obj.cls_mapFields ..).trans hc) (qv hd _) (mC ..))
variable{Q:Option (Value×Nat)->Shared->Prop}{sl:Nat}
theorem Jh(hT:w.params.followText "set-order" = true) (ho:s.heap.get? S=some o) (hd:o.data=.set es ep t) (hf:t.fits es.size=true)
  (h:Q (((pickOrder (w.params.setOrder S ep) es)[i]?).map λe=>(e.2,sl)) s):wpAny (model prog w) A (setNext S sl i ep) Q E s:=by
 unfold setNext;refine ae (jm ho hd hf ?_);dsimp only;refine wpAny_bind (AD ?_);rw[hT,if_pos rfl,if_neg (by simp)];unfold setWalk;refine ae (ae (jm ho hd hf ?_));dsimp only;refine wpAny_bind (AD ?_);rw[hT,if_pos rfl];exact ae (wpAny_askSetting (af (af h)))
theorem JB(hT:w.params.followText "set-order" = false) (hp:(!t.plain&&decide (es.size > 1))=false) (hl:t.led=true) (ho:s.heap.get? S=some o) (hd:o.data=.set es ep t) (hf:t.fits es.size=true)
  (h:Q (match es[SetTable.below t.place sl]?,t.place[SetTable.below t.place sl]? with|some (_,x),some j=>some (x,j+1)|_,_=>none) s):wpAny (model prog w) A (setNext S sl i ep) Q E s:=by
 unfold setNext;refine ae (jm ho hd hf ?_);dsimp only;refine wpAny_bind (AD ?_);rw[hT,if_neg (by decide)];change wpAny _ _ (if(!t.plain&&decide (es.size > 1))=true then _ else _) _ _ _
 rw[hp,ag (by decide)];refine ae ?_;change wpAny _ _ (if(!t.led && !es.isEmpty)=true then _ else _) _ _ _
 rw[hl,ag (by simp)];exact af (af h)
variable{Q:Option Value->Shared->Prop}
set_option maxHeartbeats 1000000 in
theorem UQ(x:mW w s.heap I S T es ep t ys i)(hy:ys.length=es.size)(hi:i<ys.length)
  (q:∀h',mW w h' I S T es ep t ys (i+1)->Heap.SameBut I s.heap h'->Q (some ys[i]) { s with heap:=h' }):wpAny (model prog w) A (pyNext (.ref I)) Q E s:=by
 have hT:=x.ty (h:=s.heap);obtain⟨⟨oS,fu,i8⟩,hf,first,o,ho,hc,hd,xO⟩:=id x
 have MZ:S≠I:=λz=>by
  rw[z,ho] at fu;cases fu;rw[hd] at i8;cases i8
 unfold pyNext;refine ae (wpAny_attempt (zd (name:=Str.ofString "__next__") hT qU (mL qU hT Iu ?_ (Ik _))));unfold Builtin.«set_iterator.__next__»;refine ae (af (ae (vB ho hd ?_)));dsimp only;refine wpAny_bind (DR fu i8 hf ?_);rw[if_neg (by simp)];have key:∀nx:Nat,(∀h',(∃o',h'.get? I=some o'/\o'.cls=.type "set_iterator" /\ o'.data=.fields #[Value.int nx 0,.int (i+1:Nat) 0,.ref S,.int es.size 0,.int ep 0])->Heap.SameBut I s.heap h'->mW w h' I S T es ep t ys (i+1)) ->
   wpAny (model prog w) A.in1 (do
     setField (Value.ref I) 0 (rawInt nx)
     setField (Value.ref I) 1 (rawInt ((i:Int)+1))
     ret ys[i]) (λfin s'=>∃v,fin=Fin.done (Flow.ret v)/\wpAny (model prog w) A (pure (some v)) Q E s')
    (λe s'=>wpAny (model prog w) A (do
     let __do_lift <- isInstance e (Value.type "StopIteration")
     if __do_lift=true then pure none else throw e) Q E s') s:=λnx hS=>by
  refine ae (fld ho hd (by simp) hc λh1 o1 dm fq nz gz=>ae (fld (s:={ s with heap:=h1 }) dm nz (by simp) fq λh2 o2 bX fQ hd2 qb=>af ⟨_,rfl,af (q h2 (hS h2 ⟨o2,bX,fQ,?_⟩ (gz.trans qb)) (gz.trans qb))⟩));rw[hd2];rfl
 have E7:∀h',Heap.SameBut I s.heap h'->∃o,h'.get? S=some o/\o.data=.set es ep t:=λh' sb=>⟨oS,(sb.2 S MZ).trans fu,i8⟩;have Zst:t.place.size=es.size:=by
  unfold SetTable.fits at hf;rw[eY] at hf;exact eq_of_beq hf.1
 rcases xO with⟨sl,rfl,fP,e⟩|⟨sl,rfl,fP,aA,Bb,iB,hr,e⟩|⟨places,n,oT,rfl,pJ,c9,sf,FJ⟩
 ·dsimp only;rw[Int.toNat_natCast,Int.toNat_natCast,Int.toNat_natCast];refine ae (Jh fP fu i8 hf ?_);have pL:((pickOrder (w.params.setOrder S ep) es)[i]?).map (λe=>(e.2,sl))=some (ys[i],sl):=by
   have h1:((pickOrder (w.params.setOrder S ep) es).toList.map (·.2))[i]?= some ys[i]:=by rw[<- e];exact bT hi
   rw[cp,dU] at h1;obtain⟨x,hx,kG⟩:=gG.mp h1;rw[hx];show some (x.2,sl)=_;rw[kG]
  rw[pL];dsimp only;exact key sl λh' ⟨o',a1,a2,a3⟩ sb=>⟨E7 h' sb,hf,_,o',a1,a2,a3,.inl ⟨sl,rfl,fP,e⟩⟩
 ·dsimp only;rw[Int.toNat_natCast,Int.toNat_natCast,Int.toNat_natCast];refine ae (JB fP aA Bb fu i8 hf ?_);have pD:i<es.size:=by lia
  rw[iB,gC pD,gC (show i<t.place.size by lia)];have Gb:ys[i]=es[i].2:=by
   have h1:ys[i]?= some es[i].2:=by rw[e,cp,dU,gC pD];rfl
   rw[bT hi] at h1;exact cE h1
  dsimp only;rw[<- Gb];exact key (t.place[i]+1) λh' ⟨o',a1,a2,a3⟩ sb=>⟨E7 h' sb,hf,_,o',a1,a2,a3,.inr (.inl ⟨_,rfl,fP,aA,Bb,Rh hr _,hr,e⟩)⟩
 ·dsimp only;refine wpAny_bind (wpAny_seqItems pJ c9 ?_);dsimp only;rw[Int.toNat_natCast,Int.toNat_natCast];have pL:i<places.size:=by rw[<- aK];lia
  obtain⟨j,tk,hv,hj,rQ⟩:=FJ i _ (gC pL);rw[gC pL,hv];dsimp only;rw[Int.toNat_natCast];rw[bT hi,gC rQ] at hj;have Gb:es[j].2=ys[i]:=cE hj;unfold setNextDrawn;refine ae (ae (jm fu i8 hf ?_));dsimp only;rw[if_neg (by simp),Array.getElem?_eq_getElem rQ];refine af ?_;rw[show(es.toList.get ⟨j,rQ⟩).snd=ys[i] from Gb];have M8:T≠I:=λz=>by
   rw[z,ho] at pJ;cases pJ;rw[hd] at c9;cases c9
  refine ae (fld ho hd (by simp) hc λh2 o2 bX fQ hd2 qb=>af ⟨_,rfl,af (q h2 ⟨E7 h2 qb,hf,_,o2,bX,fQ,?_,.inr (.inr ⟨places,n,oT,rfl,(qb.2 T M8).trans pJ,c9,sf,FJ⟩)⟩ qb)⟩);rw[hd2];rfl
theorem DU{fs:Array Value}(hh:A.handled=none)(ho:s.heap.get? I=some o)(hd:o.data=.fields fs)(hk:2<fs.size)(hc:o.cls=.type "set_iterator") (q:∀h',Heap.ExtBut I s.heap h'->Q none { s with heap:=h' }) :
  wpAny (model prog w) A.in1 (do
    setField (Value.ref I) 2 Value.none
    let __do_lift <- newExc (Value.type "StopIteration") []
    raiseNew __do_lift) (λfin s'=>∃v,fin=Fin.done (Flow.ret v)/\wpAny (model prog w) A (pure (some v)) Q E s')
   (λe s'=>wpAny (model prog w) A (do
    let __do_lift <- isInstance e (Value.type "StopIteration")
    if __do_lift=true then pure none else throw e) Q E s') s:=by
 refine ae (fld ho hd hk hc λh1 o1 dm fq nz gz=>?_);refine ae ?_;simp only[newExc,newTuple];refine ae (mM (ae (m:=firstArgMember _ _) (qz (a:=Value.none) (by first|rfl|(simp only[firstArgMember];rfl)) (mM ?_ (by size_fits)))) (by size_fits))
 simp only[raiseNew];refine ae (wpAny_handled ?_);rw[show A.in1.handled=none from hh];refine ae (af (wpAny_throw ?_));refine ae (oy (T := "StopIteration") (b:=true) (v:=.ref _) (by exact⟨_,bo _ rfl,rfl⟩) isSubtype_stop ?_);exact af (q _ ((gz.extBut.push _).push _))
set_option maxHeartbeats 1000000 in
theorem Ux(hh:A.handled=none)(x:mW w s.heap I S T es ep t ys ys.length)(hy:ys.length=es.size)
  (q:∀h',Heap.ExtBut I s.heap h'->Q none { s with heap:=h' }):wpAny (model prog w) A (pyNext (.ref I)) Q E s:=by
 have hT:=x.ty (h:=s.heap);obtain⟨⟨oS,fu,i8⟩,hf,first,o,ho,hc,hd,xO⟩:=id x
 unfold pyNext;refine ae (wpAny_attempt (zd (name:=Str.ofString "__next__") hT qU (mL qU hT Iu ?_ (Ik _))));unfold Builtin.«set_iterator.__next__»;refine ae (af (ae (vB ho hd ?_)));dsimp only;refine wpAny_bind (DR fu i8 hf ?_);rw[if_neg (by simp)];rcases xO with⟨sl,rfl,fP,e⟩|⟨sl,rfl,fP,aA,Bb,iB,hr,e⟩|⟨places,n,oT,rfl,pJ,c9,sf,FJ⟩
 ·dsimp only;rw[Int.toNat_natCast,Int.toNat_natCast,Int.toNat_natCast];refine ae (Jh fP fu i8 hf ?_);have pL:(pickOrder (w.params.setOrder S ep) es)[ys.length]?= none:=by
   have h1:ys.length=(pickOrder (w.params.setOrder S ep) es).size:=by
    rw[e,ay,aK]
   exact vd (Nat.le_of_eq h1.symm)
  rw[pL];exact DU hh ho hd (by simp) hc q
 ·dsimp only;rw[Int.toNat_natCast,Int.toNat_natCast,Int.toNat_natCast];refine ae (JB fP aA Bb fu i8 hf ?_);rw[iB,vd (show es.size<=ys.length by lia)];exact DU hh ho hd (by simp) hc q
 ·dsimp only;refine wpAny_bind (wpAny_seqItems pJ c9 ?_);dsimp only;rw[Int.toNat_natCast];have pL:places.size<=ys.length:=by rw[<- aK];lia
  rw[vd pL];dsimp only;refine ae (fld ho hd (by simp) hc λh1 o1 dm fq nz gz=>DU (s:={ s with heap:=h1 }) hh dm nz (by simp) fq λh' eb=>q h' λb o2 hb e2=>eb b o2 hb ((gz.2 b hb).trans e2))
theorem Sn(hh:A.handled=none)(MZ:S≠I)(M8:T≠I)(hy:ys.length=es.size):Walks prog w A I [I,S,T] [I] ys.length (λi v=>ys[i]?= some v) (λi h=>mW w h I S T es ep t ys i) where
 sub:=λb hb=>aJ.mpr (.inl (az.mp hb))
 frame:=λi h h' x hk=>by
  obtain⟨⟨oS,fu,i8⟩,hf,first,o,ho,hc,hd,xO⟩:=x
  refine⟨⟨oS,hk S (by simp) oS fu,i8⟩,hf,first,o,hk I (by simp) o ho,hc,hd,?_⟩
  rcases xO with h1|h1|⟨places,n,oT,e,pJ,r⟩
  ·exact .inl h1
  ·exact .inr (.inl h1)
  ·exact .inr (.inr ⟨places,n,oT,e,hk T (by simp) oT pJ,r⟩)
 item:=λi s Q E hi x hQ=>UQ x hy hi λh' x' sb=>hQ _ h' s.toks (bT hi) x' λb o hb e=>(sb.2 b (λz=>hb (az.mpr z))).trans e
 done:=λs Q E x hQ=>Ux hh x hy λh' eb=>hQ h' s.toks λb o hb e=>eb b o (λz=>hb (az.mpr z)) e
 self:=λi s Q E x hQ=>by
  have hT:=x.ty (h:=s.heap);refine wpAny_pyIter_slot hT Il (mL Il hT Qc ?_ (Qk _));change wpAny _ _ (ret (.ref I)) _ _ s;exact af ⟨_,rfl,"set_iterator",_,hT,qU.lookup,hQ⟩
section
variable{prog:Program}{w:World}{K:Type}[DecidableEq K]{knd:KeyKind prog w K}{A:Around}{E:Value->Shared->Prop}{s:Shared}
theorem UZ{S:Addr}{o:Obj}{es:Array (Int×Value)}{ep:Nat}{t:SetTable}{Q:Bool->Shared->Prop}(ho:s.heap.get? S=some o)(hd:o.data=.set es ep t)(hf:t.fits es.size=true)(h:Q (!w.params.followText "set-order" && (!t.plain&&decide (es.size > 1))) s):wpAny (model prog w) A (setDrawn S) Q E s:=by
 unfold setDrawn;refine ae (jm ho hd hf ?_);dsimp only;exact ae (AD (af h))
end
end j_
namespace j_
open PySem PyProof.Rows PySem.W
section
variable{prog:Program}{w:World}{K:Type}[DecidableEq K]{knd:KeyKind prog w K}{A:Around}{E:Value->Shared->Prop}{s:Shared}
theorem R9{r:Addr}{Q:Bool->Shared->Prop}(hT:s.TypeIs (.ref r) "set") (h:Q false s):wpAny (model prog w) A (Builtin.List.listLengthHint (.ref r)) Q E s:=by
 unfold Builtin.List.listLengthHint;refine ae (oB hT PySem.F.slot_set_len.lookup ?_);generalize Nm:("set.__len__" : String)=id0
 wp_delta
 rw[show splitId id0=some ("set","__len__") from by subst Nm;decide +kernel];subst Nm;refine ae (oy (T := "set") (b:=true) hT (by rw[isSubtype_type];kernel_rfl) (wpAny_ite_split (λc8=>absurd c8 (by decide)) (λ_=>wpAny_ite_split (λ_=>?_) (λc8=>absurd (by decide +kernel) c8))));exact ae (qC hT (af h))
end
end j_
namespace L2
open PySem PySem.Spec PyProof.Rows PySem.W
variable{X:Cx}
theorem Inv.draws{pins:List (Addr×Obj)}{σ : St}{H:Hp}{s:Shared}{d:Drawn}(I:Inv X pins σ H s):Inv X pins σ H { s with drawn:=d } :=
 I.step (g':=s.gens) (d':=d) (t':=s.toks) (ch:=[]) (λ_ z=>nomatch z) (λ_ _ _ _ _ e _=>e) (λ_ o _ _ _ e _=>⟨o.slots,e⟩) (λ_ _ _ _ n=>n) (λ_ o _ e=>⟨o,e⟩) (λ_ _ h=>h) (λ_ _ _ h=>h) (λ_ ps h=>⟨#[],by simpa using h⟩) (λ_ h=>h) I.ah I.bare
theorem Ur:bootBuiltins "set" = some (.type "set"):=by decide +kernel
theorem QM:bootBuiltins "sorted" = some (.builtin "sorted"):=by decide +kernel
theorem J2{ns:List Int}:∀zs:List V,(∀z∈zs,z∈ns.map V.int)->∃ms:List Int,zs=ms.map V.int/\∀m∈ms,m∈ns
 | [],_=>⟨[],rfl,λ_ h=>nomatch h⟩
 | z::zs,h=>by
  obtain⟨m,hm,rfl⟩:=aS.mp (h z (aU ..));obtain⟨ms,rfl,ZT⟩:=J2 zs λx hx=>h x (aR _ hx);refine⟨m::ms,rfl,λx hx=>?_⟩;rcases aJ.mp hx with rfl|hx
  ·exact hm
  ·exact ZT x hx
end L2
namespace av
open PySem PyProof.Rows vS
structure vT(lt:Keyed->Keyed->Bool):Prop where
 kn:∀x y,lt x y=true->lt y x=false
 neg:∀x y z,lt x y=false->lt y z=false->lt x z=false
def Le(lt:Keyed->Keyed->Bool)(x y:Keyed):Prop:=lt y x=false
def Mc(prog:Program)(w:World)(A:Around)(s:Shared)(κ : SortKind)(Ok:Keyed->Prop)(lt:Keyed->Keyed->Bool):Prop :=
 ∀x y,Ok x->Ok y->∀E:Value->Shared->Prop,wpAny (model prog w) A (keyLt' κ x.1 y.1) (λb s'=>s'=s/\b=lt x y) E s
section
variable{lt:Keyed->Keyed->Bool}{a b out:Array Keyed}{ia ib k:Nat}{p q:Keyed}
abbrev So(lt:Keyed->Keyed->Bool)(l:List Keyed):Prop:=l.Pairwise (Le lt)
end
end av
namespace av
open PySem PyProof.Rows vS PySem.W
variable{E:Value->Shared->Prop}
def v_(prog:Program)(w:World)(A:Around)(lv:Value->Value->Bool)(vs:List Value)(s:Shared):Prop :=
 ∃ κ,(∀(Q:SortKind->Shared->Prop)(E:Value->Shared->Prop),Q κ s->wpAny (model prog w) A (keyKind' vs.toArray) Q E s)/\Mc prog w A s κ (λp=>p∈(pairsOf vs).toList) λx y=>lv x.1 y.1
variable{vs:List Value}
theorem Ii{p:Keyed}(h:p∈(pairsOf vs).toList):p.1=p.2:=by
 rw[pairsOf_toList] at h;obtain⟨i,hi⟩:=iM.mp h;rw[List.getElem?_zip_eq_some] at hi;have:=hi.1.symm.trans hi.2;exact cE this
theorem Tz{lt:Keyed->Keyed->Bool}(h:vs.length<2):So lt (pairsOf vs).toList:=oq.mpr λi j hi hj kB=>by
 rw[aK,pairsOf_size] at hi hj;lia
variable{lv:Value->Value->Bool}
theorem La{xs:Array Keyed}(hp:xs.toList.Perm (pairsOf vs).toList)(h:So (λx y=>lv x.1 y.1) xs.toList):(xs.map (·.2)).toList.Pairwise (λu v=>lv v u=false):=by
 rw[yM,jk];refine BX (λ{x y} hx hy x_=>?_) h;have HC:lv y.1 x.1=false:=x_;rw[Ii (hp.mem_iff.mp hx),Ii (hp.mem_iff.mp hy)] at HC;exact HC
def iV:Value->Int
 | .int i _=>i
 | _=>0
def Gn(u v:Value):Bool:=decide (iV u<iV v)
theorem K2:vT λx y=>Gn x.1 y.1:=⟨λx y h=>a8 (by have:=bh h;lia),λx y z h1 h2=>a8 (by have:=mJ h1;have:=mJ h2;lia)⟩
variable{prog:Program}{w:World}{A:Around}{s:Shared}
theorem HZ(hv:∀v∈vs,∃i t,v=Value.int i t)(h2:2<=vs.length):v_ prog w A Gn vs s:=by
 refine⟨oneType',λQ E hq=>kas_kind (T:=.type "int") h2 (λv hm=>?_) rfl rfl hq,?_⟩
 ·obtain⟨i,t,rfl⟩:=hv v hm;exact Looks.of_pure rfl
 ·intro x y hx hy E;rw[pairsOf_toList] at hx hy;obtain⟨i,t,e⟩:=hv _ (mI hx).2;obtain⟨i',t',e'⟩:=hv _ (mI hy).2;rw[e,e',keyLt'_oneType];refine oneLt_int ⟨rfl,?_⟩;show decide (i<i')=decide (iV x.1<iV y.1);rw[e,e'];rfl
section
variable{prog:Program}{w:World}{A:Around}{E:Value->Shared->Prop}{s:Shared}{T:String}{r d:Addr}{n:Nat}{P:Nat->Value->Prop}{OK:Heap->Prop}
theorem IJ{Q:List Value->Shared->Prop}(K:KdlSrc prog w T r d n P OK)(hh:A.handled=none)(ah:OK s.heap)(hn:n<=sizeLine)
  (q:∀(acc:Array Value)(h':Heap)(tk:Nat),(∀b o,s.heap.get? b=some o->h'.get? b=some o)->ItemsOf P acc n->s.heap.objs.size<=h'.objs.size->Q acc.toList { s with heap:=h',toks:=tk }):wpAny (model prog w) A (collect (.ref r)) Q E s:=by
 unfold collect;refine ae (wpAny_runValue (fF entry_proto_collect' ?_));change wpAny _ _ (do again (.builtin "list.__iadd__" ⟨[<- newList [],.ref r],[]⟩)) _ _ s;refine ae (vC (af ⟨yP _ (by decide +kernel),fF entry_list_iadd' ?_⟩));change wpAny _ A.in1 (Builtin.List.listExtendWith (.ref s.heap.objs.size) (.ref r) (.ref s.heap.objs.size)) _ _ { s with heap:=s.heap.push (seqObj "list" #[] 0) };have au:=K.there _ ah;refine kdl_extend (R:=wants (λv s'=>wpAny (model prog w) A (match v with
     | Value.ref a=>do
      let o <- load a
      match o.data with
      | .seq xs _=>pure xs.toList
      | _=>unsupported "internal:collect"
     | _=>unsupported "internal:collect") Q E s') E) (s:={ s with heap:=s.heap.push (seqObj "list" #[] 0) }) K hh (K.keep _ _ ah λb _ o e=>ax _ e) s.heap.objs.size (sX au.1) (sX au.2) _ 0 (bo _ rfl) (λh' tk acc c kp hS hit=>?_) hn
 refine ae (wpAny_load hS ?_);refine af ?_;exact q acc h' tk (λb o e=>kp b o (aV (aH e)) (ax _ e)) hit (iN (aH hS))
end
structure Fo(f:Nat->Nat->Bool):Prop where
 kn:∀x y,f x y=true->f y x=false
 neg:∀{x} y {z},f x y=false->f y z=false->f x z=false
abbrev aE(p:Array Nat)(i:Nat):Nat:=p.getD i 0
def jy(f:Nat->Nat->Bool)(p:Array Nat)(n:Nat):Prop := ∀x y,x<y->y<n->f (aE p y) (aE p x)=false
def lz(f:Nat->Nat->Bool)(p:Array Nat)(n:Nat):Prop := ∀x y,x<y->y<n->f (aE p x) (aE p y)=false
def mT(f:Nat->Nat->Bool)(p:Array Nat)(m n:Nat):Prop := ∀x y,m<=x->x<n->m<=y->y<n->f (aE p x) (aE p y)=false
def cR(N:Nat)(p:Array Nat):Prop:=p.toList.Perm (List.range N)
section
variable{f:Nat->Nat->Bool}{N:Nat}{cmp:Nat->Nat->(Bool->Shared->Prop)->Shared->Prop}{s:Shared}{p:Array Nat}
theorem cR.size(h:cR N p):p.size=N:=by
 have:=h.length_eq
 simpa using this
theorem cR.lt(h:cR N p){i:Nat}(hi:i<N):aE p i<N:=by
 have hs:=h.size;have e:aE p i=p[i]:=by simp[aE,Array.getD,show i<p.size by lia]
 rw[e];exact fU.mp (h.mem_iff.mp (by simp))
theorem cR.rev(h:cR N p)(i j:Nat):cR N (kas_rev p i j):=(mirror_perm p i j _).toList.trans h
theorem cR.Wz(h:cR N p)(i j:Nat):cR N (bubble p i j):=(bubble_perm p i j).toList.trans h
theorem lH{j:Nat}(h:cR N p)(hj:j<=N)(i k:Nat):aE (kas_rev p i j) k=if i<=k/\k<j then aE p (i+j-1-k) else aE p k:=by
 have e:=getElem?_mirror_all (i:=i) (show j<=p.size by rw[h.size];exact hj) k;show(kas_rev p i j).getD k 0=_;rw[BS];show((mirror p i j ((j-i) / 2))[k]?).getD 0=_;rw[e]
 split <;> exact(BS ..).symm
theorem LI{k l:Nat}(h:cR N p)(hk:k<N)(hl:l<=k)(i:Nat):aE (bubble p k (k-l)) i=if i=l then aE p k else if l<i/\i<=k then aE p (i-1) else aE p i:=by
 have e:=getElem?_bubble (show k<p.size by rw[h.size];exact hk) (k-l) (by lia) i;show(bubble p k (k-l)).getD i 0=_;rw[BS,e,show k-(k-l)=l by lia]
 repeat' split
 all_goals exact(BS ..).symm
variable(o:Fo f)
include o
theorem Fo.me(x:Nat):f x x=false:=by
 cases h:f x x with
 | false=>rfl
 | true=>exact(o.kn _ _ h).symm.trans h |>.symm
variable{n:Nat}
theorem jy.ext(h:jy f p n)(e:f (aE p n) (aE p (n-1))=false):jy f p (n+1):=λx y h1 h2=>by
 rcases lc y n with c|c
 ·exact h x y h1 c
 ·obtain rfl:y=n:=by lia
  rcases lc x (y-1) with c|c
  ·exact o.neg _ e (h x (y-1) c (by lia))
  ·rw[show x=y-1 by lia];exact e
theorem lz.ext(h:lz f p n)(e:f (aE p (n-1)) (aE p n)=false):lz f p (n+1):=λx y h1 h2=>by
 rcases lc y n with c|c
 ·exact h x y h1 c
 ·obtain rfl:y=n:=by lia
  rcases lc x (y-1) with c|c
  ·exact o.neg _ (h x (y-1) c (by lia)) e
  ·rw[show x=y-1 by lia];exact e
theorem mT.ext{m:Nat}(h:mT f p m n)(hn:m<n)(e1:f (aE p (n-1)) (aE p n)=false)(e2:f (aE p n) (aE p (n-1))=false):mT f p m (n+1):=λx y h1 h2 h3 h4=>by
 have k1:∀x,m<=x->x<n+1->f (aE p x) (aE p (n-1))=false:=λx h1 h2=>by
  rcases lc x n with c|c
  ·exact h x _ h1 c (by lia) (by lia)
  ·rw[show x=n by lia];exact e2
 have k2:∀x,m<=x->x<n+1->f (aE p (n-1)) (aE p x)=false:=λx h1 h2=>by
  rcases lc x n with c|c
  ·exact h _ x (by lia) (by lia) h1 c
  ·rw[show x=n by lia];exact e1
 exact o.neg _ (k1 x h1 h2) (k2 y h3 h4)
theorem mT.one(n:Nat):mT f p (n+1-(0+1)) (n+1):=λx y h1 h2 h3 h4=>by
 rw[show x=y by lia];exact o.me _
variable(hc:∀i j C,i<N->j<N->C (f i j) s->cmp i j C s)
include hc
theorem D5(hp:cR N p){G:Nat->Shared->Prop}:∀k n,1<=n->n+k<=N->jy f p n->(∀m,n<=m->m<=n+k->jy f p m->(m<n+k->f (aE p m) (aE p (m-1))=true)->G m s)->(kas_asc p k n).kasWp cmp G s
 | 0,n,_,_,u,h=>h n (aq _) (aq _) u λz=>absurd z (cD _)
 | k+1,n,h1,hn,u,h=>hc _ _ _ (hp.lt (by lia)) (hp.lt (by lia)) (by
  show(if f (aE p n) (aE p (n-1))=true then _ else _:KasT Nat).kasWp cmp G s
  by_cases c:f (aE p n) (aE p (n-1))=true
  ·rw[ai c];exact h n (aq _) (by lia) u λ_=>c
  ·rw[ag c];exact D5 hp k (n+1) (by lia) (by lia) (u.ext o (by simpa using c)) λm a b u' e=>h m (by lia) (by lia) u' λz=>e (by lia))
theorem DT{G:Array Nat×Nat×Nat->Shared->Prop}:∀k p n q,cR N p->q+1<=n->n+k<=N->lz f p n->mT f p (n-(q+1)) n->(∀p' n' q',cR N p'->n<=n'->n'<=n+k->q'+1<=n'->lz f p' n'->mT f p' (n'-(q'+1)) n'->G (p',n',q') s)->(kas_desc k p n q).kasWp cmp G s
 | 0,p,n,q,hp,hq,_,d,e,h=>h p n q hp (aq _) (aq _) hq d e
 | k+1,p,n,q,hp,hq,hn,d,e,h=>hc _ _ _ (hp.lt (by lia)) (hp.lt (by lia)) (by
  show(if f (aE p n) (aE p (n-1))=true then(if q > 0 then _ else _) else KasT.ask _ _ _:KasT (Array Nat×Nat×Nat)).kasWp cmp G s
  have go:∀p',cR N p'->lz f p' n->f (aE p' (n-1)) (aE p' n)=false->(kas_desc k p' (n+1) 0).kasWp cmp G s:=λp' Ce d' e'=>DT k p' (n+1) 0 Ce (by lia) (by lia) (d'.ext o e') (mT.one o n) λp2 n2 q2 a b c=>h p2 n2 q2 a (by lia) (by lia);by_cases c:f (aE p n) (aE p (n-1))=true
  ·rw[ai c];by_cases cq:q > 0
   ·rw[ai cq];have at_:∀x,x<n->∃y,aE (kas_rev p (n-(q+1)) n) x=aE p y/\y<n/\(x<n-(q+1)->y=x)/\(n-(q+1)<=x->n-(q+1)<=y):=λx hx=>by
     rw[lH hp (by lia)]
     split
     ·exact⟨_,rfl,by lia,by lia,by lia⟩
     ·exact⟨_,rfl,by lia,by lia,by lia⟩
    refine go _ (hp.rev _ _) (λx y h1 h2=>?_) ?_
    ·obtain⟨x',ex,x1,x2,x3⟩:=at_ x (by lia);obtain⟨y',ey,y1,y2,y3⟩:=at_ y h2;rw[ex,ey];rcases lc x (n-(q+1)) with z|z
     ·have:=x2 z;rcases lc y (n-(q+1)) with w|w
      ·have:=y2 w;exact d _ _ (by lia) y1
      ·have:=y3 w;exact d _ _ (by lia) y1
     ·exact e _ _ (x3 z) x1 (y3 (by lia)) y1
    ·obtain⟨y,ey,y1,_,y3⟩:=at_ (n-1) (by lia);have y3:=y3 (by lia);rw[ey,lH hp (by lia),ag (by lia)];refine o.kn _ _ ?_;cases c2:f (aE p n) (aE p y) with
     | true=>rfl
     | false=>exact absurd c (by rw[o.neg _ c2 (e y (n-1) y3 y1 (by lia) (by lia))];decide)
   ·rw[ag cq];exact go p hp d (o.kn _ _ c)
  ·rw[ag c];refine hc _ _ _ (hp.lt (by lia)) (hp.lt (by lia)) ?_;show(if f (aE p (n-1)) (aE p n)=true then _ else _:KasT (Array Nat×Nat×Nat)).kasWp cmp G s
   by_cases c2:f (aE p (n-1)) (aE p n)=true
   ·rw[ai c2];exact h p n q hp (aq _) (by lia) hq d e
   ·rw[ag c2];refine DT k p (n+1) (q+1) hp (by lia) (by lia) (d.ext o (by simpa using c2)) ?_ λp2 n2 q2 a b c=>h p2 n2 q2 a (by lia) (by lia);rw[show n+1-(q+1+1)=n-(q+1) by lia];exact e.ext o (by lia) (by simpa using c2) (by simpa using c))
variable{G:Nat×Array Nat->Shared->Prop}
theorem Ky(hp:cR N p)(hn:n+1<=N)(d:lz f p (n+1))(h:∀m p',cR N p'->1<=m->m<=N->jy f p' m->G (m,p') s):(kas_descPart n N p).kasWp cmp G s:=by
 have tl:∀p n,cR N p->1<=n->n<=N->lz f p n->(kas_tail3 n N p).kasWp cmp G s:=λp n hp h1 hn d=>by
  unfold kas_tail3;rw[KasT.kasWp_bind];refine D5 o hc (hp.rev _ _) _ _ h1 (by lia) (λx y hx hy=>?_) λm a b u _=>h m _ (hp.rev _ _) (by lia) (by lia) u;rw[lH hp hn,lH hp hn,ai (by lia),ai (by lia)];exact d _ _ (by lia) (by lia)
 unfold kas_descPart;rw[KasT.kasWp_bind];refine DT o hc _ _ _ _ hp (by lia) (by lia) d (mT.one o n) λp' n' q' a b c hq d' e'=>?_;show(if q' > 0 then _ else _:KasT (Nat×Array Nat)).kasWp cmp G s
 by_cases cq:q' > 0
 ·rw[ai cq];show(kas_tail3 n' N (kas_rev p' (n'-(q'+1)) n')).kasWp cmp G s;refine tl _ _ (a.rev _ _) (by lia) (by lia) λx y h1 h2=>?_;rw[lH a (by lia),lH a (by lia)]
  split
  ·rw[ai (by lia)];exact e' _ _ (by lia) (by lia) (by lia) (by lia)
  ·split
   ·exact d' _ _ (by lia) (by lia)
   ·exact d' _ _ h1 h2
 ·rw[ag cq];exact tl p' n' a (by lia) (by lia) d'
theorem Tf(hp:cR N p)(h2:1<=N)(h:∀m p',cR N p'->1<=m->m<=N->jy f p' m->G (m,p') s):(kas_count N p).kasWp cmp G s:=by
 unfold kas_count;rw[KasT.kasWp_bind];refine D5 o hc hp _ _ (aq _) (by lia) (λx y h1 h2=>by lia) λn a b u e=>?_;show(if(n == N)=true then KasT.ret (n,p) else if n > 1 then _ else _:KasT (Nat×Array Nat)).kasWp cmp G s
 by_cases c:(n == N)=true
 ·rw[ai c];exact h n p hp a (by lia) u
 ·rw[ag c];have hn:n<N:=by
   have:n≠N:=by simpa using c
   lia
  have e:=e (by lia);by_cases c1:n > 1
  ·rw[ai c1];refine hc _ _ _ (hp.lt (by lia)) (hp.lt (by lia)) ?_;show(if f (aE p 0) (aE p (n-1))=true then _ else _:KasT (Nat×Array Nat)).kasWp cmp G s
   by_cases c2:f (aE p 0) (aE p (n-1))=true
   ·rw[ai c2];exact h n p hp a (by lia) u
   ·rw[ag c2];have c2:f (aE p 0) (aE p (n-1))=false:=by simpa using c2
    refine Ky o hc (hp.rev _ _) (by lia) (lz.ext o (λx y hx hy=>?_) ?_) h
    ·rw[lH hp (by lia),lH hp (by lia),ai (by lia),ai (by lia)];exact u _ _ (by lia) (by lia)
    ·rw[lH hp (by lia),lH hp (by lia),ai (by lia),ag (by lia),show 0+n-1-(n-1)=0 by lia];refine o.kn _ _ ?_;cases c3:f (aE p n) (aE p 0) with
     | true=>rfl
     | false=>exact absurd e (by rw[o.neg _ c3 c2];decide)
  ·rw[ag c1];obtain rfl:n=1:=by lia
   exact Ky o hc hp (by lia) (lz.ext o (λx y h1 h2=>by lia) (o.kn _ _ e)) h
theorem Dq{k:Nat}(hp:cR N p)(hk:k<N)(u:jy f p k){G:Nat->Shared->Prop}:∀r l m,l<=m->m<=k->m<=l+r->(∀i,i<l->f (aE p k) (aE p i)=false)->(∀i,m<=i->i<k->f (aE p k) (aE p i)=true)->(∀l,l<=k->(∀i,i<l->f (aE p k) (aE p i)=false)->(∀i,l<=i->i<k->f (aE p k) (aE p i)=true)->G l s)->(kas_place p k r l m).kasWp cmp G s
 | 0,l,m,a,b,c,h1,h2,h=>h l (by lia) h1 λi x y=>h2 i (by lia) y
 | r+1,l,m,a,b,c,h1,h2,h=>by
  show(if l>=m then _ else KasT.ask _ _ _:KasT Nat).kasWp cmp G s
  by_cases z:l>=m
  ·rw[ai z];exact h l (by lia) h1 λi x y=>h2 i (by lia) y
  ·rw[ag z];refine hc _ _ _ (hp.lt hk) (hp.lt (by lia)) ?_;show(if f (aE p k) (aE p ((l+m) / 2))=true then _ else _:KasT Nat).kasWp cmp G s
   by_cases w:f (aE p k) (aE p ((l+m) / 2))=true
   ·rw[ai w];refine Dq hp hk u r l _ (by lia) (by lia) (by lia) h1 (λi x y=>?_) h;rcases lc ((l+m) / 2) i with v|v
    ·cases t:f (aE p k) (aE p i) with
     | true=>rfl
     | false=>exact absurd w (by rw[o.neg _ t (u _ _ v y)];decide)
    ·rw[show i=(l+m) / 2 by lia];exact w
   ·rw[ag w];have w:f (aE p k) (aE p ((l+m) / 2))=false:=by simpa using w
    refine Dq hp hk u r _ m (by lia) (by lia) (by lia) (λi x=>?_) h2 h;rcases lc i ((l+m) / 2) with v|v
    ·exact o.neg _ w (u _ _ v (by lia))
    ·rw[show i=(l+m) / 2 by lia];exact w
theorem Lm{G:Array Nat->Shared->Prop}:∀r p k,cR N p->k+r=N->jy f p k->(∀p',cR N p'->jy f p' N->G p' s)->(kas_bin r p k).kasWp cmp G s
 | 0,p,k,hp,hk,u,h=>h p hp (by rw[<- hk];exact u)
 | r+1,p,k,hp,hk,u,h=>by
  show((kas_place p k k 0 k).bind λl=>kas_bin r (bubble p k (k-l)) (k+1)).kasWp cmp G s;rw[KasT.kasWp_bind];refine Dq o hc hp (by lia) u _ _ _ (bE _) (aq _) (by lia) (λi h=>by lia) (λi h1 h2=>by lia) λl hl h1 h2=>Lm r _ _ (hp.Wz _ _) (by lia) (λx y hx hy=>?_) h;rw[LI hp (by lia) hl,LI hp (by lia) hl];by_cases a:y=l
  ·rw[ai a,ag (by lia),ag (by lia)];exact h1 x (by lia)
  ·rw[ag a];by_cases b:x=l
   ·rw[ai b,ai (by lia)];exact o.kn _ _ (h2 (y-1) (by lia) (by lia))
   ·rw[ag b]
    repeat' split
    all_goals exact u _ _ (by lia) (by lia)
theorem UX{G:Array Nat->Shared->Prop}(h2:1<=N)(h:∀p',cR N p'->jy f p' N->G p' s):(kas_sort N).kasWp cmp G s:=by
 unfold kas_sort;rw[KasT.kasWp_bind];refine Tf o hc (show cR N (List.toArray (List.range N)) from mD _) h2 λm p' a b c u=>?_;show(if m<N then _ else _:KasT (Array Nat)).kasWp cmp G s
 by_cases z:m<N
 ·rw[ai z,show max m 1=m by lia];exact Lm o hc _ _ _ a (by lia) u h
 ·rw[ag z];exact h p' a (by rw[show N=m by lia];exact u)
end
section
variable{prog:Program}{w:World}{A:Around}{E:Value->Shared->Prop}{s:Shared}{κ : SortKind}{lt:Keyed->Keyed->Bool}
theorem Se{a₀ : Array Keyed}{Q:Unit->SortSt->Prop}(o:vT lt)(hc:Mc prog w A s κ (λp=>p∈a₀.toList) lt)(hn:2<=a₀.size)(i5:a₀.size<=63)(h:∀bq,(arrOf bq).toList.Perm a₀.toList->So lt (arrOf bq).toList->failedOf bq=none->Q () bq):wpS (model prog w) A E s sortRuns' Q (SortSt.mk' κ a₀ #[] 7 none):=by
 have it:∀i,i<a₀.size->kas_item a₀ i∈a₀.toList:=λi hi=>by
  unfold kas_item;simp[Array.getD,hi]
 have e0:SortSt.mk' κ a₀ #[] 7 none=kas_st κ a₀ (List.toArray (List.range a₀.size)):=by
  unfold kas_st;rw[kas_range]
 rw[e0];show kasC (model prog w) A E sortRuns' (λa bq s'=>s'=s/\Q a bq) _ s;refine kas_runs (prog:=prog) (w:=w) (A:=A) (κ := κ) (it:=a₀) (G:=λp s'=>s'=s/\cR a₀.size p/\jy (λi j=>lt (kas_item a₀ i) (kas_item a₀ j)) p a₀.size) hn (by lia) (λp' bq s' hs ha hf hg=>?_) (UX (f:=λi j=>lt (kas_item a₀ i) (kas_item a₀ j)) ⟨λx y=>o.kn _ _,λy=>o.neg _ _ _⟩ (λi j C hi hj q=>?_) (by lia) λp' a b=>⟨rfl,a,b⟩)
 ·obtain⟨rfl,g1,g2⟩:=hg;refine⟨rfl,h bq ?_ ?_ hf⟩
  ·rw[ha,yM];refine(g1.map _).trans ?_;have e:=congrArg Array.toList (kas_range a₀);rw[yM] at e;rw[show List.map (kas_item a₀) (List.range a₀.size)=a₀.toList from e]
  ·rw[ha,yM,So,jk];refine oq.mpr λi j hi hj kB=>?_;rw[aK] at hi hj;have:=g2 i j kB (by lia)
   simpa[Le,aE,Array.getD,hi,hj] using this
 ·exact cw (hc _ _ (it i hi) (it j hj) _) (λb s' ⟨h1,h2⟩=>by subst h1;subst h2;exact q) λ_ _ e=>e
end
theorem QA(o:vT λx y=>lv x.1 y.1){a:Addr}{vs:List Value}{n:Nat}{P:Fin->Shared->Prop}(ho:s.heap.get? a=some (seqObj "list" vs.toArray n)) (hlen:vs.length<=63)
  (hc:∀h6:Heap,(∀b o,b≠a->s.heap.get? b=some o->h6.get? b=some o)->2<=vs.length->v_ prog w A lv vs { s with heap:=h6 })
  (h:∀out:Array Value,out.toList.Perm vs->out.toList.Pairwise (λu v=>lv v u=false)->P (.done (.ret .none)) { s with heap:=sortedHeap s.heap a vs out }):wpAny (model prog w) A (Builtin.«list.sort» ⟨[.ref a],[]⟩) P E s:=by
 have hv:vs.toArray.size<=sizeLine:=by rw[bP,aT];lia
 have ha:a<s.heap.objs.size:=aH ho;obtain⟨e1,dm⟩:∃e1,(s.heap.update a (Obj.mapSeq λ_=>#[])).get? a=some (seqObj "list" #[] e1):=⟨_,get?_update_seq ho (λ_=>#[])⟩;rw[list_sort_plain];refine ae (listItems_at ho rfl (ae (listUpdate_at ho rfl (ae (seqEpoch_at dm rfl (ae (wpAny_newTuple (ae (vC (dC ?_)))))))  hv (bE _))));have nT:a≠(s.heap.update a (Obj.mapSeq λ_=>#[])).objs.size:=by rw[Heap.size_update];exact aV ha
 have nL:a≠((s.heap.update a (Obj.mapSeq λ_=>#[])).push (seqObj "tuple" vs.toArray 0)).objs.size:=by rw[size_push',Heap.size_update];exact aV (Nat.lt_succ_of_lt ha)
 have uM:(((s.heap.update a (Obj.mapSeq λ_=>#[])).push (seqObj "tuple" vs.toArray 0)).push (seqObj "list" #[] 0)).get? a=some (seqObj "list" #[] e1):=by
  rw[Heap.get?_push_ne _ _ _ nL,Heap.get?_push_ne _ _ _ nT];exact dm
 have Y8:∀b o,b≠a->s.heap.get? b=some o->(((s.heap.update a (Obj.mapSeq λ_=>#[])).push (seqObj "tuple" vs.toArray 0)).push (seqObj "list" #[] 0)).get? b=some o:=λb o hb e=>by
  refine ax _ (ax _ ?_);rw[g8 _ _ hb.symm];exact e
 show wpAny (model prog w) A _ P E { s with heap:=((s.heap.update a (Obj.mapSeq λ_=>#[])).push (seqObj "tuple" vs.toArray 0)).push (seqObj "list" #[] 0) };dsimp only;by_cases h2:vs.toArray.size<2
 ·rw[ai h2,ai h2];refine ae (af ?_);rw[StateT.run_pure];refine ae (af (ae (seqEpoch_at uM rfl (ae (listUpdate_at uM rfl ?_ (bE _) ?_)))))
  ·simp only[bne_self_eq_false,eZ,dB];exact af (h _ (JN (xs:=pairsOf vs) (mD _)) (La (xs:=pairsOf vs) (mD _) (Tz (by rw[bP] at h2;exact h2))))
  ·show((pairsOf vs).map (·.2)).size<=_;rw[sP,pairsOf_size,aT];lia
 ·rw[ag h2,ag h2];rw[bP] at h2;obtain⟨κ,rR,xD⟩:=hc _ Y8 (by lia);refine ae (rR _ _ ?_);refine ae (cw (Se (a₀ := pairsOf vs) (Q:=λ_ bq=>(arrOf bq).toList.Perm (pairsOf vs).toList/\So (λx y=>lv x.1 y.1) (arrOf bq).toList/\failedOf bq=none) o xD (by rw[pairsOf_size];lia) (by rw[pairsOf_size];exact hlen) λbq a1 a3 a2=>⟨a1,a3,a2⟩) ?_ λ_ _ e=>e);rintro⟨⟨⟩,bq⟩ s' ⟨rfl,hp,kF,hf⟩;dsimp only;refine ae (seqEpoch_at uM rfl (ae (listUpdate_at uM rfl ?_ (bE _) ?_)))
  ·rw[hf];simp only[bne_self_eq_false,eZ,dB];exact af (h _ (JN hp) (La hp kF))
  ·have Ce:(arrOf bq).toList.Perm (pairsOf vs).toList:=hp;have:=Ce.length_eq;rw[aK,aK,pairsOf_size] at this;show((arrOf bq).map (·.2)).size<=_;rw[sP,aT];lia
theorem zW(o:vT λx y=>lv x.1 y.1){v:Value}{C:List Value->Prop}{Q:Value->Shared->Prop}
  (YJ:∀(Q':List Value->Shared->Prop)(E':Value->Shared->Prop),(∀(ys:List Value)(h':Heap)(tk:Nat)(d:Drawn),(∀b o,s.heap.get? b=some o->h'.get? b=some o)->C ys->ys.length<=63->s.heap.objs.size<=h'.objs.size->Q' ys { s with heap:=h',toks:=tk,drawn:=d })->wpAny (model prog w) A.in1 (collect v) Q' E' s)
  (hc:∀(ys:List Value)(h6:Heap)(tk:Nat)(d:Drawn),C ys->(∀b o,s.heap.get? b=some o->h6.get? b=some o)->2<=ys.length->v_ prog w A.in1.in1 lv ys { s with heap:=h6,toks:=tk,drawn:=d })
  (q:∀(p:Addr)(ys:List Value)(out:Array Value)(h':Heap)(tk:Nat)(d:Drawn)(c:Nat),C ys->out.toList.Perm ys->out.toList.Pairwise (λu v=>lv v u=false)->(∀b o,s.heap.get? b=some o->h'.get? b=some o)->h'.get? p=some (seqObj "list" out c)->s.heap.objs.size<=p->out.size<=63->Q (.ref p) { s with heap:=h',toks:=tk,drawn:=d }) :
  wpAny (model prog w) A (call (.builtin "sorted") [v]) Q E s:=by
 refine Calls.call_function_entry kind_sorted plain_sorted entry_sorted (args_sorted1 _) ?_;unfold Builtin.«sorted»;refine ae (m:=checkCount "sorted" 1 1 _) (af (ae (YJ _ _ λys h1 tk d k1 hC hyl hle=>ae (vC ?_ (by rw[aT];lia)))));have uN:(h1.push (seqObj "list" ys.toArray 0)).get? h1.objs.size=some (seqObj "list" ys.toArray 0):=bo _ rfl;have keep:∀b o,s.heap.get? b=some o->(h1.push (seqObj "list" ys.toArray 0)).get? b=some o:=λb o e=>ax _ (k1 b o e);have rJ:∀b o,s.heap.get? b=some o->h1.objs.size≠b:=λb o e=>sX (cf (aH e) hle);change wpAny _ _ _ _ _ { s with heap:=h1.push (seqObj "list" ys.toArray 0),toks:=tk,drawn:=d };refine ae (dC (mL slot_list_sort ⟨_,uN,rfl⟩ entry_list_sort (QA (s:={ s with heap:=h1.push (seqObj "list" ys.toArray 0),toks:=tk,drawn:=d }) o uN (by lia) (λh6 k6 h2=>hc ys h6 tk d hC (λb o e=>k6 b o (rJ b o e).symm (keep b o e)) h2) λout hp kF=>⟨_,rfl,?_⟩) (args_list_sort _)));generalize h1.push (seqObj "list" ys.toArray 0)=h5 at uN keep;obtain⟨e1,dm⟩:∃e1,(h5.update h1.objs.size (Obj.mapSeq λ_=>#[])).get? h1.objs.size=some (seqObj "list" #[] e1):=⟨_,get?_update_seq uN (λ_=>#[])⟩;have uM:=ax (seqObj "list" #[] 0) (ax (seqObj "tuple" ys.toArray 0) dm);have xT:out.size<=63:=by rw[<- aK,hp.length_eq];exact hyl
 refine af ⟨_,rfl,q h1.objs.size ys out (sortedHeap h5 h1.objs.size ys out) tk d _ hC hp kF (λb o e=>?_) (get?_update_seq uM (λ_=>out)) hle xT⟩;unfold sortedHeap;rw[g8 _ _ (rJ b o e)];refine ax _ (ax _ ?_);rw[g8 _ _ (rJ b o e)];exact keep b o e
end av
namespace av
open PySem PyProof.Rows
theorem Qb:typeLookup (.type "list") "keys" = pure none:=by rw[typeLookup_type,builtinLookup_eq_fast];kernel_rfl
theorem CP:isSubtype (.type "AttributeError") (.type "AttributeError")=pure true:=by rw[isSubtype_type];kernel_rfl
variable{prog:Program}{w:World}{A:Around}{E:Value->Shared->Prop}{h:Heap}{g:Array GenState}{d:Drawn}{t:Nat}{os:OsState}
theorem Rr{α : Type}{Q : α -> Shared->Prop}{o:Value}{name msg:Str}(hh:A.handled=none)(hm:msg.length<=sizeLine)(hq:∀(x:Addr) (h':Heap) (tk:Nat),(∀b u,h.get? b=some u->h'.get? b=some u)->(∃ob,h'.get? x=some ob/\ob.cls=.type "AttributeError")->h.objs.size<=h'.objs.size->E (.ref x) ⟨h',g,d,tk,os⟩) :
  wpAny (model prog w) A (raiseAttrError o name msg:Sem α) Q E ⟨h,g,d,t,os⟩:=by
 unfold raiseAttrError
 repeat (any_goals (first|assumption|wp_step))
 refine qz CP ?_;rw[ag (by decide)];generalize Ni:(if((Manifest.find? "AttributeError").elim false λt=>t.mro.contains "StopIteration" || t.mro.contains "SystemExit")=true then [Value.str msg t].headD Value.none else Value.none)=fa
 have k1:∀b u,h.get? b=some u->(h.push { cls:=Value.type "tuple",data:=Data.seq #[Value.str msg t] }).get? b=some u:=λb u e=>ax _ e;have z1:(h.push { cls:=Value.type "tuple",data:=Data.seq #[Value.str msg t] }).objs.size=h.objs.size+1:=gD ..;generalize h.push { cls:=Value.type "tuple",data:=Data.seq #[Value.str msg t] }=h1 at k1 z1;have e1:(h1.push { cls:=Value.type "AttributeError",data:=Data.fields (#[Value.ref h.objs.size,Value.none,Value.none,Value.none,Value.bool false,fa]++ownMembersOf (Value.type "AttributeError") [Value.str msg t]) }).get? h1.objs.size=some { cls:=Value.type "AttributeError",data:=Data.fields (#[Value.ref h.objs.size,Value.none,Value.none,Value.none,Value.bool false,fa]++ownMembersOf (Value.type "AttributeError") [Value.str msg t]) }:=bo _ rfl;have k2:∀b u,h.get? b=some u->(h1.push { cls:=Value.type "AttributeError",data:=Data.fields (#[Value.ref h.objs.size,Value.none,Value.none,Value.none,Value.bool false,fa]++ownMembersOf (Value.type "AttributeError") [Value.str msg t]) }).get? b=some u:=λb u e=>ax _ (k1 b u e);have z2:(h1.push { cls:=Value.type "AttributeError",data:=Data.fields (#[Value.ref h.objs.size,Value.none,Value.none,Value.none,Value.bool false,fa]++ownMembersOf (Value.type "AttributeError") [Value.str msg t]) }).objs.size=h1.objs.size+1:=gD ..;generalize h1.push { cls:=Value.type "AttributeError",data:=Data.fields (#[Value.ref h.objs.size,Value.none,Value.none,Value.none,Value.bool false,fa]++ownMembersOf (Value.type "AttributeError") [Value.str msg t]) }=h2 at e1 k2 z2;refine ae (wpAny_load e1 ?_);dsimp only;have v6:(#[Value.ref h.objs.size,Value.none,Value.none,Value.none,Value.bool false,fa]++ownMembersOf (Value.type "AttributeError") [Value.str msg t])[6]?= some unsetMember:=rfl;have v7:(#[Value.ref h.objs.size,Value.none,Value.none,Value.none,Value.bool false,fa]++ownMembersOf (Value.type "AttributeError") [Value.str msg t])[7]?= some unsetMember:=rfl;refine wpAny_ite_split (λc8=>absurd c8 (by rw[v6,v7];decide)) (λ_=>wpAny_ite_split (λc8=>absurd c8 (by rw[v6,v7];decide)) (λ_=>af ?_));rw[ai rfl];refine ae (oz (ae (qC (T := "AttributeError") ⟨_,e1,rfl⟩ ?_)));dsimp only;unfold layMembers;refine wpAny_bind (wpAny_load e1 ?_);dsimp only;refine wpAny_update e1 ?_;unfold raiseNew;refine wpAny_bind (wpAny_handled ?_);rw[hh];refine wpAny_throw (hq _ _ _ (λb u e=>?_) ?_ ?_)
 ·rw[g8 _ _ (show h1.objs.size≠b from λz=>?_)]
  ·exact k2 b u e
  ·have:=aH e;have h3:h1.objs.size<h.objs.size:=z ▸ this;lia
 ·exact⟨_,qj _ e1 rfl,rfl⟩
 ·rw[Heap.size_update];show h.objs.size<=h2.objs.size;lia
variable{a:Addr}{its:Array Value}{n:Nat}{sl:Array (Option Value)}
theorem P_{tk:Tok}{Q:Fin->Shared->Prop}(hh:A.handled=none)(hx:h.get? a=some { cls:=.type "list",dict:=none,data:=.seq its n,slots:=sl }) (hq:∀(x:Addr)(h':Heap)(tk:Nat),(∀b u,h.get? b=some u->h'.get? b=some u)->(∃ob,h'.get? x=some ob/\ob.cls=.type "AttributeError")->h.objs.size<=h'.objs.size->E (.ref x) ⟨h',g,d,tk,os⟩) :
  wpAny (model prog w) A (Builtin.«object.__getattribute__» ⟨[.ref a,.str "keys" tk],[]⟩) Q E ⟨h,g,d,t,os⟩:=by
 have hT:(⟨h,g,d,t,os⟩:Shared).TypeIs (.ref a) "list" := ⟨_,hx,rfl⟩;have f4:=Qb
 repeat (any_goals (first|assumption|with_reducible apply Rr hh|wp_step))
 decide +kernel
theorem PR:typeLookup (.type "list") "__getattr__" = pure none:=by rw[typeLookup_type,builtinLookup_eq_fast];kernel_rfl
theorem P7{tk:Tok}{R:Result->Shared->Prop}(hh:A.handled=none)(hx:h.get? a=some { cls:=.type "list",dict:=none,data:=.seq its n,slots:=sl }) (hq:∀(x:Addr)(h':Heap)(tk:Nat),(∀b u,h.get? b=some u->h'.get? b=some u)->(∃ob,h'.get? x=some ob/\ob.cls=.type "AttributeError")->h.objs.size<=h'.objs.size->R (.error (.ref x)) ⟨h',g,d,tk,os⟩) :
  codeAny (model prog w) A (.call (.builtin "list.__getattribute__") ⟨[.ref a,.str "keys" tk],[]⟩) R ⟨h,g,d,t,os⟩ :=
 codeAny_call_builtin BV.plain F.entry_list_ga (BV.check _ _ _ _ _ _ _ _ (show(⟨h,g,d,t,os⟩:Shared).TypeIs (.ref a) "list" from⟨_,hx,rfl⟩) (F.args_list_getattribute_2 _ _) (P_ hh hx hq))
theorem Qu{tk:Tok}{Q:Value->Shared->Prop}(hh:A.handled=none)(hx:h.get? a=some { cls:=.type "list",dict:=none,data:=.seq its n,slots:=sl }) (hq:∀(x:Addr)(h':Heap)(tk:Nat),(∀b u,h.get? b=some u->h'.get? b=some u)->(∃ob,h'.get? x=some ob/\ob.cls=.type "AttributeError")->h.objs.size<=h'.objs.size->E (.ref x) ⟨h',g,d,tk,os⟩) :
  wpAny (model prog w) A (getAttrBy (.ref a) (.str "keys" tk) false) Q E ⟨h,g,d,t,os⟩:=by
 have hT:(⟨h,g,d,t,os⟩:Shared).TypeIs (.ref a) "list" := ⟨_,hx,rfl⟩;have f2:=BV.lookup;have f3:=BV.bind (.ref a);have f4:=PR
 repeat (any_goals (first|assumption|wp_step))
 refine P7 hh hx λx h' qH k1 k2 k3=>?_;obtain⟨ob,e2,c2⟩:=k2;dsimp only;unfold getattributeRaised;refine ae (oy (T := "AttributeError") (b:=true) ⟨ob,e2,c2⟩ CP ?_);rw[ai rfl];unfold hookBehind;rw[ag (by decide)];refine ae (qz f4 ?_);unfold hookOrError attributeErrorLeaves;dsimp only;rw[if_pos (by decide)];exact ae (wpAny_throw (hq x h' qH k1 ⟨ob,e2,c2⟩ k3))
theorem Ia{Q:Option Value->Shared->Prop}(hh:A.handled=none)(hx:h.get? a=some { cls:=.type "list",dict:=none,data:=.seq its n,slots:=sl }) (hq:∀(h':Heap)(tk:Nat),(∀b u,h.get? b=some u->h'.get? b=some u)->h.objs.size<=h'.objs.size->Q none ⟨h',g,d,tk,os⟩) :
  wpAny (model prog w) A (getAttr? (.ref a) "keys") Q E ⟨h,g,d,t,os⟩:=by
 unfold getAttr? getAttrBy?
 repeat (any_goals (first|assumption|with_reducible apply Qu hh hx|wp_step))
 intro x h' qH k1 k2 k3;obtain⟨ob,e2,c2⟩:=k2;dsimp only;refine ae (oy (T := "AttributeError") (b:=true) ⟨ob,e2,c2⟩ CP ?_);rw[ai rfl];exact af (hq h' qH k1 k3)
theorem ZP:entryFor table "dict.update.loop" = some Builtin.«dict.update.loop» := entryFor_of_tree (by kernel_rfl)
theorem Zu:plainId "dict.update.loop" = true:=by decide +kernel
section
variable{prog:Program}{w:World}{K:Type}[DecidableEq K]{knd:KeyKind prog w K}{A:Around}{E:Value->Shared->Prop}{R:Result->Shared->Prop}
def DZ(knd:KeyKind prog w K)(h:Heap)(v:Value)(k:K)(u:Value):Prop := ∃b o n uk,v=.ref b/\h.get? b=some o/\o.cls=.type "tuple" /\ o.data=.seq #[uk,u] n/\knd.is k uk=true
def Ku(knd:KeyKind prog w K)(h0:Heap)(d:Addr)(items:Array Value)(ps:List (K×Value)):Prop:=items.size=ps.length/\∀(i:Nat) v p,items[i]?= some v->ps[i]?= some p->∀h:Heap,(∀b o,b<d->h0.get? b=some o->h.get? b=some o)->DZ knd h v p.1 p.2
variable{s:Shared}
theorem pair_items{v:Value}{k:K}{u:Value}{Q:List Value->Shared->Prop}(hp:DZ knd s.heap v k u)(q:∀uk,knd.is k uk=true->Q [uk,u] s):wpAny (model prog w) A (Builtin.Dict.pairItems v) Q E s:=by
 obtain⟨b,o,n,uk,rfl,ho,hc,hd,hk⟩:=hp;unfold Builtin.Dict.pairItems;refine ae (qC (T := "tuple") ⟨o,ho,hc⟩ ?_);rw[ai (by decide)];refine ae (oA ho hd (af (q uk hk)))
variable{l:Addr}{items:Array Value}
set_option maxHeartbeats 1000000 in
theorem RQ{h0:Heap}{D I:Addr}{ps:List (K×Value)}(hh:A.in1.handled=none)(ht:Ku knd h0 D items ps)(i6:D<I)(xN:l≠I)(hn:items.size<=100000):∀(k i:Nat)(j:Int)(jt:Tok)(s:Shared),items.size-i=k->i<=items.size->(s.heap.IsListIter I l i/\s.heap.IsList l items)->l<D->s.heap.DictOf knd D (merged [] (ps.take i))->(∀b o,b<D->h0.get? b=some o->s.heap.get? b=some o) ->
   (∀h' tk,h'.DictOf knd D (merged [] ps)->(∀b o,b<D->h0.get? b=some o->h'.get? b=some o)->R (.ok (.ret .none)) { s with heap:=h',toks:=tk })->codeAny (model prog w) A (.builtin "dict.update.loop" ⟨[.ref D,.ref I,.int j jt,.none],[]⟩) R s:=by
 have W:=Walks.list (prog:=prog) (w:=w) (A:=A.in1) hh I l xN items;have DK:∀{h h':Heap}{aa:List (K×Value)},h.DictOf knd D aa->(∀b o,b<=D->h.get? b=some o->h'.get? b=some o)->h'.DictOf knd D aa:=λ{h h' aa} ⟨o,es,ep,ho,r⟩ hk=>⟨o,es,ep,hk D o (aq _) ho,r⟩;intro k
 induction k with
 | zero =>
  intro i j jt s hk hi bY iD hd hb hR;obtain rfl:i=items.size:=by lia
  refine fF ZP ?_;rw[jj Zu _];change wpAny _ A.in1 (pyNext (.ref I) >>= _) _ _ s;refine ae (W.done s _ _ bY λh' tk hm=>?_);change wpAny _ A.in1 (Builtin.Dict.addKeywords D [] >>= λ_=>ret Value.none) _ _ _;refine ae ?_;unfold Builtin.Dict.addKeywords;refine af (af ?_);rw[ht.1,cH] at hd;exact hR h' tk (DK hd λb o aB e=>hm b o (λz=>cD _ (ou (az.mp z ▸ aB) i6)) e) λb o aB e=>hm b o (λz=>cD _ (g9 (az.mp z ▸ aB) i6)) (hb b o aB e)
 | succ k ih =>
  intro i j jt s hk hi bY iD hd hb hR;have au:i<items.size:=by lia
  refine fF ZP ?_;rw[jj Zu _];change wpAny _ A.in1 (pyNext (.ref I) >>= _) _ _ s;refine ae (W.item i s _ _ au bY λv h' tk hP vH hm=>?_);have bQ:h'.DictOf knd D (merged [] (ps.take i)):=DK hd λb o aB e=>hm b o (λz=>cD _ (ou (az.mp z ▸ aB) i6)) e;have cj:∀b o,b<D->h0.get? b=some o->h'.get? b=some o:=λb o aB e=>hm b o (λz=>cD _ (g9 (az.mp z ▸ aB) i6)) (hb b o aB e);have aA:i<ps.length:=by have:=ht.1;lia
  have hp:=ht.2 i v ps[i] hP (bT aA) h' cj;refine ae (dC (ae (qB (pair_items (s:={ s with heap:=h',toks:=tk }) hp λuk FZ=>?_))));dsimp only;have eG:(merged [] (ps.take i)).length<=sizeLine:=by
   have:=merged_length_le ([]:List (K×Value)) (ps.take i);rw[cY] at this;have XE:([]:List (K×Value)).length=0:=rfl;have:=ht.1;rw[aT];lia
  refine dC (wpAny_dictSet_pairs (s:={ s with heap:=h',toks:=tk }) (hsz:=eG) FZ bQ λh2 hd2 sb=>?_);have pE:∀b o,b≠D->h'.get? b=some o->h2.get? b=some o:=λb o hb e=>(sb.2 b hb).trans e;refine af ⟨g_ Zu _,ih (i+1) (j+1) 0 _ (by lia) au ?_ iD ?_ (λb o aB e=>pE b o (aV aB) (cj b o aB e)) λh3 kZ x5 gQ=>hR h3 kZ x5 gQ⟩
  ·refine W.frame _ h' h2 vH λb hb o e=>pE b o (λz=>?_) e;simp only[aJ,k_,lr] at hb;rcases hb with rfl|rfl
   ·exact cD _ (z ▸ i6)
   ·exact cD _ (z ▸ iD)
  ·rw[merged_take_succ [] ps i ps[i] (bT aA)];exact hd2
set_option maxHeartbeats 1000000 in
theorem P8{n:Nat}{sl:Array (Option Value)}{ps:List (K×Value)}{Q:Value->Shared->Prop}(hh:A.handled=none)(hl:s.heap.get? l=some { cls:=.type "list",dict:=none,data:=.seq items n,slots:=sl }) (ht:Ku knd s.heap s.heap.objs.size items ps) (hn:items.size<=100000)
  (q:∀(h':Heap)(tk:Nat),h'.DictOf knd s.heap.objs.size (merged [] ps)->(∀b o,s.heap.get? b=some o->h'.get? b=some o)->Q (.ref s.heap.objs.size) { s with heap:=h',toks:=tk }) :
  wpAny (model prog w) A (call (.type "dict") [.ref l]) Q E s:=by
 refine callType_codes (Q₁ := λobj aL=>obj=.ref s.heap.objs.size/\aL = { s with heap:=s.heap.push { cls:=.type "dict",data:=.dict #[] } }) F.kt_called_dict (F.kt_typeCall_dict_1 _) F.entry_dict_init (kt_code_dict_new _ ⟨rfl,rfl⟩) ?_;rintro obj aL ⟨rfl,rfl⟩;have jN:(s.heap.push { cls:=.type "dict",data:=.dict #[] }).DictOf knd s.heap.objs.size []:=Heap.DictOf.new s.heap;have bW:(s.heap.push { cls:=.type "dict",data:=.dict #[] }).get? l=some { cls:=.type "list",dict:=none,data:=.seq items n,slots:=sl }:=ax _ hl;have iD:l<s.heap.objs.size:=aH hl;have k0:∀b o,b<s.heap.objs.size->s.heap.get? b=some o->(s.heap.push { cls:=.type "dict",data:=.dict #[] }).get? b=some o:=λb o _ e=>ax _ e;have z0:(s.heap.push { cls:=.type "dict",data:=.dict #[] }).objs.size=s.heap.objs.size+1:=gD ..;refine⟨jN.typeIs,F.args_dict_init_2 _ _,?_⟩;generalize s.heap.push { cls:=.type "dict",data:=.dict #[] }=h1 at jN bW k0 z0;unfold Builtin.«dict.__init__»;refine ae ?_;unfold Builtin.Dict.selfAndRest;refine ae (wpAny_notOrdered_dict jN.typeIs ?_);show wpAny _ _ (pure (s.heap.objs.size,[Value.ref l])) _ _ _;refine af ?_;show wpAny _ _ (Builtin.Dict.updateFrom "dict.__init__" s.heap.objs.size (.ref l) [] .none) _ _ _;unfold Builtin.Dict.updateFrom;refine ae (qC (T := "list") ⟨_,bW,rfl⟩ ?_);rw[ai (by decide)];refine ae (Ia hh bW λh2 OX k2 z2=>?_);rw[ai (show(none:Option Value).isNone=true from rfl)];refine ae (oz ?_);have gm:=k2 _ _ bW;have nr:h2.IsList l items:=⟨_,gm,rfl,n,rfl⟩;refine ae (ti nr ?_);have hd2:h2.DictOf knd s.heap.objs.size []:=let ⟨o,es,ep,ho,r⟩:=jN;⟨o,es,ep,k2 _ _ ho,r⟩;have Fe:(h2.push { cls:=.type "list_iterator",data:=.fields #[.ref l,.int 0 0] }).DictOf knd s.heap.objs.size []:=hd2.push _;have hsz:s.heap.objs.size<h2.objs.size:=by lia
 refine af ⟨g_ Zu _,?_⟩;refine RQ (knd:=knd) (h0:=s.heap) (by simpa using hh) ht hsz (aV (g9 iD hsz)) hn (items.size-0) 0 0 0 _ rfl (bE _) ⟨⟨_,bo _ rfl,rfl,rfl⟩,nr.push _⟩ iD Fe (λb o hb e=>ax _ (k2 _ _ (k0 b o hb e))) λh' tk bQ aB=>?_;exact⟨rfl,q h' tk bQ λb o e=>aB b o (aH e) e⟩
end
end av
namespace L2
open PySem PySem.Spec PyProof.Rows PySem.W
def putAll(aa:List (Key×V)):List (Key×V):=aa.foldl (λm kv=>putK m kv.1 kv.2) []
theorem HW:∀(aa m:List (Key×V)),(aa.foldl (λm kv=>putK m kv.1 kv.2) m).length<=m.length+aa.length
 | [],m=>aq _
 | kv::aa,m=>by
  have h1:=HW aa (putK m kv.1 kv.2);have h2:=qV m kv.1 kv.2;rw[bM,vp];lia
theorem QV(aa:List (Key×V)):(putAll aa).length<=aa.length:=by
 have:=HW aa [];rw[sU,qu] at this;exact this
theorem Lf:∀{aa:List (Key×V)}{ps:List (Key×Value)}{m:List (Key×V)}{m':List (Key×Value)},KV aa ps->KV m m'->KV (aa.foldl (λm kv=>putK m kv.1 kv.2) m) (merged m' ps)
 | _,_,_,_,.nil,h=>h
 | _,_,m,m',.cons (a:=kv) (b:=p) r t,h=>by
  have e:p.1=kv.1:=r.1.symm;have h1:=h.put kv.1 r.2;have h2:=Lf t h1;show KV (List.foldl _ (putK m kv.1 kv.2) _) (merged (stored m' p.1 p.2) _);rw[e];exact h2
variable{X:Cx}
theorem HX(hc:X.calm=true):f_ X (.type "dict") (λxs H Q=>∃l ys aa,xs=[.ref l]/\aj X.K H l ys/\ys.length<=90000/\Paired (λ(y:V)(kv:Key×V)=>∃t,y=.ref t/\H t=some (.tup [kV kv.1,kv.2])) ys aa/\∀d,H d=none->Q (.ref d) (upd H d (.dK (putAll aa)))):=by
 intro pins s σ H xs us Q I r h;obtain⟨l,ys,aa,rfl,hq,hlen,hp,q⟩:=h;obtain⟨u,rfl,ru⟩:=vals1 r;cases ru;obtain⟨its,rv,⟨o,n,ho,yp,yt,yr⟩,hz⟩:=I.list hq;have hl:=rv.length;obtain⟨OA,GP,OB,GR⟩:=o;simp only at yp yt yr;subst yp yt yr;have key:∀{ys:List V}{aa:List (Key×V)}{its:List Value},Paired (λ(y:V)(kv:Key×V)=>∃t,y=.ref t/\H t=some (.tup [kV kv.1,kv.2])) ys aa->Vals ys its->∃ps:List (Key×Value),KV aa ps/\its.length=ps.length/\∀(i:Nat) v p,its[i]?= some v->ps[i]?= some p->av.DZ (ZC X.prog X.w) s.heap v p.1 p.2:=by
  intro ys aa its hp
  induction hp generalizing its with
  | nil =>
   intro rv;cases rv;exact⟨[],.nil,rfl,λi v p h=>(nomatch h)⟩
  | @cons y kv ys aa r t ih =>
   intro rv;cases rv with
   | @cons _ v _ its ry rr =>
    obtain⟨ps,h1,h2,h3⟩:=ih rr;obtain⟨ta,rfl,ht⟩:=r;obtain rfl:v=Value.ref ta:=ry;obtain⟨_,us,eh,o,ho,cQ,n,hd⟩:=I.ah ta _ ht;obtain⟨u1,u2,rfl,r1,r2⟩:=Vals.two eh;refine⟨(kv.1,u2)::ps,.cons ⟨rfl,r2⟩ h1,by rw[bM,bM,h2],λi v p e1 e2=>?_⟩;cases i with
    | zero =>
     injection e1 with e1;injection e2 with e2;subst e1 e2;exact⟨ta,o,n,u1,rfl,ho,cQ,hd,rj r1⟩
    | succ i=>exact h3 i v p e1 e2
 obtain⟨ps,h1,h2,h3⟩:=key hp rv;refine av.P8 (knd:=ZC X.prog X.w) (ps:=ps) (I.ok.hd hc) ho ⟨by rw[bP];exact h2,λi v p e1 e2 h' hk=>?_⟩ (by rw[bP];lia) λh' tk bQ hk=>?_
 ·obtain⟨b,o,n,uk,e,bX,r⟩:=h3 i v p (by rw[<- e1];simp) e2;exact⟨b,o,n,uk,e,hk b o (aH bX) bX,r⟩
 ·have A9:aa.length=ps.length:=h1.length;have aA:=QV aa;exact⟨.ref _,_,I.laid (t':=tk) (λb o e=>hk b o e) (aq _) (show ZL X.prog X.w _ h' _ (.dK (putAll aa)) from⟨by rw[aT];lia,lj.mpr (eu (aV I.big)),_,Lf h1 .nil,bQ⟩),rfl,q _ (I.ah.fresh (aq _))⟩
theorem RL{zs:List V}{ns:List Int}(h:zs.Perm (ns.map V.int)):∃ms:List Int,zs=ms.map V.int/\ms.Perm ns:=by
 obtain⟨ms,rfl,_⟩:=J2 zs λz hz=>h.mem_iff.mp hz;refine⟨ms,rfl,?_⟩;have h2:=h.filterMap (λv=>match v with|V.int i=>some i|_=>none)
 simpa[List.filterMap_map,Function.comp_def] using h2
theorem Jw:∀{vs:List V}{us:List Value},Vals vs us->∀v∈vs,∃u∈us,RelV v u
 | _,_,.cons a t,v,hv=>by
  rcases aJ.mp hv with rfl|hv
  ·exact⟨_,aU ..,a⟩
  ·obtain⟨u,hu,r⟩:=Jw t v hv;exact⟨u,aR _ hu,r⟩
theorem rising:∀{ms:List Int}{us:List Value},Vals (ms.map V.int) us->us.Pairwise (λu v=>av.Gn v u=false)->ms.Pairwise (· <= ·)
 | [],_,_,_=>.nil
 | m::ms,us,r,h=>by
  cases r with
  | cons r rr =>
   obtain⟨t,rfl⟩:=r;obtain⟨h1,h2⟩:=sV.mp h;refine sV.mpr ⟨λm' hm=>?_,rising rr h2⟩;obtain⟨u,hu,ru⟩:=Jw rr (V.int m') (aS.mpr ⟨m',hm,rfl⟩);obtain⟨t',rfl⟩:=ru;have:=mJ (h1 _ hu);have h3 : ¬ m'<m:=this;lia
theorem OQ{ms:List Int}(h:ms.Pairwise (· <= ·))(hn:ms.Nodup):ms.Pairwise (· < ·):=by
 refine oq.mpr λi j hi hj kB=>?_;have h1:=(oq.mp h) i j hi hj kB;have h2:=(oq.mp hn) i j hi hj kB;lia
theorem R4{P:Program}{w:World}{aa:List (Key×V)}{ps:List (Key×Value)}(h:KV aa ps):∀{es:List DictEntry}{ns:List Int},PySem.Pairs (ZC P w) es ps->aa.map (·.1)=ns.map Sum.inl->Vals (ns.map V.int) (es.map (·.key)):=by
 have h':Paired (λ(p:Key×V)(q:Key×Value)=>p.1=q.1/\RelV p.2 q.2) aa ps:=h;clear h
 induction h' with
 | nil =>
  intro es ns h2 e;cases h2;cases ns with
  | nil=>exact .nil
  | cons n ns=>cases e
 | cons r t ih =>
  intro es ns h2 e;cases h2 with
  | cons h1 h2 h3 =>
   cases ns with
   | nil=>cases e
   | cons n ns =>
    rw[cu,cu] at e;obtain⟨e1,e2⟩:=List.cons.inj e;refine .cons ?_ (ih h3 e2);rw[<- r.1,e1] at h1;have mO:ri (Sum.inl n) _=true:=h1;rcases ZW mO with⟨i,t,he,hk⟩|⟨x,t,he,hk⟩
    ·cases he;exact⟨t,hk⟩
    ·cases he
theorem K3:∀{aa:List (Key×V)}{vs:List (Key×Value)},KV aa vs->aa.map (·.1)=vs.map (·.1)
 | _,_,.nil=>rfl
 | _,_,.cons r t=>by rw[cu,cu,r.1,K3 t]
theorem P'(hc:X.calm=true):f_ X (.builtin "sorted") (λxs H Q=>∃(d:Addr)(aa:List (Key×V))(ns:List Int),xs=[.ref d]/\H d=some (.dK aa)/\aa.length<=63/\aa.map (·.1)=ns.map Sum.inl/\∀(p:Addr)(ms:List Int),H p=none->ms.Perm ns->ms.Pairwise (· < ·)->Q (.ref p) (upd H p (.lst (ms.map V.int)))):=by
 intro pins s σ H xs us Q I r h;obtain⟨d,aa,ns,rfl,hd,hlen,dO,q⟩:=h;obtain⟨u,rfl,rx⟩:=vals1 r;obtain rfl:u=.ref d:=rx;obtain⟨hl,lo,vs,kv,o,es,ep,ho,hx,cA,hko,iE,gS⟩:=D9 I.ah hd;have NZ:=R4 kv iE dO;have A9:aa.length=vs.length:=kv.length;have nJ:aa.length=ns.length:=by have:=congrArg List.length dO;simpa using this
 have gR:es.size=ns.length:=by
  have:=NZ.length
  simpa using this.symm
 have Z_:ns.Nodup:=by
  rw[<- K3 kv,dO] at gS;exact(jk.mp gS).imp λh e=>h (by rw[e])
 refine av.zW (C:=λys=>Vals (ns.map V.int) ys) av.K2 (λQ' E' hq=>?_) (λys h6 tk d6 hC k6 h2=>av.HZ (λv hv=>?_) h2) λp ys out h' tk d6 c hC dq kF kp e3 hle FF=>?_
 ·refine av.IJ (KO lo) (I.ok.hd hc) (⟨o,ho,hx,cA⟩:ff s.heap d es ep) (by rw[aT];lia) λacc h' tk kp hit hle=>?_;have uC:acc.toList=es.toList.map (·.key):=by
   refine BY λj=>?_;rw[dU,cp,dU];cases hj:acc[j]? with
   | none =>
    have h3:acc.size<=j:=Array.getElem?_eq_none_iff.mp hj;rw[hit.1] at h3;rw[vd h3];rfl
   | some v =>
    obtain⟨e,h1,rfl⟩:=hit.2 j v hj;rw[h1];rfl
  rw[uC];exact hq _ h' tk s.drawn kp NZ (by rw[ay,aK];lia) hle
 ·obtain⟨y,hy,ry⟩:=wt hC v hv;obtain⟨i,_,rfl⟩:=aS.mp hy;obtain⟨t,rfl⟩:=ry;exact⟨i,t,rfl⟩
 ·obtain⟨zs,pz,rz⟩:=RJ dq hC;obtain⟨ms,rfl,pm⟩:=RL pz;have dQ:=rz.length;have I2:=I.laid (h':=h') (t':=tk) (a:=p) (o:=.lst (ms.map V.int)) (λb o e=>kp b o e) hle (show ZL X.prog X.w _ h' _ (.lst (ms.map V.int)) from⟨by rw[dQ,aK,aT];lia,out.toList,c,rz,e3⟩);exact⟨.ref p,_,I2.draws (d:=d6),rfl,q p ms (I.ah.fresh hle) pm (OQ (rising rz kF) ((pm.nodup_iff).mpr Z_))⟩
end L2
namespace tJ
open PySem j_
def tm(m:Nat):SetTable:={ mask:=m,place :=#[],dummies :=#[],finger:=0,led:=true,moves:=0,plain:=true }
variable{t t':SetTable}
theorem Ta(e:t.mask=t'.mask)(p:SetTable.Probe):t.advance p=t'.advance p:=by
 unfold SetTable.advance;rw[e]
theorem JK{t t':SetTable}(e:t.mask=t'.mask):∀(n:Nat)(p:SetTable.Probe),bg t n p=bg t' n p
 | 0,_=>rfl
 | n+1,p=>by
  show bg t n (t.advance p)=bg t' n (t'.advance p);rw[Ta e,JK e n]
theorem Q5(e:t.mask=t'.mask)(h:Int):t.probeStart h=t'.probeStart h:=by
 unfold SetTable.probeStart;rw[e]
def jn(m:Nat)(h:Int)(n:Nat):Nat:=(bg (tm m) n ((tm m).probeStart h)).j
theorem Vq(t:SetTable)(h:Int)(n:Nat):(bg t n (t.probeStart h)).j=jn t.mask h n:=by
 unfold jn;rw[Q5 (t:=t) (t':=tm t.mask) rfl,JK (t:=t) (t':=tm t.mask) rfl]
variable{m i:Nat}
theorem JM(h:i<=m):SetTable.runEnd m i<=m:=by
 unfold SetTable.runEnd
 split <;> lia
theorem DX(m i:Nat):i<=SetTable.runEnd m i:=by
 unfold SetTable.runEnd
 split <;> lia
theorem Uy{p:SetTable.Probe}(h:p.j+p.more<=m):((tm m).advance p).j+((tm m).advance p).more<=m:=by
 unfold SetTable.advance
 split
 ·show p.j+1+(p.more-1)<=m;lia
 ·have h1:(p.i*5+1+p.perturb / 32) % (m+1)<=m:=yZ (vx _ (vy m));have h2:=JM h1;have h3:=DX m ((p.i*5+1+p.perturb / 32) % (m+1));show(p.i*5+1+p.perturb / 32) % (m+1)+(SetTable.runEnd m ((p.i*5+1+p.perturb / 32) % (m+1))-(p.i*5+1+p.perturb / 32) % (m+1))<=m;lia
theorem KJ{m:Nat}:∀(n:Nat){p:SetTable.Probe},p.j+p.more<=m->(bg (tm m) n p).j+(bg (tm m) n p).more<=m
 | 0,_,h=>h
 | n+1,p,h=>KJ n (Uy h)
theorem S5(m:Nat)(h:Int):((tm m).probeStart h).j+((tm m).probeStart h).more<=m:=by
 have h1:SetTable.bits h % (m+1)<=m:=yZ (vx _ (vy m));have h2:=JM h1;have h3:=DX m (SetTable.bits h % (m+1));show SetTable.bits h % (m+1)+(SetTable.runEnd m (SetTable.bits h % (m+1))-SetTable.bits h % (m+1))<=m;lia
theorem Vi(m:Nat)(h:Int)(n:Nat):jn m h n<=m:=by
 have:=KJ n (S5 m h);unfold jn;lia
def Way(m:Nat)(U:Nat->Prop)(h:Int)(j:Nat):Prop := ∃n,jn m h n=j/\∀k,k<n->U (jn m h k)
variable{j:Nat}
theorem Way.mono{U U':Nat->Prop}{h:Int}(w:Way m U h j)(hu:∀y,y<=m->U y->U' y):Way m U' h j:=by
 obtain⟨n,e,hk⟩:=w;exact⟨n,e,λk dO=>hu _ (Vi _ _ _) (hk k dO)⟩
theorem Ax(t:SetTable):∀(k:Nat)(p:SetTable.Probe),k<=p.more->(bg t k p).j=p.j+k
 | 0,_,_=>rfl
 | k+1,p,h=>by
  show(bg t k (t.advance p)).j=p.j+(k+1);have e:t.advance p= { p with j:=p.j+1,more:=p.more-1 }:=by
   unfold SetTable.advance;rw[ai (by lia)]
  rw[e,Ax t k _ (show k<=p.more-1 by lia)];show p.j+1+k=_;lia
theorem Kg{m:Nat}{owner:Array (Option Nat)}:∀(ci:Nat)(p:SetTable.Probe)(j:Nat),SetTable.layClean.free m owner ci p.i p.perturb=some j->p.j=p.i->p.more=SetTable.runEnd m p.i-p.i ->
  ∃n,(bg (tm m) n p).j=j/\∀k,k<n->owner.getD (bg (tm m) k p).j (some 0)≠none
 | 0,p,j,h,_,_=>by
  unfold SetTable.layClean.free at h;cases h
 | ci+1,p,j,h,hj,hm=>by
  unfold SetTable.layClean.free at h;have xK:=DX m p.i;cases hf:(List.range (SetTable.runEnd m p.i+1-p.i)).find? λk=>(owner.getD (p.i+k) (some 0)).isNone with
  | some k' =>
   rw[hf] at h;have e:p.i+k'=j:=cE h;obtain⟨h1,h2,h3⟩:=List.find?_range_eq_some.mp hf;have jr:k'<=p.more:=by
    have:=fU.mp h2;lia
   refine⟨k',by rw[Ax _ _ _ jr,hj];exact e,λk hk hn=>?_⟩;rw[Ax _ _ _ (by lia),hj] at hn;have h4:=h3 k hk;rw[hn] at h4;cases h4
  | none =>
   rw[hf] at h;have h':SetTable.layClean.free m owner ci (lp (tm m) p).i (lp (tm m) p).perturb=some j:=h;obtain⟨n',e,hk⟩:=Kg ci (lp (tm m) p) j h' rfl rfl;have Nb:=D6 (tm m) p.more p rfl;refine⟨p.more+1+n',by rw[rc,Nb];exact e,λk dO=>?_⟩;by_cases au:k<=p.more
   ·rw[Ax _ _ _ au,hj];have:=List.find?_eq_none.mp hf k (fU.mpr (by lia));intro hn;rw[hn] at this;exact this rfl
   ·have e2:k=p.more+1+(k-(p.more+1)):=by lia
    rw[e2,rc,Nb];exact hk _ (by lia)
def WO(m:Nat)(all:List Int)(owner:Array (Option Nat)):Prop := ∀j k,owner.getD j none=some k->∃x,all[k]?= some x/\Way m (λy=>owner.getD y (some 0)≠none) x j
variable{owner:Array (Option Nat)}
theorem Ka{y:Nat}{v d:Option Nat}(hy:y≠j):(owner.setIfInBounds j v).getD y d=owner.getD y d:=by
 simp only[Array.getD,Array.size_setIfInBounds]
 split
 ·rename_i ya
  exact Array.getElem_setIfInBounds_ne (by simpa using ya) (eu hy)
 ·rfl
theorem Jq{m:Nat}(hg:Good m)(all:List Int):∀(hs pre:List Int)(owner:Array (Option Nat)),all=pre++hs->Own m owner pre.length->WO m all owner->pre.length+hs.length<=m ->
  ∃ly,hs.foldl (λ(acc:Option (Array (Option Nat)×Nat)) h=>do
   let (owner,k) <- acc
   let j <- SetTable.layClean.free m owner (SetTable.turns m) (SetTable.bits h % (m+1)) (SetTable.bits h)
   pure (owner.setIfInBounds j (some k),k+1)) (some (owner,pre.length))=some (ly,pre.length+hs.length)/\Own m ly (pre.length+hs.length)/\WO m all ly
 | [],pre,owner,_,h,hw,_=>⟨owner,rfl,h,hw⟩
 | x::hs,pre,owner,ha,h,hw,hl=>by
  rw[bM] at hl;obtain⟨j,hj,ho⟩:=Kf h (by lia);have hb:SetTable.bits x<2 ^ 64:=(qZ (SetTable.fresh 0 0 true) x).2.1;obtain⟨n,hn,e⟩:=JF (t:=tm m) (p:={ j:=0,more:=0,i:=SetTable.bits x % (m+1),perturb:=SetTable.bits x,dummy:=none }) hg hb hj;obtain⟨j',hf,bN⟩:=C9 ho n (SetTable.turns m) _ (by unfold SetTable.turns;have:n<=13+m:=hn;lia) e;have zq:SetTable.layClean.free m owner (SetTable.turns m) (SetTable.bits x % (m+1)) (SetTable.bits x)=some j':=hf;obtain⟨nw,ew,Nu⟩:=Kg (m:=m) (owner:=owner) (SetTable.turns m) ((tm m).probeStart x) j' zq rfl rfl;have zy:j'<owner.size:=by
   apply BU;intro hn;rw[Array.getD,dif_neg hn] at bN;cases bN
  have grow:∀y,owner.getD y (some 0)≠none->(owner.setIfInBounds j' (some pre.length)).getD y (some 0)≠none:=λy hy=>by
   by_cases ey:y=j'
   ·rw[ey] at hy;exact absurd bN hy
   ·rw[Ka ey];exact hy
  have mQ:WO m all (owner.setIfInBounds j' (some pre.length)):=λy k Bn=>by
   by_cases ey:y=j'
   ·subst ey;have hk:k=pre.length:=by
     have:(owner.setIfInBounds y (some pre.length)).getD y none=some pre.length:=by simp[Array.getD,zy]
     rw[this] at Bn;exact(cE Bn).symm
    subst hk;refine⟨x,by rw[ha];simp,nw,ew,λk hk=>grow _ (Nu k hk)⟩
   ·rw[Ka ey] at Bn;obtain⟨z,e1,e2⟩:=hw y k Bn;exact⟨z,e1,e2.mono λy _ hy=>grow y hy⟩
  have hlen:(pre ++ [x]).length=pre.length+1:=by rw[bL,fS]
  obtain⟨ly,h1,h2,h3⟩:=Jq hg all hs (pre ++ [x]) _ (by rw[ha];simp) (by rw[hlen];exact KP h bN) mQ (by rw[hlen];lia);rw[hlen] at h1 h2;refine⟨ly,?_,by rw[bM,show pre.length+(hs.length+1)=pre.length+1+hs.length by lia];exact h2,h3⟩;rw[vp];simp only[Option.bind_eq_bind,Option.bind_some,zq,Option.pure_def];rw[bM,show pre.length+(hs.length+1)=pre.length+1+hs.length by lia];exact h1
theorem JW{k:Nat}:(j,k)∈Z8 m owner↔j<=m/\owner.getD j none=some k:=by
 unfold Z8;rw[List.mem_filterMap];constructor
 ·rintro⟨y,hy,e⟩;cases ho:owner.getD y none with
  | none=>rw[ho] at e;cases e
  | some v =>
   rw[ho] at e;have e':(y,v)=(j,k):=cE e;cases e';exact⟨yZ (fU.mp hy),ho⟩
 ·rintro⟨hj,ho⟩;exact⟨j,fU.mpr (Nat.lt_succ_of_le hj),by rw[ho];rfl⟩
theorem R6(hg:Good m)(fi mo:Nat)(led plain:Bool)(hs:Array Int)(hl:hs.size<=m){t:SetTable}{order:Array Nat}(e:SetTable.laid m fi mo led plain hs=some (t,order)) :
  ∀(i j k:Nat),t.place[i]?= some j->order[i]?= some k->∃x,hs[k]?= some x/\Way m (· ∈ t.place.toList) x j:=by
 have h0:Own m (Array.replicate (m+1) none) 0:=by
  refine⟨Array.size_replicate,?_⟩;have:Z8 m (Array.replicate (m+1) none)=[]:=by
   unfold Z8;rw[List.filterMap_eq_nil_iff];intro j hj;have:(Array.replicate (m+1) (none:Option Nat)).getD j none=none:=by
    simp[Array.getD]
   rw[this];rfl
  rw[this];exact mD _
 have hw0:WO m hs.toList (Array.replicate (m+1) none):=λj k Nq=>by
  have:(Array.replicate (m+1) (none:Option Nat)).getD j none=none:=by simp[Array.getD]
  rw[this] at Nq;cases Nq
 obtain⟨owner,h1,h2,h3⟩:=Jq hg hs.toList hs.toList [] _ rfl h0 hw0 (by show 0+hs.toList.length<=m;rw[aK];lia);have hc:SetTable.layClean m hs=some owner:=by
  unfold SetTable.layClean;rw[<- Array.foldl_toList];have:=congrArg (Option.map (·.1)) h1;exact this
 have e2:t= { mask:=m,place:=((Z8 m owner).map (·.1)).toArray,dummies :=#[],finger:=fi,led:=led,moves:=mo,plain:=plain }/\order=((Z8 m owner).map (·.2)).toArray:=by
  unfold SetTable.laid at e;rw[hc] at e;have e':=cE e;exact⟨(congrArg Prod.fst e').symm,(congrArg Prod.snd e').symm⟩
 obtain⟨rfl,rfl⟩:=e2;intro i j k hj hk;have lu:(Z8 m owner)[i]?.map (·.1)=some j:=by
  rw[<- cp,<- hj];simp
 have jr:(Z8 m owner)[i]?.map (·.2)=some k:=by
  rw[<- cp,<- hk];simp
 cases hp:(Z8 m owner)[i]? with
 | none=>rw[hp] at lu;cases lu
 | some pr =>
  rw[hp] at lu jr;have ej:pr.1=j:=cE lu;have ek:pr.2=k:=cE jr;have hm:(j,k)∈Z8 m owner:=by
   rw[<- ej,<- ek];exact bU hp
  obtain⟨x,e1,w⟩:=h3 j k (JW.mp hm).2;refine⟨x,by rw[<- dU];exact e1,w.mono λy hy hu=>?_⟩;show y∈((Z8 m owner).map (·.1)).toArray.toList;have hsz:=h2.size;have au:y<owner.size:=by lia
  cases ho:owner.getD y none with
  | none =>
   exfalso;apply hu;simp only[Array.getD,au,dif_pos] at ho ⊢;exact ho
  | some v=>exact aS.mpr ⟨(y,v),JW.mpr ⟨hy,ho⟩,rfl⟩
theorem EO{t:SetTable}(hd:t.dummies=#[])(ha:Nat->Int)(h:Int):∀(n ci:Nat)(p:SetTable.Probe),p.dummy=none->n<ci->t.slot (bg t n p).j=.empty ->
  (∃k,k<=n/\SetTable.probe.go t ha h ci p=some (.empty (bg t k p).j none)/\t.slot (bg t k p).j=.empty/\∀m,m<k->∃i,t.slot (bg t m p).j=.live i/\(ha i == h)=false) \/
  ∃k i,k<n/\SetTable.probe.go t ha h ci p=some (.candidate (bg t k p).j i (bg t (k+1) p))/\t.slot (bg t k p).j=.live i/\∀m,m<k->∃i,t.slot (bg t m p).j=.live i/\(ha i == h)=false
 | n,0,_,_,hn,_=>absurd hn (lg _)
 | n,ci+1,p,hp,hn,he=>by
  unfold SetTable.probe.go;cases hs:t.slot p.j with
  | empty=>exact .inl ⟨0,bE _,by rw[hp];rfl,hs,λm hm=>absurd hm (lg _)⟩
  | dummy =>
   exfalso;unfold SetTable.slot at hs;dsimp only at hs
   split at hs
   ·cases hs
   ·rw[hd] at hs;exact SetTable.Slot.noConfusion hs
  | live i =>
   dsimp only;cases n with
   | zero =>
    rw[show(bg t 0 p).j=p.j from rfl,hs] at he;cases he
   | succ n =>
    by_cases hh:(ha i == h)=true
    ·rw[ai hh];exact .inr ⟨0,i,vy _,rfl,hs,λm hm=>absurd hm (lg _)⟩
    ·rw[ag hh];have zu:(ha i == h)=false:=by
      cases e:(ha i == h) with
      | true=>exact absurd e hh
      | false=>rfl
     have rL:(t.advance p).dummy=none:=by
      unfold SetTable.advance
      split
      ·exact hp
      ·exact hp
     have ext:∀k,(∀m,m<k->∃i,t.slot (bg t m (t.advance p)).j=.live i/\(ha i == h)=false)->∀m,m<k+1->∃i,t.slot (bg t m p).j=.live i/\(ha i == h)=false:=λk hk m hm=>by
      cases m with
      | zero=>exact⟨i,hs,zu⟩
      | succ m=>exact hk m (by lia)
     rcases EO hd ha h n ci (t.advance p) rL (by lia) he with⟨k,hk,e,h1,h2⟩|⟨k,i',hk,e,h1,h2⟩
     ·exact .inl ⟨k+1,by lia,e,h1,ext k h2⟩
     ·exact .inr ⟨k+1,i',by lia,e,h1,ext k h2⟩
theorem KD(h:t.slot j=.live i):t.place[i]?= some j:=by
 unfold SetTable.slot at h;dsimp only at h
 split at h
 ·rename_i h2
  cases h;exact eq_of_beq h2
 ·split at h <;> cases h
section
variable{prog:Program}{w:World}{K:Type}[DecidableEq K]{knd:KeyKind prog w K}{A:Around}{E:Value->Shared->Prop}{s:Shared}
variable{h:Heap}
theorem tZ{x y:List K}{b:Addr}(h1:IsTupleKey knd h x b)(h2:IsTupleKey knd h y b):x=y:=by
 obtain⟨o,its,n,e1,_,e3,e4⟩:=h1;obtain⟨o',its',n',f1,_,f3,f4⟩:=h2;rw[e1] at f1;cases f1;rw[e3] at f3;cases f3;exact e4.inj f4
def di(knd:KeyKind prog w K)(h:Heap)(ks:List K)(e:Int×Value):Prop := ∃b,e.2=.ref b/\IsTupleKey knd h ks b
structure qQ(knd:KeyKind prog w K)(h:Heap)(es:Array (Int×Value))(t:SetTable):Prop where
 tab:Tab es t
 ent:∀e∈es.toList,∃ks,di knd h ks e/\e.1=tupleKeyHash knd ks
 way:∀(i:Nat) e j,es[i]?= some e->t.place[i]?= some j->Way t.mask (· ∈ t.place.toList) e.1 j
 one:es.toList.Pairwise λe e'=>∀ks,di knd h ks e -> ¬ di knd h ks e'
variable{es:Array (Int×Value)}{t:SetTable}
theorem qQ.ents(x:qQ knd h es t):wX knd false h es:=λe he=>by
 obtain⟨ks,⟨b,e1,e2⟩,_⟩:=x.ent e he;exact⟨ks,b,e1,e2⟩
theorem qQ.none(x:qQ knd h es t){ks:List K}{N:Nat}(he:t.slot (jn t.mask (tupleKeyHash knd ks) N)=.empty)
  (hp:∀m,m<N->∃i e,t.slot (jn t.mask (tupleKeyHash knd ks) m)=.live i/\es[i]?= some e /\ ¬ di knd h ks e):∀e∈es.toList,¬ di knd h ks e:=λe A4 hb=>by
 obtain⟨i0,pC⟩:=iM.mp A4;rw[dU] at pC;have au:=(mz.mp pC).1;obtain⟨lx,aB,hh⟩:=x.ent e A4;have ek:lx=ks:=by
  obtain⟨b,e1,e2⟩:=hb;obtain⟨b',f1,f2⟩:=aB;rw[e1] at f1;cases f1;exact tZ f2 e2
 subst ek;have hsz:=x.tab.size;have hj:t.place[i0]?= some t.place[i0]:=gC (by lia);obtain⟨n,en,hn⟩:=x.way i0 e _ pC hj;rw[hh] at en hn;have bB:t.place[i0]∈t.place.toList:=Array.getElem_mem_toList (by lia);rcases y0 n N with Bc|eU|Y0
 ·obtain⟨i,e',h1,h2,h3⟩:=hp n Bc;have h4:=KD h1;rw[en] at h4;have hi:i=i0:=by
   have l1:=(mz.mp h4).1;have e5:t.place[i]=t.place[i0]:=(mz.mp h4).2;rcases y0 i i0 with z|z|z
   ·have:=tR x.tab.kO z (by lia);lia
   ·exact z
   ·have:=tR x.tab.kO z l1;lia
  rw[hi,pC] at h2;cases h2;exact h3 hb
 ·rw[<- eU,en] at he;exact Ab x.tab.kO he bB
 ·exact Ab x.tab.kO he (hn N Y0)
set_option maxHeartbeats 1000000 in
theorem KW{S a:Addr}{o:Obj}{es:Array (Int×Value)}{ep:Nat}{t:SetTable}{ks:List K}(hu:A.units<cLine)(ho:s.heap.get? S=some o)(hd:o.data=.set es ep t)(xy:qQ knd s.heap es t)(hk:IsTupleKey knd s.heap ks a){Q:SetFound->Shared->Prop}
  (q0:(∃e∈es.toList,di knd s.heap ks e)->Q (.there none) s) (q1:∀j,t.slot j=.empty->(∀e∈es.toList,¬ di knd s.heap ks e)->Way t.mask (· ∈ t.place.toList) (tupleKeyHash knd ks) j->Q (.free j false) s) :
  ∀(ci n c:Nat)(qd:Option SetTable.Probe),qd.getD (t.probeStart (tupleKeyHash knd ks))=bg t c (t.probeStart (tupleKeyHash knd ks))->(∀m,m<c->∃i e,t.slot (jn t.mask (tupleKeyHash knd ks) m)=.live i/\es[i]?= some e /\ ¬ di knd s.heap ks e) ->
   t.slot (bg t n (qd.getD (t.probeStart (tupleKeyHash knd ks)))).j=.empty->n<10*SetTable.turns t.mask->n<ci ->
  wpAny (model prog w) A (setSearchFrom S (.ref a) (tupleKeyHash knd ks) true ci qd) Q E s
 | 0,n,_,_,_,_,_,_,hn=>absurd hn (lg _)
 | ci+1,n,c,qd,Bj,NG,he,xQ,hn=>by
  have hT:=xy.tab;have hE:=xy.ents;have rL:(qd.getD (t.probeStart (tupleKeyHash knd ks))).dummy=none:=by rw[Bj];exact IA t c _ (qZ t _).2.2
  unfold setSearchFrom;refine ae (jm ho hd hT.fits ?_);dsimp only;have Y1:t.gaveWay=false:=by
   unfold SetTable.gaveWay;rw[SY hT.good];rfl
  rw[Y1,ag (by decide)];have nu:∀m,(bg t m (qd.getD (t.probeStart (tupleKeyHash knd ks)))).j=jn t.mask (tupleKeyHash knd ks) (c+m):=λm=>by rw[Bj,<- rc,Vq]
  have Od:∀{j i},t.slot j=.live i->∃e,es[i]?= some e:=λ{j i} hl=>⟨_,gC (by have:=Ld hl;rw[hT.size] at this;exact this)⟩;have aO:∀{i:Nat}{e:Int×Value},es[i]?= some e->(((es[i]?.map (·.1)).getD 0 == tupleKeyHash knd ks)=false) -> ¬ di knd s.heap ks e:=λ{i e} pD hh hb=>by
   rw[pD] at hh;obtain⟨lx,aB,e2⟩:=xy.ent e (by rw[<- dU] at pD;exact bU pD);have ek:lx=ks:=by
    obtain⟨b,f1,f2⟩:=hb;obtain⟨b',g1,g2⟩:=aB;rw[f1] at g1;cases g1;exact tZ g2 f2
   rw[ek] at e2;have zu:(e.1 == tupleKeyHash knd ks)=false:=hh;rw[e2] at zu;simp at zu
  generalize bY:qd.getD (t.probeStart (tupleKeyHash knd ks))=p at rL he nu Bj
  split
  ·rename_i met hm
   unfold SetTable.probe at hm;rcases EO hT.none _ (tupleKeyHash knd ks) n _ p rL xQ he with⟨k,dO,e,hj,pM⟩|⟨k,i,dO,e,hl,pM⟩
   ·rw[e] at hm;cases hm;rw[nu k] at hj;have cM:∀m,m<c+k->∃i e,t.slot (jn t.mask (tupleKeyHash knd ks) m)=.live i/\es[i]?= some e /\ ¬ di knd s.heap ks e:=λm hm=>by
     by_cases FA:m<c
     ·exact NG m FA
     ·obtain⟨i,h1,h2⟩:=pM (m-c) (by lia);rw[nu,show c+(m-c)=m by lia] at h1;obtain⟨e,kz⟩:=Od h1;exact⟨i,e,h1,kz,aO kz h2⟩
    refine af ?_;rw[nu k];refine q1 _ hj (xy.none hj cM) ⟨c+k,rfl,λm hm=>?_⟩;obtain⟨i,_,h1,_⟩:=cM m hm;have:=KD h1;rw[<- dU] at this;exact bU this
   ·rw[e] at hm;cases hm;have hi:=Ld hl;rw[hT.size] at hi;obtain⟨lx,b,cX,hb⟩:=hE es[i] (Array.getElem_mem_toList hi);have Ny:es[i]∈es.toList:=Array.getElem_mem_toList hi;have gR:es[i]?= some (es[i].1,Value.ref b):=by rw[gC hi,<- cX]
    have FU:t.sameMemory t.moves t.mask=some true:=by
     unfold SetTable.sameMemory;rw[ai (beq_self_eq_true _)]
    have again:lx≠ks->wpAny (model prog w) A (setSearchFrom S (.ref a) (tupleKeyHash knd ks) true ci (some (bg t (k+1) p))) Q E s:=λZ'=>by
     refine KW hu ho hd xy hk q0 q1 ci (n-(k+1)) (c+(k+1)) (some (bg t (k+1) p)) (by show bg t (k+1) p=_;rw[Bj,<- rc]) (λm hm=>?_) (by
      show t.slot (bg t (n-(k+1)) (bg t (k+1) p)).j=.empty;rw[<- rc,show k+1+(n-(k+1))=n by lia];exact he) (by lia) (by lia)
     by_cases FA:m<c
     ·exact NG m FA
     by_cases ZO:m<c+k
     ·obtain⟨i',h1,h2⟩:=pM (m-c) (by lia);rw[nu,show c+(m-c)=m by lia] at h1;obtain⟨e,kz⟩:=Od h1;exact⟨i',e,h1,kz,aO kz h2⟩
     ·have em:m=c+k:=by lia
      rw[nu k,<- em] at hl;refine⟨i,es[i],hl,gC hi,λ⟨b',f1,f2⟩=>?_⟩;rw[cX] at f1;cases f1;exact Z' (tZ hb f2)
    dsimp only;rw[gR];dsimp only;have Zpt:∀v∈(Array.filter (λx=>x.fst == tupleKeyHash knd ks) es).toList.map (λx=>x.snd),∃ks b,v=Value.ref b/\IsTupleKey knd s.heap ks b:=λv hv=>by
     obtain⟨x,hx,rfl⟩:=aS.mp hv;rw[Array.toList_filter] at hx;exact hE x (dz.mp hx).1
    cases dv:t.led with
    | false =>
     rw[ai (by decide)];refine ae (Uw hk _ Zpt ?_);rw[ag (by decide)];refine ae (dC (wpAny_eqBool_tuple hu hb hk (ae (jm ho hd hT.fits ?_))));by_cases eU:lx=ks
     ·rw[aF eU,ai (by decide)];exact af (q0 ⟨es[i],Ny,b,cX,eU ▸ hb⟩)
     ·rw[a8 eU,ag (by decide)];dsimp only;rw[FU];dsimp only;rw[if_pos rfl,hl];dsimp only;rw[gR];dsimp only;refine wpAny_bind (wpAny_isSame_ref_self (wpAny_bind (wpAny_pure ?_)));rw[if_pos rfl];dsimp only;rw[if_neg (by decide)];exact again eU
    | true =>
     rw[ag (by decide)];refine ae (dC (wpAny_eqBool_tuple hu hb hk (ae (jm ho hd hT.fits ?_))));by_cases eU:lx=ks
     ·rw[aF eU,ai (by decide)];exact af (q0 ⟨es[i],Ny,b,cX,eU ▸ hb⟩)
     ·rw[a8 eU,ag (by decide)];dsimp only;rw[FU];dsimp only;rw[if_pos rfl,hl];dsimp only;rw[gR];dsimp only;refine wpAny_bind (wpAny_isSame_ref_self (wpAny_bind (wpAny_pure ?_)));rw[if_pos rfl];dsimp only;rw[if_neg (by decide)];exact again eU
  ·rename_i hm
   exfalso;unfold SetTable.probe at hm;rcases EO hT.none _ (tupleKeyHash knd ks) n _ p rL xQ he with⟨k,dO,e,hj,pM⟩|⟨k,i,dO,e,hl,pM⟩
   ·exact hm _ e
   ·exact hm _ e
end
theorem qW{α : Type}(xs:Array α){p:Nat}(hp:p<=xs.size)(x : α)(i:Nat):(SetTable.insertAt xs p x)[i]?= if i<p then xs[i]? else if i=p then some x else xs[i-1]? := by
 have hl:(xs.toList.take p).length=p:=by rw[cY,aK];lia
 rw[<- dU,Iy];by_cases h1:i<p
 ·rw[ai h1,BZ (by lia),B0 h1,dU]
 rw[ag h1,yU (by lia),hl];by_cases h2:i=p
 ·rw[ai h2,h2,Nat.sub_self];rfl
 ·rw[ag h2,show i-p=(i-1-p)+1 by lia,List.getElem?_cons_succ,List.getElem?_drop,show p+(i-1-p)=i-1 by lia,dU]
section
variable{prog:Program}{w:World}{K:Type}[DecidableEq K]{knd:KeyKind prog w K}{A:Around}{E:Value->Shared->Prop}{s:Shared}
abbrev One(knd:KeyKind prog w K)(h:Heap)(l:List (Int×Value)):Prop:=l.Pairwise λe e'=>∀ks,di knd h ks e -> ¬ di knd h ks e'
variable{h:Heap}
theorem One.perm{l l':List (Int×Value)}(x:One knd h l)(p:l'.Perm l):One knd h l':=(p.pairwise_iff λ{a b} c8 ks hb ha=>c8 ks ha hb).mpr x
variable{S:Addr}{o:Obj}{es:Array (Int×Value)}{ep:Nat}{t:SetTable}
theorem Ry{h':Heap}{o':Obj}{bz:Array (Int×Value)}{fH:Nat}{t':SetTable}(ho:h.get? S=some o)(hd:o.data=.set es ep t)(bN:h'.get? S=some o')(bQ:o'.data=.set bz fH t')(sb:Heap.SameBut S h h')(ks:List K)(e:Int×Value):di knd h ks e↔di knd h' ks e:=by
 constructor
 ·rintro⟨b,e1,e2⟩;exact⟨b,e1,Uj ho hd sb e2⟩
 ·rintro⟨b,e1,o2,items,n,h1,h2,h3,h4⟩;have aO:b≠S:=λz=>by
   rw[z,bN] at h1;cases h1;rw[bQ] at h3;cases h3
  exact⟨b,e1,o2,items,n,(sb.2 b aO).symm.trans h1,h2,h3,h4⟩
def rm(knd:KeyKind prog w K)(h:Heap)(S:Addr)(vs:Value->Prop)(P:List K->Prop)(n:Nat)(led:Bool):Prop :=
 ∃o es ep t,h.get? S=some o/\o.ExactSet/\o.data=.set es ep t/\qQ knd h es t/\es.size<=n/\t.led=led/\(∀e∈es.toList,vs e.2)/\∀ks,(∃e∈es.toList,di knd h ks e)↔P ks
theorem Ut{order:Array Nat}(cM:∀k∈order.toList,k<es.size)(i:Nat):(order.filterMap (es[·]?))[i]?= order[i]?.bind (es[·]?):=by
 rw[<- dU,Array.toList_filterMap,<- dU];generalize order.toList=l at cM
 induction l generalizing i with
 | nil=>simp
 | cons k l ih =>
  have hk:=cM k (aU ..);rw[qk (b:=es[k]) (gC hk)];cases i with
  | zero =>
   rw[List.getElem?_cons_zero,List.getElem?_cons_zero];exact(gC hk).symm
  | succ i =>
   rw[List.getElem?_cons_succ,List.getElem?_cons_succ];exact ih i λz hz=>cM z (aR _ hz)
set_option maxHeartbeats 1000000 in
theorem VG{Q:Unit->Shared->Prop}(ho:s.heap.get? S=some o)(hd:o.data=.set es ep t)(hf:t.fits es.size=true)(h1:1<=es.size)(hn:es.size<=1000)
  (h:∀(bz:Array (Int×Value))(t':SetTable)(h':Heap),bz.toList.Perm es.toList->Tab bz t'->(∀(i:Nat) e j,bz[i]?= some e->t'.place[i]?= some j->Way t'.mask (· ∈ t'.place.toList) e.1 j)->t'.led=t.led->h'.get? S=some { o with data:=.set bz (ep+1) t' }->Heap.SameBut S s.heap h'->Q () { s with heap:=h' }) :
  wpAny (model prog w) A (setRelay S (SetTable.grown es.size)) Q E s:=by
 have Fq:SetTable.grown es.size=es.size*4:=by unfold SetTable.grown;rw[ag (by lia)]
 rw[Fq];obtain⟨g1,g2,g3⟩:=above (n:=es.size*4) (by lia);unfold setRelay;refine ae (jm ho hd hf ?_);dsimp only;rw[if_neg (by rw[sizeLine_eq];lia)];obtain⟨t',order,e,m1,m2,m3,m4,m5,m6,m7,m8⟩:=K' g1 t.finger (t.movedTo (SetTable.sizeAbove (es.size*4)-1)) t.led t.plain (es.map (·.1)) (by rw[sP];lia);have sk:=R6 g1 t.finger (t.movedTo (SetTable.sizeAbove (es.size*4)-1)) t.led t.plain (es.map (·.1)) (by rw[sP];lia) e;rw[sP] at m3 m4;have e2:t.relaid (es.map (·.1)) (es.size*4)=some (t',order):=e;rw[e2];have dq:(order.filterMap (es[·]?)).toList.Perm es.toList:=by
  rw[Array.toList_filterMap];exact(m4.filterMap _).trans (List.Perm.of_eq (filterMap_getElem?_range es))
 have hsz:(order.filterMap (es[·]?)).size=es.size:=by
  rw[<- aK,dq.length_eq,aK]
 have iH:∀(i:Nat) e j,(order.filterMap (es[·]?))[i]?= some e->t'.place[i]?= some j->Way t'.mask (· ∈ t'.place.toList) e.1 j:=λi e j hi hj=>by
  rw[Ut (λk hk=>fU.mp (m4.mem_iff.mp hk))] at hi;cases bX:order[i]? with
  | none=>rw[bX] at hi;cases hi
  | some k =>
   rw[bX] at hi;have cI:es[k]?= some e:=hi;obtain⟨x,hx,hwx⟩:=sk i j k hj bX;rw[Array.getElem?_map,cI] at hx;have ex:e.1=x:=cE hx;rw[m1,ex];exact hwx
 refine ae (qz (a:=(order.filterMap (es[·]?),t')) ?_ ?_)
 ·change (ite (((order.filterMap (es[·]?)).size != es.size)=true) _ _:Sem (Array (Int×Value)×SetTable))=_;rw[ag (by rw[hsz];simp)]
 dsimp only;refine wpAny_storeSet_of ho hd (h _ t' _ dq ⟨by rw[m3,hsz],m2,by rw[m1];exact g1,?_,m8⟩ iH m5 (j_.stored ho hd _ _) (mC ..)) (by rw[hsz,aT];lia);unfold SetTable.fill;rw[m1,m2,m3];show(es.size+0)*5<_;lia
variable{Q:Bool->Shared->Prop}{a:Addr}{vs:Value->Prop}{n:Nat}{led:Bool}
set_option maxHeartbeats 2000000 in
theorem DC{t2:SetTable}{P:List K->Prop}{j:Nat}{ks:List K}(ho:s.heap.get? S=some o)(hx:o.ExactSet)(hd:o.data=.set es ep t)(jK:qQ knd s.heap es t)(hsz:es.size<=n)(dv:t.led=led)(iG:∀e∈es.toList,vs e.2)
  (hP:∀ks,(∃e∈es.toList,di knd s.heap ks e)↔P ks) (hn:n<=900) (hk:IsTupleKey knd s.heap ks a) (hv:vs (.ref a)) (hj:t.slot j=.empty) (xR:∀e∈es.toList,¬ di knd s.heap ks e) (sk:Way t.mask (· ∈ t.place.toList) (tupleKeyHash knd ks) j) (e1:t2.mask=t.mask) (e2:t2.place=SetTable.insertAt t.place (SetTable.below t.place j) j) (e3:t2.dummies=#[]) (e4:t2.led=t.led)
  (q:∀b h',Heap.SameBut S s.heap h'->rm knd h' S vs (λk=>P k\/k=ks) (n+1) led->Q b { s with heap:=h' }) :
  wpAny (model prog w) A (do
   storeSet S (SetTable.insertAt es (SetTable.below t.place j) (tupleKeyHash knd ks,Value.ref a)) t2
   if(!false&&t2.tooFull)=true then do
     setRelay S (SetTable.grown (es.size+1))
     pure true
    else pure true) Q E s:=by
 have hT:=jK.tab;have hr:=hT.room;have Nj:=hT.fill_eq;have iB:=(we hT.kO j).1;have uJ:=sZ es (SetTable.below t.place j) (tupleKeyHash knd ks,Value.ref a);have aA:(SetTable.insertAt es (SetTable.below t.place j) (tupleKeyHash knd ks,Value.ref a)).toList.Perm ((tupleKeyHash knd ks,Value.ref a)::es.toList):=by
  refine uJ.trans ?_;rw[yN];exact List.perm_append_comm (l₁ := es.toList) (l₂ :=[_])
 have jd:(SetTable.insertAt es (SetTable.below t.place j) (tupleKeyHash knd ks,Value.ref a)).size=es.size+1:=by
  rw[<- aK,uJ.length_eq,aK,ve]
 have eX:t2.place.size=es.size+1:=by
  have:=(sZ t.place (SetTable.below t.place j) j).length_eq;rw[aK,aK,ve,hT.size] at this;rw[e2];exact this
 have A5:t2.fill=es.size+1:=by
  unfold SetTable.fill;rw[eX,e3];rfl
 have uP:ii t2.place:=by
  rw[e2];exact IC hT.kO (Ab hT.kO hj)
 have Fs:∀y,y∈t.place.toList->y∈t2.place.toList:=λy hy=>by
  rw[e2];refine(sZ t.place (SetTable.below t.place j) j).mem_iff.mpr ?_;rw[yN];exact dy _ hy
 have N0:∀(i:Nat) e y,(SetTable.insertAt es (SetTable.below t.place j) (tupleKeyHash knd ks,Value.ref a))[i]?= some e->t2.place[i]?= some y->Way t2.mask (· ∈ t2.place.toList) e.1 y:=λi e y hi hy=>by
  rw[qW es (by rw[<- hT.size];exact iB)] at hi;rw[e2,qW t.place iB] at hy;rw[e1];by_cases c1:i<SetTable.below t.place j
  ·rw[ai c1] at hi hy;exact(jK.way i e y hi hy).mono λz _ hz=>Fs z hz
  rw[ag c1] at hi hy;by_cases c2:i=SetTable.below t.place j
  ·rw[ai c2] at hi hy;cases hi;cases hy;exact sk.mono λz _ hz=>Fs z hz
  ·rw[ag c2] at hi hy;exact(jK.way (i-1) e y hi hy).mono λz _ hz=>Fs z hz
 generalize SetTable.insertAt es (SetTable.below t.place j) (tupleKeyHash knd ks,Value.ref a)=bS at aA jd N0;have NV:di knd s.heap ks (tupleKeyHash knd ks,Value.ref a):=⟨a,rfl,hk⟩;have Zo8:One knd s.heap bS.toList:=by
  refine One.perm (sV.mpr ⟨λe he lx cj cX=>?_,jK.one⟩) aA;obtain⟨b,f1,f2⟩:=cj;cases f1;have:lx=ks:=tZ f2 hk;subst this;exact xR e he cX
 have YU:∀e∈bS.toList,∃ks,di knd s.heap ks e/\e.1=tupleKeyHash knd ks:=λe he=>by
  rcases aJ.mp (aA.mem_iff.mp he) with rfl|he
  ·exact⟨ks,NV,rfl⟩
  ·exact jK.ent e he
 have ZpE:∀e∈bS.toList,vs e.2:=λe he=>by
  rcases aJ.mp (aA.mem_iff.mp he) with rfl|he
  ·exact hv
  ·exact iG e he
 have X8:∀k,(∃e∈bS.toList,di knd s.heap k e)↔(P k\/k=ks):=λk=>by
  constructor
  ·rintro⟨e,he,hb⟩;rcases aJ.mp (aA.mem_iff.mp he) with rfl|he
   ·obtain⟨b,f1,f2⟩:=hb;cases f1;exact .inr (tZ f2 hk)
   ·exact .inl ((hP k).mp ⟨e,he,hb⟩)
  ·rintro(jr|rfl)
   ·obtain⟨e,he,hb⟩:=(hP k).mpr jr;exact⟨e,aA.mem_iff.mpr (aR _ he),hb⟩
   ·exact⟨_,aA.mem_iff.mpr (aU ..),NV⟩
 have fin:∀(h':Heap)(o':Obj)(bz:Array (Int×Value))(fH:Nat)(t':SetTable),Heap.SameBut S s.heap h'->h'.get? S=some o'->o'.ExactSet->o'.data=.set bz fH t'->bz.toList.Perm bS.toList->Tab bz t'->(∀(i:Nat) e j,bz[i]?= some e->t'.place[i]?= some j->Way t'.mask (· ∈ t'.place.toList) e.1 j)->t'.led=led->rm knd h' S vs (λk=>P k\/k=ks) (n+1) led:=λh' o' bz fH t' sb bN vJ bQ hp vG mQ Cd=>by
  have w_:=λk e=>Ry (knd:=knd) ho hd bN bQ sb k e;have hl:bz.size=bS.size:=by rw[<- aK,hp.length_eq,aK]
  refine⟨o',bz,fH,t',bN,vJ,bQ,⟨vG,λe he=>?_,mQ,?_⟩,by lia,Cd,λe he=>ZpE e (hp.mem_iff.mp he),λk=>?_⟩
  ·obtain⟨k,hb,e5⟩:=YU e (hp.mem_iff.mp he);exact⟨k,(w_ k e).mp hb,e5⟩
  ·refine(Zo8.perm hp).imp λ{x y} x_ k h1 h2=>x_ k ((w_ k x).mpr h1) ((w_ k y).mpr h2)
  ·refine sR ?_ (X8 k);constructor
   ·rintro⟨e,he,hb⟩;exact⟨e,hp.mem_iff.mp he,(w_ k e).mpr hb⟩
   ·rintro⟨e,he,hb⟩;exact⟨e,hp.mem_iff.mpr he,(w_ k e).mp hb⟩
 refine ae (wpAny_storeSet_of ho hd ?_ (by rw[jd,aT];lia));have dm:=j_.stored ho hd bS t2;have gz:Heap.SameBut S s.heap (s.heap.update S (Obj.putSet bS t2)):=mC ..;generalize s.heap.update S (Obj.putSet bS t2)=h1 at dm gz;have xI:t2.fits bS.size=true:=by
  unfold SetTable.fits;rw[eX,jd,A5,e1];simp;lia
 by_cases xJ:t2.tooFull=true
 ·rw[xJ,ai (by decide),<- jd];refine ae (VG (s:={ s with heap:=h1 }) dm rfl xI (by lia) (by lia) λbz t' h' hp vG mQ Cd bN tE=>af ?_);exact q true h' (gz.trans tE) (fin h' _ bz _ t' (gz.trans tE) bN hx rfl hp vG mQ (by rw[Cd,e4,dv]))
 ·have rY:t2.tooFull=false:=by
   cases hc:t2.tooFull with
   | true=>exact absurd hc xJ
   | false=>rfl
  rw[rY,ag (by decide)];refine af (q true h1 gz (fin h1 _ bS _ t2 gz dm hx rfl (mD _) ⟨by rw[eX,jd],e3,by rw[e1];exact hT.good,?_,uP⟩ N0 (by rw[e4,dv])));unfold SetTable.tooFull at rY;have:=mJ rY;lia
set_option maxHeartbeats 2000000 in
theorem Ri{P:List K->Prop}{ks:List K}(hu:A.units<cLine)(hS:rm knd s.heap S vs P n led)(hn:n<=900)(hk:IsTupleKey knd s.heap ks a)(hv:vs (.ref a))
  (q:∀b h',Heap.SameBut S s.heap h'->rm knd h' S vs (λk=>P k\/k=ks) (n+1) led->Q b { s with heap:=h' }):wpAny (model prog w) A (setAddHashed S (.ref a) (tupleKeyHash knd ks)) Q E s:=by
 obtain⟨o,es,ep,t,ho,hx,hd,jK,hsz,dv,iG,hP⟩:=hS;have hT:=jK.tab;have hr:=hT.room;have Nj:=hT.fill_eq;unfold setAddHashed;refine dC ?_;unfold setAddHashedIn;refine ae (jm ho hd hT.fits ?_);have YA:byScan (.ref a) es=false:=rfl;dsimp only;rw[YA,if_neg (by decide)];obtain⟨m,ZI,ZN⟩:=IX hT (tupleKeyHash knd ks);have FU:=Qn hT.good;unfold setSearch;refine ae (KW (knd:=knd) hu ho hd jK hk (λhex=>?_) (λj hj xR sk=>?_) 100000 m 0 none rfl (λm hm=>absurd hm (lg _)) ZN ZI (by lia))
 ·refine af (q false s.heap (Heap.SameBut.refl ..) ⟨o,es,ep,t,ho,hx,hd,jK,by lia,dv,iG,λk=>(hP k).trans ⟨.inl,λz=>?_⟩⟩);rcases z with z|rfl
  ·exact z
  ·exact(hP k).mp hex
 dsimp only;refine wpAny_bind (wpAny_setState_of ho hd hT.fits ?_);dsimp only;have ft:SetTable.has t.dummies j=false:=by rw[hT.none];rfl
 have FI:t.put j=({ t with place:=SetTable.insertAt t.place (SetTable.below t.place j) j },SetTable.below t.place j):=by
  unfold SetTable.put;rw[ft];rfl
 rw[FI];dsimp only;cases aA:t.plain with
 | true =>
  rw[ai rfl];refine ae (RP hk λb=>?_);cases b with
  | true =>
   rw[ai rfl];exact DC ho hx hd jK hsz dv iG hP hn hk hv hj xR sk rfl rfl hT.none rfl q
  | false =>
   rw[ag (by decide)];exact DC ho hx hd jK hsz dv iG hP hn hk hv hj xR sk rfl rfl hT.none rfl q
 | false =>
  rw[ag (by decide)];refine ae (af ?_);rw[ai rfl];exact DC ho hx hd jK hsz dv iG hP hn hk hv hj xR sk rfl rfl hT.none rfl q
theorem V6{P:List K->Prop}{ks:List K}(hu:A.units<cLine)(hS:rm knd s.heap S vs P n led)(hn:n<=900)(hk:IsTupleKey knd s.heap ks a)(hv:vs (.ref a))
  (q:∀b h' tk,s.toks<=tk->Heap.SameBut S s.heap h'->rm knd h' S vs (λk=>P k\/k=ks) (n+1) led->Q b { s with heap:=h',toks:=tk }):wpAny (model prog w) A (setAdd S (.ref a)) Q E s:=by
 unfold setAdd;refine dC (ae (wpAny_pyHash_tuple hu hk ?_));exact Ri (s:={ s with toks:=_ }) hu hS hn hk hv λb h' sb jq=>q b h' _ (vw _ _) sb jq
end
end tJ
namespace av
open PySem PyProof.Rows vS PySem.W
structure eC{α : Type}(lt : α -> α -> Bool):Prop where
 me:∀a,lt a a=false
 trans:∀a b c,lt a b=true->lt b c=true->lt a c=true
 vb:∀a b,lt a b=false->lt b a=false->a=b
section
variable{α β : Type}{lt : α -> α -> Bool}{mj : β -> β -> Bool}
theorem eC.kn(o:eC lt){a b : α}(h:lt a b=true):lt b a=false:=by
 cases e:lt b a with
 | false=>rfl
 | true =>
  have:=o.trans a b a h e;rw[o.me] at this;cases this
theorem eC.neg(o:eC lt){x y z : α}(h1:lt x y=false)(h2:lt y z=false):lt x z=false:=by
 cases e:lt x z with
 | false=>rfl
 | true =>
  cases e2:lt y x with
  | true=>rw[o.trans y x z e2 e] at h2;cases h2
  | false =>
   have:=o.vb x y h1 e2;subst this;rw[e] at h2;cases h2
theorem eC.OR(o:eC lt)(f:Value -> α):vT λx y=>lt (f x.1) (f y.1):=⟨λ_ _ h=>o.kn h,λ_ _ _ h1 h2=>o.neg h1 h2⟩
def o3[DecidableEq α](lt : α -> α -> Bool)(mj : β -> β -> Bool)(x y : α × β):Bool:=lt x.1 y.1 || (decide (x.1=y.1)&&mj x.2 y.2)
theorem eC.lex[DecidableEq α](o:eC lt)(o2:eC mj):eC (o3 lt mj) where
 me:=λa=>by unfold o3;rw[o.me,o2.me];simp
 trans:=λa b c h1 h2=>by
  unfold o3 at *;simp only[Bool.or_eq_true,eY,jl] at *;rcases h1 with h1|⟨e1,h1⟩
  ·rcases h2 with h2|⟨e2,h2⟩
   ·exact .inl (o.trans _ _ _ h1 h2)
   ·exact .inl (e2 ▸ h1)
  ·rcases h2 with h2|⟨e2,h2⟩
   ·exact .inl (e1.symm ▸ h2)
   ·exact .inr ⟨e1.trans e2,o2.trans _ _ _ h1 h2⟩
 vb:=λa b h1 h2=>by
  unfold o3 at *;simp only[Bool.or_eq_false_iff,Bool.and_eq_false_imp,jl] at *;have e1:=o.vb _ _ h1.1 h2.1;have e2:=o2.vb _ _ (h1.2 e1) (h2.2 e1.symm);exact Prod.ext e1 e2
theorem wx:eC λa b:Int=>decide (a<b):=⟨λa=>by simp,λa b c h1 h2=>by simp only[jl] at *;lia,λa b h1 h2=>by simp only[decide_eq_false_iff_not] at *;lia⟩
theorem IU:∀a b:List Nat,¬ a<b -> ¬ b<a->a=b
 | [],[],_,_=>rfl
 | [],b::bs,h,_=>absurd (List.nil_lt_cons b bs) h
 | a::as,[],_,h=>absurd (List.nil_lt_cons a as) h
 | a::as,b::bs,h1,h2=>by
  rw[List.cons_lt_cons_iff] at h1 h2;have e:a=b:=by
   rcases y0 a b with z|z|z
   ·exact absurd (.inl z) h1
   ·exact z
   ·exact absurd (.inl z) h2
  subst e;rw[IU as bs (λz=>h1 (.inr ⟨rfl,z⟩)) (λz=>h2 (.inr ⟨rfl,z⟩))]
theorem vW:∀a:List Nat,¬ a<a
 | [],h=>by cases h
 | a::as,h=>by
  rw[List.cons_lt_cons_iff] at h;rcases h with h|⟨_,h⟩
  ·lia
  ·exact vW as h
theorem Iw:∀a b c:List Nat,a<b->b<c->a<c
 | [],_,[],_,h2=>by cases h2
 | [],_,c::cs,_,_=>List.nil_lt_cons c cs
 | a::as,[],_,h1,_=>by cases h1
 | a::as,b::bs,[],_,h2=>by cases h2
 | a::as,b::bs,c::cs,h1,h2=>by
  rw[List.cons_lt_cons_iff] at *;rcases h1 with h1|⟨e1,h1⟩
  ·rcases h2 with h2|⟨e2,h2⟩
   ·exact .inl (by lia)
   ·exact .inl (by lia)
  ·rcases h2 with h2|⟨e2,h2⟩
   ·exact .inl (by lia)
   ·exact .inr ⟨by lia,Iw as bs cs h1 h2⟩
theorem T8{x y:Str}(h:x.cps.toList=y.cps.toList):x=y:=by
 cases x;cases y
 congr 1
 exact Array.toList_inj.mp h
theorem U0:eC λa b:Str=>decide (a.cps.toList<b.cps.toList):=⟨λa=>a8 (vW _),λa b c h1 h2=>aF (Iw _ _ _ (bh h1) (bh h2)),λa b h1 h2=>T8 (IU _ _ (mJ h1) (mJ h2))⟩
end
abbrev Qd:=Int×Str×Int×Int
def nZ:Qd->Qd->Bool:=o3 (λa b:Int=>decide (a<b)) (o3 (λa b:Str=>decide (a.cps.toList<b.cps.toList)) (o3 (λa b:Int=>decide (a<b)) λa b:Int=>decide (a<b)))
theorem DQ:eC nZ:=wx.lex (U0.lex (wx.lex wx))
def gH(h:Heap)(v:Value)(q:Qd):Prop := ∃a o t u t2 t3 n,v=.ref a/\h.get? a=some o/\o.cls=.type "tuple" /\ o.data=.seq #[.int q.1 t,.str q.2.1 u,.int q.2.2.1 t2,.int q.2.2.2 t3] n
theorem gH.inj{h:Heap}{v:Value}{q q':Qd}(x:gH h v q)(y:gH h v q'):q=q':=by
 obtain⟨a,o,t,u,t2,t3,n,rfl,h1,_,h3⟩:=x;obtain⟨a',o',t',u',PB,PD,n',e,mO,_,fW⟩:=y;cases e;rw[h1] at mO;cases mO;rw[h3] at fW;obtain⟨q1,q2,q3,q4⟩:=q;obtain⟨r1,r2,r3,r4⟩:=q';simp only[Data.seq.injEq,Array.mk.injEq,List.cons.injEq,Value.int.injEq,Value.str.injEq,and_true] at fW;obtain⟨⟨⟨e1,_⟩,⟨e2,_⟩,⟨e3,_⟩,⟨e4,_⟩⟩,_⟩:=fW;rw[e1,e2,e3,e4]
variable{h:Heap}{v:Value}
theorem gH.keep{h':Heap}{q:Qd}(x:gH h v q)(k:∀b o,h.get? b=some o->h'.get? b=some o):gH h' v q:=by
 obtain⟨a,o,t,u,t2,t3,n,rfl,h1,r⟩:=x;exact⟨a,o,t,u,t2,t3,n,rfl,k _ _ h1,r⟩
open Classical in
noncomputable def kq(h:Heap)(v:Value):Qd:=if x:∃q,gH h v q then x.choose else(0,Str.empty,0,0)
theorem Au{q:Qd}(x:gH h v q):kq h v=q:=by
 unfold kq;rw[dif_pos ⟨q,x⟩];exact(Exists.choose_spec (⟨q,x⟩:∃q,gH h v q)).inj x
theorem KZ{h:Heap}:∀{vs:List Value},(∀v∈vs,∃q,gH h v q)->∃fs,KatTups h vs fs/\fs.length=vs.length/\∀f∈fs,∃i t,f=.int i t
 | [],_=>⟨[],trivial,rfl,λ_ h=>nomatch h⟩
 | v::vs,hv=>by
  obtain⟨q,a,o,t,u,t2,t3,n,rfl,ho,hc,hd⟩:=hv v (aU ..);obtain⟨fs,kt,hl,hf⟩:=KZ (vs:=vs) λx hx=>hv x (aR _ hx);refine⟨.int q.1 t::fs,KatTups.cons ho hc hd rfl kt,by simp[hl],λf hm=>?_⟩;rcases aJ.mp hm with rfl|hm
  ·exact⟨_,t,rfl⟩
  ·exact hf f hm
variable{prog:Program}{w:World}{A:Around}{s:Shared}
theorem Qt{h0:Heap}{vs:List Value}(hv:∀v∈vs,∃q,gH h0 v q)(k0:∀b o,h0.get? b=some o->s.heap.get? b=some o)(h2:2<=vs.length):v_ prog w A (λu v=>nZ (kq h0 u) (kq h0 v)) vs s:=by
 have mP:∀v∈vs,∃q,gH s.heap v q:=λv hm=>let ⟨q,x⟩:=hv v hm;⟨q,x.keep k0⟩;obtain⟨fs,k,hl,hf⟩:=KZ mP;refine⟨tuples' true,λQ E hq=>?_,?_⟩
 ·refine kat_kind (T:=.type "int") k (by lia) (λv hm=>?_) rfl hq;obtain⟨i,t,rfl⟩:=hf v hm;exact Looks.of_pure rfl
 ·intro x y hx hy E;rw[pairsOf_toList] at hx hy;obtain⟨q,xq⟩:=hv _ (mI hx).2;obtain⟨q',yq⟩:=hv _ (mI hy).2;have e1:(λx y:Keyed=>nZ (kq h0 x.1) (kq h0 y.1)) x y=nZ q q':=by
   show nZ (kq h0 x.1) (kq h0 y.1)=_;have hx1:=(mI hx);have Ga:=(mI hy);rw[Au xq,Au yq]
  rw[e1];obtain⟨a,o,t,u,t2,t3,n,e,ho,hc,hd⟩:=xq.keep k0;obtain⟨a',o',t',u',PB,PD,n',e',bN,cQ,bQ⟩:=yq.keep k0;rw[e,e'];obtain⟨q1,q2,q3,q4⟩:=q;obtain⟨r1,r2,r3,r4⟩:=q';refine kat_lt ho hd bN bQ ?_;have Hk:nZ (q1,q2,q3,q4) (r1,r2,r3,r4)=(decide (q1<r1) || (decide (q1=r1)&&(decide (q2.cps.toList<r2.cps.toList) || (decide (q2=r2)&&(decide (q3<r3) || (decide (q3=r3)&&decide (q4<r4))))))):=rfl;rw[Hk];refine kat_cons (ze (kat_go (λc1=>kat_yes ?_) (λc1=>kat_no ?_)))
  ·have hU:q1=r1:=eq_of_beq c1;refine kat_cons (wpAny_eqBool_str (kat_go (λc2=>kat_yes ?_) (λc2=>kat_no ?_)))
   ·have jo:q2=r2:=bh c2;refine kat_cons (ze (kat_go (λc3=>kat_yes ?_) (λc3=>kat_no ?_)))
    ·have zo:q3=r3:=eq_of_beq c3;refine kat_cons (ze (kat_go (λc4=>kat_yes (kat_nil ⟨rfl,?_⟩)) (λc4=>kat_no ?_)))
     ·have O_:q4=r4:=eq_of_beq c4;subst hU jo zo O_;rw[a8 (vW q2.cps.toList)];simp
     ·refine kat_one _ _ (wpAny_lt_int ⟨rfl,?_⟩);subst hU jo zo;rw[a8 (vW q2.cps.toList)];simp
    ·refine kat_one _ _ (wpAny_lt_int ⟨rfl,?_⟩);have zo : ¬ q3=r3:=λz=>by rw[z] at c3;simp at c3
     subst hU jo;rw[a8 (vW q2.cps.toList)];simp[zo]
   ·refine kat_one _ _ (PyProof.Rows.lt_str ⟨rfl,?_⟩);have jo : ¬ q2=r2:=mJ c2;subst hU;simp[jo]
  ·refine oneLt_int ⟨rfl,?_⟩;have hU : ¬ q1=r1:=λz=>by rw[z] at c1;simp at c1
   simp[hU]
end av
namespace tJ
open PySem PyProof.Rows PySem.W j_
theorem Sx(es:Array (Int×Value)):(List.range es.size).map (λj=>(es.getD j (0,.none)).2)=es.toList.map (·.2):=by
 refine BY λi=>?_;rw[cp,cp];by_cases hi:i<es.size
 ·rw[List.getElem?_range hi,dU,gC hi];simp[Array.getD,hi]
 ·rw[List.getElem?_eq_none (by rw[vt];lia),List.getElem?_eq_none (by rw[aK];lia)];rfl
variable{prog:Program}{w:World}{A:Around}{E:Value->Shared->Prop}{s:Shared}{S:Addr}{es:Array (Int×Value)}{ep:Nat}{t:SetTable}
set_option maxHeartbeats 1000000 in
theorem TJ{o:Obj}{Q:Value->Shared->Prop}(ho:s.heap.get? S=some o)(hx:o.ExactSet)(hd:o.data=.set es ep t)(hT:Tab es t)(dv:t.led=um w)(hn:es.size<=900)
  (q:∀(I T:Addr)(ys:List Value)(h':Heap)(d:Drawn),(∀b o,s.heap.get? b=some o->h'.get? b=some o)->mW w h' I S T es ep t ys 0->ys.length=es.size->S≠I->T≠I->ys.Perm (es.toList.map (·.2))->s.heap.objs.size<=I->(T=S\/s.heap.objs.size<=T)->Q (.ref I) { s with heap:=h',drawn:=d }) :
  wpAny (model prog w) A (pyIter (.ref S)) Q E s:=by
 have pS:s.TypeIs (.ref S) "set" := ⟨o,ho,hx.1⟩;have hf:=hT.fits;refine wpAny_pyIter_slot pS PySem.F.slot_set_iter (mL PySem.F.slot_set_iter pS Ql ?_ (PySem.F.args_set_iter_1 _));unfold Builtin.«frozenset.__iter__»;refine ae ?_;unfold Builtin.Frozenset.slot0;refine ae (af ?_);change wpAny _ A.in1 (pure S) _ _ s;refine af (ae ?_);unfold Builtin.Frozenset.sizeOf;refine ae (DR ho hd hf (af (ae (UZ ho hd hf ?_))));have Mr:∀{s1:Shared}{Q1:Nat->Shared->Prop}{E1:Value->Shared->Prop},s1.heap.get? S=some o->Q1 ep s1->wpAny (model prog w) A.in1 (setEpoch S) Q1 E1 s1:=λdm h=>by
  unfold setEpoch;exact ae (jm dm hd hf (af h))
 cases A3:(!w.params.followText "set-order" && (!t.plain&&decide (es.size > 1))) with
 | true =>
  rw[ai rfl];have hf0:w.params.followText "set-order" = false:=by
   cases hc:w.params.followText "set-order" with
   | false=>rfl
   | true=>rw[hc] at A3;cases A3
  refine ae (KS es.size (List.range es.size) s vt λperm d hp=>?_);have aA:perm.length=es.size:=by rw[hp.length_eq,vt]
  refine ae (wpAny_newTuple ?_ (by rw[ay,aA,aT];lia));dsimp only;refine ae (Mr (ax _ ho) ?_);unfold newFields;refine ae (mM (af ⟨_,rfl,"set_iterator",_,⟨_,bo _ rfl,rfl⟩,qU.lookup,?_⟩));have Bl:(s.heap.push { cls:=.type "tuple",data:=.seq (perm.map λ(i:Nat)=>rawInt (i:Int)).toArray }).objs.size=s.heap.objs.size+1:=gD ..;refine q _ s.heap.objs.size (perm.map λj=>(es.getD j (0,.none)).2) _ d (λb o e=>ax _ (ax _ e)) ⟨⟨o,ax _ (ax _ ho),hd⟩,hf,_,_,bo _ rfl,rfl,rfl,.inr (.inr ⟨_,_,_,rfl,ax _ (bo _ rfl),rfl,?_,λk v hk=>?_⟩)⟩ (by rw[ay,aA]) ?_ ?_ ?_ ?_ (.inr (aq _))
  ·rw[ay,aA]
  ·have jr:(perm.map λ(i:Nat)=>rawInt (i:Int))[k]?= some v:=by rw[<- hk];simp
   rw[cp] at jr;obtain⟨j,hj,rfl⟩:=gG.mp jr;have rQ:j<es.size:=fU.mp (hp.mem_iff.mp (bU hj));refine⟨j,0,rfl,?_,rQ⟩;rw[cp,hj,gC rQ];simp[Array.getD,rQ]
  ·rw[Bl];exact aV (Nat.lt_succ_of_lt (aH ho))
  ·rw[Bl];exact aV (mE _)
  ·exact(hp.map _).trans (List.Perm.of_eq (Sx es))
  ·rw[Bl];exact ot _
 | false =>
  rw[ag (by decide)];refine ae (af ?_);dsimp only;refine ae (Mr ho ?_);unfold newFields;refine ae (mM (af ⟨_,rfl,"set_iterator",_,⟨_,bo _ rfl,rfl⟩,qU.lookup,?_⟩));have nI:S≠s.heap.objs.size:=aV (aH ho);cases A8:w.params.followText "set-order" with
  | true =>
   have pM:(pickOrder (w.params.setOrder S ep) es).toList.Perm es.toList:=by
    have:=I_ (w.params.setOrder S ep) es.size 0 es.toList #[] (aK)
    simpa[pickOrder] using this
   refine q _ S ((pickOrder (w.params.setOrder S ep) es).toList.map (·.2)) _ s.drawn (λb o e=>ax _ e) ⟨⟨o,ax _ ho,hd⟩,hf,_,_,bo _ rfl,rfl,rfl,.inl ⟨0,rfl,A8,rfl⟩⟩ (by rw[ay,pM.length_eq,aK]) nI nI (pM.map _) (aq _) (.inl rfl)
  | false =>
   rw[A8] at A3;have bW:t.led=true:=by rw[dv];show(!w.params.followText "set-order")=true;rw[A8];rfl
   refine q _ S (es.toList.map (·.2)) _ s.drawn (λb o e=>ax _ e) ⟨⟨o,ax _ ho,hd⟩,hf,_,_,bo _ rfl,rfl,rfl,.inr (.inl ⟨0,rfl,A8,A3,bW,Rk hT.kO,hT.kO,rfl⟩)⟩ (by rw[ay,aK]) nI nI (mD _) (aq _) (.inl rfl)
set_option maxHeartbeats 1000000 in
theorem Ir{oS:Obj}{Q:List Value->Shared->Prop}(hh:A.handled=none)(fu:s.heap.get? S=some oS)(F':oS.ExactSet)(hd:oS.data=.set es ep t)(hT:Tab es t)(dv:t.led=um w)(hn:es.size<=900)
  (q:∀(ys:List Value)(h':Heap)(tk:Nat)(d:Drawn),(∀b o,s.heap.get? b=some o->h'.get? b=some o)->ys.Perm (es.toList.map (·.2))->s.heap.objs.size<=h'.objs.size->Q ys { s with heap:=h',toks:=tk,drawn:=d }):wpAny (model prog w) A (collect (.ref S)) Q E s:=by
 unfold collect;refine ae (wpAny_runValue (fF entry_proto_collect' ?_));change wpAny _ _ (do again (.builtin "list.__iadd__" ⟨[<- newList [],.ref S],[]⟩)) _ _ s;refine ae (vC (af ⟨yP _ (by decide +kernel),fF entry_list_iadd' ?_⟩));change wpAny _ _ (Builtin.List.listExtendWith (.ref s.heap.objs.size) (.ref S) (.ref s.heap.objs.size)) _ _ { s with heap:=s.heap.push (seqObj "list" #[] 0) };have Yc:=aH fu;have hL:(s.heap.push (seqObj "list" #[] 0)).get? s.heap.objs.size=some (seqObj "list" #[] 0):=bo _ rfl;have pS:Shared.TypeIs { s with heap:=s.heap.push (seqObj "list" #[] 0) } (.ref S) "set" := ⟨oS,ax _ fu,F'.1⟩;unfold Builtin.List.listExtendWith;refine ae (qC (T := "set") pS ?_);have GG:s.heap.objs.size≠S:=sX Yc;have h1:Builtin.List.listSameRef (.ref s.heap.objs.size) (.ref S)=false:=by simp[Builtin.List.listSameRef,GG]
 rw[h1,ag (by decide)];refine ae (TJ (s:={ s with heap:=s.heap.push (seqObj "list" #[] 0) }) (ax _ fu) F' hd hT dv hn λI T ys h2 d k2 x hy nSI nTI iG hI E8=>?_);have M0:s.heap.objs.size<I:=by
  refine cf ?_ hI;show s.heap.objs.size<(s.heap.push (seqObj "list" #[] 0)).objs.size;rw[gD];exact mE _
 have nr:=k2 _ _ hL;have nTL:s.heap.objs.size≠T:=by
  rcases E8 with rfl|E8
  ·exact GG
  ·refine aV (cf ?_ E8);show s.heap.objs.size<(s.heap.push (seqObj "list" #[] 0)).objs.size;rw[gD];exact mE _
 have M4:s.heap.objs.size ∉ [I,S,T]:=by
  simp only[aJ,k_,lr,not_or];exact⟨aV M0,GG,nTL⟩
 have W:=Sn (prog:=prog) (w:=w) (A:=A.in1) (t:=t) (ep:=ep) hh nSI nTI hy;have Zp6:∀b o,s.heap.get? b=some o->h2.get? b=some o:=λb o e=>k2 b o (ax _ e);have cj:∀b o,s.heap.get? b=some o->b≠s.heap.objs.size:=λb o e=>aV (aH e);have Yu:∀b o,s.heap.get? b=some o->b≠I:=λb o e=>aV (g9 (aH e) M0);have key:∀(h:Heap)(En tk:Nat),mW w h I S T es ep t ys 0->(∀b o,b≠s.heap.objs.size->h2.get? b=some o->h.get? b=some o)->h.get? s.heap.objs.size=some { cls:=.type "list",data:=.seq #[] En } ->
   codeAny (model prog w) A (.builtin "list.extend.loop" ⟨[.ref s.heap.objs.size,.ref I,.ref s.heap.objs.size],[]⟩) (wants (λv s'=>wpAny (model prog w) A (match v with
     | Value.ref a=>do
      let o <- load a
      match o.data with
      | .seq xs _=>pure xs.toList
      | _=>unsupported "internal:collect"
     | _=>unsupported "internal:collect") Q E s') E) { s with heap:=h,drawn:=d,toks:=tk }:=by
  intro h En tk bY hk AR;refine codeAny_extend_loopS W.toS (by rw[aT];lia) s.heap.objs.size M4 _ ys.length 0 _ #[] En rfl (bE _) bY AR (ItemsOf.nil _) λs' B' c' hm AS uC=>?_;rw[Moved.eq_with hm];refine ae (wpAny_load AS ?_);refine af ?_;have Yh:B'.toList=ys:=by
   refine BY λj=>?_;rw[dU];cases hj:B'[j]? with
   | none =>
    have h3:B'.size<=j:=Array.getElem?_eq_none_iff.mp hj;rw[uC.1] at h3;rw[List.getElem?_eq_none h3]
   | some v=>rw[uC.2 j v hj]
  rw[Yh];refine q ys s'.heap s'.toks d (λb o e=>hm.heap b o (λbB=>?_) (hk b o (cj b o e) (Zp6 b o e))) iG (iN (aH AS));rcases aJ.mp bB with z|z
  ·exact cj b o e z
  ·exact Yu b o e (az.mp z)
 refine ae (dC (R9 ⟨oS,k2 S oS (ax _ fu),F'.1⟩ ?_));refine wpAny_ite_split (λ_=>?_) (λ_=>af ⟨g_ PySem.F.plain_extend_loop _,key h2 0 _ x (λb o _ e=>e) nr⟩);refine ae (oz (ae ?_));change wpAny _ _ (updateSeq s.heap.objs.size (·.push .none) >>= λ_=>updateSeq s.heap.objs.size (·.pop)) _ _ _;refine ae (wpAny_updateSeq nr rfl ?_);have AR:=qj (Obj.mapSeq (·.push Value.none)) nr rfl;refine wpAny_updateSeq (hz:=by seq_fits) AR rfl ?_;have AS:=qj (Obj.mapSeq (·.pop)) AR rfl;have OD:∀b o,b≠s.heap.objs.size->h2.get? b=some o->((h2.update s.heap.objs.size (Obj.mapSeq (·.push Value.none))).update s.heap.objs.size (Obj.mapSeq (·.pop))).get? b=some o:=λb o hb e=>(g8 _ _ (eu hb)).trans ((g8 _ _ (eu hb)).trans e);exact af ⟨g_ PySem.F.plain_extend_loop _,key _ _ _ (W.frame 0 _ _ x λb hb o e=>OD b o (λz=>M4 (z ▸ hb)) e) OD AS⟩
end tJ
namespace tJ
open PySem PyProof.Rows j_
section
variable{prog:Program}{w:World}{K:Type}[DecidableEq K]{knd:KeyKind prog w K}{A:Around}{E:Value->Shared->Prop}{s:Shared}
def ui(knd:KeyKind prog w K)(h:Heap)(S:Addr)(G:List (Int×Value)->Prop)(n:Nat)(led:Bool):Prop :=
 ∃o es ep t,h.get? S=some o/\o.ExactSet/\o.data=.set es ep t/\wX knd true h es/\Tab es t/\es.size<=n/\t.led=led/\G es.toList
set_option maxHeartbeats 1000000 in
theorem Kj{g:Bool->Sem Unit}(hg:∀(b:Bool)(aL : Shared)(Q':Unit->Shared->Prop),Q' () aL -> wpAny (model prog w) A (g b) Q' E aL)
  {S:Addr} {o:Obj} {es bS:Array (Int×Value)} {ep:Nat} {t t2:SetTable} {G:List (Int×Value)->Prop} (gp:∀l l',List.Perm l' l->G l->G l') {n:Nat} {led:Bool} {Q:Option Bool->Shared->Prop} (ho:s.heap.get? S=some o) (hx:o.ExactSet) (hd:o.data=.set es ep t)
  (hE:wX knd true s.heap bS) (iG:G bS.toList) (h1:1<=bS.size) (hn:bS.size<=1000) (hsz:bS.size<=n) (hp:t2.place.size=bS.size) (hd2:t2.dummies=#[]) (YW:Good t2.mask) (uP:ii t2.place) (dv:t2.led=led)
  (q:∀h',Heap.SameBut S s.heap h'->ui knd h' S G n led->Q (some true) { s with heap:=h' }) :
  wpAny (model prog w) A (do
   storeSet S bS t2
   if(!false&&t2.tooFull)=true then do
     g (relayAll t2 bS (SetTable.grown bS.size)).2.2
     storeSet S (relayAll t2 bS (SetTable.grown bS.size)).1 (relayAll t2 bS (SetTable.grown bS.size)).2.1
     pure (some true)
    else pure (some true)) Q E s:=by
 refine ae (wpAny_storeSet_of ho hd ?_ (by rw[aT];lia));have dm:=stored ho hd bS t2;have gz:Heap.SameBut S s.heap (s.heap.update S (Obj.putSet bS t2)):=mC ..;generalize s.heap.update S (Obj.putSet bS t2)=eX at dm gz;by_cases xJ:t2.tooFull=true
 ·rw[xJ,ai (by decide)];obtain⟨uv,t3,gv,e,c_,uB,Ba⟩:=RC (t:=t2) h1 hn;rw[e];dsimp only;have N3:uv.size=bS.size:=by rw[<- Array.length_toList,c_.length_eq,Array.length_toList]
  refine ae (hg _ _ _ (ae (wpAny_storeSet_of (s:={ s with heap:=eX }) dm rfl ?_ (by rw[N3,aT];lia))));have bX:=stored dm rfl uv t3;have qb:Heap.SameBut S eX (eX.update S (Obj.putSet uv t3)):=mC ..;exact af (q _ (gz.trans qb) ⟨_,uv,_,t3,bX,hx,rfl,λe he=>hE e (c_.mem_iff.mp he),uB,by lia,by rw[Ba,dv],gp _ _ c_ iG⟩)
 ·have rY:t2.tooFull=false:=by
   cases hc:t2.tooFull with
   | true=>exact absurd hc xJ
   | false=>rfl
  rw[rY,ag (by decide)];refine af (q eX gz ⟨_,bS,_,t2,dm,hx,rfl,hE,⟨hp,hd2,YW,?_,uP⟩,hsz,dv,iG⟩);unfold SetTable.tooFull at rY;have:=mJ rY;lia
variable{S:Addr}{G G':List (Int×Value)->Prop}
set_option maxHeartbeats 2000000 in
theorem Q4(gp:∀l l',List.Perm l' l->G' l->G' l'){n i tk:Nat}{k:Int}{led:Bool}{Q:Bool->Shared->Prop}(hS:ui knd s.heap S G n led)(hn:n<=900)(g0:∀l,G l->(∃e∈l,(intKind prog w).is k e.2=true)->G' l)(g1:∀l x,G l->(∀e∈l,(intKind prog w).is k e.2=false)->G' ((x,Value.int k tk)::l))
  (q:∀b h',Heap.SameBut S s.heap h'->ui knd h' S G' (n+1) led->Q b { s with heap:=h' }):wpAny (model prog w) A (setAddHashed S (.int k tk) ((intKind prog w).hash k)) Q E s:=by
 obtain⟨o,es,ep,t,ho,hx,hd,hE,hT,hsz,dv,iG⟩:=hS;have pF:(intKind prog w).is k (Value.int k tk)=true:=intKind_is _ _ _ _;have hb:es.size<scanBound:=by show es.size<4096;lia
 unfold setAddHashed setAddHashedIn;refine dC (ae (jm ho hd hT.fits ?_));dsimp only;rw[byScan_of (knd:=intKind prog w) rfl hb (IG hE)];simp only[↓reduceIte];unfold setAddByScan;refine ae ?_;refine ae (oz ?_);refine ae (wpAny_setScan_of (knd:=intKind prog w) pF ho hd hT.fits (IG hE) ?_);cases hr:List.findIdx? (λe=>(intKind prog w).is k e.2) es.toList with
 | some j =>
  dsimp only;obtain⟨hj,hpj,_⟩:=List.findIdx?_eq_some_iff_getElem.mp hr;exact wpAny_pure (wpAny_pure (q false s.heap (Heap.SameBut.refl ..) ⟨o,es,ep,t,ho,hx,hd,hE,hT,by lia,dv,g0 _ iG ⟨es.toList[j],vq hj,hpj⟩⟩))
 | none =>
  dsimp only;obtain⟨j,hj,eL⟩:=Ue hT ((intKind prog w).hash k) (Value.int k tk);rw[eL];dsimp only;have uJ:=sZ es (SetTable.below t.place j) ((intKind prog w).hash k,Value.int k tk);have bB:∀e∈(SetTable.insertAt es (SetTable.below t.place j) ((intKind prog w).hash k,Value.int k tk)).toList,e∈es.toList\/e=((intKind prog w).hash k,Value.int k tk):=λe he=>by
   have:=uJ.mem_iff.mp he;rw[yN] at this;rcases bc.mp this with z|z
   ·exact .inl z
   ·exact .inr (az.mp z)
  have EY:G' (SetTable.insertAt es (SetTable.below t.place j) ((intKind prog w).hash k,Value.int k tk)).toList:=by
   refine gp _ _ ?_ (g1 es.toList ((intKind prog w).hash k) iG λe he=>?_)
   ·refine uJ.trans ?_;rw[yN];exact List.perm_append_comm (l₁ := es.toList) (l₂ :=[_])
   ·exact List.findIdx?_eq_none_iff.mp hr e he
  have jd:(SetTable.insertAt es (SetTable.below t.place j) ((intKind prog w).hash k,Value.int k tk)).size=es.size+1:=by
   rw[<- aK,uJ.length_eq,aK,ve]
  have eX:(SetTable.insertAt t.place (SetTable.below t.place j) j).size=es.size+1:=by
   rw[<- aK,(sZ t.place (SetTable.below t.place j) j).length_eq,aK,ve,hT.size]
  have uP:ii (SetTable.insertAt t.place (SetTable.below t.place j) j):=IC hT.kO (Ab hT.kO hj);generalize SetTable.insertAt es (SetTable.below t.place j) ((intKind prog w).hash k,Value.int k tk)=bS at bB jd EY;have MV:wX knd true s.heap bS:=λe he=>by
   rcases bB e he with z|z
   ·exact hE e z
   ·subst z;exact⟨k,tk,rfl,rfl⟩
  refine ae (af ?_)
  split
  ·refine ae ?_;rw[hashByValue_scannable 8 (x:=Value.int k tk) rfl];refine af ?_;refine Kj (gp:=gp) (λb aL Q' hq=>by cases b <;> first|exact af hq|exact oz hq) ho hx hd MV EY (by lia) (by lia) (show bS.size<=n+1 by lia) (by rw[jd];exact eX) hT.none hT.good uP dv λh' sb jq=>?_
   exact af (q true h' sb jq)
  ·refine ae (af ?_);refine Kj (gp:=gp) (λb aL Q' hq=>by cases b <;> first|exact af hq|exact oz hq) ho hx hd MV EY (by lia) (by lia) (show bS.size<=n+1 by lia) (by rw[jd];exact eX) hT.none hT.good uP dv λh' sb jq=>?_
   exact af (q true h' sb jq)
theorem V9{k:Int}{tk:Nat}(gp:∀l l',List.Perm l' l->G' l->G' l'){n:Nat}{led:Bool}{Q:Bool->Shared->Prop}(hS:ui knd s.heap S G n led)(hn:n<=900)(g0:∀l,G l->(∃e∈l,(intKind prog w).is k e.2=true)->G' l)(g1:∀l x,G l->(∀e∈l,(intKind prog w).is k e.2=false)->G' ((x,Value.int k tk)::l))
  (q:∀r h' tk,s.toks<=tk->Heap.SameBut S s.heap h'->ui knd h' S G' (n+1) led->Q r { s with heap:=h',toks:=tk }):wpAny (model prog w) A (setAdd S (.int k tk)) Q E s:=by
 unfold setAdd;refine dC (ae ((intKind prog w).pyHash (intKind_is _ _ _ _) ?_));exact Q4 gp (i:=0) (s:={ s with toks:=_ }) hS hn g0 g1 λb h' sb jq=>q b h' _ (vw _ _) sb jq
end
structure Goes(prog:Program)(w:World)(A:Around)(S:Addr)(items:Array Value)(J:Nat->Heap->Prop):Prop where
 keep:∀i h h',J i h->(∀b o,b<=S->h.get? b=some o->h'.get? b=some o)->J i h'
 add:∀(i:Nat) v (s:Shared) (Q:Bool->Shared->Prop) (E:Value->Shared->Prop),items[i]?= some v->J i s.heap->(∀b h' tk,Heap.SameBut S s.heap h'->J (i+1) h'->Q b { s with heap:=h',toks:=tk })->wpAny (model prog w) A (setAdd S v) Q E s
variable{prog:Program}{w:World}{A:Around}{R:Result->Shared->Prop}{l:Addr}{items:Array Value}{J:Nat->Heap->Prop}
theorem RD{S I:Addr}(hh:A.in1.handled=none)(g:Goes prog w A.in1 S items J)(E6:S<I)(xN:l≠I):∀(k i:Nat)(s:Shared),items.size-i=k->i<=items.size->(s.heap.IsListIter I l i/\s.heap.IsList l items)->l<S->J i s.heap ->
   (∀h' tk,J items.size h'->(∀b o,b<S->s.heap.get? b=some o->h'.get? b=some o)->R (.ok (.ret .none)) { s with heap:=h',toks:=tk })->codeAny (model prog w) A (.builtin "set.update.loop" ⟨[.ref S,.ref I],[]⟩) R s:=by
 have W:=Walks.list (prog:=prog) (w:=w) (A:=A.in1) hh I l xN items;intro k
 induction k with
 | zero =>
  intro i s hk hi bY uK hw hR;obtain rfl:i=items.size:=by lia
  refine fF F.entry_set_update_loop ?_;rw[jj F.plain_set_update_loop _];change wpAny _ A.in1 (pyNext (.ref I) >>= _) _ _ s;refine ae (W.done s _ _ bY λh' tk hm=>?_);change wpAny _ A.in1 (ret Value.none) _ _ _;have rR:∀b o,b<=S->s.heap.get? b=some o->h'.get? b=some o:=λb o hb e=>hm b o (λz=>cD _ (ou (az.mp z ▸ hb) E6)) e;exact af (hR h' tk (g.keep _ _ _ hw rR) λb o hb e=>rR b o (iN hb) e)
 | succ k ih =>
  intro i s hk hi bY uK hw hR;have au:i<items.size:=by lia
  refine fF F.entry_set_update_loop ?_;rw[jj F.plain_set_update_loop _];change wpAny _ A.in1 (pyNext (.ref I) >>= _) _ _ s;refine ae (W.item i s _ _ au bY λv h' tk hP vH hm=>?_);have rR:∀b o,b<=S->s.heap.get? b=some o->h'.get? b=some o:=λb o hb e=>hm b o (λz=>cD _ (ou (az.mp z ▸ hb) E6)) e;have mQ:=g.keep _ _ _ hw rR;change wpAny _ A.in1 (holding [v] (setAdd S v) >>= _) _ _ _;refine ae (dC (g.add i v { s with heap:=h',toks:=tk } _ _ hP mQ λb1 h2 OX sb pj=>?_));have pE:∀b o,b≠S->h'.get? b=some o->h2.get? b=some o:=λb o hb e=>(sb.2 b hb).trans e;refine af ⟨g_ F.plain_set_update_loop _,ih (i+1) _ (by lia) au ?_ uK pj λh3 kZ x5 gQ=>hR h3 kZ x5 λb o hb e=>gQ b o hb (pE b o (aV hb) (rR b o (iN hb) e))⟩;refine W.frame _ h' h2 vH λb hb o e=>pE b o (λz=>?_) e;simp only[aJ,k_,lr] at hb;rcases hb with rfl|rfl
  ·exact cD _ (z ▸ E6)
  ·exact cD _ (z ▸ uK)
variable{E:Value->Shared->Prop}{s:Shared}
set_option maxRecDepth 100000 in
set_option maxHeartbeats 3200000 in
theorem JA{Q:Value->Shared->Prop}(hh:A.handled=none)(hu:A.units+100<cLine)(hl:s.heap.IsList l items)(g:∀B:Around,B.units<cLine->Goes prog w B s.heap.objs.size items J)(j0:∀h:Heap,h.get? s.heap.objs.size=some (ip w)->(∀b o,b<s.heap.objs.size->s.heap.get? b=some o->h.get? b=some o)->J 0 h)
  (q:∀(h':Heap)(tk:Nat),J items.size h'->(∀b o,b<s.heap.objs.size->s.heap.get? b=some o->h'.get? b=some o)->Q (.ref s.heap.objs.size) { s with heap:=h',toks:=tk }) :
  wpAny (model prog w) A (call (.type "set") [.ref l]) Q E s:=by
 obtain⟨c,tl,NA⟩:=qx.mro;have Zsr:=qx.made;have l_:=qx.sub;refine wpAny_call (codeAny_of_tree ?_);change wpAny _ _ (callAny (.type "set") _) _ _ _;refine af ⟨yP _ (by decide +kernel),fF PySem.F.entry_type_call ?_⟩;rw[Around.under_plain (weight_type_call_type "set" [.ref l] []) rfl];have ZsS:=qx.notType;have canMake:=qx.canCreate;have ZrW:=PySem.F.typeCall_set_1 (.ref l)
 repeat (any_goals (first|assumption|wp_step))
 refine ow (SQ (.ref l) (E:=E) (Q₁ := λobj aL=>obj=.ref s.heap.objs.size/\aL = { s with heap:=s.heap.push (ip w) }) ⟨rfl,rfl⟩) λr aL hr=>?_;cases r with
 | error e=>exact hr
 | ok fl =>
  cases fl with
  | ret obj =>
   obtain⟨rfl,rfl⟩:=hr;have hS:(s.heap.push (ip w)).get? s.heap.objs.size=some (ip w):=bo _ rfl;have hT:Shared.TypeIs { s with heap:=s.heap.push (ip w) } (.ref s.heap.objs.size) "set" := ⟨_,hS,rfl⟩;have hli:=qx.init.lookup;have hbi:=qx.init.bind (.ref s.heap.objs.size)
   repeat (any_goals (first|assumption|wp_step))
   refine ow (codeAny_call_builtin (R:=wants (λr jh=>r=.none/\∃h' tk,jh = { s with heap:=h',toks:=tk }/\J items.size h'/\∀b o,b<s.heap.objs.size->s.heap.get? b=some o->h'.get? b=some o) E) qx.init.plain PySem.F.entry_set_init (check_set_init_1 hT ?_)) λZqY jh FT=>?_
   ·obtain⟨ol,xT,bu,nl,Ng⟩:=hl;obtain⟨OA,GP,OB,GR⟩:=ol;simp only at bu Ng;subst bu;subst Ng;have Zo6:(s.heap.push (ip w)).get? l=some { cls:=.type "list",dict:=GP,data:=.seq items nl,slots:=GR }:=ax _ xT;have Zsy:=PySem.F.sub_list_set;have Zsx:=PySem.F.sub_list_frozenset;have aO:(Value.type "list" == Value.type "dict")=false:=by decide
    have bW:(s.heap.push (ip w)).IsList l items:=⟨_,Zo6,rfl,nl,rfl⟩;unfold Builtin.«set.__init__» noKeywords Builtin.Frozenset.updateFrom;generalize X':pyIter=PI
    wp_walk
    subst X';refine ti bW (ae (wpAny_runValue ?_));have uK:l<s.heap.objs.size:=aH xT;have hsz:(s.heap.push (ip w)).objs.size=s.heap.objs.size+1:=gD ..;have rG:((s.heap.push (ip w)).push { cls:=.type "list_iterator",data:=.fields #[.ref l,.int 0 0] }).get? s.heap.objs.size=some (ip w):=ax _ hS;have kk:∀b o,b<s.heap.objs.size->s.heap.get? b=some o->((s.heap.push (ip w)).push { cls:=.type "list_iterator",data:=.fields #[.ref l,.int 0 0] }).get? b=some o:=λb o hb e=>ax _ (ax _ e);refine RD (J:=J) (by simp[hh]) (g _ (by simp only[Around.in1_units];lia)) (by rw[hsz];exact mE _) (by rw[hsz];exact aV (Nat.lt_succ_of_lt uK)) (items.size-0) 0 _ rfl (bE _)
     ⟨⟨_,bo _ rfl,rfl,rfl⟩,bW.push _⟩ uK (j0 _ rG kk) λh' tk hw hb=>?_
    change wpAny _ _ _ _ _ _;refine af ?_;change wpAny _ _ (ret Value.none) _ _ _;exact af ⟨rfl,h',tk,rfl,hw,λb o au e=>hb b o au (kk b o au e)⟩
   ·cases ZqY with
    | error e=>exact FT
    | ok Xw =>
     cases Xw with
     | ret r =>
      obtain⟨rfl,h',tk,rfl,hw⟩:=FT
      repeat (any_goals (first|assumption|wp_step))
      exact q _ _ hw.1 hw.2
     | _=>exact FT.elim
  | _=>exact hr.elim
end tJ
namespace av
theorem eC.one{α : Type}{lt : α -> α -> Bool}(o:eC lt):∀{l m:List α},l.Pairwise (λa b=>lt a b=true)->m.Pairwise (λa b=>lt a b=true)->(∀x,x∈l↔x∈m)->l=m
 | [],[],_,_,_=>rfl
 | [],b::m,_,_,h=>absurd ((h b).mpr (aU ..)) (by simp)
 | a::l,[],_,_,h=>absurd ((h a).mp (aU ..)) (by simp)
 | a::l,b::m,hl,hm,h=>by
  obtain⟨l1,l2⟩:=sV.mp hl;obtain⟨m1,m2⟩:=sV.mp hm;have e:a=b:=by
   rcases aJ.mp ((h a).mp (aU ..)) with z|z
   ·exact z
   ·rcases aJ.mp ((h b).mpr (aU ..)) with y|y
    ·exact y.symm
    ·have h1:=m1 a z;have h2:=l1 b y;rw[o.kn h1] at h2;cases h2
  subst e;rw[eC.one o l2 m2 λx=>?_];constructor
  ·intro hx;rcases aJ.mp ((h x).mp (aR _ hx)) with z|z
   ·subst z;have:=l1 x hx;rw[o.me] at this;cases this
   ·exact z
  ·intro hx;rcases aJ.mp ((h x).mpr (aR _ hx)) with z|z
   ·subst z;have:=m1 x hx;rw[o.me] at this;cases this
   ·exact z
theorem eC.strict{α : Type}{lt : α -> α -> Bool}(o:eC lt){l:List α}(h:l.Pairwise (λa b=>lt b a=false))(hn:l.Nodup):l.Pairwise (λa b=>lt a b=true):=by
 refine oq.mpr λi j hi hj kB=>?_;have h1:=(oq.mp h) i j hi hj kB;have h2:=(oq.mp hn) i j hi hj kB;cases e:lt l[i] l[j] with
 | true=>rfl
 | false=>exact absurd (o.vb _ _ e h1) h2
end av
namespace L2
open PySem PySem.Spec PyProof.Rows PySem.W av j_ tJ
def tq(q:Qd):HO:=.tup [.int q.1,.str q.2.1,.int q.2.2.1,.int q.2.2.2]
def QL(H:Hp)(zs:List V)(qs:List Qd):Prop:=Paired (λz q=>∃p,z=V.ref p/\H p=some (tq q)) zs qs
def gu(q:Qd):List Key:=[Sum.inl q.1,Sum.inr q.2.1,Sum.inl q.2.2.1,Sum.inl q.2.2.2]
variable{q:Qd}
theorem Zip{q':Qd}(h:gu q=gu q'):q=q':=by
 obtain⟨a,b,c,d⟩:=q;obtain⟨a',b',c',d'⟩:=q';simp only[gu,List.cons.injEq,Sum.inl.injEq,Sum.inr.injEq,and_true] at h;obtain⟨rfl,rfl,rfl,rfl⟩:=h;rfl
theorem QL.mem{H:Hp}:∀{zs:List V}{qs:List Qd},QL H zs qs->∀z∈zs,∃p,∃q∈qs,z=V.ref p/\H p=some (tq q)
 | _,_,.cons ⟨p,e1,e2⟩ t,z,hz=>by
  rcases aJ.mp hz with rfl|hz
  ·exact⟨p,_,aU ..,e1,e2⟩
  ·obtain⟨p',q',h1,h2⟩:=QL.mem t z hz;exact⟨p',q',aR _ h1,h2⟩
theorem QL.length{H:Hp}:∀{zs:List V}{qs:List Qd},QL H zs qs->zs.length=qs.length
 | _,_,.nil=>rfl
 | _,_,.cons _ t=>by rw[bM,bM,QL.length t]
theorem QL.get{H:Hp}:∀{zs:List V}{qs:List Qd},QL H zs qs->∀(i:Nat) z,zs[i]?= some z->∃p q,qs[i]?= some q/\z=V.ref p/\H p=some (tq q)
 | _,_,.cons ⟨p,e1,e2⟩ t,i,z,hz=>by
  cases i with
  | zero =>
   injection hz with hz;subst hz;exact⟨p,_,rfl,e1,e2⟩
  | succ i=>exact QL.get t i z hz
theorem QL.keep{H H':Hp}:∀{zs:List V}{qs:List Qd},QL H zs qs->(∀b xs,H b=some (.tup xs)->H' b=some (.tup xs))->QL H' zs qs
 | _,_,.nil,_=>.nil
 | _,_,.cons ⟨p,e1,e2⟩ t,k=>.cons ⟨p,e1,k _ _ e2⟩ (QL.keep t k)
theorem Dk:∀{vs:List V}{us:List Value},Vals vs us->∀(i:Nat) u,us[i]?= some u->∃v,vs[i]?= some v/\RelV v u
 | _,_,.cons r t,i,u,h=>by
  cases i with
  | zero =>
   injection h with h;subst h;exact⟨_,rfl,r⟩
  | succ i=>exact Dk t i u h
variable{P:Program}{w:World}{h:Heap}{t:Addr}
theorem Lx{H:Hp}(ok:a9 P w H h)(e:H t=some (tq q)):gH h (.ref t) q:=by
 obtain⟨_,us,eh,o,ho,cQ,n,hd⟩:=ok t _ e;obtain⟨u1,us,rfl,r1,eh⟩:=Vals.inv eh;obtain⟨u2,us,rfl,r2,eh⟩:=Vals.inv eh;obtain⟨u3,us,rfl,r3,eh⟩:=Vals.inv eh;obtain⟨u4,us,rfl,r4,eh⟩:=Vals.inv eh;obtain rfl:=Vals.end_ eh;obtain⟨t1,rfl⟩:=r1;obtain⟨t2,rfl⟩:=r2;obtain⟨t3,rfl⟩:=r3;obtain⟨t4,rfl⟩:=r4;exact⟨t,o,t1,t2,t3,t4,n,rfl,ho,cQ,hd⟩
variable{h0:Heap}{S:Addr}
theorem Dj{x:Int}(hk:IsTupleKey (ZC P w) h0 (gu q) t)(au:t<S)(k:∀b o,b<S->h0.get? b=some o->h.get? b=some o)(ks:List Key):di (ZC P w) h ks (x,.ref t)↔ks=gu q:=by
 obtain⟨o,its,n,h1,h2⟩:=hk;have jr:IsTupleKey (ZC P w) h (gu q) t:=⟨o,its,n,k t o au h1,h2⟩;constructor
 ·rintro⟨b,e,hb⟩;cases e;exact tZ hb jr
 ·rintro rfl;exact⟨t,rfl,jr⟩
def oM(P:Program)(w:World)(h0:Heap)(items:List Value)(qs:List Qd):Prop:=items.length=qs.length/\∀(i:Nat) v q,items[i]?= some v->qs[i]?= some q->∃t,v=.ref t/\IsTupleKey (ZC P w) h0 (gu q) t/\gH h0 v q
variable{qs:List Qd}
theorem oM.of{H:Hp}{zs:List V}{us:List Value}(ok:a9 P w H h)(r:Vals zs us)(ql:QL H zs qs):oM P w h us qs:=by
 refine⟨by rw[<- r.length,ql.length],λi v q hv hq=>?_⟩;obtain⟨z,hz,rz⟩:=Dk r i v hv;obtain⟨t,q',h1,rfl,h3⟩:=ql.get i z hz;rw[hq] at h1;cases h1;obtain rfl:v=Value.ref t:=rz;exact⟨t,rfl,t_ ok (ks:=gu q) h3,Lx ok h3⟩
theorem oM.mem{items:List Value}(x:oM P w h0 items qs){v:Value}(hv:v∈items):∃t,∃q∈qs,v=.ref t/\IsTupleKey (ZC P w) h0 (gu q) t/\gH h0 v q:=by
 obtain⟨i,hi⟩:=iM.mp hv;have au:=(dc.mp hi).1;rw[x.1] at au;obtain⟨t,h1,h2,h3⟩:=x.2 i v qs[i] hi (bT au);exact⟨t,qs[i],vq au,h1,h2,h3⟩
def JQ(P:Program)(w:World)(h0:Heap)(S:Addr)(items:Array Value)(qs:List Qd)(i:Nat)(h:Heap):Prop :=
 rm (ZC P w) h S (· ∈ items.toList) (λks=>∃(j:Nat)(q:Qd),j<i/\qs[j]?= some q/\ks=gu q) i (um w)/\∀b o,b<S->h0.get? b=some o->h.get? b=some o
variable{items:Array Value}{A:Around}
theorem JQ.EQ(hu:A.units<cLine)(x:oM P w h0 items.toList qs)(hS:h0.objs.size<=S)(hn:items.size<=900):Goes P w A S items (JQ P w h0 S items qs) where
 keep:=λi h h' ⟨⟨o,es,ep,t,ho,hx,hd,hT,hsz,hl,hv,hP⟩,hb⟩ k=>by
  have aB:∀b o,b<S->h0.get? b=some o->h'.get? b=some o:=λb o au e=>k b o (iN au) (hb b o au e);have key:∀e∈es.toList,∀ks,di (ZC P w) h ks e↔di (ZC P w) h' ks e:=λe he ks=>by
   obtain⟨tt,q,_,h1,h2,_⟩:=x.mem (hv e he);obtain⟨e1,e2⟩:=e;dsimp only at h1;subst h1;have au:tt<S:=by
    obtain⟨o2,_,_,g1,_⟩:=h2;exact cf (aH g1) hS
   rw[Dj h2 au hb,Dj h2 au aB]
  refine⟨⟨o,es,ep,t,k S o (aq _) ho,hx,hd,⟨hT.tab,λe he=>?_,hT.way,?_⟩,hsz,hl,hv,λks=>?_⟩,aB⟩
  ·obtain⟨ks,h1,h2⟩:=hT.ent e he;exact⟨ks,(key e he ks).mp h1,h2⟩
  ·exact BX (λ{a b} ha aB c8 ks h1 h2=>c8 ks ((key a ha ks).mpr h1) ((key b aB ks).mpr h2)) hT.one
  ·rw[<- hP ks];constructor
   ·rintro⟨e,he,h1⟩;exact⟨e,he,(key e he ks).mpr h1⟩
   ·rintro⟨e,he,h1⟩;exact⟨e,he,(key e he ks).mp h1⟩
 add:=λi v s Q E hi ⟨E5,hb⟩ q=>by
  have nF:i<items.size:=(mz.mp hi).1;have Ft:i<qs.length:=by rw[<- x.1,aK];exact nF
  have cI:items.toList[i]?= some v:=by rw[dU];exact hi
  obtain⟨t,rfl,h2,_⟩:=x.2 i v qs[i] cI (bT Ft);obtain⟨o2,pT,n2,g1,g2⟩:=h2;have au:t<S:=cf (aH g1) hS;have hk:IsTupleKey (ZC P w) s.heap (gu qs[i]) t:=⟨o2,pT,n2,hb t o2 au g1,g2⟩;refine V6 hu E5 (by lia) hk (bU cI) λb h' tk _ sb pj=>q b h' tk sb ⟨?_,λb o au e=>(sb.2 b (aV au)).trans (hb b o au e)⟩;have e:(λks=>(∃(j:Nat)(q:Qd),j<i/\qs[j]?= some q/\ks=gu q)\/ks=gu qs[i])=λks=>∃(j:Nat)(q:Qd),j<i+1/\qs[j]?= some q/\ks=gu q:=funext λks=>propext (by
   constructor
   ·rintro(⟨j,q,h1,h2,h3⟩|h)
    ·exact⟨j,q,by lia,h2,h3⟩
    ·exact⟨i,qs[i],by lia,bT Ft,h⟩
   ·rintro⟨j,q,h1,h2,h3⟩;by_cases c:j<i
    ·exact .inl ⟨j,q,c,h2,h3⟩
    ·have:j=i:=by lia
     subst this;rw[bT Ft] at h2;cases h2;exact .inr h3)
  rw[<- e];exact pj
theorem JQ.zero(hS:h.get? S=some (ip w))(k:∀b o,b<S->h0.get? b=some o->h.get? b=some o):JQ P w h0 S items qs 0 h :=
 ⟨⟨_,#[],0,_,hS,⟨rfl,rfl,rfl⟩,rfl,⟨⟨rfl,rfl,.inl rfl,(by show(0:Nat)*5<7*3;decide),List.Pairwise.nil⟩,(λ_ h=>(nomatch h)),(λi e j h=>(nomatch h)),List.Pairwise.nil⟩,aq _,rfl,(λ_ h=>(nomatch h)),λks=>⟨λ⟨_,h,_⟩=>(nomatch h),λ⟨_,_,h,_⟩=>absurd h (lg _)⟩⟩,k⟩
def GI(P:Int->Prop)(l:List (Int×Value)):Prop:=l.Pairwise (λe e'=>iV e.2≠iV e'.2)/\∀i,(∃e∈l,iV e.2=i)↔P i
theorem GI.perm{P:Int->Prop}(l l':List (Int×Value))(p:l'.Perm l)(h:GI P l):GI P l' :=
 ⟨(p.pairwise_iff λ{a b} c8 e=>c8 e.symm).mpr h.1,λi=>sR ⟨λ⟨e,h1,h2⟩=>⟨e,p.mem_iff.mp h1,h2⟩,λ⟨e,h1,h2⟩=>⟨e,p.mem_iff.mpr h1,h2⟩⟩ (h.2 i)⟩
def GN(l:List (Int×Value)):Prop := ∀e∈l,∃i t,e.2=Value.int i t
theorem Ll{k i:Int}{t:Nat}:(intKind P w).is k (Value.int i t)=true↔i=k:=by
 constructor
 ·intro h;exact(intKind P w).inj _ _ _ (intKind_is _ _ _ _) h
 ·rintro rfl;exact intKind_is _ _ _ _
def JI(P:Program)(w:World)(h0:Heap)(S:Addr)(ns:List Int)(i:Nat)(h:Heap):Prop :=
 ui (ZC P w) h S (λl=>GN l/\GI (λk=>∃j:Nat,j<i/\ns[j]?= some k) l) i (um w)/\∀b o,b<S->h0.get? b=some o->h.get? b=some o
variable{ns:List Int}
theorem JI.EQ(x:Vals (ns.map V.int) items.toList)(hn:items.size<=900):Goes P w A S items (JI P w h0 S ns) where
 keep:=λi h h' ⟨⟨o,es,ep,t,ho,hx,hd,hE,hT,hsz,hl,hG⟩,hb⟩ k =>
  ⟨⟨o,es,ep,t,k S o (aq _) ho,hx,hd,hE,hT,hsz,hl,hG⟩,λb o au e=>k b o (iN au) (hb b o au e)⟩
 add:=λi v s Q E hi ⟨E5,hb⟩ q=>by
  have cI:items.toList[i]?= some v:=by rw[dU];exact hi
  have nF:i<items.size:=(mz.mp hi).1;obtain⟨z,hz,rz⟩:=Dk x i v cI;rw[cp] at hz;obtain⟨k,hk,rfl⟩:=gG.mp hz;obtain⟨tk0,rfl⟩:=rz;have eP:∀m:Int,(∃j:Nat,j<i+1/\ns[j]?= some m)↔((∃j:Nat,j<i/\ns[j]?= some m)\/m=k):=λm=>by
   constructor
   ·rintro⟨j,h1,h2⟩;by_cases c:j<i
    ·exact .inl ⟨j,c,h2⟩
    ·have:j=i:=by lia
     subst this;rw[hk] at h2;cases h2;exact .inr rfl
   ·rintro(⟨j,h1,h2⟩|rfl)
    ·exact⟨j,by lia,h2⟩
    ·exact⟨i,by lia,hk⟩
  refine V9 (G':=λl=>GN l/\GI (λk=>∃j:Nat,j<i+1/\ns[j]?= some k) l) (λl l' pp ⟨g1,g2⟩=>⟨λe he=>g1 e (pp.mem_iff.mp he),GI.perm l l' pp g2⟩) E5 (by lia) (λl ⟨hN,g1,g2⟩ hex=>⟨hN,g1,λm=>?_⟩) (λl x ⟨hN,g1,g2⟩ gT=>⟨λe he=>?_,sV.mpr ⟨λe he z=>?_,g1⟩,λm=>?_⟩) λb h' tk _ sb pj=>q b h' tk sb ⟨pj,λb o au e=>(sb.2 b (aV au)).trans (hb b o au e)⟩
  ·refine sR ?_ (sR (or_congr (g2 m) Iff.rfl) (eP m).symm);constructor
   ·exact .inl
   ·rintro(h|rfl)
    ·exact h
    ·obtain⟨e,he,h1⟩:=hex;obtain⟨i',t',h2⟩:=hN e he;rw[h2] at h1;exact⟨e,he,by rw[h2];exact Ll.mp h1⟩
  ·rcases aJ.mp he with rfl|he
   ·exact⟨k,tk0,rfl⟩
   ·exact hN e he
  ·obtain⟨i',t',h2⟩:=hN e he;have h3:=gT e he;rw[h2] at h3 z;have:i'=k:=z.symm;rw[Ll.mpr this] at h3;cases h3
  ·refine sR ?_ (sR (or_congr (g2 m) Iff.rfl) (eP m).symm);constructor
   ·rintro⟨e,he,h1⟩;rcases aJ.mp he with rfl|he
    ·exact .inr h1.symm
    ·exact .inl ⟨e,he,h1⟩
   ·rintro(⟨e,he,h1⟩|rfl)
    ·exact⟨e,aR _ he,h1⟩
    ·exact⟨_,aU ..,rfl⟩
theorem JI.zero(hS:h.get? S=some (ip w))(k:∀b o,b<S->h0.get? b=some o->h.get? b=some o):JI P w h0 S ns 0 h :=
 ⟨⟨_,#[],0,_,hS,⟨rfl,rfl,rfl⟩,rfl,(λ_ h=>(nomatch h)),⟨rfl,rfl,.inl rfl,(by show(0:Nat)*5<7*3;decide),List.Pairwise.nil⟩,aq _,rfl,⟨(λ_ h=>(nomatch h)),List.Pairwise.nil,λks=>⟨λ⟨_,h,_⟩=>(nomatch h),λ⟨_,h,_⟩=>absurd h (lg _)⟩⟩⟩,k⟩
theorem Lz{P:Program}{w:World}{H:Hp}{h0:Heap}(ok:a9 P w H h0){ys:List V}{its:List Value}{qs:List Qd}(rv:Vals ys its)(ql:QL H ys qs):∀us:List Value,(∀u∈us,u∈its)->∃zs,Vals zs us/\QL H zs (us.map (kq h0))
 | [],_=>⟨[],.nil,.nil⟩
 | u::us,h=>by
  obtain⟨y,hy,ry⟩:=wt rv u (h u (aU ..));obtain⟨zs,rz,hz⟩:=Lz ok rv ql us λx hx=>h x (aR _ hx);obtain⟨t,q,_,rfl,e2⟩:=ql.mem y hy;have hu:u=Value.ref t:=ry;subst hu;exact⟨_,.cons ry rz,.cons ⟨t,rfl,by rw[Au (Lx ok e2)];exact e2⟩ hz⟩
variable{e:Expr}
theorem JQ.out(x:oM P w h0 items.toList qs)(hS:h0.objs.size<=S)(j:JQ P w h0 S items qs items.size h) :
  ∃o es ep t,h.get? S=some o/\o.ExactSet/\o.data=.set es ep t/\Tab es t/\es.size<=items.size/\t.led=um w/\(∀e∈es.toList,e.2∈items.toList)/\(es.toList.map λe=>kq h0 e.2).Nodup/\∀q,q∈(es.toList.map λe=>kq h0 e.2)↔q∈qs:=by
 obtain⟨⟨o,es,ep,t,ho,hx,hd,hT,hsz,hl,hv,hP⟩,hb⟩:=j;have key:∀e∈es.toList,∀ks,di (ZC P w) h ks e↔ks=gu (kq h0 e.2):=λe he ks=>by
  obtain⟨tt,q,_,h1,h2,h3⟩:=x.mem (hv e he);have hq:=Au h3;obtain⟨e1,e2⟩:=e;dsimp only at h1 hq ⊢;subst h1;have au:tt<S:=by
   obtain⟨o2,_,_,g1,_⟩:=h2;exact cf (aH g1) hS
  rw[Dj h2 au hb,hq]
 refine⟨o,es,ep,t,ho,hx,hd,hT.tab,hsz,hl,hv,?_,λq=>?_⟩
 ·refine jk.mpr (BX (λ{a b} ha aB c8 z=>?_) hT.one);exact c8 _ ((key a ha _).mpr rfl) ((key b aB _).mpr (by rw[z]))
 ·have h1:=hP (gu q);constructor
  ·intro hq;obtain⟨e,he,rfl⟩:=aS.mp hq;obtain⟨j,q',_,h2,h3⟩:=h1.mp ⟨e,he,(key e he _).mpr rfl⟩;rw[Zip h3];exact bU h2
  ·intro hq;obtain⟨j,hj⟩:=iM.mp hq;have Fw:=(dc.mp hj).1;obtain⟨e,he,Yz⟩:=h1.mpr ⟨j,q,by rw[<- aK,x.1];exact Fw,hj,rfl⟩;exact aS.mpr ⟨e,he,(Zip ((key e he _).mp Yz)).symm⟩
def Ju(K:PySem.W.Frag)(v:V)(H:Hp)(Q:VK):Prop :=
 (∃l ys qs,v=.ref l/\aj K H l ys/\ys.length<=63/\QL H ys qs/\∀r zs ms,H r=none->ms.Pairwise (λa b=>nZ a b=true)->(∀q,q∈ms↔q∈qs)->QL H zs ms->Q (.ref r) (upd H r (.lst zs))) \/
 (∃(l:Addr)(ns:List Int),v=.ref l/\aj K H l (ns.map V.int)/\ns.length<=63/\∀r (ms:List Int),H r=none->ms.Pairwise (· < ·)->(∀i,i∈ms↔i∈ns)->Q (.ref r) (upd H r (.lst (ms.map V.int))))
variable{X:Cx}{te:TE}{p p' pos pos':Pos}
set_option maxHeartbeats 1000000 in
theorem zU(hc:X.calm=true)(hu:X.A.units+200<cLine)(hg:Gl X "sorted") (hm:X.mg "sorted" = none) (Hy:Gl X "set") (qE:X.mg "set" = none) (pa:PA X [e] (lL te gf))
  (hs:starEach [e] X.env=[(false,eval e X.env)]:=by rfl) (zy:starEach [.Call (.Name "set" p') [e] [] pos'] X.env=[(false,eval (.Call (.Name "set" p') [e] [] pos') X.env)]:=by rfl) :
  PE X (.Call (.Name "sorted" p) [.Call (.Name "set" p') [e] [] pos'] [] pos) (λσ H Q=>te σ H λv H1=>Ju X.K v H1 Q):=by
 intro pins s σ H Q I h;refine mK (kl I hg hm QM ?_);refine PyProof.Rows.callWith_builtin1 ?_ zy rfl;rw[zy];refine oj ?_;refine mK (kl I Hy qE Ur ?_);refine vz (ap (pa pos' pins s σ H (λvs H1=>match vs with | [v]=>Ju X.K v H1 Q|_=>False) I h) λus s1 ⟨vs,H1,I1,r,q⟩=>?_) hs rfl
 match vs,r,q with
 | [v],r,q =>
  obtain⟨u,rfl,ru⟩:=r.one;rcases q with⟨l,ys,qs,rfl,hq,xM,pN,q⟩|⟨l,ns,rfl,hq,xM,q⟩
  ·cases ru;obtain⟨its,rv,pl,hz⟩:=I1.list hq;have hlen:=rv.length;have x:oM X.prog X.w s1.heap its.toArray.toList qs:=oM.of I1.ah rv pN;refine JA (J:=JQ X.prog X.w s1.heap s1.heap.objs.size its.toArray qs) (I1.ok.hd hc) (by lia) pl.isList (λB hB=>JQ.EQ hB x (aq _) (by rw[bP];lia)) (λh h1 h2=>JQ.zero h1 h2) λh2 tk hJ k2=>?_;refine sQ ?_;have tD:∀b o,s1.heap.get? b=some o->h2.get? b=some o:=λb o e=>k2 b o (aH e) e;obtain⟨o,es,ep,t,ho,hx,hd,hT,hsz,dv,hv,gS,bB⟩:=hJ.out x (aq _);have Pm:es.size<=its.length:=by simpa using hsz
   refine zW (lv:=λu v=>nZ (kq s1.heap u) (kq s1.heap v)) (s:={ s1 with heap:=h2,toks:=tk }) (C:=λys=>ys.Perm (es.toList.map (·.2))) (DQ.OR (kq s1.heap)) (λQ' E' cg=>?_) (λmS h6 OY d6 hC k6 xt=>?_) λpa mS out h3 kZ d3 c hC dq kF k3 e3 hle FF=>?_
   ·refine Ir (I1.ok.hd hc) ho hx hd hT dv (by lia) λmS h' qH d' k' hp hle=>cg mS h' qH d' k' hp ?_ hle;rw[hp.length_eq,ay,aK];lia
   ·refine Qt (h0:=s1.heap) (λv mP=>?_) (λb o e=>k6 b o (tD b o e)) xt;obtain⟨e,he,rfl⟩:=aS.mp (hC.mem_iff.mp mP);obtain⟨tt,q,_,h1,_,h3⟩:=x.mem (hv e he);exact⟨q,h3⟩
   ·have c_:out.toList.Perm (es.toList.map (·.2)):=dq.trans hC;obtain⟨zs,rz,Gg⟩:=Lz I1.ah rv pN out.toList λu hu=>by
     obtain⟨e,he,rfl⟩:=aS.mp (c_.mem_iff.mp hu);exact hv e he
    have dQ:zs.length=out.size:=rz.length.trans (aK ..);have rG:s1.heap.objs.size<=pa:=bD (iN (aH ho)) hle;have I2:=I1.laid (h':=h3) (t':=kZ) (a:=pa) (o:=.lst zs) (λb o e=>k3 b o (tD b o e)) rG (show ZL X.prog X.w _ h3 _ (.lst zs) from⟨by rw[aT];lia,out.toList,c,rz,e3⟩);have xP:(out.toList.map (kq s1.heap)).Perm (es.toList.map λe=>kq s1.heap e.2):=by
     have:=c_.map (kq s1.heap);rw[gF] at this;exact this
    refine⟨.ref pa,_,I2.draws (d:=d3),rfl,q pa zs _ (I1.ah.fresh rG) (DQ.strict ?_ (xP.nodup_iff.mpr gS)) (λq=>xP.mem_iff.trans (bB q)) Gg⟩;exact jk.mpr kF
  ·cases ru;obtain⟨its,rv,pl,hz⟩:=I1.list hq;have hlen:=rv.length;rw[ay] at hlen;refine JA (J:=JI X.prog X.w s1.heap s1.heap.objs.size ns) (I1.ok.hd hc) (by lia) pl.isList (λB hB=>JI.EQ rv (by rw[bP];lia)) (λh h1 h2=>JI.zero h1 h2) λh2 tk hJ k2=>?_;refine sQ ?_;have tD:∀b o,s1.heap.get? b=some o->h2.get? b=some o:=λb o e=>k2 b o (aH e) e;obtain⟨⟨o,es,ep,t,ho,hx,hd,hE,hT,hsz,dv,hN,gS,bB⟩,hb⟩:=hJ;have Pm:es.size<=its.length:=by simpa using hsz
   refine zW (s:={ s1 with heap:=h2,toks:=tk }) (C:=λys=>ys.Perm (es.toList.map (·.2))) K2 (λQ' E' cg=>?_) (λmS h6 OY d6 hC k6 xt=>?_) λpa mS out h3 kZ d3 c hC dq kF k3 e3 hle FF=>?_
   ·refine Ir (I1.ok.hd hc) ho hx hd hT dv (by lia) λmS h' qH d' k' hp hle=>cg mS h' qH d' k' hp ?_ hle;rw[hp.length_eq,ay,aK];lia
   ·refine HZ (λv mP=>?_) xt;obtain⟨e,he,rfl⟩:=aS.mp (hC.mem_iff.mp mP);exact hN e he
   ·have c_:out.toList.Perm (es.toList.map (·.2)):=dq.trans hC;have hon:∀us:List Value,(∀u∈us,∃i t,u=Value.int i t)->Vals ((us.map iV).map V.int) us:=λus=>by
     induction us with
     | nil=>exact λ_=>.nil
     | cons u us ih =>
      intro hu;obtain⟨i,t,rfl⟩:=hu u (aU ..);exact .cons ⟨t,rfl⟩ (ih λx hx=>hu x (aR _ hx))
    have rz:=hon out.toList λu hu=>by
     obtain⟨e,he,rfl⟩:=aS.mp (c_.mem_iff.mp hu);exact hN e he
    have rG:s1.heap.objs.size<=pa:=bD (iN (aH ho)) hle;have I2:=I1.laid (h':=h3) (t':=kZ) (a:=pa) (o:=.lst ((out.toList.map iV).map V.int)) (λb o e=>k3 b o (tD b o e)) rG (show ZL X.prog X.w _ h3 _ (.lst ((out.toList.map iV).map V.int)) from⟨by rw[ay,ay,aK,aT];lia,out.toList,c,rz,e3⟩);have xP:(out.toList.map iV).Perm (es.toList.map λe=>iV e.2):=by
     have:=c_.map iV;rw[gF] at this;exact this
    refine⟨.ref pa,_,I2.draws (d:=d3),rfl,q pa _ (I1.ah.fresh rG) (OQ (rising rz kF) (xP.nodup_iff.mpr (jk.mpr gS))) (λi=>xP.mem_iff.trans (sR ?_ ((bB i).trans ?_)))⟩
    ·constructor
     ·intro hi;obtain⟨e,he,rfl⟩:=aS.mp hi;exact⟨e,he,rfl⟩
     ·rintro⟨e,he,rfl⟩;exact aS.mpr ⟨e,he,rfl⟩
    ·constructor
     ·rintro⟨j,_,h2⟩;exact bU h2
     ·intro hi;obtain⟨j,hj⟩:=iM.mp hi;exact⟨j,by have:=(dc.mp hj).1;simp;lia,hj⟩
end L2
namespace L2
open PySem PySem.Spec PyProof.Rows
theorem R1{a b c:Int}(ha : -1000000<=a)(iO:a<=1000000)(hb : -1000000<=b)(aB:b<=1000000)(hc:c=2):Builtin.Range.small a b c=true:=by
 unfold Builtin.Range.small Builtin.Range.rangeSize;simp only[Builtin.Range.rangeFitsLong,eY,Bool.or_eq_true,jl,mH];subst hc;simp only[show(2:Int) > 0 by decide,lq]
 split <;> refine⟨⟨⟨⟨⟨?_,?_⟩,?_,?_⟩,by decide,by decide⟩,?_,?_⟩,?_⟩ <;> first|lia|(right;simp;lia)|(left;rfl)
def Vw(ta:TA):TI:=λσ H R=>ta σ H λvs H1=>∃a b c:Int,vs=[.int a,.int b,.int c]/\(-1000000<=a/\a<=1000000 /\ -1000000<=b/\b<=1000000)/\c=2/\R (wV a c (Builtin.Range.rangeSize a b c).toNat) H1
variable{X:Cx}{tg:Expr}{ta:TA}{p pos:Pos}
theorem RM{a b c:Expr}(hg:Gl X "range") (hm:X.mg "range" = none) (ha:PA X [a,b,c] ta) (hs:starEach [a,b,c] X.env=[(false,eval a X.env),(false,eval b X.env),(false,eval c X.env)]:=by rfl)
  (nR:starEach [b,c] X.env=[(false,eval b X.env),(false,eval c X.env)]:=by rfl) (hs3:starEach [c] X.env=[(false,eval c X.env)]:=by rfl):PI X tg (.Call (.Name "range" p) [a,b,c] [] pos) (Vw ta):=by
 intro pins s σ H R I h;refine Call_ (kl I hg hm boot_range (vz (ap (ha pos pins s σ H _ I h) λus s1 ⟨vs,H1,I1,r1,q1⟩=>?_) (by rw[hs,nR]) (by rw[nR];rfl)));obtain⟨x,y,z,e,⟨q1,q2,q3,q4⟩,hz,q⟩:=q1;subst e;have hz0:z≠0:=by subst hz;decide
 have Bp:z.natAbs<1073741824:=by subst hz;decide
 cases r1 with
 | cons r rr =>
  cases rr with
  | cons r2 rr =>
   cases rr with
   | cons r3 rr =>
    cases rr;obtain⟨t,rfl⟩:=r;obtain⟨t2,rfl⟩:=r2;obtain⟨t3,rfl⟩:=r3;refine call_range_3 hz0 ?_ (.inl (PyProof.noPylong_small Bp));refine wpAny_pyIter_range (IsRange.new ..) (R1 q1 q2 q3 q4 hz) ?_;have I2:Inv X pins σ H1 { s1 with heap:=s1.heap.push { cls:=.type "range",data:=.fields #[.int x t,.int y t2,.int z t3] } }:=I1.kept (t':=s1.toks) λb o e=>ax _ e;refine⟨_,[_],_,_,H1,rfl,I2.kept (t':=s1.toks) λb o e=>ax _ e,QT _ x z (Builtin.Range.rangeSize x y z).toNat,?_,λb hb=>?_,q⟩
    ·have hn:0<=Builtin.Range.rangeSize x y z:=by
      unfold Builtin.Range.rangeSize;subst hz;rw[ai (by decide)]
      split <;> lia
     show IsRangeIter _ _ (x+((0:Nat):Int)*z) (((Builtin.Range.rangeSize x y z).toNat:Int)-((0:Nat):Int)) z;rw[Int.toNat_of_nonneg hn,show x+((0:Nat):Int)*z=x by simp,show Builtin.Range.rangeSize x y z-((0:Nat):Int)=Builtin.Range.rangeSize x y z by simp];exact bo _ rfl
    ·obtain rfl:=az.mp hb;exact I2.iY (aq _) (I2.ah.fresh (aq _))
theorem D8:bootBuiltins "any" = some (.builtin "any"):=by decide +kernel
theorem any_range:∀(bs:List Bool),((List.range bs.length).any λi=>(bs[i]?).getD false)=bs.any id:=by
 intro bs;rw[mB,k9,k9];constructor
 ·rintro⟨i,hi,h⟩;have cI:=fU.mp hi;rw[bT cI] at h;exact⟨_,vq cI,h⟩
 ·rintro⟨b,hb,h⟩;obtain⟨i,hi,rfl⟩:=List.getElem_of_mem hb;exact⟨i,fU.mpr hi,by rw[bT hi];exact h⟩
theorem Dy(hc:X.calm=true):f_ X (.builtin "any") (λxs H Q=>∃(p:Addr)(bs:List Bool),xs=[.ref p]/\aj X.K H p (bs.map V.bl)/\Q (.bl (bs.any id)) H):=by
 intro pins s σ H xs us Q I r h;obtain⟨p,bs,rfl,hS,q⟩:=h;obtain⟨u,rfl,ru⟩:=Vals.one r;cases ru;obtain⟨its,rv,pl,hz⟩:=I.list hS;have hl:=pl.isList;have hlen:bs.length=its.length:=by
  have:=rv.length;rw[ay] at this;exact this
 refine call_any_walk (ti hl ⟨s.heap.objs.size,[s.heap.objs.size,p],[s.heap.objs.size],its.toArray.size,_,_,λi=>(bs[i]?).getD false,rfl,
  Walks.list (A:=X.A.in1) (I.ok.hd hc) _ p (aV pl.lt) its.toArray,⟨⟨_,bo _ rfl,rfl,rfl⟩,hl.push _⟩,λi v s' Q' E' hP hQ=>?_,λh' tk hk=>?_⟩)
 ·obtain⟨b,e,e2⟩:=Dv rv i v (by simpa using hP);subst e2;simp only[e,Option.getD_some] at hQ;exact mN hQ
 ·rw[bP,<- hlen,any_range];refine⟨.bl _,H,I.kept (t':=tk) λb o e=>hk b o (λhm=>?_) (ax _ e),rfl,q⟩;rw[az.mp hm] at e;exact cD _ (aH e)
def vN(K:PySem.W.Frag)(a:Addr)(n:Nat):It :=
 ⟨λi H=>i<n/\∃xs,aj K H a xs/\xs.length=n,λi H x H'=>H'=H/\∀xs,aj K H a xs->xs[n-1-i]?= some x,λi _=>n<=i⟩
variable{K:PySem.W.Frag}
theorem SV{P:Program}{w:World}(a it:Addr)(n:Nat):Turn P w K tg (vN K a n) [it] it (λi h=>i<=n/\h.IsRevIter it a ((n:Int)-1-(i:Int))) where
 mem:=by simp
 obj:=λi h st b hb=>by
  have e:b=it:=by simpa using hb
  subst e;obtain⟨_,o,e,c,d⟩:=st;exact⟨o,e,λv z=>by rw[d] at z;cases z⟩
 keep:=λi h h' st k=>⟨st.1,st.2.at λo e=>k it (by simp) o e⟩
 item:=by
  intro X hP hw hK hc i pins s σ H E I hf st hg;subst hP hw hK;obtain⟨hi,xs,hq,hn⟩:=hg;obtain⟨its,rv,p,hz⟩:=I.list hq;have hx:xs[n-1-i]?= some (xs[n-1-i]'(by lia)):=bT (by lia);obtain⟨u,hu,ru⟩:=rv.get hx;obtain⟨f0,f1,f2,f3,f4,f5⟩:=hf it (by simp);have e:(n:Int)-1-(i:Int)=((n-1-i:Nat):Int):=by lia
  have hit:=st.2;rw[e] at hit;refine wpAny_pyNext_rev_item hit p.isList (x:=u) (by simpa using hu) λh' bq sb=>?_;have I1:Inv X pins σ H { s with heap:=h' }:=I.turned (t':=s.toks) (λb o hb e=>(sb.2 b hb).trans e) f0 f1 f3 f4 f5;obtain⟨o,e',c,d⟩:=id bq;refine⟨u,rfl,uj (s:={ s with heap:=h' }) e' c d (by decide) ⟨_,H,I1,ru,⟨rfl,λys hy=>by rw[I.GB hy hq];exact hx⟩,⟨hi,?_⟩,λb hb=>(hf b hb).1⟩⟩;have e2:(n:Int)-1-((i+1:Nat):Int)=((n-1-i:Nat):Int)-1:=by lia
  rw[e2];exact bq
 done:=by
  intro X hP hw hK hc i pins s σ H E I hf st hg;subst hP hw hK;have Hy:n<=i:=hg;obtain⟨f0,f1,f2,f3,f4,f5⟩:=hf it (by simp);have hit:=st.2;have e:(n:Int)-1-(i:Int)= -1:=by have:=st.1;lia
  rw[e] at hit;exact wpAny_pyNext_rev_end (I.ok.hd hc) hit λh' eb=>⟨rfl,I.turned (t':=s.toks) (λb o hb e=>eb b o hb e) f0 f1 f3 f4 f5⟩
 self:=λ_ _ _ _ _ st h=>wpAny_pyIter_revIter st.2 h
def Wj(K:PySem.W.Frag)(ta:TA):TI:=λσ H R=>ta σ H λvs H1=>∃a xs,vs=[.ref a]/\aj K H1 a xs/\R (vN K a xs.length) H1
theorem Uo{l:Expr}(hg:Gl X "reversed") (hm:X.mg "reversed" = none) (ha:PA X [l] ta) (hs:starEach [l] X.env=[(false,eval l X.env)]:=by rfl) :
  PI X tg (.Call (.Name "reversed" p) [l] [] pos) (Wj X.K ta):=by
 intro pins s σ H R I h;refine Call_ (kl I hg hm Qi (vz (ap (ha pos pins s σ H _ I h) λus s1 ⟨vs,H1,I1,r1,q1⟩=>?_) hs rfl));obtain⟨a,xs,e,hq,q⟩:=q1;subst e;obtain⟨u,rfl,ru⟩:=Vals.one r1;cases ru;obtain⟨its,rv,pl,hz⟩:=I1.list hq;refine call_reversed_list pl.isList (wpAny_pyIter_revIter (l:=a) (i:=(its.toArray.size:Int)-1) ⟨_,bo _ rfl,rfl,rfl⟩ ?_);have hl:its.toArray.size=xs.length:=by rw[bP,rv.length]
 refine⟨s1.heap.objs.size,[s1.heap.objs.size],_,_,H1,rfl,I1.kept (t':=s1.toks) λb o e=>ax _ e,SV a _ xs.length,⟨bE _,?_⟩,λb hb=>?_,q⟩
 ·rw[hl];refine⟨_,bo _ rfl,rfl,?_⟩;simp[revObj]
 have e:b=s1.heap.objs.size:=by simpa using hb
 subst e;exact I1.iY (aq _) (I1.ah.fresh (aq _))
theorem Tq{a p:Addr}{xs:List V}{g:TG}{te:TE}{R:Hp->Prop}{dS:St}{H0:Hp}(Pv:Nat->List V->St->Hp->Prop)(h0:Pv 0 [] dS H0)
  (hl:∀i ys σ H,i<=xs.length->Pv i ys σ H->aj K H a xs/\H p=some (.lst ys))
  (hs:∀i ys x σ H,i<xs.length->xs[xs.length-1-i]?= some x->Pv i ys σ H->g x σ H λaC H4=>te aC H4 λv H5=>H5 p=some (.lst ys)/\ys.length<sizeLine/\∃m',m'<xs.length-i/\CW xs.length Pv (i+1) m' (ys ++ [v]) aC (upd H5 p (.lst (ys ++ [v]))))
  (hd:∀ys σ H,Pv xs.length ys σ H->R H) :
  ∃W:Nat->Nat->List V->St->Hp->Prop,(∃m,W 0 m [] dS H0)/\∀i m ys cm H2,W i m ys cm H2->H2 p=some (.lst ys)/\(((vN K a xs.length).stop i H2/\R H2)\/((vN K a xs.length).go i H2/\∀x H3,(vN K a xs.length).fB i H2 x H3->g x cm H3 λaC H4=>te aC H4 λv H5 =>
   H5 p=some (.lst ys)/\ys.length<sizeLine/\∃m',m'<m/\W (i+1) m' (ys ++ [v]) aC (upd H5 p (.lst (ys ++ [v]))))):=by
 refine⟨CW xs.length Pv,⟨_,rfl,bE _,h0⟩,?_⟩;rintro i m ys σ H ⟨rfl,hi,hp⟩;obtain⟨h1,h2⟩:=hl i ys σ H hi hp;refine⟨h2,?_⟩;by_cases au:i<xs.length
 ·refine .inr ⟨⟨au,xs,h1,rfl⟩,?_⟩;rintro x H3 ⟨rfl,hx⟩;exact hs i ys x σ _ au (hx xs h1) hp
 ·have e:i=xs.length:=by lia
  subst e;exact .inl ⟨aq _,hd ys σ H hp⟩
end L2
namespace Fg
open PySem L2 lA
variable{X:Cx}{K:PySem.W.Frag}{n:Nat}
theorem Uh{es:List Expr}{k:Nat}{t:oN}{pos:Pos}(hK:X.K=K)(hc:X.calm=true)(h:vR X es t)(hn:(assignEach es X.env).length=n:=by rfl)(bY:(assignEach es X.env).findIdx? (·.1)=none:=by rfl):PG X (.Tuple es k pos) (L8 K n t):=by
 subst hK;exact wM hc h hn bY
theorem JC:bootBuiltins "sorted" = some (.builtin "sorted"):=by decide +kernel
variable{a p:Addr}{xs:List V}{g:TG}{te:TE}{R:Hp->Prop}{dS:St}{H0:Hp}
theorem z_(Pv:Nat->List V->St->Hp->Prop)(h0:Pv 0 [] dS H0)
  (hl:∀i ys σ H,i<=xs.length->Pv i ys σ H->ar K H a xs/\H p=some (.lst ys))
  (hs:∀i ys x σ H,i<xs.length->xs[i]?= some x->Pv i ys σ H->g x σ H λaC H4=>te aC H4 λv H5=>H5 p=some (.lst ys)/\ys.length<sizeLine/\∃m',m'<xs.length-i/\CW xs.length Pv (i+1) m' (ys ++ [v]) aC (upd H5 p (.lst (ys ++ [v]))))
  (hd:∀ys σ H,Pv xs.length ys σ H->R H) :
  ∃W:Nat->Nat->List V->St->Hp->Prop,(∃m,W 0 m [] dS H0)/\∀i m ys cm H2,W i m ys cm H2->H2 p=some (.lst ys)/\(((j8 K a).stop i H2/\R H2)\/((j8 K a).go i H2/\∀x H3,(j8 K a).fB i H2 x H3->g x cm H3 λaC H4=>te aC H4 λv H5 =>
   H5 p=some (.lst ys)/\ys.length<sizeLine/\∃m',m'<m/\W (i+1) m' (ys ++ [v]) aC (upd H5 p (.lst (ys ++ [v]))))):=by
 refine⟨CW xs.length Pv,⟨_,rfl,bE _,h0⟩,?_⟩;rintro i m ys σ H ⟨rfl,hi,hp⟩;obtain⟨h1,h2⟩:=hl i ys σ H hi hp;refine⟨h2,?_⟩;by_cases au:i<xs.length
 ·refine .inr ⟨⟨xs,xs[i],h1,bT au⟩,?_⟩;rintro x H3 ⟨rfl,hx⟩;exact hs i ys x σ _ au (hx xs h1) hp
 ·refine .inl ⟨⟨xs,h1,by lia⟩,hd ys σ H ?_⟩;have e:i=xs.length:=by lia
  rw[<- e];exact hp
theorem Zk{α : Type}{l:List α}{i:Nat}{x : α}(h:l[i]?= some x):l.take (i+1)=l.take i ++ [x]:=by
 rw[List.take_add_one,h];rfl
theorem Jj{lo:Int}(Pv:Nat->List V->St->Hp->Prop)(h0:Pv 0 [] dS H0)
  (hl:∀i ys σ H,i<=n->Pv i ys σ H->H p=some (.lst ys))
  (hs:∀i ys σ H,i<n->Pv i ys σ H->g (.int (lo+i)) σ H λaC H4=>te aC H4 λv H5=>H5 p=some (.lst ys)/\ys.length<sizeLine/\∃m',m'<n-i/\CW n Pv (i+1) m' (ys ++ [v]) aC (upd H5 p (.lst (ys ++ [v]))))
  (hd:∀ys σ H,Pv n ys σ H->R H) :
  ∃W:Nat->Nat->List V->St->Hp->Prop,(∃m,W 0 m [] dS H0)/\∀i m ys cm H2,W i m ys cm H2->H2 p=some (.lst ys)/\(((mU lo n).stop i H2/\R H2)\/((mU lo n).go i H2/\∀x H3,(mU lo n).fB i H2 x H3->g x cm H3 λaC H4=>te aC H4 λv H5 =>
   H5 p=some (.lst ys)/\ys.length<sizeLine/\∃m',m'<m/\W (i+1) m' (ys ++ [v]) aC (upd H5 p (.lst (ys ++ [v]))))):=by
 refine⟨CW n Pv,⟨_,rfl,bE _,h0⟩,?_⟩;rintro i m ys σ H ⟨rfl,hi,hp⟩;refine⟨hl i ys σ H hi hp,?_⟩;by_cases au:i<n
 ·refine .inr ⟨au,?_⟩;rintro x H3 ⟨rfl,rfl⟩;exact hs i ys σ _ au hp
 ·have e:i=n:=by lia
  subst e;exact .inl ⟨aq _,hd ys σ H hp⟩
theorem Jk(h:X.K=K):dh X (compareOp .In) (OH K false):=h ▸ Sv
theorem gL{H:Hp}{ys zs:List V}(hp:H p=some (.lst ys)):∀b xs,H b=some (.tup xs)->(upd H p (.lst zs)) b=some (.tup xs):=λb xs h=>by
 rw[Zc (λe=>by rw[e,hp] at h;cases h)];exact h
def LL:Sp:=λvs H Q _=>∃s v:Int,vs=[.int s,.int v]/\∀t:Str,km t->t.length<=8->Q (.str t) H
def zZ(K:PySem.W.Frag):Sp:=λvs H Q _=>∃(a:Addr)(ns:List Int)(k:Int),vs=[.ref a,.int k]/\aj K H a (ns.map V.int)/\ns.length<=63/\0<=k/\k<=1000/\∀v:Int,0<=v->v<2147483647->Q (.int v) H
theorem V5{body:List Stmt}{D:Ends}(R0:St->Hp->Prop)(n:Nat)(R:St->Hp->Prop)(h2:∃u,cF X (body.drop n) u/\∀ ao H',R ao H'->u D ao H')
  (h1:∀u,cF X (body.drop n) u->(∀ ao H',R ao H'->u D ao H')->∃t,cF X body t/\∀ σ H,R0 σ H->t D σ H):∃t,cF X body t/\∀ σ H,R0 σ H->t D σ H :=
 let ⟨u,a,b⟩:=h2
 h1 u a b
structure FQ where
 n:Int
 hs:List Int
 ts:List Int
 qs:List av.Qd
abbrev o4(l:List Int):Prop:=l.Pairwise (· < ·)
abbrev Vd(l:List av.Qd):Prop:=l.Pairwise (λa b=>av.nZ a b=true)
def dE(H:Hp)(a:Addr)(f:FQ):Prop := ∃(h1 h2 h3:Addr)(zs:List V),H a=some (.tup [.int f.n,.ref h1,.ref h2,.ref h3])/\H h1=some (.tup (f.hs.map V.int))/\H h2=some (.tup (f.ts.map V.int))/\H h3=some (.tup zs)/\QL H zs f.qs
theorem dE.same{H H':Hp}{f:FQ}(h:dE H a f)(s:Zi H H'):dE H' a f:=by
 obtain⟨h1,h2,h3,zs,e1,e2,e3,e4,e5⟩:=h;exact⟨h1,h2,h3,zs,s _ _ e1,s _ _ e2,s _ _ e3,s _ _ e4,e5.keep λb xs e=>s _ _ e⟩
theorem QL.snoc{H:Hp}{q:av.Qd}{p:Addr}(e:H p=some (tq q)):∀{zs:List V}{qs:List av.Qd},QL H zs qs->QL H (zs ++ [.ref p]) (qs ++ [q])
 | _,_,.nil=>.cons ⟨p,rfl,e⟩ .nil
 | _,_,.cons r t=>.cons r (QL.snoc e t)
theorem qY{α : Type}[DecidableEq α]:∀{l m:List α},l.Nodup->(∀x∈l,x∈m)->l.length<=m.length
 | [],_,_,_=>bE _
 | a::l,m,hn,h=>by
  obtain⟨h1,h2⟩:=fD.mp hn;have ha:=h a (aU ..);have h3:=qY (m:=m.erase a) h2 λx hx=>(List.mem_erase_of_ne (λ(e:x=a)=>h1 (e ▸ hx))).mpr (h x (aR _ hx));rw[List.length_erase_of_mem ha] at h3;have:=List.length_pos_of_mem ha;rw[bM];lia
theorem IS{l:List av.Qd}(h:Vd l):l.Nodup:=h.imp λ{a b} c8 e=>by
 subst e;rw[av.DQ.me] at c8;cases c8
variable{l:List Int}
theorem tL(h:o4 l):l.Nodup:=h.imp λ{a b} c8 e=>by lia
theorem J9{m:List Int}(hl:o4 l)(hm:o4 m)(h:∀x,x∈l↔x∈m):l=m :=
 av.wx.one (hl.imp λh=>aF h) (hm.imp λh=>aF h) h
theorem wY(x:Int){n:Int}(h:1<=n):0<=x % n/\x % n<n:=⟨jW _ (by lia),jV _ (by lia)⟩
theorem RE{tt:TT}(Pv:Nat->List V->St->Hp->Prop)(h0:Pv 0 [] dS H0)
  (hl:∀i ys σ H,i<=xs.length->Pv i ys σ H->ar K H a xs/\H p=some (.lst ys))
  (hs:∀i ys x σ H,i<xs.length->xs[i]?= some x->Pv i ys σ H->g x σ H λaC H4=>tt aC H4 λb fG=>if b=true then te aC fG λv H5=>H5 p=some (.lst ys)/\ys.length<sizeLine/\∃m',m'<xs.length-i/\CW xs.length Pv (i+1) m' (ys ++ [v]) aC (upd H5 p (.lst (ys ++ [v])))
   else ∃m',m'<xs.length-i/\CW xs.length Pv (i+1) m' ys aC fG)
  (hd:∀ys σ H,Pv xs.length ys σ H->R H) :
  ∃W:Nat->Nat->List V->St->Hp->Prop,(∃m,W 0 m [] dS H0)/\∀i m ys cm H2,W i m ys cm H2->H2 p=some (.lst ys)/\(((j8 K a).stop i H2/\R H2)\/((j8 K a).go i H2/\∀x H3,(j8 K a).fB i H2 x H3->g x cm H3 λaC H4=>tt aC H4 λb fG=>if b=true then te aC fG λv H5 =>
   H5 p=some (.lst ys)/\ys.length<sizeLine/\∃m',m'<m/\W (i+1) m' (ys ++ [v]) aC (upd H5 p (.lst (ys ++ [v]))) else ∃m',m'<m/\W (i+1) m' ys aC fG)):=by
 refine⟨CW xs.length Pv,⟨_,rfl,bE _,h0⟩,?_⟩;rintro i m ys σ H ⟨rfl,hi,hp⟩;obtain⟨h1,h2⟩:=hl i ys σ H hi hp;refine⟨h2,?_⟩;by_cases au:i<xs.length
 ·refine .inr ⟨⟨xs,xs[i],h1,bT au⟩,?_⟩;rintro x H3 ⟨rfl,hx⟩;exact hs i ys x σ _ au (hx xs h1) hp
 ·have e:i=xs.length:=by lia
  subst e;exact .inl ⟨⟨xs,h1,aq _⟩,hd ys σ H hp⟩
theorem Kr{x:Int}{xs:List Int}:Br (.int x) (xs.map V.int)=decide (x∈xs):=by
 unfold Br;rw[mB,k9,jl];constructor
 ·rintro⟨y,hy,h⟩;obtain⟨z,hz,rfl⟩:=aS.mp hy;have:z=x:=by
   have h':(z == x)=true:=by simpa[lW] using h
   exact eq_of_beq h'
  exact this ▸ hz
 ·intro h;exact⟨V.int x,aS.mpr ⟨x,h,rfl⟩,by simp[lW]⟩
theorem Jt(xs:List Int):(xs.map V.int).all mZ=true:=by
 rw[vg];intro y hy;obtain⟨z,_,rfl⟩:=aS.mp hy;rfl
end Fg
namespace L2
open PySem PySem.Spec PyProof.Rows
def Um(td ty tx:TE):TE:=λσ H Q=>td σ H λx H1=>∃a,x=.ref a/\CD H1 a/\ty σ H1 λy H2=>tx σ H2 λz H3=>∃aa k,H3 a=some (.dK aa)/\y=kV k/\aa.length<sizeLine /\
 (∀v,aQ aa k=some v->Q v H3)/\(aQ aa k=none->Q z (upd H3 a (.dK (putK aa k z))))
section
variable{X:Cx}{o e f:Expr}{apos bJ:Pos}{td ty tx:TE}
theorem Dw(ho:PE X o td)(he:PE X e ty)(hf:PE X f tx)(m:M2 X o "setdefault" apos e f bJ):PE X (.Call (.Attribute o "setdefault" apos) [e,f] [] bJ) (Um td ty tx):=by
 intro pins s σ H Q I h;refine wpAny_Call_method m.base m.fh m.line B6 PySem.F.slot_dict_setdefault PySem.F.type_dict_setdefault (ap (ho pins s σ H _ I h) λu s1 ⟨x,H1,I1,rx,a,ex,d,q1⟩=>?_);subst ex;obtain rfl:u=Value.ref a:=rx;obtain⟨t1,t2,_⟩:=LH I1 d;refine⟨t1,t2,?_⟩;rw[m.yI];refine vf rfl (yO (oj (ap (he pins s1 σ H1 _ I1 q1) λiv s2 ⟨y,H2,I2,ry,q2⟩ =>
  oj (ap (hf pins s2 σ H2 _ I2 q2) λfv s3 ⟨z,H3,I3,rz,aa,k,e3,ey,hl,g1,g2⟩=>sQ ?_))))
 subst ey;obtain⟨zz,hd,vs,rel,dd⟩:=D9 I3.ah e3;have hz:vs.length<=sizeLine:=by rw[<- rel.length];exact zz
 have rv:=rel.val k;refine call_meetsIn PySem.F.slot_dict_setdefault dd.typeIs PySem.F.entry_dict_setdefault (PySem.F.args_dict_setdefault_3 _ _ _) (kt_meets_setdefault (ZC X.prog X.w) a (rj ry) hd fv) ⟨vs,dd,hz,λv hv=>?_,λhn h' jY hs=>?_⟩
 ·rw[hv] at rv;cases hk:aQ aa k with
  | none =>
   rw[hk] at rv;exact(show False from rv).elim
  | some x =>
   rw[hk] at rv;exact⟨x,H3,I3.tok _,rv,g1 x hk⟩
 ·rw[hn] at rv;cases hk:aQ aa k with
  | some x =>
   rw[hk] at rv;exact(show False from rv).elim
  | none =>
   have he:∃q,h'.get? a=some q:=let ⟨q,_,_,hq,_⟩:=jY;⟨q,hq⟩;have gm:(putK aa k z).length<=sizeLine:=by have:=qV aa k z;lia
   exact⟨z,_,wD I3 (by rw[e3];exact True.intro) hs he (Ln gm hd (rel.put k rz) jY),rz,g2 hk⟩
end
end L2
namespace Fg
open PySem L2 lA
def DI(H:Hp)(p:Addr)(ns:List Int):Prop := ∃m:List (Key×V),H p=some (.dK m)/\m.map (·.1)=ns.map Sum.inl
variable{ns:List Int}
theorem DI.same{H H':Hp}{p:Addr}(h:DI H p ns)(s:Zi H H'):DI H' p ns:=by
 obtain⟨m,h1,h2⟩:=h;exact⟨m,s _ _ h1,h2⟩
variable{m:List (Key×V)}
theorem DI.has(h:m.map (·.1)=ns.map Sum.inl)(x:Int):(aQ m (Sum.inl x)).isSome=decide (x∈ns):=by
 rw[<- oP];have e1:(m.any λkv=>decide (kv.1=(Sum.inl x:Key)))=(m.map (·.1)).any (λy=>decide (y=(Sum.inl x:Key))):=by rw[List.any_map];rfl
 rw[e1,h,List.any_map,mB,k9,jl];constructor
 ·rintro⟨y,hy,h⟩;have:=bh h;injection this with this;rw[<- this];exact hy
 ·intro hx;exact⟨x,hx,aF rfl⟩
theorem DI.put(h:m.map (·.1)=ns.map Sum.inl)(x:Int)(v:V):(putK m (Sum.inl x) v).map (·.1)=(if x∈ns then ns else ns ++ [x]).map Sum.inl:=by
 have hh:=DI.has h x;unfold putK;rw[oP,hh];by_cases hx:x∈ns
 ·rw[aF hx,ai rfl,ai hx,gF,<- h];refine List.map_congr_left λkv _=>?_;show(if kv.1=Sum.inl x then(kv.1,v) else kv).1=kv.1
  split <;> rfl
 ·rw[a8 hx,ag (by decide),ag hx,cZ,cZ,h];rfl
end Fg
namespace L2
open PySem PySem.Spec PyProof.Rows
section
variable{X:Cx}{C:Addr}{m x:Str}{ps:List Str}{j k:Nat}{sp:Sp}{o e:Expr}{es:List Expr}{ta:TE}{t:TA}{p pos apos:Pos}
theorem tU(G:oJ X.prog X.w X.K X.mg X.base C x ps j sp)(hr:bj k X.A)(hg:Gl X x)(ha:PA X (e::es) t)(hk:j+1<=k:=by decide)(du:(x == ("__debug__" : Str))=false:=by decide)
  (he:starEach (e::es) X.env=(false,eval e X.env)::starEach es X.env:=by rfl) (aA:(backTo pos (starEach es X.env)).any (·.1)=false:=by rfl):PE X (.Call (.Name x p) (e::es) [] pos) (LW C sp [] E0 t):=by
 obtain⟨f,fd,F,b,M,hm⟩:=G.ex;exact TR M F (hr.mono hk) hg hm b .nil wR ha du he aA
end
theorem Kx{X:Cx}{K:PySem.W.Frag}{e:Expr}{f:Str}{pos:Pos}{ta:TE}(hK:X.K=K)(he:PE X e ta)(hb:attributeBase e f X.env (eval e X.env)=eval e X.env):PE X (.Attribute e f pos) (Mb K ta f):=hK ▸ Z6 he hb
end L2
namespace Fg
open PySem L2 lA
theorem made{H H':Hp}{x dx C:Addr}(hx:H x=none)(Fh:H dx=none)(kb:∀b o,b≠x->(upd (upd H dx (.own x)) x (.ins C dx [])) b=some o->H' b=some o):Zi H H':=λb o e=>kb b o (Zg e hx) (by
 rw[Zc (Zg e hx),Zc (Zg e Fh)];exact e)
namespace Pa
end Pa
end Fg
namespace L2
open PySem PySem.Spec PyProof.Rows PySem.W
def wQ(X:Cx)(N:List Str)(scope:Scope)(cl:List (Str×Addr))(qual:Str)(f:Addr)(cd:Value)(s:Shared)(H:Hp):Cx where
 prog:=X.prog
 w:=X.w
 K:=X.K
 mg:=X.mg
 base:=X.base
 A:=X.A.deeper (envX qual scope s.heap.objs.size f cd cl)
 N:=N
 cO := s
 jv := H
 env:=envX qual scope s.heap.objs.size f cd cl
 outer:=X.stack
 stack:=envX qual scope s.heap.objs.size f cd cl::X.stack
 ex:=[]
 fn:=λ_=>false
 calm:=true
 pn:=[]
 xe:=dR
def sq(v:V)(σ : St)(aw:List (Str×Nat)):St:=some v::aw.map λp=>(σ[p.2]?).getD none
structure qN(X:Cx)(scope:Scope)(cl:List (Str×Addr))(p:Str)(aw:List (Str×Nat)):Prop where
 kind:scope.kind=.function
 co:scope.isCoroutine=false
 gen:scope.isGenerator=false
 GL:∀x∈scope.names,x.2 ≠ .cell
 uX:scope.names.lookup p=some .local
 own:∀x c,cl.lookup x=some c->X.env.cells.lookup x=some c
 has:∀x,scope.names.lookup x=some .free->∃c,cl.lookup x=some c
 Mf:∀q∈aw,X.N[q.2]?= some q.1/\X.env.scope.names.lookup q.1=some .cell/\scope.names.lookup q.1=some .free
variable{X:Cx}{pins:List (Addr×Obj)}{σ:St}{H:Hp}{s:Shared}{scope:Scope}{cl:List (Str×Addr)}{p qual:Str}{aw:List (Str×Nat)}{f:Addr}{cd:Value}
theorem Tx{N:List Str}(I:Inv X pins σ H s)(hc:X.calm=true)(S:qN X scope cl p aw):(wQ X N scope cl qual f cd s H).Ok where
 mod:=I.ok.mod
 kind:=S.kind
 glob:=rfl
 blt:=rfl
 above:=aq _
 inj:=λx y c e1 e2=>I.ok.inj x y c (S.own x c e1) (S.own y c e2)
 has:=λx hx=>by
  rcases hx with hx|hx
  ·exact absurd rfl (S.GL _ (sY (show scope.names.lookup x=some .cell from hx)))
  ·exact S.has x hx
 ko:=λx c e=>by cases e
 hd:=λ_=>I.ok.hd hc
 frames:=Around.frames_deeper I.ok.frames
 mw:=.inr ⟨rfl,rfl⟩
 jH:=λb hb=>absurd (show b∈([]:List Addr) from hb) (by simp)
 bs:=λb o e=>I.bs b o e
 gh:=bD I.ok.gh I.sz
 kK:=λb o e hb=>absurd (show b∈([]:List Addr) from hb) (by simp)
 jI:=λb hb=>absurd (show b∈([]:List Addr) from hb) (by simp)
 fj:=I.stack
 iZ:=I.BM
variable{u:Value}{v:V}{h1:Heap}
theorem QE{tk:Nat}(I:Inv X pins σ H s)(hc:X.calm=true)(S:qN X scope cl p aw)(r:RelV v u)(i9:h1.Ns s.heap.objs.size (λx=>([(p,u)]:List (Str×Value)).reverse.lookup x))(ef:∀b o,s.heap.get? b=some o->h1.get? b=some o) :
  Inv (wQ X (p::aw.map (·.1)) scope cl qual f cd s H) [] (sq v σ aw) H { s with heap:=h1,toks:=tk } where
 ok:=Tx I hc S
 os:=rfl
 bare:=I.bare
 base:=Un.kept ef
 loc:=by
  refine⟨_,i9,λi x v' e1 e2 hv=>?_⟩;cases i with
  | zero =>
   have e1:p=x:=cE e1;have e2:v=v':=cE (cE e2);subst e1 e2;refine⟨u,r,.inl ⟨S.uX,?_⟩⟩;show([(p,u)]:List (Str×Value)).reverse.lookup p=some u;simp[List.lookup_cons]
  | succ i =>
   have hN:(aw.map (·.1))[i]?= some x:=e1;have e2:(aw.map λp=>(σ[p.2]?).getD none)[i]?= some (some v'):=e2;rw[cp] at hN e2;cases hp:aw[i]? with
   | none=>rw[hp] at hN;cases hN
   | some q =>
    rw[hp] at hN e2;have hx:q.1=x:=cE hN;have he:(σ[q.2]?).getD none=some v':=cE e2;obtain⟨c1,c2,c3⟩:=S.Mf q (bU hp);subst hx;have hs : σ[q.2]?= some (some v'):=by
     cases z0 : σ[q.2]? with
     | none=>rw[z0] at he;cases he
     | some z=>rw[z0] at he;rw[show z=some v' from he]
    obtain⟨m,hn,hl⟩:=I.loc;obtain⟨u',r',l⟩:=hl q.2 q.1 v' c1 hs (.inr (.inl c2));refine⟨u',r',.inr ⟨.inr c3,?_⟩⟩;obtain⟨c,hc⟩:=S.has q.1 c3;refine⟨c,hc,?_⟩;rcases l with⟨l1,_⟩|⟨_,c',l2,o,ho,hd⟩
    ·have:X.env.kindOf q.1=some .cell:=c2;rw[this] at l1;cases l1
    ·have:c=c':=cE ((S.own q.1 c hc).symm.trans l2);subst this;exact⟨o,ef _ _ ho,hd⟩
 cell:=λx c e=>by
  obtain⟨v,o,ho,hd⟩:=I.cell x c (S.own x c e);exact⟨v,o,ef _ _ ho,hd⟩
 free:=I.ah.fresh (aq _)
 ee:=λx c e=>I.ee x c (S.own x c e)
 pin:=λp hp=>by cases hp
 ah:=I.ah.kept ef
 len:=by
  unfold sq;show _=(p::aw.map (·.1)).length;rw[bM,bM,ay,ay]
variable{params:Arguments}{body:Expr}{c':Addr}{oc:Obj}
theorem UM{name:Str}{pm ed:Value}{vs:Array Value}{tq:Tok}{t:TE}{Q:VK}{k:Nat}(I:Inv X pins σ H s)(hc:X.calm=true)(hr:bj (k+1) X.A)(S:qN X scope cl p aw)
  (hf:H f=some (.aI (kla_obj name qual params body scope cl pm c' ed) (.own f))) (ho:H c'=some (.aI oc (.own c'))) (hd:oc.data=.fields vs) (hv:vs[1]?= some (.str qual tq))
  (hb:bindArgs (kla_fn name qual params body scope cl pm (.ref c') ed) ⟨[u],[]⟩=pure [(p,u)]) (r:RelV v u)
  (ny:PE (wQ X (p::aw.map (·.1)) scope cl qual f (.ref c') s H) body t) (h:t (sq v σ aw) H Q):wpAny (model X.prog X.w) X.A (call (.ref f) [u]) (EP X pins σ Q) dR s:=by
 have Fp:s.heap.get? f=some (kla_obj name qual params body scope cl pm c' ed):=(I.ah f _ hf).1;have YI:s.heap.get? c'=some oc:=(I.ah c' _ ho).1;refine wpAny_call (kla_callFunE hr.depth Fp rfl S.co S.gen rfl ⟨c',oc,vs,tq,rfl,YI,hd,hv⟩ ?_);rw[hb];refine af (wpAny_newFunctionEnv S.GL (λx hx=>?_) (λBq i9 NU=>⟨(I.nolimit).fresh _ NU,?_⟩) S.kind)
 ·rw[az.mp hx];exact S.uX
 have ef:∀b o,s.heap.get? b=some o->Bq.get? b=some o:=λb o e=>NU.extBut b o (aV (aH e)) (ax _ e);have J:Inv (wQ X (p::aw.map (·.1)) scope cl qual f (.ref c') s H) [] (sq v σ aw) H { s with heap:=Bq,toks:=s.toks+1 }:=QE I hc S r i9 ef;show codeAny _ _ (.expr body (envX qual scope s.heap.objs.size f (.ref c') cl)) _ _;refine kla_codeExpr (cw (ny [] _ _ H Q J h) (λu' s' hs=>?_) λ_ _ z=>z.elim);obtain⟨v',H',J',rv,q⟩:=hs;exact I.after ⟨v',H',J'.os,J'.bare,J'.base,J'.ah,rv,q⟩
variable{P:Addr}
theorem Inv.lam{h':Heap}{fo:Obj}{ps more:Array Value}{tk:Nat}(I:Inv X pins σ H s)(hP:H P=some (.bC ps))(hx:∀b o,b≠P->s.heap.get? b=some o->h'.get? b=some o)(hg:s.heap.objs.size<=c')(pK:h'.get? c'=some oc)(M6:h'.get? P=some (tabObj (ps++more)))(l6:fo.isFreed=false) :
  Inv X pins σ (upd (upd (upd H P (.bC (ps++more))) c' (.aI oc (.own c'))) h'.objs.size (.aI fo (.own h'.objs.size))) { s with heap:=h'.push fo,toks:=tk }:=by
 have cQ:c'<h'.objs.size:=aH pK;have old:∀b o,s.heap.get? b=some o->b≠c'/\b≠h'.objs.size:=λb o e=>⟨aV (cf (aH e) hg),aV (g9 (cf (aH e) hg) cQ)⟩;have nX:∀b u,H b=some u->b≠c'/\b≠h'.objs.size:=λb u e=>⟨aV (cf (I.ah b u e).lt hg),aV (g9 (cf (I.ah b u e).lt hg) cQ)⟩;have at_:∀b,b≠c'->b≠h'.objs.size->b≠P->(upd (upd (upd H P (.bC (ps++more))) c' (.aI oc (.own c'))) h'.objs.size (.aI fo (.own h'.objs.size))) b=H b:=λb h1 h2 h3=>by rw[Zc h2,Zc h1,Zc h3]
 have nP:∀b u,H b=some u->(∀ps,u ≠ .bC ps)->b≠P:=λb u e n z=>by
  rw[z,hP] at e;injection e with e;exact n _ e.symm
 have Bt:∀b u,H b=some u->(∀ps,u ≠ .bC ps)->(upd (upd (upd H P (.bC (ps++more))) c' (.aI oc (.own c'))) h'.objs.size (.aI fo (.own h'.objs.size))) b=some u:=λb u e n=>by
  rw[at_ b (nX b u e).1 (nX b u e).2 (nP b u e n)];exact e
 have ef:∀b o,b≠P->s.heap.get? b=some o->(h'.push fo).get? b=some o:=λb o n e=>ax _ (hx b o n e);have GK:∀b,H b=none->b≠P:=λb e z=>by rw[z,hP] at e;cases e
 have xw:P≠c'/\P≠h'.objs.size:=nX P _ hP;have eP:(upd (upd (upd H P (.bC (ps++more))) c' (.aI oc (.own c'))) h'.objs.size (.aI fo (.own h'.objs.size))) P=some (.bC (ps++more)):=by rw[Zc xw.2,Zc xw.1,Za]
 refine I.un ⟨λb o e n _ _=>ef b o (GK b n) e,λb o e n _ _=>⟨o.slots,ef b o (GK b n) e⟩,λb o e n _=>?_,λb o e _=>?_,λb xs e=>Bt b _ e (λ_ z=>nomatch z),λb o u e=>Bt b _ e (λ_ z=>nomatch z),λb qs e=>?_⟩ ?_
 ·rw[at_ b (old b o e).1 (old b o e).2 (GK b n)];exact n
 ·by_cases hb:b=P
  ·exact⟨_,hb ▸ ax _ M6⟩
  ·exact⟨o,ef b o hb e⟩
 ·by_cases hb:b=P
  ·subst hb;rw[hP] at e;injection e with e;injection e with e;subst e;exact⟨more,eP⟩
  ·refine⟨#[],?_⟩;rw[at_ b (nX b _ e).1 (nX b _ e).2 hb,e];simp
 ·intro b u e;by_cases hf:b=h'.objs.size
  ·subst hf;rw[Za] at e;injection e with e;subst e;exact⟨bo _ l6,_,bo _ l6⟩
  ·rw[Zc hf] at e;by_cases hc:b=c'
   ·subst hc;rw[Za] at e;injection e with e;subst e;exact⟨ax _ pK,_,ax _ pK⟩
   ·rw[Zc hc] at e;by_cases hb:b=P
    ·subst hb;rw[Za] at e;injection e with e;subst e;exact ax _ M6
    ·rw[Zc hb] at e;refine(I.ah b u e).jR (λc v pw r=>ef c v ?_ r) (λc r=>Bt c _ r (λ_ z=>nomatch z)) λc xs r=>Bt c _ r (λ_ z=>nomatch z)
     rcases pw with rfl|pw
     ·exact hb
     ·exact nP c _ pw (λ_ z=>nomatch z)
theorem Iz{pos:Pos}{m:List Value}{cv:Value}:∀(l:List Value),codeAmong pos l=some cv->codeAmong pos (l++m)=some cv
 | [],h=>by unfold codeAmong at h;cases h
 | [_],h=>by unfold codeAmong at h;split at h <;> simp_all
 | [_,_],h=>by unfold codeAmong at h;split at h <;> simp_all
 | a::b::c::l,h=>by
  unfold codeAmong at h ⊢;rw[vi,vi,vi]
  split at h
  ·rename_i eU
   injection eU with e1 eU;injection eU with e2 eU;injection eU with e3 eU;subst e1 e2 e3 eU;dsimp only
   split at h
   ·rename_i hc
    rw[ai hc];exact h
   ·rename_i hc
    rw[ag hc];exact Iz l h
  ·cases h
variable{pos:Pos}
theorem Qq{pos':Pos}{c:Value}(aO : ¬ (pos'.line=pos.line/\pos'.col=pos.col)):∀{l:List Value},TriplesOk l->codeAmong pos' l=none->codeAmong pos' (l ++ [rawInt pos.line,rawInt pos.col,c])=none:=by
 intro l h hn
 fun_induction TriplesOk l with
 | case1 =>
  simp only[List.nil_append,codeAmong,rawInt];rw[ag];intro z;rw[eY,mH,mH] at z;exact aO ⟨by lia,by lia⟩
 | case2 a t b u x rest ih =>
  simp only[vi,codeAmong] at hn ⊢
  split at hn
  ·cases hn
  ·rename_i hc;rw[ag hc];exact ih h hn
 | case3 l h1 h2=>exact h.elim
def Ay(H:Hp)(f:Addr)(name qual:Str)(params:Arguments)(body:Expr)(scope:Scope)(cl:List (Str×Addr)):Prop :=
 ∃pm ed c' oc vs tq,H f=some (.aI (kla_obj name qual params body scope cl pm c' ed) (.own f))/\H c'=some (.aI oc (.own c'))/\oc.data=.fields vs/\vs[1]?= some (.str qual tq)
def cL(H:Hp)(P:Addr)(L:List (Pos×Str)):Prop :=
 ∃ps:Array Value,H P=some (.bC ps)/\TriplesOk ps.toList/\∀q∈L,codeAmong q.1 ps.toList=none\/∃c' oc vs tq,codeAmong q.1 ps.toList=some (.ref c')/\H c'=some (.aI oc (.own c'))/\oc.data=.fields vs/\vs[1]?= some (.str q.2 tq)
def fO(P:Addr)(H H':Hp):Prop := ∀b o,b≠P->H b=some o->H' b=some o
def o6(base:Heap)(mg:Str->Option Value):Prop := ∃bm o,mg "__builtins__" = some (.ref bm)/\bm≠builtinsNs/\bm≠mainGlobals/\base.get? bm=some o/\o.cls=.type "module" /\ o.dict=some builtinsNs/\o.data=.plain
theorem cL.new(L:List (Pos×Str))(h:H P=some (.bC #[])):cL H P L:=⟨#[],h,trivial,λ_ _=>.inl rfl⟩
variable{H':Hp}{L:List (Pos×Str)}
theorem cL.same(h:cL H P L)(s:∀b o,H b=some o->H' b=some o):cL H' P L:=by
 obtain⟨ps,h1,h2,h3⟩:=h;exact⟨ps,s _ _ h1,h2,λq hq=>(h3 q hq).imp id λ⟨c',oc,vs,tq,k1,k2,k3,k4⟩=>⟨c',oc,vs,tq,k1,s _ _ k2,k3,k4⟩⟩
theorem cL.keep(h:cL H P L)(s1:∀ps,H P=some (.bC ps)->H' P=some (.bC ps))(s2:∀b o u,H b=some (.aI o u)->H' b=some (.aI o u)):cL H' P L:=by
 obtain⟨ps,h1,h2,h3⟩:=h;exact⟨ps,s1 _ h1,h2,λq hq=>(h3 q hq).imp id λ⟨c',oc,vs,tq,k1,k2,k3,k4⟩=>⟨c',oc,vs,tq,k1,s2 _ _ _ k2,k3,k4⟩⟩
theorem SS{c:Addr}{eQ:List (Str×Addr)}{Q':Value->Shared->Prop}{E:Value->Shared->Prop}(I:Inv X pins σ H s)(bm:o6 X.base X.mg)(A2:X.env.code=.ref c)(uI:codeHdIn X.K c P=true)(T:cL H P L)
  (hm:(pos,X.env.qual ++ "<lambda>")∈L) (hu:∀q∈L,q.1.line=pos.line->q.1.col=pos.col->q.2=X.env.qual ++ "<lambda>") (bu:closureFor scope X.env=pure eQ) (YN:defaultsOf params X.env=([],[]))
  (h:∀f H' s',Inv X pins σ H' s'->H f=none->fO P H H'->cL H' P L->Ay H' f "<lambda>" (X.env.qual ++ "<lambda>") params body scope eQ->Q' (.ref f) s') :
  wpAny (model X.prog X.w) X.A (eval (.Lambda params body scope pos) X.env) Q' E s:=by
 obtain⟨ps,hP,ht,hL⟩:=T;have AU:s.heap.get? P=some (tabObj ps):=I.ah P _ hP;have C:CodeHd s.heap c P:=codeHd_of_K I.bK uI;have hg:s.heap.Ns mainGlobals X.mg:=I.mod.glob.keeps I.bk;have YX:mainGlobals≠P:=λq=>by
  obtain⟨o,es,ep,e,hd,_⟩:=hg;rw[q,AU] at e;cases e;cases hd
 obtain⟨Md,ob,b1,b2,b3,b4,b5,b6,b7⟩:=bm;have B_:=I.bk _ _ b4;have Yv:Md≠P:=λq=>by
  rw[q,AU] at B_;cases B_;cases b5
 have BA:s.heap.BuiltinsAt X.mg P:=⟨Md,ob,b1,b2,b3,Yv,B_,b5,b6,b7⟩;refine kla_eval YN ?_;rcases hL _ hm with hn|⟨c',oc,vs,tq,k1,k2,k3,k4⟩
 ·refine kla_makeFunction (mg:=X.mg) bu I.ok.glob hg A2 C AU ht hn YX BA λc' ed h' tk hx xK au Zpl FX=>?_;obtain⟨c2,oc,vs,tq,e2,pK,hd,hv⟩:=Zpl;cases e2;have J:=I.lam (tk:=tk) (fo:=kla_obj "<lambda>" (X.env.qual ++ "<lambda>") params body scope eQ ((X.mg "__name__").getD .none) c' ed) hP (λb o n e=>hx b o n e) xK pK FX rfl;have nX:∀b u,H b=some u->b≠c'/\b≠h'.objs.size:=λb u e=>⟨aV (cf (I.ah b u e).lt xK),aV (g9 (cf (I.ah b u e).lt xK) au)⟩;have nc:c'≠h'.objs.size:=aV au;have xw:=nX P _ hP;have sT:fO P H (upd (upd (upd H P (.bC (ps ++ #[rawInt pos.line,rawInt pos.col,.ref c']))) c' (.aI oc (.own c'))) h'.objs.size (.aI (kla_obj "<lambda>" (X.env.qual ++ "<lambda>") params body scope eQ ((X.mg "__name__").getD .none) c' ed) (.own h'.objs.size))):=λb o n e=>by
   rw[Zc (nX b o e).2,Zc (nX b o e).1,Zc n];exact e
  refine h _ _ _ J (I.ah.fresh (bD xK (iN au))) sT ⟨ps ++ #[rawInt pos.line,rawInt pos.col,.ref c'],?_,?_,λq hq=>?_⟩ ⟨_,_,c',oc,vs,tq,Za,?_,hd,hv⟩
  ·rw[Zc xw.2,Zc xw.1,Za]
  ·rw[Array.toList_append];exact TriplesOk_snoc _ _ _ _ ht
  ·have kc:∀{q:Str},q=X.env.qual ++ "<lambda>" -> vs[1]?= some (.str q tq):=λe=>by rw[e];exact hv
   have pw:(upd (upd (upd H P (.bC (ps ++ #[rawInt pos.line,rawInt pos.col,.ref c']))) c' (.aI oc (.own c'))) h'.objs.size (.aI (kla_obj "<lambda>" (X.env.qual ++ "<lambda>") params body scope eQ ((X.mg "__name__").getD .none) c' ed) (.own h'.objs.size))) c'=some (.aI oc (.own c')):=by rw[Zc nc,Za]
   rw[Array.toList_append];rcases hL q hq with zx|⟨c2,oc2,Ho,t2,j1,j2,j3,j4⟩
   ·by_cases z:q.1.line=pos.line/\q.1.col=pos.col
    ·refine .inr ⟨c',oc,vs,tq,?_,pw,hd,kc (hu q hq z.1 z.2)⟩;have:=codeAmong_snoc (pos:=q.1) (c:=.ref c') ps.toList ht zx;rw[z.1,z.2] at this;exact this
    ·exact .inl (Qq z ht zx)
   ·refine .inr ⟨c2,oc2,Ho,t2,Iz _ j1,sT c2 _ (λz=>?_) j2,j3,j4⟩;rw[z,hP] at j2;cases j2
  ·rw[Zc nc,Za]
 ·refine kla_makeFunctionHit (mg:=X.mg) bu I.ok.glob hg A2 C AU ht k1 BA λed h' tk hk hsz=>?_;have hn:H h'.objs.size=none:=I.ah.fresh hsz;have J:Inv X pins σ (upd H h'.objs.size (.aI (kla_obj "<lambda>" (X.env.qual ++ "<lambda>") params body scope eQ ((X.mg "__name__").getD .none) c' ed) (.own h'.objs.size))) { s with heap:=h'.push (kla_obj "<lambda>" (X.env.qual ++ "<lambda>") params body scope eQ ((X.mg "__name__").getD .none) c' ed),toks:=tk } :=
   I.laid (λb u e=>ax _ (hk b u e)) hsz ⟨bo _ rfl,_,bo _ rfl⟩
  have sm:∀b o,H b=some o->(upd H h'.objs.size (.aI (kla_obj "<lambda>" (X.env.qual ++ "<lambda>") params body scope eQ ((X.mg "__name__").getD .none) c' ed) (.own h'.objs.size))) b=some o:=λb o e=>by
   rw[Zc (Zg e hn)];exact e
  exact h _ _ _ J hn (λb o _ e=>sm b o e) (cL.same ⟨ps,hP,ht,hL⟩ sm) ⟨_,_,c',oc,vs,tq,Za,sm _ _ k2,k3,k4⟩
variable{K:PySem.W.Frag}
theorem aj.BL{l:Addr}{xs:List V}(h:aj K H l xs)(T:cL H P L)(s:fO P H H'):aj K H' l xs:=by
 obtain⟨ps,hP,_⟩:=T;have ne:∀o,H l=some o->(∀qs,o ≠ .bC qs)->l≠P:=λo e n z=>by
  rw[z,hP] at e;injection e with e;exact n _ e.symm
 rcases h with(h|⟨o,h⟩)|h
 ·exact .inl (.inl (s _ _ (ne _ h λ_ z=>nomatch z) h))
 ·exact .inl (.inr ⟨o,s _ _ (ne _ h λ_ z=>nomatch z) h⟩)
 ·exact .inr h
theorem qN.in1(h:qN X scope cl p aw):qN (bA X) scope cl p aw:=⟨h.kind,h.co,h.gen,h.GL,h.uX,h.own,h.has,h.Mf⟩
structure HN(X:Cx)(P:Addr)(L:List (Pos×Str))(params:Arguments)(scope:Scope)(body:Expr)(uT:Pos)(eQ:List (Str×Addr))(px:Str)(aw:List (Str×Nat))(kb:Nat)(t:TE):Prop where
 bm:o6 X.base X.mg
 code:∃c,X.env.code=.ref c/\codeHdIn X.K c P=true
 mem:(uT,X.env.qual ++ "<lambda>")∈L
 one:∀q∈L,q.1.line=uT.line->q.1.col=uT.col->q.2=X.env.qual ++ "<lambda>"
 cl:closureFor scope X.env=pure eQ
 df:defaultsOf params X.env=([],[])
 sc:qN X scope eQ px aw
 bind:∀pm c' ed u,bindArgs (kla_fn "<lambda>" (X.env.qual ++ "<lambda>") params body scope eQ pm (.ref c') ed) ⟨[u],[]⟩=pure [(px,u)]
 body:∀A' f cd s H,bj kb (A'.deeper (envX (X.env.qual ++ "<lambda>") scope s.heap.objs.size f cd eQ))->PE (wQ { X with A:=A',xe:=dR } (px::aw.map (·.1)) scope eQ (X.env.qual ++ "<lambda>") f cd s H) body t
theorem U2(h:∀p∈scope.names,p.2=.free->∃c,cl.lookup p.1=some c):∀x,scope.names.lookup x=some .free->∃c,cl.lookup x=some c:=λx e=>h (x,.free) (sY e) rfl
structure PN(ts:List Addr)(a:Addr)(H:Hp):Prop where
 tab:∀p∈ts,H p=some (.bC #[])
 no:∀b,b∉ts->b≠a->H b=none
 scr:a∉ts->H a=none\/∃o xs,H a=some (.aI o (.lst xs))
variable{P:Program}{w:World}{mg:Str->Option Value}{base:Heap}{x:Str}{ts:List Addr}
theorem RF{mb:Str->Option Value}{k:Nat}{fa a:Addr}{fd:FuncData}{sp:Sp}{aL : Shared}{vs:List Value}{ns:List Int}
  (KX:K.In aL.heap) (i9:aL.heap.Ns mainGlobals mg) (hb:aL.heap.Ns builtinsNs mb) (A0:∀x:Str,x ≠ "__name__" -> mb x=bootBuiltins x) (Zp:aL.heap.NoLimit) (hg:aL.gens=#[])
  (Yy:∃bm o,mg "__builtins__" = some (.ref bm)/\bm≠builtinsNs/\aL.heap.get? bm=some o/\o.cls=.type "module" /\ o.dict=some builtinsNs/\o.data=.plain)
  (pR:∀p∈ts,aL.heap.get? p=some (tabObj #[])) (Bm:∀p∈ts,K.lookup p=none) (htc:∀p∈ts,∃c,codeHdIn K c p=true)
  (ha:aL.heap.get? a=some { cls:=.type "list",data:=.seq vs.toArray }) (hi:IntsAre vs ns) (hl:ns.length<=sizeLine) (hr:bj k callerA)
  (F:∀base:Heap,K.In base->base.Ns mainGlobals mg->o6 base mg->aX P w K mg base cx k fa fd [x] sp) (Yx:∀(s:Shared)(u:Value),BindsTo s fd ⟨[u],[]⟩ [(x,u)])
  (iF:∀H:Hp,(∀p∈ts,H p=some (.bC #[]))->aj K H a (ns.map V.int)->sp [.ref a] H (λv _=>v=.bl true) λ_ _ _=>False) :
  codeAny (model P w) callerA (.call (.ref fa) ⟨[.ref a],[]⟩) (λr s'=>r=.ok (.ret (.bool true))/\OldK aL.heap s'.heap/\s'.os=aL.os/\AllBare s'.gens) aL := by
 have rv:=Jp hi;have Zqd:=hi.length;have nu:a∉ts:=λz=>by
  have:=pR a z;rw[ha] at this;cases this
 have core:∀H:Hp,PN ts a H->aj K H a (ns.map V.int)->a9 P w H aL.heap->(H a≠none->K.lookup a=none) ->
   codeAny (model P w) callerA (.call (.ref fa) ⟨[.ref a],[]⟩) (λr s'=>r=.ok (.ret (.bool true))/\OldK aL.heap s'.heap/\s'.os=aL.os/\AllBare s'.gens) aL := by
  intro H hO hS ah hK;have Em:∀{b:Addr}{o:Obj},aL.heap.get? b=some o->H b=none->(lS aL.heap H).get? b=some o:=λe n=>Tp e n;have other:∀{b:Addr}{o:Obj},aL.heap.get? b=some o->(∀z n,o.data ≠ .seq z n)->(∀z,o.data ≠ .fields z)->H b=none:=λ{b o} e n1 n2=>by
   refine hO.no b (λz=>?_) λz=>?_
   ·have:=pR b z;rw[e] at this;cases this;exact n2 _ rfl
   ·subst z;rw[ha] at e;cases e;exact n1 _ _ rfl
  have BD:∀{b:Addr}{m:Str->Option Value},aL.heap.Ns b m->(lS aL.heap H).Ns b m:=λ{b m} ⟨o,es,ep,e,d,r⟩=>⟨o,es,ep,Em e (other e (λ_ _ z=>by rw[d] at z;cases z) λ_ z=>by rw[d] at z;cases z),d,r⟩;have M3:K.In (lS aL.heap H):=λb o e=>Em (KX b o e) (by
   by_cases hb:b∈ts
   ·rw[Bm b hb] at e;cases e
   ·by_cases nv:b=a
    ·subst nv;cases q:H b with
     | none=>rfl
     | some u =>
      rw[hK (by rw[q];simp)] at e;cases e
    ·exact hO.no b hb nv)
  have hM:Mod K mg (lS aL.heap H):=⟨M3,BD i9,⟨mb,BD hb,A0⟩,let ⟨mc,h1,h2⟩:=Zp;⟨mc,BD h1,h2⟩⟩;obtain⟨bm,ob,b1,b2,b3,b4,b5,b6⟩:=Yy;have Yt:bm≠mainGlobals:=λq=>by
   obtain⟨o,es,ep,e,hd,_⟩:=i9;rw[q,e] at b3;cases b3;rw[hd] at b6;cases b6
  have hB:o6 (lS aL.heap H) mg:=⟨bm,ob,b1,b2,Yt,Em b3 (other b3 (λ_ _ z=>by rw[b6] at z;cases z) λ_ z=>by rw[b6] at z;cases z),b4,b5,b6⟩;have e0:qK P w K mg (lS aL.heap H) callerA [] aL H:=⟨rfl,hM,λb o e=>Ul e,Nat.le_of_eq (Sz _ _),trivial,λb hb=>absurd (show b∈([]:List Addr) from hb) (by simp),ah,.of_eq hg⟩;refine ow ((F _ M3 (BD i9) hB).run callerA [] aL H ⟨[.ref a],[]⟩ [.ref a] [.ref a] _ _ hr e0 (Yx aL (.ref a)) (.cons rfl .nil) (iF H hO.tab hS)) λr s' h=>?_
  match r,h with
  | .ok (.ret u),h =>
   obtain⟨v,H',os,bare,un,HA,r',q⟩:=h;have q':v=.bl true:=q;subst q';obtain rfl:u=Value.bool true:=r';have BB:∀b,b∉gj []:=λb z=>absurd (show b∈([]:List Addr) from z) (by simp);have OU:∀b∈ts,∃ps,s'.heap.get? b=some (tabObj ps):=λb hb=>by
    obtain⟨more,e⟩:=un.kY b _ (hO.tab b hb);exact⟨_,HA b _ e⟩
   have N':∀b o,b∉ts->aL.heap.get? b=some o->s'.heap.get? b=some o:=λb o hb e=>by
    by_cases nv:b=a
    ·subst nv;rcases hO.scr hb with z|⟨ob,xs,z⟩
     ·exact un.keep b o e z (BB b) (by simp)
     ·have z2:=un.kr b ob _ z;obtain⟨e1,_⟩:=ah b _ z;obtain⟨e2,_⟩:=HA b _ z2;rw[e] at e1;cases e1;exact e2
    ·exact un.keep b o e (hO.no b hb nv) (BB b) (by simp)
   refine⟨rfl,⟨λb o e=>?_,λb o e=>?_⟩,os,bare⟩
   ·by_cases hb:b∈ts
    ·obtain⟨ps,e2⟩:=OU b hb;obtain⟨c,hc⟩:=htc b hb;have ht:=pR b hb;rw[e] at ht;cases ht;exact .inr (.inl ⟨((codeHd_of_K KX hc).tab (pR b hb)).isCodeTable,rfl,#[],ps,rfl,by rw[Array.empty_append];exact e2⟩)
    ·exact .inl (N' b o hb e)
   ·by_cases hb:b∈ts
    ·obtain⟨ps,e2⟩:=OU b hb;exact⟨_,e2⟩
    ·exact⟨o,N' b o hb e⟩
 have OV:∀{H:Hp}(p:Addr),p∈ts->ZL P w H aL.heap p (.bC #[]):=λp hp=>pR p hp;cases hk:K.lookup a with
 | some o =>
  have e:=KX a o hk;rw[ha] at e;cases e;refine core (λb=>if b∈ts then some (.bC #[]) else none) ⟨λp hp=>ai hp,λb hb _=>ag hb,λh=>.inl (ag h)⟩ (.inr ⟨_,vs.toArray,_,hk,rfl,rfl,rfl,by rw[bP,Zqd];exact hl,by simpa using rv⟩) (λb u z=>?_) λz=>absurd (ag nu) z
  by_cases hb:b∈ts
  ·have z:=(ai hb).symm.trans z;cases z;exact OV b hb
  ·have z:=(ag hb).symm.trans z;cases z
 | none =>
  refine core (λb=>if b∈ts then some (.bC #[]) else if b=a then some (.aI { cls:=.type "list",data:=.seq vs.toArray } (.lst (ns.map V.int))) else none)
   ⟨λp hp=>ai hp,λb hb hn=>(ag hb).trans (ag hn),λh=>.inr ⟨_,_,(ag h).trans (ai rfl)⟩⟩ (.inl (.inr ⟨{ cls:=.type "list",data:=.seq vs.toArray },(ag nu).trans (ai rfl)⟩)) (λb u z=>?_) λ_=>hk
  by_cases hb:b∈ts
  ·have z:=(ai hb).symm.trans z;cases z;exact OV b hb
  ·have z:=(ag hb).symm.trans z;by_cases nv:b=a
   ·have z:=(ai nv).symm.trans z;cases z;subst nv;exact⟨ha,by rw[ay];exact hl,vs,_,rv,ha⟩
   ·have z:=(ag nv).symm.trans z;cases z
theorem Te{l:PySem.W.OpenLaw}{n k:Nat}{q:Program}{loose:List Str}{XP:(Str->Option Value)->Heap->Prop}{YP:World->Heap->Prop}{d:DefRec}{K:Params->PySem.W.Frag}{sp:World->Sp}
  (hn:l.most=some n) (uL:n<=sizeLine) (xG:d.params.defaults=[]) (hr:bj k callerA)
  (hY:∀(w:World)(h:Heap),YP w h->(K w.params).In h/\∀p∈ts,h.get? p=some (tabObj #[]))
  (F:∀(w:World)(mg:Str->Option Value)(fa:Addr)(h:Heap),(K w.params).In h->h.Ns mainGlobals mg->mg d.name=some (.ref fa) ->
   ∃fd:FuncData,(∀(s:Shared)(u:Value),BindsTo s fd ⟨[u],[]⟩ [(x,u)])/\(∀p∈ts,(K w.params).lookup p=none/\∃c,codeHdIn (K w.params) c p=true)/\∀base:Heap,(K w.params).In base->base.Ns mainGlobals mg->o6 base mg->aX l.prog w (K w.params) mg base cx k fa fd [x] (sp w))
  (iF:∀(w:World)(H:Hp)(a:Addr)(ns:List Int),ns.length<=n->(∀p∈ts,H p=some (.bC #[]))->aj (K w.params) H a (ns.map V.int)->sp w [.ref a] H (λv _=>v=.bl true) λ_ _ _=>False) :
  PySem.W.WalkO q loose XP YP l.row.toRowW d [] (λf vs=>PySem.call f vs):=by
 refine HH.Qh hn xG λw cO aL mg mb fa o pm cd doc a vs ns G Y ho hd eF rT FE hints hlen hg=>?_;obtain⟨KX,pR⟩:=hY w _ Y;obtain⟨fd,hb,ht,hF⟩:=F w mg fa _ KX G.T.g rT;exact RF KX G.T.g G.T.b G.T.builtins G.T.nolimit hg (let ⟨bm,ob,b1,b2,b3,b4,b5,b6⟩:=G.T.bmain;⟨bm,ob,b1,b2,b3,b4,b5,b6⟩) pR (λp hp=>(ht p hp).1) (λp hp=>(ht p hp).2) FE hints (bD hlen uL) hr hF hb λH hO hS=>iF w H a ns hlen hO hS
end L2
namespace Fg
open PySem L2
def Aj(K:PySem.W.Frag)(ts:List Addr):Sp:=λvs H Q _=>∃(a:Addr)(ns:List Int),vs=[.ref a]/\aj K H a (ns.map V.int)/\ns.length<=63/\(∀p∈ts,H p=some (.bC #[]))/\∀H',Q (.bl true) H'
end Fg
namespace L2
open PySem PySem.Spec PyProof.Rows PySem.SeqAt
def c6(bf:Nat->Nat->Bool):Nat->Nat
 | 0=>0
 | n+1=>if bf (n+1) (c6 bf n)=true then n+1 else c6 bf n
end L2
namespace L2
open PySem PySem.Spec PyProof.Rows PySem.W
open PySem.Sem (wp)
section
variable{prog:Program}{w:World}{K J:Type}[DecidableEq K][DecidableEq J](knd:KeyKind prog w K)(hk:HeapKind prog w J)
def ZM(h:Heap)(p:K×J)(a:Addr):Prop := ∃o v b n,h.get? a=some o/\o.cls=.type "tuple" /\ o.data=.seq #[v,.ref b] n/\knd.is p.1 v=true/\hk.is h p.2 b
variable{knd hk}
variable{a:Addr}
theorem ZM.typeIs{s:Shared}{p:K×J}(x:ZM knd hk s.heap p a):s.TypeIs (.ref a) "tuple" := let ⟨o,_,_,_,ho,hc,_⟩:=x;⟨o,ho,hc⟩
theorem ZM.inj{h:Heap}{a:Addr}{x y:K×J}(hx:ZM knd hk h x a)(hy:ZM knd hk h y a):x=y:=by
 obtain⟨o,v,b,n,ho,_,hd,h1,h2⟩:=hx;obtain⟨o',v',b',n',bN,_,bQ,mO,h_⟩:=hy;obtain rfl:o=o':=cE (ho.symm.trans bN);rw[hd] at bQ;injection bQ with e1 _;have e2:=congrArg Array.toList e1;simp only[List.cons.injEq,Value.ref.injEq,and_true] at e2;obtain⟨rfl,rfl⟩:=e2;exact Prod.ext (knd.inj _ _ _ h1 mO) (hk.inj h2 h_)
theorem ZM.keeps{h h':Heap}{p:K×J}{a d:Addr}{o:Obj}{es ep}(x:ZM knd hk h p a)(ho:h.get? d=some o)(hd:o.data=.dict es ep)(hs:Heap.SameBut d h h'):ZM knd hk h' p a:=by
 obtain⟨o',v,b,n,bN,hc,bQ,h1,h2⟩:=x;have aO:a≠d:=by
  rintro rfl;obtain rfl:o'=o:=cE (bN.symm.trans ho);rw[hd] at bQ;exact nomatch bQ
 exact⟨o',v,b,n,(hs.2 a aO).trans bN,hc,bQ,h1,hk.keeps h2 ho hd hs⟩
def Dg(knd:KeyKind prog w K)(hk:HeapKind prog w J)(p:K×J):Int:=reduceHash (Builtin.Tuple.tupleHashOf [knd.hash p.1,hk.hash p.2])
variable{A:Around}{E:Value->Shared->Prop}{s:Shared}
theorem PV{p:K×J}{Q:Int->Shared->Prop}(hu:A.units<cLine)(hr:∀A':Around,A'.units<=A.units+8->hk.room A')(x:ZM knd hk s.heap p a)(h:Q (Dg knd hk p) { s with toks:=s.toks+(hk.draws p.2+2) }) :
  wpAny (model prog w) A (pyHash (.ref a)) Q E s:=by
 have hT:=x.typeIs;obtain⟨o,v,b,n,ho,_,hd,h1,h2⟩:=x;unfold pyHash
 first|unfold pyHashByItsType|skip
 first|refine ae (wpAny_cRoomFor_or (.inr hu) ?_)|skip
 refine ae (oB hT yQ.lookup ?_);show wpAny _ _ (if(some (Value.builtin "tuple.__hash__") == some Value.none)=true then _ else _) Q E s
 rw[ag (by rw[beq_builtin_none];exact dW)];refine ae (oB hT yQ.lookup ?_);show wpAny _ _ (callSpecialIfBoundUnlessNone? (.ref a) "__hash__" _ >>= _) Q E s;refine ae (wpAny_callSpecialIfBoundUnlessNone?_slot hT yQ (mL yQ hT F.entry_tuple_hash ?_ (F.args_tuple_hash_1 _)));show wpAny _ _ (Builtin.Tuple.tupleItemsOf (.ref a) >>= _) _ _ s;refine ae (wpAny_tupleItemsOf ho hd ?_);refine ae ?_;rw[<- BR];show wpAny _ _ (forIn [v,.ref b] _ _) _ _ s;rw[qr];refine ae (ae (knd.pyHash h1 ?_));refine af ?_;show wpAny _ _ (forIn [Value.ref b] _ _) _ _ _;rw[qr];refine ae (ae (hk.pyHash (hr A.in1 (by show A.units+1<=A.units+8;lia)) h2 ?_));refine af ?_;show wpAny _ _ (forIn [] _ _) _ _ _;rw[List.forIn_nil];refine af ?_;show wpAny _ _ (retInt (Builtin.Tuple.tupleHashOf [knd.hash p.1,hk.hash p.2])) _ _ _;refine wpAny_ret_mkInt ?_;show wpAny _ _ (if(decide (-(2:Int) ^ 63<=Builtin.Tuple.tupleHashOf [knd.hash p.1,hk.hash p.2])&&decide (Builtin.Tuple.tupleHashOf [knd.hash p.1,hk.hash p.2]<2 ^ 63))=true then _ else _) Q E _
 unfold Dg reduceHash at h;by_cases hr:(decide (-(2:Int) ^ 63<=Builtin.Tuple.tupleHashOf [knd.hash p.1,hk.hash p.2])&&decide (Builtin.Tuple.tupleHashOf [knd.hash p.1,hk.hash p.2]<2 ^ 63))=true
 ·rw[ai hr];rw[ai hr] at h;refine af ?_;rw[show s.toks+1+hk.draws p.2+1=s.toks+(hk.draws p.2+2) by lia];exact h
 ·rw[ag hr];rw[ag hr] at h;refine ae (oz (af ?_));rw[show s.toks+1+hk.draws p.2+1=s.toks+(hk.draws p.2+2) by lia];exact h
variable{b:Addr}
theorem Qs{x y:K×J}{P:Fin->Shared->Prop}(hr:hk.room A)(hx:ZM knd hk s.heap x a)(hy:ZM knd hk s.heap y b)(h:P (.done (.ret (.bool (decide (x=y))))) s) :
  wpAny (model prog w) A (Builtin.«tuple.__eq__» ⟨[.ref a,.ref b],[]⟩) P E s:=by
 have xA:=hy.typeIs;obtain⟨oa,v1,b1,na,hoa,_,ky,h1,h2⟩:=hx;obtain⟨ob,v2,b2,nb,gU,_,du,k1,k2⟩:=hy;show wpAny _ _ (isInstance (.ref b) (.type "tuple") >>= _) _ _ s;refine ae (oy xA isSubtype_tuple_tuple ?_);simp only[qi,eZ,dB];refine ae (wpAny_tupleItemsOf hoa ky ?_);refine ae (wpAny_tupleItemsOf gU du ?_);refine ae ?_;show wpAny _ _ (forIn [(v1,v2),(Value.ref b1,Value.ref b2)] _ _) _ _ s;rw[qr];refine ae (ae (knd.eqBool (a:=x.1) (b:=y.1) h1 k1 ?_));by_cases e1:x.1=y.1
 ·rw[aF e1];simp only[qi,eZ,dB];refine af ?_;show wpAny _ _ (forIn [(Value.ref b1,Value.ref b2)] _ _) _ _ s;rw[qr];refine ae (ae (hk.eqBool hr h2 k2 ?_));by_cases e2:x.2=y.2
  ·rw[aF e2];simp only[qi,eZ,dB];refine af ?_;show wpAny _ _ (forIn [] _ _) _ _ s;rw[List.forIn_nil];refine af ?_;rw[aF (Prod.ext e1 e2)] at h;exact af h
  ·rw[a8 e2];simp only[Bool.not_false,lq];rw[a8 (λz=>e2 (by rw[z]))] at h;exact ae (af (af (af (af h))))
 ·rw[a8 e1];simp only[Bool.not_false,lq];rw[a8 (λz=>e1 (by rw[z]))] at h;exact ae (af (af (af (af h))))
variable{Q:Bool->Shared->Prop}
theorem PU{x y:K×J}(hu:A.units<cLine)(hr:∀A':Around,A'.units<=A.units+8->hk.room A')(hx:ZM knd hk s.heap x a)(hy:ZM knd hk s.heap y b)(h:Q (decide (x=y)) s) :
  wpAny (model prog w) A (eqBool (.ref a) (.ref b)) Q E s:=by
 unfold eqBool
 try with_reducible refine dC ?_
 show wpAny _ _ (if(Value.ref a == Value.ref b)=true then _ else _) Q E s
 by_cases c8:(Value.ref a == Value.ref b)=true
 ·rw[ai c8];have e:a=b:=by have:=eq_of_beq c8;injection this
  subst e;obtain rfl:=hx.inj hy;exact ae (oz (af (by simpa using h)))
 ·rw[ag c8];exact ae (wpAny_richCompare_same_room (op:=.Eq) hx.typeIs hy.typeIs F.slot_tuple_eq
   (mL F.slot_tuple_eq hx.typeIs F.entry_tuple_eq (Qs (hr _ (by first|exact vw _ _|(show A.units+1<=A.units+8;lia)|(show A.units+2<=A.units+8;lia))) hx hy ⟨_,rfl,(λe=>nomatch e),mN h⟩) (F.args_tuple_eq_2 _ _)) hu)
theorem QZ(knd:KeyKind prog w K){ks:List K}{a:Addr}{m:Nat}{Q:Bool->Shared->Prop}(hk:IsTupleKey knd s.heap ks a)(h:Q true s):wpAny (model prog w) A (eqIsQuiet (m+1) (.ref a)) Q E s:=by
 have hT:=hk.typeIs;obtain⟨o,items,n,ho,_,hd,hi⟩:=hk;unfold eqIsQuiet;refine ae (oB hT F.slot_tuple_eq.lookup ?_);show wpAny _ _ (isInstance (.ref a) (.type "tuple") >>= _) _ _ s;refine ae (oy hT isSubtype_tuple_tuple ?_);simp only[qi,eZ,dB];refine ae (oA ho hd ?_);refine ae ?_;show wpAny _ _ (forIn items _ _) _ _ s;rw[<- BR];refine zh _ (λrest r s'=>r.1=none/\s'=s/\∀v∈rest,carriedByValue v=true) _ ?_ ?_ _ _ ⟨rfl,rfl,hi.byValue⟩
 ·rintro v rest r s' ⟨hr,rfl,cM⟩;rw[eqIsQuiet_byValue _ (cM v aU)];refine ae (af ?_);simp only[qi,eZ,dB];exact af ⟨rfl,rfl,λu vI=>cM u (aR _ vI)⟩
 ·rintro⟨r1,r2⟩ s' ⟨hr,rfl,_⟩;simp only at hr;subst hr;exact af h
theorem QY{p:K×J}{m:Nat}(hq:∀{A:Around}{E:Value->Shared->Prop}{s:Shared}{j:J}{b:Addr}{Q:Bool->Shared->Prop},hk.is s.heap j b->Q true s->wpAny (model prog w) A (eqIsQuiet m (.ref b)) Q E s)
  (x:ZM knd hk s.heap p a) (h:Q true s):wpAny (model prog w) A (eqIsQuiet (m+1) (.ref a)) Q E s:=by
 have hT:=x.typeIs;obtain⟨o,v,b,n,ho,_,hd,h1,h2⟩:=x;rw[eqIsQuiet];refine ae (oB hT F.slot_tuple_eq.lookup ?_);show wpAny _ _ (isInstance (.ref a) (.type "tuple") >>= _) _ _ s;refine ae (oy hT isSubtype_tuple_tuple ?_);simp only[qi,eZ,dB];refine ae (oA ho hd ?_);refine ae ?_;show wpAny _ _ (forIn #[v,Value.ref b] _ _) _ _ s;rw[<- BR];show wpAny _ _ (forIn [v,Value.ref b] _ _) _ _ s;rw[qr,eqIsQuiet_byValue _ (knd.byValue _ _ h1)];refine ae (ae (af ?_));simp only[qi,eZ,dB];refine af ?_;show wpAny _ _ (forIn [Value.ref b] _ _) _ _ s;rw[qr];refine ae (ae (hq h2 ?_));simp only[qi,eZ,dB];refine af ?_;show wpAny _ _ (forIn [] _ _) _ _ s;rw[List.forIn_nil];exact af (af h)
end
def Ti{prog:Program}{w:World}{K:Type}[DecidableEq K](knd:KeyKind prog w K):HeapKind prog w (K×List K) where
 is:=ZM knd (tupleKind knd)
 hash:=Dg knd (tupleKind knd)
 draws:=λp=>p.2.length+3
 room:=λA=>A.units+20<cLine
 inj:=λhx hy=>hx.inj hy
 keeps:=λx ho hd hs=>x.keeps ho hd hs
 pyHash:=λhu hk h=>PV (ou (vw _ 20) hu) (λA' h'=>(show A'.units<cLine by lia)) hk h
 eqBool:=λhu hx hy h=>PU (ou (vw _ 20) hu) (λA' h'=>(show A'.units<cLine by lia)) hx hy h
 quiet:=λhk h=>QY (m:=7) (λx q=>QZ (m:=6) knd x q) hk h
end L2
namespace L2
open PySem PySem.Spec PyProof.Rows PySem.W
abbrev ZG:=Key×List Key
abbrev fz(P:Program)(w:World):HeapKind P w ZG:=Ti (ZC P w)
def aN(H:Hp)(b:Addr)(k:ZG):Prop := ∃c,H b=some (.tup [kV k.1,.ref c])/\H c=some (.tup (k.2.map kV))
variable{H:Hp}{b:Addr}
theorem aN.mono{H':Hp}{k:ZG}(h:aN H b k)(t:∀c xs,H c=some (.tup xs)->H' c=some (.tup xs)):aN H' b k:=by
 obtain⟨c,h1,h2⟩:=h;exact⟨c,t _ _ h1,t _ _ h2⟩
def NR(aa:List (ZG×Addr×V))(xs:List (ZG×Addr×Value)):Prop:=Paired (λp q=>p.1=q.1/\p.2.1=q.2.1/\RelV p.2.2 q.2.2) aa xs
def Zm(P:Program)(w:World)(a:Addr)(aa:List (ZG×Addr×V)):HO:=.ext λh=>aa.length<=sizeLine/\(a == sysModules)=false/\∃xs,NR aa xs/\∃o es ep,h.get? a=some o/\o.ExactDict/\o.data=.dict es ep/\es.toList=xs.map (entryOfKey (fz P w))/\(xs.map (·.1)).Nodup
def bF(P:Program)(w:World)(H:Hp)(a:Addr)(aa:List (ZG×Addr×V)):Prop:=H a=some (Zm P w a aa)/\∀x∈aa,aN H x.2.1 x.1
def eM(P:Program)(w:World)(H:Hp)(a:Addr)(aa:List (ZG×Addr×V)):Prop:=Rd H a (Zm P w a aa)/\∀x∈aa,aN H x.2.1 x.1
variable{P:Program}{w:World}{a:Addr}{aa:List (ZG×Addr×V)}
theorem bF.r(h:bF P w H a aa):eM P w H a aa:=⟨.inl h.1,h.2⟩
def valN(aa:List (ZG×Addr×V))(k:ZG):Option V:=(aa.find? λx=>decide (x.1=k)).map (·.2.2)
def putN(aa:List (ZG×Addr×V))(k:ZG)(b:Addr)(v:V):List (ZG×Addr×V):=if(aa.find? λx=>decide (x.1=k)).isSome then aa.map (λx=>if x.1=k then(x.1,x.2.1,v) else x) else aa ++ [(k,b,v)]
theorem NR.find{aa:List (ZG×Addr×V)}{xs:List (ZG×Addr×Value)}(r:NR aa xs)(k:ZG):(aa.find? (λx=>decide (x.1=k))=none/\xs.find? (λx=>decide (x.1=k))=none)\/∃p q,aa.find? (λx=>decide (x.1=k))=some p/\xs.find? (λx=>decide (x.1=k))=some q/\RelV p.2.2 q.2.2:=by
 induction r with
 | nil=>exact .inl ⟨rfl,rfl⟩
 | @cons p q ps qs h t ih =>
  by_cases e:p.1=k
  ·exact .inr ⟨p,q,qp (aF e),qp (aF (by rw[<- h.1];exact e)),h.2.2⟩
  ·rw[qo (by simpa using e),qo (by rw[<- h.1];simpa using e)];exact ih
variable{xs:List (ZG×Addr×Value)}
theorem NR.val(r:NR aa xs)(k:ZG):fg (valN aa k) ((atKey xs k).map (·.2)):=by
 unfold valN atKey;rcases r.find k with⟨e1,e2⟩|⟨p,q,e1,e2,h⟩
 ·rw[e1,e2];exact True.intro
 ·rw[e1,e2];exact h
theorem NR.put(r:NR aa xs)(k:ZG)(b:Addr){v:V}{u:Value}(rv:RelV v u):NR (putN aa k b v) (storedH xs k b u):=by
 have m:NR (aa.map λx=>if x.1=k then(x.1,x.2.1,v) else x) (xs.map (putAt k u)):=by
  clear b
  induction r with
  | nil=>exact .nil
  | @cons p q ps qs h t ih =>
   refine .cons ?_ ih;unfold putAt;dsimp only;by_cases e:p.1=k
   ·rw[ai e,ai (by rw[<- h.1];exact e)];exact⟨h.1,h.2.1,rv⟩
   ·rw[ag e,ag (by rw[<- h.1];exact e)];exact h
 unfold putN storedH atKey;rcases r.find k with⟨e1,e2⟩|⟨p,q,e1,e2,h⟩
 ·rw[e1,e2];exact Paired.app r (.cons ⟨rfl,rfl,rv⟩ .nil)
 ·rw[e1,e2];exact m
theorem IW(aa:List (ZG×Addr×V))(k:ZG)(b:Addr)(v:V):(putN aa k b v).length<=aa.length+1:=by
 unfold putN
 split
 ·rw[ay];lia
 ·rw[bL];exact aq _
variable{h:Heap}
theorem ng{k:ZG}(ok:a9 P w H h)(e:aN H b k):(fz P w).is h k b:=by
 obtain⟨c,h1,h2⟩:=e;obtain⟨_,its,r,o,g1,g2,n,g3⟩:=(show ZL P w H h b (.tup [kV k.1,.ref c]) from ok b _ h1);cases r with
 | @cons _ v _ vs r1 r2 =>
  cases r2 with
  | @cons _ v2 _ Ho r3 r4 =>
   cases r4;obtain rfl:v2=Value.ref c:=r3;exact⟨o,v,c,n,g1,g2,g3,rj r1,t_ ok h2⟩
theorem m_(ok:a9 P w H h)(e:eM P w H a aa):aa.length<=sizeLine/\(a == sysModules)=false/\∃xs,NR aa xs/\h.DictOfH (fz P w) a xs:=by
 obtain⟨⟨z,y,xs,r,o,es,ep,h1,h2,h3,h4,h5⟩,_,_⟩:=(show ZL P w H h a (Zm P w a aa) from e.1.ok ok);refine⟨z,y,xs,r,o,es,ep,h1,h2,h3,h4,λx hx=>?_,h5⟩;have all:∀{l:List (ZG×Addr×V)}{m:List (ZG×Addr×Value)},NR l m->(∀x∈l,aN H x.2.1 x.1)->∀x∈m,(fz P w).is h x.1 x.2.1:=by
  intro l m q
  induction q with
  | nil=>intro _ x hx;exact nomatch hx
  | @cons p q ps qs hq t ih =>
   intro hk x hx;rcases aJ.mp hx with e|hx
   ·subst e;have:=ng ok (hk p (aU ..));rw[hq.1,hq.2.1] at this;exact this
   ·exact ih (λy hy=>hk y (aR _ hy)) x hx
 exact all r e.2 x hx
section
variable{X:Cx}{pins:List (Addr×Obj)}{σ : St}{H:Hp}{s:Shared}{a b:Addr}{k:ZG}{v:V}{r:Value}{A:Around}{E:Value->Shared->Prop}{aa:List (ZG×Addr×V)}
theorem tQ(hu:A.units+30<cLine):(fz X.prog X.w).room A.in1:=show A.in1.units+20<cLine from by
 show A.units+1+20<cLine;lia
variable{Q:Value->Shared->Prop}
theorem Q3(hu:A.units+30<cLine)(I:Inv X pins σ H s)(g:eM X.prog X.w H a aa)(eb:aN H b k)(ev:valN aa k=some v)(h:∀w' s',Inv X pins σ H s'->RelV v w'->Q w' s') :
  wpAny (model X.prog X.w) A (getItem (.ref a) (.ref b)) Q E s:=by
 obtain⟨z,hd,xs,rel,dd⟩:=m_ I.ah g;obtain⟨w',hw,mR⟩:=fg.some_of (v:=v) (o:=(atKey xs k).map (·.2)) (by rw[<- ev];exact rel.val k);obtain⟨p,hp,dP⟩:=gG.mp hw;refine wpAny_getItem_heap (tQ hu) (ng I.ah eb) dd hp ?_;rw[dP];exact h w' _ (I.tok _) mR
theorem Vl(hu:A.units+30<cLine)(I:Inv X pins σ H s)(g:eM X.prog X.w H a aa)(eb:aN H b k)(h:∀s',Inv X pins σ H s'->Q (.bool (valN aa k).isSome) s') :
  wpAny (model X.prog X.w) A (compareOp .In (.ref b) (.ref a)) Q E s:=by
 obtain⟨z,hd,xs,rel,dd⟩:=m_ I.ah g;refine wpAny_in_heap (tQ hu) (ng I.ah eb) hd dd ?_;have e:=(rel.val k).yb;rw[qw] at e;rw[<- e];exact h _ (I.tok _)
theorem bF.put{P:Program}{w:World}(g:bF P w H a aa)(eb:aN H b k)(v:V):bF P w (upd H a (Zm P w a (putN aa k b v))) a (putN aa k b v):=by
 refine⟨Za,λx hx=>?_⟩;have t:∀c xs,H c=some (.tup xs)->(upd H a (Zm P w a (putN aa k b v))) c=some (.tup xs):=λc xs e=>by
  rw[Zc (λz=>by rw[z,g.1] at e;cases e)];exact e
 unfold putN at hx
 split at hx
 ·obtain⟨y,hy,rfl⟩:=aS.mp hx;have:=g.2 y hy
  split
  ·exact this.mono t
  ·exact this.mono t
 ·rcases bc.mp hx with hx|hx
  ·exact(g.2 x hx).mono t
  ·rw[az.mp hx];exact eb.mono t
theorem Rg{Q:Unit->Shared->Prop}(hu:A.units+30<cLine)(I:Inv X pins σ H s)(g:bF X.prog X.w H a aa)(hl:aa.length<sizeLine)(eb:aN H b k)(rv:RelV v r)(h:∀s',Inv X pins σ (upd H a (Zm X.prog X.w a (putN aa k b v))) s'->Q () s') :
  wpAny (model X.prog X.w) A (setItem (.ref a) (.ref b) r) Q E s:=by
 obtain⟨z,hd,xs,rel,dd⟩:=m_ I.ah g.r;have hz:xs.length<=sizeLine:=by rw[<- de rel];exact z
 have gm:(putN aa k b v).length<=sizeLine:=by have:=IW aa k b v;lia
 refine wpAny_setItem_heap (hsz:=hz) (tQ hu) (ng I.ah eb) dd λh' jY hs=>h _ ?_;obtain⟨q,es,ep,hq,h2,h3,h4,_,h5⟩:=jY;refine wD I (by rw[g.1];exact True.intro) hs ⟨q,hq⟩ ⟨⟨gm,hd,_,rel.put k b rv,q,es,ep,hq,h2,h3,h4,h5⟩,⟨q,hq⟩,λh1 h2 ⟨y1,y2,ys,y3,o',bz,fH,y4,y5⟩ keep=>⟨y1,y2,ys,y3,o',bz,fH,keep _ y4,y5⟩⟩
end
def LY(P:Program)(w:World)(td ty:TE):TE:=λσ H Q=>td σ H λx H1=>ty σ H1 λy H2=>∃a b aa k v,x=.ref a/\y=.ref b/\eM P w H2 a aa/\aN H2 b k/\valN aa k=some v/\Q v H2
def V'(P:Program)(w:World)(ty td:TE):TE:=λσ H Q=>ty σ H λy H1=>td σ H1 λx H2=>∃a b aa k,x=.ref a/\y=.ref b/\eM P w H2 a aa/\aN H2 b k/\Q (.bl (valN aa k).isSome) H2
def KQ(P:Program)(w:World)(ty td:TE):TE:=λσ H Q=>ty σ H λy H1=>td σ H1 λx H2=>∃a b aa k,x=.ref a/\y=.ref b/\eM P w H2 a aa/\aN H2 b k/\Q (.bl (!(valN aa k).isSome)) H2
def Vn(P:Program)(w:World)(td ty tv:TE):TS:=λD σ H=>tv σ H λv H1=>td σ H1 λx H2=>ty σ H2 λy H3=>∃a b aa k,x=.ref a/\y=.ref b/\bF P w H3 a aa/\aN H3 b k/\aa.length<sizeLine/\D.nx σ (upd H3 a (Zm P w a (putN aa k b v)))
def U_(P:Program)(w:World):TE:=λ_ H Q=>∀p,H p=none->Q (.ref p) (upd H p (Zm P w p []))
section
variable{X:Cx}{o i e value:Expr}{pos pos' Hg:Pos}{td ty tv:TE}
variable{pins:List (Addr×Obj)}{σ:St}{H:Hp}{s:Shared}{a:Addr}{aa:List (ZG×Addr×V)}
theorem R3(I:Inv X pins σ H s)(g:eM X.prog X.w H a aa):s.TypeIs (.ref a) "dict" := by
 obtain⟨_,_,xs,_,ob,_,_,h1,h2,_⟩:=m_ I.ah g;exact⟨ob,h1,h2.1⟩
theorem R5{b:Addr}{k:ZG}{A:Around}{E:Value->Shared->Prop}{Q:Value->Shared->Prop}(hu:A.units+30<cLine)(I:Inv X pins σ H s)(g:eM X.prog X.w H a aa)(eb:aN H b k)(h:∀s',Inv X pins σ H s'->Q (.bool (!(valN aa k).isSome)) s') :
  wpAny (model X.prog X.w) A (compareOp .NotIn (.ref b) (.ref a)) Q E s:=by
 obtain⟨z,hd,xs,rel,dd⟩:=m_ I.ah g;refine wpAny_notIn_heap (tQ hu) (ng I.ah eb) hd dd ?_;have e:=(rel.val k).yb;rw[qw] at e;rw[<- e];exact h _ (I.tok _)
theorem wu(hu:X.A.units+30<cLine)(ho:PE X o td)(hi:PE X i ty)(hs:Eh i):PE X (.Subscript o i pos) (LY X.prog X.w td ty):=by
 intro pins s σ H Q I h;refine UK PySem.F.slot_dict_getitem.lookup hs (ap (ho pins s σ H _ I h) λu s1 ⟨x,H1,I1,rx,q1⟩=>ap (hi pins s1 σ H1 _ I1 q1) λiv s2 ⟨y,H2,I2,ry,a,b,aa,k,v,ex,ey,g,gb,ev,q2⟩=>?_);subst ex ey;obtain rfl:u=Value.ref a:=rx;obtain rfl:iv=Value.ref b:=ry;exact⟨R3 I2 g,Q3 hu I2 g gb ev λw' s3 I3 mR=>⟨v,H2,I3,mR,q2⟩⟩
theorem T7(hu:X.A.units+30<cLine)(hi:PE X i ty)(ho:PE X o td):PC X .In i o (V' X.prog X.w ty td):=by
 intro pins s σ H Q I h;refine ap (hi pins s σ H _ I h) λiv s1 ⟨y,H1,I1,ry,q1⟩=>ap (ho pins s1 σ H1 _ I1 q1) λu s2 ⟨x,H2,I2,rx,a,b,aa,k,ex,ey,g,gb,q2⟩=>?_;subst ex ey;obtain rfl:u=Value.ref a:=rx;obtain rfl:iv=Value.ref b:=ry;exact Vl hu I2 g gb λs3 I3=>⟨.bl (valN aa k).isSome,H2,I3,rfl,q2⟩
theorem zT(hu:X.A.units+30<cLine)(hi:PE X i ty)(ho:PE X o td):PC X .NotIn i o (KQ X.prog X.w ty td):=by
 intro pins s σ H Q I h;refine ap (hi pins s σ H _ I h) λiv s1 ⟨y,H1,I1,ry,q1⟩=>ap (ho pins s1 σ H1 _ I1 q1) λu s2 ⟨x,H2,I2,rx,a,b,aa,k,ex,ey,g,gb,q2⟩=>?_;subst ex ey;obtain rfl:u=Value.ref a:=rx;obtain rfl:iv=Value.ref b:=ry;exact R5 hu I2 g gb λs3 I3=>⟨.bl (!(valN aa k).isSome),H2,I3,rfl,q2⟩
theorem wj(hu:X.A.units+30<cLine)(ho:PE X o td)(hi:PE X i ty)(hv:PE X value tv)(hs:swapsWith value (some (.Subscript o i pos')) pos.line X.env=pure false) :
  PS X (.Assign [.Subscript o i pos'] value pos) (Vn X.prog X.w td ty tv):=by
 intro pins s σ H D I h;refine wpAny_Assign_Subscript (ap (hv pins s σ H _ I h) λr s1 ⟨v,H1,I1,rv,q1⟩=>ap (ho pins s1 σ H1 _ I1 q1) λu s2 ⟨x,H2,I2,rx,q2⟩=>ap (hi pins s2 σ H2 _ I2 q2) λiv s3 ⟨y,H3,I3,ry,a,b,aa,k,ex,ey,g,gb,hl,q3⟩=>?_) hs;subst ex ey;obtain rfl:u=Value.ref a:=rx;obtain rfl:iv=Value.ref b:=ry;exact Rg hu I3 g hl gb rv λs4 I4=>⟨σ,_,I4,q3⟩
theorem S_{P:Program}{w:World}(h:Heap)(hb:sysModules<h.objs.size):ZL P w H (h.push { cls:=.type "dict",data:=.dict #[] }) h.objs.size (Zm P w h.objs.size []) :=
 ⟨⟨bE _,lj.mpr (eu (aV hb)),[],.nil,_,#[],0,bo _ rfl,⟨rfl,rfl,rfl⟩,rfl,rfl,List.nodup_nil⟩,⟨_,bo _ rfl⟩,λh1 h2 ⟨y1,y2,ys,y3,o',bz,fH,y4,y5⟩ keep=>⟨y1,y2,ys,y3,o',bz,fH,keep _ y4,y5⟩⟩
theorem z6:PE X (.Dict [] [] pos) (U_ X.prog X.w):=λpins s σ H Q I h =>
 wpAny_Dict_empty ⟨.ref s.heap.objs.size,_,I.laid (a:=s.heap.objs.size) (o:=Zm X.prog X.w s.heap.objs.size []) (t':=s.toks) (λ_ _ q=>ax _ q) (aq _) (S_ s.heap I.big),rfl,h _ (I.ah.fresh (aq _))⟩
end
def UC(P:Program)(w:World)(td ty tx:TE):TE:=λσ H Q=>td σ H λx H1=>∃a,x=.ref a/\(∃aa,eM P w H1 a aa)/\ty σ H1 λy H2=>tx σ H2 λz H3=>∃b aa k,y=.ref b/\eM P w H3 a aa/\aN H3 b k/\Q ((valN aa k).getD z) H3
section
variable{X:Cx}{o e f:Expr}{apos bJ:Pos}{td ty tx:TE}
theorem Li{pins:List (Addr×Obj)}{σ : St}{H:Hp}{s:Shared}{a:Addr}{aa:List (ZG×Addr×V)}(I:Inv X pins σ H s)(d:eM X.prog X.w H a aa) :
  s.TypeIs (.ref a) "dict" /\ (∀b,Value.ref a=.ref b->∃ob,s.heap.get? b=some ob/\ob.dict=none)/\(a == sysModules)=false:=by
 obtain⟨_,hd,xs,_,ob,es,ep,h1,h2,h3⟩:=m_ I.ah d;refine⟨⟨ob,h1,h2.1⟩,λb q=>?_,hd⟩;cases q;exact⟨ob,h1,h2.2.1⟩
theorem R'(hu:X.A.units+30<cLine)(ho:PE X o td)(he:PE X e ty)(hf:PE X f tx)(m:M2 X o "get" apos e f bJ):PE X (.Call (.Attribute o "get" apos) [e,f] [] bJ) (UC X.prog X.w td ty tx):=by
 intro pins s σ H Q I h;refine wpAny_Call_method m.base m.fh m.line B6 y_ PySem.F.type_dict_get (ap (ho pins s σ H _ I h) λu s1 ⟨x,H1,I1,rx,a,ex,⟨Zp8,d⟩,q1⟩=>?_);subst ex;obtain rfl:u=Value.ref a:=rx;obtain⟨t1,t2,_⟩:=Li I1 d;refine⟨t1,t2,?_⟩;rw[m.yI];refine vf rfl (yO (oj (ap (he pins s1 σ H1 _ I1 q1) λiv s2 ⟨y,H2,I2,ry,q2⟩ =>
  oj (ap (hf pins s2 σ H2 _ I2 q2) λfv s3 ⟨z,H3,I3,rz,b,aa,k,ey,g,gb,q3⟩=>sQ ?_))))
 subst ey;obtain rfl:iv=Value.ref b:=ry;obtain⟨zl,hd,xs,rel,dd⟩:=m_ I3.ah g;refine call_meetsIn y_ dd.typeIs PySem.F.entry_dict_get (PySem.F.args_dict_get_3 _ _ _) (meetsH_dict_get_default (fz X.prog X.w) a b hd fv) ⟨tQ hu,k,xs,ng I3.ah gb,dd,?_⟩;exact⟨(valN aa k).getD z,H3,I3.tok _,(rel.val k).getD rz,q3⟩
end
variable{prog:Program}{s:Shared}{d:Addr}
theorem Qe(hd:(d == sysModules)=false) :
  MeetsIn prog w (Builtin.«dict.__len__» ⟨[.ref d],[]⟩) (λ_ R s=>∃o es ep,s.heap.get? d=some o/\o.data=.dict es ep/\R (.ok (.ret (.int es.size s.toks))) { s with toks:=s.toks+1 }) :=
 .of_wp λA R s ⟨o,es,ep,ho,cA,h⟩=>by
  show wpAny _ _ (dictSize d >>= _) _ _ s;unfold dictSize;refine ae (ae (vA ho cA (af ?_)));show wpAny _ _ (Builtin.Dict.pendingCount d >>= _) _ _ s;refine ae (wpAny_pendingCount_other hd ?_);refine wpAny_ret_mkInt ?_;rw[yY];exact h
variable{A:Around}{E Q:Value->Shared->Prop}{o:Obj}{es:Array DictEntry}{ep:Nat}
theorem Ip(hd:(d == sysModules)=false)(ho:s.heap.get? d=some o)(hc:o.cls=.type "dict") (cA:o.data=.dict es ep) (A6:(es.size:Int)<2 ^ 63)
  (h:Q (.int es.size (s.toks+1)) { s with toks:=s.toks+1+1 }):wpAny (model prog w) A (Builtin.«len» ⟨[.ref d],[]⟩) (λfin s'=>∃r,fin=.done (.ret r)/\Q r s') E s:=by
 have hT:s.TypeIs (.ref d) "dict" := ⟨o,ho,hc⟩;unfold Builtin.«len»;refine ae (m:=oneArg "len" _) (af ?_);refine ae (m:=callSpecial? (.ref d) (Str.ofString "__len__")) (zd (name:=Str.ofString "__len__") hT F.slot_dict_len
  (call_meetsIn F.slot_dict_len hT F.entry_dict_len (F.args_dict_len_1 _) (Qe hd) ⟨o,es,ep,ho,cA,?_⟩))
 show wpAny _ _ _ _ _ { s with toks:=s.toks+1 };refine ae (dC (af ?_));refine ae (wpAny_letGo ?_);show wpAny _ _ (if((es.size:Nat):Int)<0 then _ else _) _ _ _
 rw[ag (by lia)];show wpAny _ _ (if((es.size:Nat):Int)>=2 ^ 63 then _ else _) _ _ _
 rw[ag (by lia)];exact ae (wpAny_mkInt (af ⟨_,rfl,h⟩))
theorem U1(hd:(d == sysModules)=false)(ho:s.heap.get? d=some o)(hc:o.cls=.type "dict") (cA:o.data=.dict es ep) (A6:(es.size:Int)<2 ^ 63)
  (h:Q (.int es.size (s.toks+1)) { s with toks:=s.toks+1+1 }):wpAny (model prog w) A (call (.builtin "len") [.ref d]) Q E s :=
 Calls.call_function_entry kind_len plain_len entry_len (args_len1 _) (Ip hd ho hc cA A6 h)
theorem RX{Q:Bool->Shared->Prop}(hd:(d == sysModules)=false)(ho:s.heap.get? d=some o)(hc:o.cls=.type "dict") (cA:o.data=.dict es ep) (A6:(es.size:Int)<2 ^ 63)
  (h:Q ((es.size:Int) != 0) { s with toks:=s.toks+1+1 }):wpAny (model prog w) A (truthy (.ref d)) Q E s:=by
 have hT:s.TypeIs (.ref d) "dict" := ⟨o,ho,hc⟩;have key:wpAny (model prog w) A (runValue (.builtin "len" ⟨[.ref d],[]⟩)) (λr s'=>r=.int es.size (s.toks+1)/\Q ((es.size:Int) != 0) s') E s:=by
  refine wpAny_runValue (fF entry_len ?_);rw[jj plain_len _];exact cw (Ip (Q:=λr s'=>r=.int es.size (s.toks+1)/\Q ((es.size:Int) != 0) s') hd ho hc cA A6 ⟨rfl,h⟩)
   (λfin s' h'=>by obtain⟨r,rfl,hq⟩:=h';exact hq) λ_ _ e=>e
 unfold truthy
 first
  | refine ae (wpAny_callSpecial?_none (name:=Str.ofString "__bool__") hT noBool_dict ?_)
  | refine ae (af (ae (wpAny_callSpecial?_none (name:=Str.ofString "__bool__") hT noBool_dict ?_)))
 first
  | refine ae (oB (name:=Str.ofString "__len__") hT F.slot_dict_len.lookup ?_)
  | refine ae (af (ae (oB (name:=Str.ofString "__len__") hT F.slot_dict_len.lookup ?_)))
 first
  | exact ae (cw key (λr s' h'=>by obtain⟨rfl,hq⟩:=h';exact af hq) λ_ _ e=>e)
  | exact ae (af (ae (cw key (λr s' h'=>by obtain⟨rfl,hq⟩:=h';exact af hq) λ_ _ e=>e)))
theorem Lq(ok:a9 P w H h)(e:eM P w H a aa):(a == sysModules)=false/\∃o es ep,h.get? a=some o/\o.cls=.type "dict" /\ o.data=.dict es ep/\es.size=aa.length/\aa.length<=sizeLine:=by
 obtain⟨z,hd,xs,rel,o,es,ep,h1,h2,h3,h4,_⟩:=m_ ok e;refine⟨hd,o,es,ep,h1,h2.1,h3,?_,z⟩;have e1:=congrArg List.length h4;rw[ay,<- de rel] at e1;exact e1
def Vo(P:Program)(w:World):List V->Hp->VK->Prop:=λvs H Q=>∃(d:Addr)(m:List (ZG×Addr×V)),vs=[V.ref d]/\eM P w H d m/\Q (.int (m.length:Int)) H
variable{X:Cx}
theorem Sq:f_ X (.builtin "len") (Vo X.prog X.w):=by
 rintro pins s σ H vs us Q I r ⟨d,m,rfl,hd,q⟩;obtain⟨u,rfl,ru⟩:=vals1 r;cases ru;obtain⟨h0,o,es,ep,h1,h2,h3,h4,h5⟩:=Lq I.ah hd;refine U1 h0 h1 h2 h3 (by rw[h4];rw[aT] at h5;lia) ?_;exact⟨.int (m.length:Int),H,I.tok _,⟨_,by rw[h4]⟩,q⟩
def Vj(P:Program)(w:World)(ta:TE):TT:=λσ H Q=>ta σ H λx H'=>∃d m,x=.ref d/\eM P w H' d m/\Q (!m.isEmpty) H'
theorem RT{a:Expr}{ta:TE}(ha:PE X a ta)(he:∀whole,isTrue a X.env whole=(do let v <- whole;standAt a.pos;holding [v] (truthy v))):PT X a (Vj X.prog X.w ta):=by
 intro pins s σ H Q I h;refine isTrue_plain (ap (ha pins s σ H _ I h) λv s1 ⟨x,H1,I1,r1,d,m,ex,g,q1⟩=>?_) (he _);subst ex;obtain rfl:v=Value.ref d:=r1;obtain⟨h0,o,es,ep,h1,h2,h3,h4,h5⟩:=Lq I1.ah g;refine RX h0 h1 h2 h3 (by rw[h4];rw[aT] at h5;lia) ⟨H1,I1.tok _,?_⟩;have e:((es.size:Int) != 0)= !m.isEmpty:=by
  rw[h4];cases m <;> simp <;> lia
 rw[e];exact q1
variable{pins:List (Addr×Obj)}{σ:St}{ob:Obj}
theorem Inv.ML(I:Inv X pins σ H s)(hd:H d=some (Zm X.prog X.w d aa))(ho:s.heap.get? d=some ob):Inv X pins σ (upd H d (.aI ob (Zm X.prog X.w d aa))) s:=by
 have q:=I.ah d _ hd;exact I.write (x:=d) (e:=d) (h':=s.heap) (t':=s.toks) (by rw[hd];trivial) (.inl rfl) (λb u _ q=>q) ⟨ob,ho⟩ ⟨ho,q⟩
theorem Inv.OW(I:Inv X pins σ H s)(hd:H d=some (.aI ob (Zm X.prog X.w d aa)))(nf:∀o u,X.jv d≠some (.aI o u)):Inv X pins σ (upd H d (Zm X.prog X.w d aa)) s:=by
 obtain⟨gU,q⟩:=(show ZL X.prog X.w H s.heap d (.aI ob (Zm X.prog X.w d aa)) from I.ah d _ hd);have nn:∀b,H b=none->b≠d:=λb e z=>by rw[z,hd] at e;cases e
 refine⟨I.ok,I.os,I.bare,⟨I.base.keep,I.base.slot,λb o e n hx=>?_,I.base.there,λb xs e=>?_,λb o u e=>?_,λb ps e=>?_⟩,I.loc,I.cell,?_,λx c e=>?_,λp hp=>?_,λb u e=>?_,I.len⟩
 ·have:=I.base.free b o e n hx;rw[Zc (nn b this)];exact this
 ·have:=I.base.mx b xs e;rw[Zc (λz=>by rw[z,hd] at this;cases this)];exact this
 ·have:=I.base.kr b o u e;rw[Zc (λz=>nf o u (by rw[<- z];exact e))];exact this
 ·obtain⟨m,this⟩:=I.base.kY b ps e;exact⟨m,by rw[Zc (λz=>by rw[z,hd] at this;cases this)];exact this⟩
 ·rw[Zc (nn _ I.free)];exact I.free
 ·rw[Zc (nn _ (I.ee x c e))];exact I.ee x c e
 ·obtain⟨e,n,r⟩:=I.pin p hp;exact⟨e,by rw[Zc (nn _ n)];exact n,r⟩
 ·by_cases hb:b=d
  ·subst hb;rw[Za] at e;cases e;exact q.jR (λc v _ q=>q) (λc q=>by rw[Zc (λz=>by rw[z,hd] at q;cases q)];exact q) λc xs q=>by rw[Zc (λz=>by rw[z,hd] at q;cases q)];exact q
  ·rw[Zc hb] at e;exact(I.ah b u e).jR (λc v _ q=>q) (λc q=>by rw[Zc (λz=>by rw[z,hd] at q;cases q)];exact q) λc xs q=>by rw[Zc (λz=>by rw[z,hd] at q;cases q)];exact q
def o7(P:Program)(w:World)(d:Addr)(ob:Obj)(aa:List (ZG×Addr×V)):It:=⟨λi H=>H d=some (.aI ob (Zm P w d aa))/\i<aa.length,λi H x H'=>H'=H/\∃k b v,aa[i]?= some (k,b,v)/\x=.ref b,λi H=>H d=some (.aI ob (Zm P w d aa))/\aa.length<=i⟩
theorem LV(h:NR aa xs):∀(i:Nat)(x:ZG×Addr×Value),xs[i]?= some x->∃v,aa[i]?= some (x.1,x.2.1,v):=by
 induction h with
 | nil=>intro i x e;cases i <;> cases e
 | @cons p q l m r t ih =>
  intro i x e;cases i with
  | zero =>
   injection e with e;subst e;exact⟨p.2.2,by rw[<- r.1,<- r.2.1];rfl⟩
  | succ i=>exact ih i x e
variable{tg:Expr}
theorem Q9{K:PySem.W.Frag}(d:Addr)(ob:Obj)(aa:List (ZG×Addr×V))(es:Array DictEntry)(ep:Nat)(hx:ob.ExactDict)(cA:ob.data=.dict es ep)(hl:es.size=aa.length)(it:Addr) :
  Turn P w K tg (o7 P w d ob aa) [it] it (λi h=>h.IsKeyIter it d i es.size ep) where
 mem:=by simp
 obj:=λi h st b hb=>by
  have e:b=it:=by simpa using hb
  subst e;obtain⟨o,e,c,dd⟩:=st;exact⟨o,e,λv z=>by rw[dd] at z;cases z⟩
 keep:=λi h h' st k=>st.at λo e=>k it (by simp) o e
 item:=by
  intro X hP hw hK hc i pins s σ H E I hf st hg;subst hP hw hK;obtain⟨hH,hi⟩:=hg;obtain⟨gU,⟨z,lo,xs,rel,o2,uv,Xm,bX,kG,xF,Fl,ZY⟩,_⟩:=(show ZL X.prog X.w H s.heap d (.aI ob (Zm X.prog X.w d aa)) from I.ah d _ hH);rw[gU] at bX;cases bX;rw[cA] at xF;cases xF;have cI:i<es.size:=by lia
  obtain⟨f0,f1,f2,f3,f4,f5⟩:=hf it (by simp);refine DD st (⟨ob,gU,hx,cA⟩:ff s.heap d es ep) cI λh' bq sb=>?_;have I1:Inv X pins σ H { s with heap:=h' }:=I.turned (t':=s.toks) (λb o hb e=>(sb.2 b hb).trans e) f0 f1 f3 f4 f5;have x9:i<xs.length:=by
   have:=de rel;lia
  have hk:es[i].key=Value.ref xs[i].2.1:=by
   have e1:es.toList[i]?= some es[i]:=by simp
   rw[Fl,cp,bT x9] at e1;injection e1 with e1;rw[<- e1];rfl
  obtain⟨v,eV⟩:=LV rel i xs[i] (bT x9);obtain⟨o,e,c,dd⟩:=id bq;exact⟨_,rfl,uj (s:={ s with heap:=h' }) e c dd (by decide) ⟨.ref xs[i].2.1,H,I1,hk,⟨rfl,_,_,v,eV,rfl⟩,bq,λb hb=>(hf b hb).1⟩⟩
 done:=by
  intro X hP hw hK hc i pins s σ H E I hf st hg;subst hP hw hK;obtain⟨hH,hi⟩:=hg;obtain⟨gU,_⟩:=(show ZL X.prog X.w H s.heap d (.aI ob (Zm X.prog X.w d aa)) from I.ah d _ hH);obtain⟨f0,f1,f2,f3,f4,f5⟩:=hf it (by simp);exact DE (I.ok.hd hc) st (⟨ob,gU,hx,cA⟩:ff s.heap d es ep) (by lia) λh' eb=>⟨rfl,I.turned (t':=s.toks) (λb o hb e=>eb b o hb e) f0 f1 f3 f4 f5⟩
 self:=λ_ _ _ _ _ st h=>wpAny_pyIter_keyiter st h
def VJ(P:Program)(w:World)(tl:TE):TI:=λσ H R=>tl σ H λx H1=>∃d aa,x=.ref d/\H1 d=some (Zm P w d aa)/\∀ob,R (o7 P w d ob aa) (upd H1 d (.aI ob (Zm P w d aa)))
theorem Df{l:Expr}{tl:TE}(hl:PE X l tl):PI X tg l (VJ X.prog X.w tl):=by
 intro pins s σ H R I h;refine ap (hl pins s σ H _ I h) λv s1 ⟨x,H1,I1,r1,q1⟩=>?_;obtain⟨d,aa,e,hq,q⟩:=q1;subst e;cases r1;obtain⟨⟨z,lo,xs,rel,ob,es,ep,ho,hx,cA,gR,gS⟩,_⟩:=(show ZL X.prog X.w H1 s1.heap d (Zm X.prog X.w d aa) from I1.ah d _ hq);have I2:=I1.ML hq ho;have jL:es.size=aa.length:=by rw[<- aK,gR,ay,de rel]
 refine DB lo (⟨ob,ho,hx,cA⟩:ff s1.heap d es ep) ?_;refine⟨s1.heap.objs.size,[s1.heap.objs.size],_,_,_,rfl,I2.kept (t':=s1.toks) λb o e=>ax _ e,Q9 d ob aa es ep hx cA jL _,⟨_,bo _ rfl,rfl,rfl⟩,λb hb=>?_,q ob⟩;have e:b=s1.heap.objs.size:=by simpa using hb
 subst e;exact I2.iY (aq _) (I2.ah.fresh (aq _))
theorem JO{α β : Type}(f : α -> β):∀(l:List α)(j:Nat),(l.map f).eraseIdx j=(l.eraseIdx j).map f
 | [],_=>rfl
 | _::_,0=>rfl
 | x::l,j+1=>congrArg (f x :: ·) (JO f l j)
section
variable{prog:Program}{w:World}{K:Type}[DecidableEq K]{knd:HeapKind prog w K}{A:Around}{E:Value->Shared->Prop}{s:Shared}
variable{d a:Addr}
theorem Tb{xs:List (K×Addr×Value)}{k:K}{j:Nat}{p:Addr×Value}{Q:Option DictEntry->Shared->Prop}(hu:knd.room A)(pF:knd.is s.heap k a)(hm:s.heap.DictOfH knd d xs)(hj:xs[j]?= some (k,p))(hsz:xs.length<=sizeLine)
  (h:∀h',h'.DictOfH knd d (xs.eraseIdx j)->Heap.SameBut d s.heap h'->Q (some (entryOfKey knd (k,p))) { s with heap:=h',toks:=s.toks+knd.draws k }) :
  wpAny (model prog w) A (Builtin.Dict.takeOut d (.ref a)) Q E s:=by
 obtain⟨o,es,ep,ho,hc,hd,he,Fu,hn⟩:=hm;have hlen:es.size=xs.length:=by rw[<- aK,he,ay]
 have gR:es.size<=sizeLine:=by lia
 unfold Builtin.Dict.takeOut
 try with_reducible refine dC ?_
 refine ae (knd.pyHash hu pF ?_);refine ae (wpAny_dictFind_heap (s:={ s with toks:=s.toks+knd.draws k }) hu pF ho hd he Fu hn (λgT=>absurd hj (gT j p)) λj' p' lu=>?_);have ej:j'=j:=idxH_unique hn lu hj;subst ej;refine ae (vA (s:={ s with toks:=s.toks+knd.draws k }) ho hd ?_);have Pl:es[j']?= some (entryOfKey knd (k,p)):=by
  have:es.toList[j']?= some (entryOfKey knd (k,p)):=by rw[he,cp,hj];rfl
  rw[<- this];obtain⟨l⟩:=es;simp
 rw[Pl];have sb:Heap.SameBut d s.heap (s.heap.update d λo=>o.mapDictKeys (·.eraseIdxIfInBounds j')):=mC ..;refine ae (wpAny_updateDictKeys (hz:=gR) (s:={ s with toks:=s.toks+knd.draws k }) ho hd (af (h _ ⟨_,_,ep+1,qj _ ho (Obj.isFreed_of_dict (Obj.data_mapDictKeys hd _)),hc.mapDictKeys _,Obj.data_mapDictKeys hd _,?_,λx hx=>knd.keeps (Fu x (List.mem_of_mem_eraseIdx hx)) ho hd (mC ..),?_⟩ (mC ..))))
 ·obtain⟨l⟩:=es;have kz:l=xs.map (entryOfKey knd):=by simpa using he
  subst kz;simp[JO]
 ·exact List.Nodup.sublist (List.Sublist.map _ (List.eraseIdx_sublist xs j')) hn
theorem Wr(hd:(d == sysModules)=false) :
  MeetsIn prog w (Builtin.«dict.pop» ⟨[.ref d,.ref a],[]⟩) (λA R s=>knd.room A.in1/\∃xs k j p,knd.is s.heap k a/\s.heap.DictOfH knd d xs/\xs[j]?= some (k,p)/\xs.length<=sizeLine /\
   ∀h',h'.DictOfH knd d (xs.eraseIdx j)->Heap.SameBut d s.heap h'->R (.ok (.ret p.2)) { s with heap:=h',toks:=s.toks+knd.draws k }) :=
 .of_wp λA R s ⟨hu,xs,k,j,p,pF,hm,hj,hsz,h⟩=>by
  obtain⟨o,es,ep,ho,hc,cA,he,Fu,hn⟩:=id hm;have hT:s.TypeIs (.ref d) "dict" := ⟨o,ho,hc.1⟩;unfold Builtin.«dict.pop»;refine ae ?_;unfold Builtin.Dict.keyAndDefault;refine ae (wpAny_notOrdered_dict hT ?_);show wpAny _ _ (pure (d,Value.ref a,none)) _ _ s;refine af ?_;simp only[show(keyPart (Value.ref a)).isSome=false from rfl,eZ,dB];refine ae (vA ho cA ?_);refine ae (af ?_);have A4:es.isEmpty=false:=by
   have hl:es.size=xs.length:=size_of_entries he;have hx:j<xs.length:=(dc.mp hj).1;rw[Array.isEmpty];exact a8 (by lia)
  rw[A4];simp only[eZ,dB];refine ae (Tb hu pF hm hj hsz λh' dd hs=>?_);simp only[Option.isNone_some,eZ,dB];exact ae (wpAny_letGo (af ⟨_,rfl,h h' dd hs⟩))
end
def ir(aa:List (ZG×Addr×V))(k:ZG):List (ZG×Addr×V):=aa.eraseIdx (aa.findIdx λx=>decide (x.1=k))
theorem NR.erase(r:NR aa xs):∀j,NR (aa.eraseIdx j) (xs.eraseIdx j):=by
 induction r with
 | nil=>exact λ_=>.nil
 | @cons p q ps qs h t ih =>
  intro j;cases j with
  | zero=>exact t
  | succ j=>exact .cons h (ih j)
theorem NR.place{k:ZG}{v:V}(r:NR aa xs)(h:valN aa k=some v):∃p:Addr×Value,xs[aa.findIdx λx=>decide (x.1=k)]?= some (k,p)/\RelV v p.2:=by
 unfold valN at h
 induction r with
 | nil=>cases h
 | @cons p q ps qs hq t ih =>
  by_cases e:p.1=k
  ·rw[qp (p:=λx:ZG×Addr×V=>decide (x.1=k)) (aF e)] at h;injection h with h;rw[vo,aF e];refine⟨q.2,?_,by rw[<- h];exact hq.2.2⟩;show some q=some (k,q.2);rw[<- e,hq.1]
  ·rw[qo (p:=λx:ZG×Addr×V=>decide (x.1=k)) (by simpa using e)] at h;obtain⟨p',h1,h2⟩:=ih h;rw[vo,a8 e];exact⟨p',h1,h2⟩
def Vp(P:Program)(w:World)(td ty:TE):TE:=λσ H Q=>td σ H λx H1=>∃a,x=.ref a/\(∃aa,eM P w H1 a aa)/\ty σ H1 λy H2=>∃b aa k v,y=.ref b/\bF P w H2 a aa/\aN H2 b k/\valN aa k=some v/\Q v (upd H2 a (Zm P w a (ir aa k)))
section
variable{X:Cx}{o e:Expr}{apos bJ:Pos}{td ty:TE}
theorem TU(hu:X.A.units+30<cLine)(ho:PE X o td)(he:PE X e ty)(m:M1 X o "pop" apos e bJ):PE X (.Call (.Attribute o "pop" apos) [e] [] bJ) (Vp X.prog X.w td ty):=by
 intro pins s σ H Q I h;refine wpAny_Call_method m.base m.fh m.line B6 PySem.F.slot_dict_pop PySem.F.type_dict_pop (ap (ho pins s σ H _ I h) λu s1 ⟨x,H1,I1,rx,a,ex,⟨Zp8,d⟩,q1⟩=>?_);subst ex;obtain rfl:u=Value.ref a:=rx;obtain⟨t1,t2,_⟩:=Li I1 d;refine⟨t1,t2,?_⟩;rw[m.yI];refine vf rfl (yO (oj (ap (he pins s1 σ H1 _ I1 q1) λiv s2 ⟨y,H2,I2,ry,b,aa,k,v,ey,g,gb,ev,q2⟩=>sQ ?_)));subst ey;obtain rfl:iv=Value.ref b:=ry;obtain⟨zl,hd,xs,rel,dd⟩:=m_ I2.ah g.r;obtain⟨p,hp,rv⟩:=rel.place ev;have hz:xs.length<=sizeLine:=by rw[<- de rel];exact zl
 refine call_meetsIn PySem.F.slot_dict_pop dd.typeIs PySem.F.entry_dict_pop (PySem.F.args_dict_pop_2 _ _) (Wr (knd:=fz X.prog X.w) hd) ⟨tQ hu,xs,k,_,p,ng I2.ah gb,dd,hp,hz,λh' jY hs=>?_⟩;obtain⟨q,es,ep,hq,h2,h3,h4,_,h5⟩:=jY;have gm:(ir aa k).length<=sizeLine:=by
  unfold ir;have:=List.length_eraseIdx_le aa (aa.findIdx λx=>decide (x.1=k));lia
 exact⟨v,upd H2 a (Zm X.prog X.w a (ir aa k)),wD (ob:=Zm X.prog X.w a (ir aa k)) I2 (by rw[g.1];exact True.intro) hs ⟨q,hq⟩ ⟨⟨gm,hd,_,rel.erase _,q,es,ep,hq,h2,h3,h4,h5⟩,⟨q,hq⟩,λh1 h2 ⟨y1,y2,ys,y3,o',bz,fH,y4,y5⟩ keep=>⟨y1,y2,ys,y3,o',bz,fH,keep _ y4,y5⟩⟩,rv,q2⟩
end
end L2
namespace av
open PySem PyProof.Rows
abbrev eE:=L2.ZG×Addr×Value
def ik(m:List eE)(ps:List eE):List eE:=ps.foldl (λm p=>storedH m p.1 p.2.1 p.2.2) m
variable{v:Value}
theorem Qj{m:List eE}{k:L2.ZG}{a:Addr}{x:eE}(h:x∈storedH m k a v):(∃y∈m,y.1=x.1/\y.2.1=x.2.1)\/(x.1=k/\x.2.1=a):=by
 unfold storedH at h
 split at h
 ·obtain⟨y,hy,rfl⟩:=aS.mp h;refine .inl ⟨y,hy,?_⟩;unfold putAt
  split <;> exact⟨rfl,rfl⟩
 ·rcases bc.mp h with h|h
  ·exact .inl ⟨x,h,rfl,rfl⟩
  ·rw[az.mp h];exact .inr ⟨rfl,rfl⟩
theorem Qy(m:List eE)(k:L2.ZG)(a:Addr)(v:Value):(storedH m k a v).length<=m.length+1:=by
 unfold storedH
 split
 ·rw[ay];lia
 ·rw[bL];exact aq _
theorem IK:∀(ps m:List eE),(ik m ps).length<=m.length+ps.length
 | [],m=>aq _
 | p::ps,m=>by
  have h1:=IK ps (storedH m p.1 p.2.1 p.2.2);have h2:=Qy m p.1 p.2.1 p.2.2;show(ik (storedH m p.1 p.2.1 p.2.2) ps).length<=_;rw[bM];lia
theorem Qr(ps:List eE)(i:Nat)(p:eE)(h:ps[i]?= some p):ik [] (ps.take (i+1))=storedH (ik [] (ps.take i)) p.1 p.2.1 p.2.2:=by
 unfold ik;have e:ps.take (i+1)=ps.take i ++ [p]:=by
  obtain⟨hi,e⟩:=dc.mp h;rw[List.take_succ_eq_append_getElem hi,e]
 rw[e,List.foldl_append];rfl
def oZ(prog:Program)(w:World)(h0:Heap)(D:Addr)(x:eE):Prop := ∀h':Heap,(∀b o,b<D->h0.get? b=some o->h'.get? b=some o)->(L2.fz prog w).is h' x.1 x.2.1
variable{prog:Program}{w:World}
theorem Jm{h0:Heap}{D:Addr}:∀(ps m:List eE),(∀x∈m,oZ prog w h0 D x)->(∀x∈ps,oZ prog w h0 D x)->∀x∈ik m ps,oZ prog w h0 D x
 | [],m,h,_=>h
 | p::ps,m,h,hp=>Jm ps _ (λx hx=>by
   rcases Qj hx with⟨y,hy,e0,e⟩|⟨e0,e⟩
   ·have:=h y hy;unfold oZ at this ⊢;rw[e0,e] at this;exact this
   ·have:=hp p (aU ..);unfold oZ at this ⊢;rw[e0,e];exact this) λx hx=>hp x (aR _ hx)
def D'(prog:Program)(w:World)(h:Heap)(v:Value)(p:eE):Prop := ∃b o n,v=.ref b/\h.get? b=some o/\o.cls=.type "tuple" /\ o.data=.seq #[.ref p.2.1,p.2.2] n/\(L2.fz prog w).is h p.1 p.2.1
def LK(prog:Program)(w:World)(h0:Heap)(d:Addr)(items:Array Value)(ps:List eE):Prop:=items.size=ps.length/\(∀p∈ps,oZ prog w h0 d p)/\∀(i:Nat) v p,items[i]?= some v->ps[i]?= some p->∀h:Heap,(∀b o,b<d->h0.get? b=some o->h.get? b=some o)->D' prog w h v p
variable{A:Around}{E:Value->Shared->Prop}{s:Shared}
theorem QC{p:eE}{Q:List Value->Shared->Prop}(hp:D' prog w s.heap v p)(q:(L2.fz prog w).is s.heap p.1 p.2.1->Q [.ref p.2.1,p.2.2] s):wpAny (model prog w) A (Builtin.Dict.pairItems v) Q E s:=by
 obtain⟨b,o,n,rfl,ho,hc,hd,hk⟩:=hp;unfold Builtin.Dict.pairItems;refine ae (qC (T := "tuple") ⟨o,ho,hc⟩ ?_);rw[ai (by decide)];exact ae (oA ho hd (af (q hk)))
variable{R:Result->Shared->Prop}{l:Addr}{items:Array Value}{ps:List eE}
set_option maxHeartbeats 1000000 in
theorem Q_{h0:Heap}{D I:Addr}(hh:A.in1.handled=none)(hu:(L2.fz prog w).room A.in1)(ht:LK prog w h0 D items ps)(i6:D<I)(xN:l≠I)(hn:items.size<=100000):∀(k i:Nat)(j:Int)(jt:Tok)(s:Shared),items.size-i=k->i<=items.size->(s.heap.IsListIter I l i/\s.heap.IsList l items)->l<D->s.heap.DictOfH (L2.fz prog w) D (ik [] (ps.take i))->(∀b o,b<D->h0.get? b=some o->s.heap.get? b=some o) ->
   (∀h' tk,h'.DictOfH (L2.fz prog w) D (ik [] ps)->(∀b o,b<D->h0.get? b=some o->h'.get? b=some o)->R (.ok (.ret .none)) { s with heap:=h',toks:=tk })->codeAny (model prog w) A (.builtin "dict.update.loop" ⟨[.ref D,.ref I,.int j jt,.none],[]⟩) R s:=by
 have W:=Walks.list (prog:=prog) (w:=w) (A:=A.in1) hh I l xN items;have DK:∀{h h':Heap}{i:Nat},h.DictOfH (L2.fz prog w) D (ik [] (ps.take i))->(∀b o,b<=D->h.get? b=some o->h'.get? b=some o)->(∀b o,b<D->h0.get? b=some o->h'.get? b=some o)->h'.DictOfH (L2.fz prog w) D (ik [] (ps.take i)):=λ{h h' i} ⟨o,es,ep,ho,h1,h2,h3,h4,h5⟩ hk E_=>⟨o,es,ep,hk D o (aq _) ho,h1,h2,h3,λx hx=>Jm _ [] (λ_ h=>nomatch h) (λy hy=>ht.2.1 y (List.mem_of_mem_take hy)) x hx h' E_,h5⟩
 intro k
 induction k with
 | zero =>
  intro i j jt s hk hi bY iD hd hb hR;obtain rfl:i=items.size:=by lia
  refine fF ZP ?_;rw[jj Zu _];change wpAny _ A.in1 (pyNext (.ref I) >>= _) _ _ s;refine ae (W.done s _ _ bY λh' tk hm=>?_);change wpAny _ A.in1 (Builtin.Dict.addKeywords D [] >>= λ_=>ret Value.none) _ _ _;refine ae ?_;unfold Builtin.Dict.addKeywords;refine af (af ?_);have bQ:=DK hd (λb o aB e=>hm b o (λz=>cD _ (ou (az.mp z ▸ aB) i6)) e) (λb o aB e=>hm b o (λz=>cD _ (g9 (az.mp z ▸ aB) i6)) (hb b o aB e));rw[ht.1,cH] at bQ;exact hR h' tk bQ λb o aB e=>hm b o (λz=>cD _ (g9 (az.mp z ▸ aB) i6)) (hb b o aB e)
 | succ k ih =>
  intro i j jt s hk hi bY iD hd hb hR;have au:i<items.size:=by lia
  refine fF ZP ?_;rw[jj Zu _];change wpAny _ A.in1 (pyNext (.ref I) >>= _) _ _ s;refine ae (W.item i s _ _ au bY λv h' tk hP vH hm=>?_);have bQ:=DK hd (λb o aB e=>hm b o (λz=>cD _ (ou (az.mp z ▸ aB) i6)) e) (λb o aB e=>hm b o (λz=>cD _ (g9 (az.mp z ▸ aB) i6)) (hb b o aB e));have cj:∀b o,b<D->h0.get? b=some o->h'.get? b=some o:=λb o aB e=>hm b o (λz=>cD _ (g9 (az.mp z ▸ aB) i6)) (hb b o aB e);have aA:i<ps.length:=by have:=ht.1;lia
  have hp:=ht.2.2 i v ps[i] hP (bT aA) h' cj;refine ae (dC (ae (qB (QC (s:={ s with heap:=h',toks:=tk }) hp λFZ=>?_))));dsimp only;have eG:(ik [] (ps.take i)).length<=sizeLine:=by
   have:=IK (ps.take i) [];rw[cY] at this;have XE:([]:List eE).length=0:=rfl;have:=ht.1;rw[aT];lia
  refine dC (wpAny_dictSet_heap (s:={ s with heap:=h',toks:=tk }) (hsz:=eG) hu FZ bQ λh2 hd2 sb=>?_);have pE:∀b o,b≠D->h'.get? b=some o->h2.get? b=some o:=λb o hb e=>(sb.2 b hb).trans e;refine af ⟨g_ Zu _,ih (i+1) (j+1) 0 _ (by lia) au ?_ iD ?_ (λb o aB e=>pE b o (aV aB) (cj b o aB e)) λh3 kZ x5 gQ=>hR h3 kZ x5 gQ⟩
  ·refine W.frame _ h' h2 vH λb hb o e=>pE b o (λz=>?_) e;simp only[aJ,k_,lr] at hb;rcases hb with rfl|rfl
   ·exact cD _ (z ▸ i6)
   ·exact cD _ (z ▸ iD)
  ·rw[Qr ps i ps[i] (bT aA)];exact hd2
set_option maxHeartbeats 1000000 in
theorem PY{n:Nat}{sl:Array (Option Value)}{Q:Value->Shared->Prop}(hh:A.handled=none)(hu:A.units+40<cLine)(hl:s.heap.get? l=some { cls:=.type "list",dict:=none,data:=.seq items n,slots:=sl }) (ht:LK prog w s.heap s.heap.objs.size items ps) (hn:items.size<=100000)
  (q:∀(h':Heap)(tk:Nat),h'.DictOfH (L2.fz prog w) s.heap.objs.size (ik [] ps)->(∀b o,s.heap.get? b=some o->h'.get? b=some o)->Q (.ref s.heap.objs.size) { s with heap:=h',toks:=tk }) :
  wpAny (model prog w) A (call (.type "dict") [.ref l]) Q E s:=by
 refine callType_codes (Q₁ := λobj aL=>obj=.ref s.heap.objs.size/\aL = { s with heap:=s.heap.push { cls:=.type "dict",data:=.dict #[] } }) F.kt_called_dict (F.kt_typeCall_dict_1 _) F.entry_dict_init (kt_code_dict_new _ ⟨rfl,rfl⟩) ?_;rintro obj aL ⟨rfl,rfl⟩;have jN:(s.heap.push { cls:=.type "dict",data:=.dict #[] }).DictOfH (L2.fz prog w) s.heap.objs.size []:=Heap.DictOfH.new s.heap;have bW:(s.heap.push { cls:=.type "dict",data:=.dict #[] }).get? l=some { cls:=.type "list",dict:=none,data:=.seq items n,slots:=sl }:=ax _ hl;have iD:l<s.heap.objs.size:=aH hl;have k0:∀b o,b<s.heap.objs.size->s.heap.get? b=some o->(s.heap.push { cls:=.type "dict",data:=.dict #[] }).get? b=some o:=λb o _ e=>ax _ e;have z0:(s.heap.push { cls:=.type "dict",data:=.dict #[] }).objs.size=s.heap.objs.size+1:=gD ..;refine⟨jN.typeIs,F.args_dict_init_2 _ _,?_⟩;generalize s.heap.push { cls:=.type "dict",data:=.dict #[] }=h1 at jN bW k0 z0;unfold Builtin.«dict.__init__»;refine ae ?_;unfold Builtin.Dict.selfAndRest;refine ae (wpAny_notOrdered_dict jN.typeIs ?_);show wpAny _ _ (pure (s.heap.objs.size,[Value.ref l])) _ _ _;refine af ?_;show wpAny _ _ (Builtin.Dict.updateFrom "dict.__init__" s.heap.objs.size (.ref l) [] .none) _ _ _;unfold Builtin.Dict.updateFrom;refine ae (qC (T := "list") ⟨_,bW,rfl⟩ ?_);rw[ai (by decide)];refine ae (Ia hh bW λh2 OX k2 z2=>?_);rw[ai (show(none:Option Value).isNone=true from rfl)];refine ae (oz ?_);have gm:=k2 _ _ bW;have nr:h2.IsList l items:=⟨_,gm,rfl,n,rfl⟩;refine ae (ti nr ?_);have Fe:(h2.push { cls:=.type "list_iterator",data:=.fields #[.ref l,.int 0 0] }).DictOfH (L2.fz prog w) s.heap.objs.size []:=by
  obtain⟨o,es,ep,ho,h1,h2,h3,h4,h5⟩:=jN;exact⟨o,es,ep,ax _ (k2 _ _ ho),h1,h2,h3,λx hx=>(nomatch hx),h5⟩
 have hsz:s.heap.objs.size<h2.objs.size:=by lia
 refine af ⟨g_ Zu _,?_⟩;refine Q_ (h0:=s.heap) (by simpa using hh) ?_ ht hsz (aV (g9 iD hsz)) hn (items.size-0) 0 0 0 _ rfl (bE _) ⟨⟨_,bo _ rfl,rfl,rfl⟩,nr.push _⟩ iD Fe (λb o hb e=>ax _ (k2 _ _ (k0 b o hb e))) λh' tk bQ aB=>?_
 ·exact(show _+20<cLine by simp;lia)
 exact⟨rfl,q h' tk bQ λb o e=>aB b o (aH e) e⟩
end av
namespace L2
open PySem PySem.Spec PyProof.Rows PySem.W av
def Ae(aa:List (ZG×Addr×V)):List (ZG×Addr×V):=aa.foldl (λm kv=>putN m kv.1 kv.2.1 kv.2.2) []
theorem Ig:∀(aa m:List (ZG×Addr×V)),(aa.foldl (λm kv=>putN m kv.1 kv.2.1 kv.2.2) m).length<=m.length+aa.length
 | [],m=>aq _
 | kv::aa,m=>by
  have h1:=Ig aa (putN m kv.1 kv.2.1 kv.2.2);have h2:=IW m kv.1 kv.2.1 kv.2.2;rw[bM,vp];lia
theorem Lo:∀{aa:List (ZG×Addr×V)}{ps:List eE}{m:List (ZG×Addr×V)}{m':List eE},NR aa ps->NR m m'->NR (aa.foldl (λm kv=>putN m kv.1 kv.2.1 kv.2.2) m) (ik m' ps)
 | _,_,_,_,.nil,h=>h
 | _,_,m,m',.cons (a:=kv) (b:=p) r t,h=>by
  have h1:=h.put kv.1 kv.2.1 r.2.2;have h2:=Lo t h1;show NR (List.foldl _ (putN m kv.1 kv.2.1 kv.2.2) _) (ik (storedH m' p.1 p.2.1 p.2.2) _);rw[<- r.1,<- r.2.1];exact h2
theorem Uz{P:Program}{w:World}{H:Hp}{h:Heap}{b:Addr}{k:ZG}{u:Value}(ok:a9 P w H h)(e:aN H b k):oZ P w h h.objs.size (k,b,u):=λh' hk=>by
 obtain⟨o,v,c,n,g1,g2,g3,g4,g5⟩:=ng ok e;obtain⟨o',its,n',f1,f2⟩:=g5;exact⟨o,v,c,n,hk b o (aH g1) g1,g2,g3,g4,o',its,n',hk c o' (aH f1) f1,f2⟩
variable{X:Cx}
theorem Qa(hc:X.calm=true)(hu:X.A.units+40<cLine):f_ X (.type "dict") (λxs H Q=>∃l ys aa,xs=[.ref l]/\aj X.K H l ys/\ys.length<=90000/\Paired (λ(y:V)(kv:ZG×Addr×V)=>∃t,y=.ref t/\H t=some (.tup [.ref kv.2.1,kv.2.2])/\aN H kv.2.1 kv.1) ys aa/\∀d,H d=none->Q (.ref d) (upd H d (Zm X.prog X.w d (Ae aa)))):=by
 intro pins s σ H xs us Q I r h;obtain⟨l,ys,aa,rfl,hq,hlen,hp,q⟩:=h;obtain⟨u,rfl,ru⟩:=vals1 r;cases ru;obtain⟨its,rv,⟨o,n,ho,yp,yt,yr⟩,hz⟩:=I.list hq;have hl:=rv.length;obtain⟨OA,GP,OB,GR⟩:=o;simp only at yp yt yr;subst yp yt yr;have key:∀{ys:List V}{aa:List (ZG×Addr×V)}{its:List Value},Paired (λ(y:V)(kv:ZG×Addr×V)=>∃t,y=.ref t/\H t=some (.tup [.ref kv.2.1,kv.2.2])/\aN H kv.2.1 kv.1) ys aa->Vals ys its->∃ps:List eE,NR aa ps/\its.length=ps.length/\(∀p∈ps,oZ X.prog X.w s.heap s.heap.objs.size p)/\∀(i:Nat) v p,its[i]?= some v->ps[i]?= some p->D' X.prog X.w s.heap v p:=by
  intro ys aa its hp
  induction hp generalizing its with
  | nil =>
   intro rv;cases rv;exact⟨[],.nil,rfl,λ_ h=>(nomatch h),λi v p h=>(nomatch h)⟩
  | @cons y kv ys aa r t ih =>
   intro rv;cases rv with
   | @cons _ v _ its ry rr =>
    obtain⟨ps,h1,h2,h4,h3⟩:=ih rr;obtain⟨ta,rfl,ht,hb⟩:=r;obtain rfl:v=Value.ref ta:=ry;obtain⟨_,us,eh,o,ho,cQ,n,hd⟩:=I.ah ta _ ht;obtain⟨u1,u2,rfl,r1,r2⟩:=Vals.two eh;obtain rfl:u1=Value.ref kv.2.1:=r1;have hk:=ng I.ah hb;refine⟨(kv.1,kv.2.1,u2)::ps,.cons ⟨rfl,rfl,r2⟩ h1,by rw[bM,bM,h2],λp hp=>?_,λi v p e1 e2=>?_⟩
    ·rcases aJ.mp hp with rfl|hp
     ·exact Uz I.ah hb
     ·exact h4 p hp
    ·cases i with
     | zero =>
      injection e1 with e1;injection e2 with e2;subst e1 e2;exact⟨ta,o,n,rfl,ho,cQ,hd,hk⟩
     | succ i=>exact h3 i v p e1 e2
 obtain⟨ps,h1,h2,h4,h3⟩:=key hp rv;refine av.PY (ps:=ps) (I.ok.hd hc) hu ho ⟨by rw[bP];exact h2,h4,λi v p e1 e2 h' hk=>?_⟩ (by rw[bP];lia) λh' tk bQ hk=>?_
 ·obtain⟨b,o,n,e,bX,h5,h6,h7⟩:=h3 i v p (by rw[<- e1];simp) e2;exact⟨b,o,n,e,hk b o (aH bX) bX,h5,h6,h4 p (bU e2) h' hk⟩
 ·have A9:aa.length=ps.length:=de h1;have aA:(Ae aa).length<=aa.length:=by
   have:=Ig aa [];rw[sU,qu] at this;exact this
  obtain⟨o,es,ep,g1,g2,g3,g4,g5,g6⟩:=bQ;have hf:H s.heap.objs.size=none:=I.ah.fresh (aq _);exact⟨.ref _,_,I.laid (t':=tk) (λb o e=>hk b o e) (aq _) (show ZL X.prog X.w _ h' _ (Zm X.prog X.w s.heap.objs.size (Ae aa)) from⟨⟨by rw[aT];lia,lj.mpr (eu (aV I.big)),_,Lo h1 .nil,o,es,ep,g1,g2,g3,g4,g6⟩,⟨o,g1⟩,λh1 h2 ⟨y1,y2,ys,y3,o',bz,fH,y4,y5⟩ keep=>⟨y1,y2,ys,y3,o',bz,fH,keep _ y4,y5⟩⟩),rfl,q _ hf⟩
end L2
namespace av
open PySem PyProof.Rows vS PySem.W PySem.SeqAt L2
abbrev Pk:=Int×List Int
def ltI:List Int->List Int->Bool
 | [],[]=>false
 | [],_::_=>true
 | _::_,[]=>false
 | x::xs,y::ys=>if x=y then ltI xs ys else decide (x<y)
theorem Dm:∀xs:List Int,ltI xs xs=false
 | []=>rfl
 | x::xs=>by rw[ltI,ai rfl];exact Dm xs
theorem Tn:eC ltI where
 me:=Dm
 trans:=by
  intro a
  induction a with
  | nil =>
   intro b c h1 h2;cases c with
   | nil=>cases b <;> cases h2
   | cons _ _=>rfl
  | cons x xs ih =>
   intro b c h1 h2;cases b with
   | nil=>cases h1
   | cons y ys =>
    cases c with
    | nil=>cases h2
    | cons z zs =>
     rw[ltI] at h1 h2 ⊢;by_cases e1:x=y
     ·subst e1;by_cases e2:x=z
      ·rw[ai rfl] at h1;rw[ai e2] at h2 ⊢;exact ih _ _ h1 h2
      ·rw[ag e2] at h2 ⊢;exact h2
     ·rw[ag e1] at h1;have h1:=bh h1;by_cases e2:y=z
      ·subst e2;rw[ag e1];exact aF h1
      ·rw[ag e2] at h2;have h2:=bh h2;rw[ag (by lia)];exact aF (by lia)
 vb:=by
  intro a
  induction a with
  | nil =>
   intro b h1 h2;cases b with
   | nil=>rfl
   | cons _ _=>cases h1
  | cons x xs ih =>
   intro b h1 h2;cases b with
   | nil=>cases h2
   | cons y ys =>
    rw[ltI] at h1 h2;by_cases e:x=y
    ·subst e;rw[ai rfl] at h1 h2;rw[ih _ h1 h2]
    ·rw[ag e] at h1;rw[ag (λz=>e z.symm)] at h2;have h1:=mJ h1;have h2:=mJ h2;lia
def ni:Pk->Pk->Bool:=o3 (λa b:Int=>decide (a<b)) ltI
theorem TF:eC ni:=wx.lex Tn
theorem JT:∀xs ys:List Int,PyData.eqvAll (xs.map PyData.int) (ys.map PyData.int)=decide (xs=ys)
 | [],[]=>rfl
 | [],_::_=>by simp[PyData.eqvAll]
 | _::_,[]=>by simp[PyData.eqvAll]
 | x::xs,y::ys=>by
  show((x == y)&&PyData.eqvAll (xs.map PyData.int) (ys.map PyData.int))=_;rw[JT xs ys];by_cases e:x=y <;> by_cases e2:xs=ys <;> simp[e,e2]
theorem Jb:∀xs ys:List Int,fK (xs.map PyData.int) (ys.map PyData.int) (ltI xs ys)
 | [],[]=>.nn
 | [],_::_=>.nc
 | _::_,[]=>.cn
 | x::xs,y::ys=>by
  by_cases e:x=y
  ·rw[ltI,ai e];exact .eq (by show(x == y)=true;rw[e];simp) (Jb xs ys)
  ·rw[ltI,ag e];exact .lt (by show(x == y)=false;exact lj.mpr e) (.int x y)
theorem lay_ints:∀xs:List Int,PyData.canLayAll0 (xs.map PyData.int)=true
 | []=>rfl
 | x::xs=>by
  show(true&&PyData.canLayAll0 (xs.map PyData.int))=true;rw[lay_ints xs];rfl
theorem Kb:∀xs:List Int,PyData.depthAll (xs.map PyData.int)=0
 | []=>rfl
 | x::xs=>by
  show max 0 (PyData.depthAll (xs.map PyData.int))=0;rw[Kb xs];rfl
def nh:List Value->List Int->Prop:=Paired λv i=>∃t,v=Value.int i t
theorem nh.inj:∀{vs:List Value}{a b:List Int},nh vs a->nh vs b->a=b
 | _,_,_,.nil,.nil=>rfl
 | _,_,_,.cons ⟨_,e1⟩ t1,.cons ⟨_,e2⟩ t2=>by
  rw[e1] at e2;injection e2 with e2;rw[e2,nh.inj t1 t2]
theorem nh.reads{h:Heap}:∀{vs:List Value}{a:List Int},nh vs a->∃as,ReadsAll h vs (a.map PyData.int) as
 | _,_,.nil=>⟨_,.nil⟩
 | _,_,.cons ⟨_,e⟩ t=>by
  obtain⟨as,r⟩:=nh.reads (h:=h) t;subst e;exact⟨_,.cons (.int _ _) r⟩
def iW(h:Heap)(v:Value)(q:Pk):Prop := ∃a o t n c o2 vs n2,v=.ref a/\h.get? a=some o/\o.cls=.type "tuple" /\ o.data=.seq #[.int q.1 t,.ref c] n/\h.get? c=some o2/\o2.cls=.type "tuple" /\ o2.data=.seq vs n2/\nh vs.toList q.2
theorem iW.inj{h:Heap}{v:Value}{q q':Pk}(x:iW h v q)(y:iW h v q'):q=q':=by
 obtain⟨a,o,t,n,c,o2,vs,n2,rfl,h1,_,h3,h4,_,h6,h7⟩:=x;obtain⟨a',o',t',n',c',Pq,zD,Ci,e,mO,_,fW,vE,_,Hx,Ph⟩:=y;cases e;rw[h1] at mO;cases mO;rw[h3] at fW;obtain⟨q1,q2⟩:=q;obtain⟨r1,r2⟩:=q';simp only[Data.seq.injEq,Array.mk.injEq,List.cons.injEq,Value.int.injEq,Value.ref.injEq,and_true] at fW;obtain⟨⟨⟨e1,_⟩,e2⟩,_⟩:=fW;subst e2;rw[h4] at vE;cases vE;rw[h6] at Hx;cases Hx;rw[e1,show q2=r2 from h7.inj Ph]
variable{h:Heap}{v:Value}
theorem iW.keep{h':Heap}{q:Pk}(x:iW h v q)(k:∀b o,h.get? b=some o->h'.get? b=some o):iW h' v q:=by
 obtain⟨a,o,t,n,c,o2,vs,n2,rfl,h1,h2,h3,h4,r⟩:=x;exact⟨a,o,t,n,c,o2,vs,n2,rfl,k _ _ h1,h2,h3,k _ _ h4,r⟩
open Classical in
noncomputable def je(h:Heap)(v:Value):Pk:=if x:∃q,iW h v q then x.choose else(0,[])
theorem Ap{q:Pk}(x:iW h v q):je h v=q:=by
 unfold je;rw[dif_pos ⟨q,x⟩];exact(Exists.choose_spec (⟨q,x⟩:∃q,iW h v q)).inj x
theorem JU{h:Heap}:∀{vs:List Value},(∀v∈vs,∃q,iW h v q)->∃fs,KatTups h vs fs/\fs.length=vs.length/\∀f∈fs,∃i t,f=.int i t
 | [],_=>⟨[],trivial,rfl,λ_ h=>nomatch h⟩
 | v::vs,hv=>by
  obtain⟨q,a,o,t,n,c,_,_,_,rfl,ho,hc,hd,_⟩:=hv v (aU ..);obtain⟨fs,kt,hl,hf⟩:=JU (vs:=vs) λx hx=>hv x (aR _ hx);refine⟨.int q.1 t::fs,KatTups.cons ho hc hd rfl kt,by simp[hl],λf hm=>?_⟩;rcases aJ.mp hm with rfl|hm
  ·exact⟨_,t,rfl⟩
  ·exact hf f hm
variable{prog:Program}{w:World}{A:Around}{s:Shared}
theorem Qf{h0:Heap}{vs:List Value}(hu:A.units+10<cLine)(hv:∀v∈vs,∃q,iW h0 v q)(k0:∀b o,h0.get? b=some o->s.heap.get? b=some o)(h2:2<=vs.length):v_ prog w A (λu v=>ni (je h0 u) (je h0 v)) vs s:=by
 have mP:∀v∈vs,∃q,iW s.heap v q:=λv hm=>let ⟨q,x⟩:=hv v hm;⟨q,x.keep k0⟩;obtain⟨fs,k,hl,hf⟩:=JU mP;refine⟨tuples' true,λQ E hq=>?_,?_⟩
 ·refine kat_kind (T:=.type "int") k (by lia) (λv hm=>?_) rfl hq;obtain⟨i,t,rfl⟩:=hf v hm;exact Looks.of_pure rfl
 ·intro x y hx hy E;rw[pairsOf_toList] at hx hy;obtain⟨q,xq⟩:=hv _ (mI hx).2;obtain⟨q',yq⟩:=hv _ (mI hy).2;have e1:(λx y:Keyed=>ni (je h0 x.1) (je h0 y.1)) x y=ni q q':=by
   show ni (je h0 x.1) (je h0 y.1)=_;have hx1:=(mI hx);have Ga:=(mI hy);rw[Ap xq,Ap yq]
  rw[e1];obtain⟨a,o,t,n,c,o2,Ho,n2,e,ho,hc,hd,g1,g2,g3,g4⟩:=xq.keep k0;obtain⟨a',o',t',n',c',Pq,ZrJ,Ci,e',bN,cQ,bQ,Pd,Pe,Pf,Pg⟩:=yq.keep k0;rw[e,e'];obtain⟨q1,q2⟩:=q;obtain⟨r1,r2⟩:=q';obtain⟨as,ra⟩:=g4.reads (h:=s.heap);obtain⟨bs,rb⟩:=Pg.reads (h:=s.heap);have rd:Reads s.heap (.ref c) (.tuple (q2.map PyData.int)) as:=.tuple g1 g2 g3 ra;have HE:Reads s.heap (.ref c') (.tuple (r2.map PyData.int)) bs:=.tuple Pd Pe Pf rb;have pA:∀l:List Int,(PyData.tuple (l.map PyData.int)).depth=1:=λl=>by
   show PyData.depthAll (l.map PyData.int)+1=1;rw[Kb]
  have Nz:A.units+min (PyData.tuple (q2.map PyData.int)).depth (PyData.tuple (r2.map PyData.int)).depth<cLine:=by
   rw[pA,pA];lia
  refine kat_lt ho hd bN bQ ?_;have Hk:ni (q1,q2) (r1,r2)=(decide (q1<r1) || (decide (q1=r1)&&ltI q2 r2)):=rfl;rw[Hk];refine kat_cons (ze (kat_go (λc1=>kat_yes ?_) (λc1=>kat_no ?_)))
  ·have hU:q1=r1:=eq_of_beq c1;subst hU;refine kat_cons (eqAt_reads _ _ A s _ _ _ _ rd HE (lay_ints q2) (lay_ints r2) Nz _ _ _ _ ?_);rw[show PyData.eqv (.tuple (q2.map PyData.int)) (.tuple (r2.map PyData.int))=decide (q2=r2) from JT q2 r2];refine kat_go (λc4=>kat_yes (kat_nil ⟨rfl,?_⟩)) (λc4=>kat_no ?_)
   ·rw[bh c4];simp[Dm]
   ·refine kat_one _ _ (j9.at (.tup (Jb q2 r2)) A rd HE (lay_ints q2) (lay_ints r2) Nz _ _ _ _ ⟨rfl,?_⟩);simp
  ·refine oneLt_int ⟨rfl,?_⟩;have hU : ¬ q1=r1:=λz=>by rw[z] at c1;simp at c1
   simp[hU]
end av
namespace L2
open PySem PySem.Spec PyProof.Rows PySem.W av
def pk(q:Pk):ZG:=(.inl q.1,q.2.map .inl)
theorem rh{a b:Pk}(h:pk a=pk b):a=b:=by
 obtain⟨a1,a2⟩:=a;obtain⟨b1,b2⟩:=b;have h1:=congrArg Prod.fst h;have h2:=congrArg Prod.snd h;have h1:(Sum.inl a1:Key)=.inl b1:=h1;have h2:a2.map (Sum.inl:Int->Key)=b2.map .inl:=h2;injection h1 with h1;rw[h1,List.map_inj_right (λ_ _ e=>by injection e) |>.mp h2]
def bG(H:Hp)(zs:List V)(qs:List Pk):Prop:=Paired (λz q=>∃b,z=V.ref b/\aN H b (pk q)) zs qs
theorem bG.length{H:Hp}:∀{zs:List V}{qs:List Pk},bG H zs qs->zs.length=qs.length
 | _,_,.nil=>rfl
 | _,_,.cons _ t=>by rw[bM,bM,bG.length t]
theorem bG.get{H:Hp}:∀{zs:List V}{qs:List Pk},bG H zs qs->∀(i:Nat) z,zs[i]?= some z->∃b q,qs[i]?= some q/\z=V.ref b/\aN H b (pk q)
 | _,_,.cons ⟨p,e1,e2⟩ t,i,z,hz=>by
  cases i with
  | zero =>
   injection hz with hz;subst hz;exact⟨p,_,rfl,e1,e2⟩
  | succ i=>exact bG.get t i z hz
theorem bG.mem{H:Hp}:∀{zs:List V}{qs:List Pk},bG H zs qs->∀z∈zs,∃p,∃q∈qs,z=V.ref p/\aN H p (pk q)
 | _,_,.cons ⟨p,e1,e2⟩ t,z,hz=>by
  rcases aJ.mp hz with rfl|hz
  ·exact⟨p,_,aU ..,e1,e2⟩
  ·obtain⟨p,q,hq,r⟩:=bG.mem t z hz;exact⟨p,q,aR _ hq,r⟩
theorem bG.keep{H H':Hp}:∀{zs:List V}{qs:List Pk},bG H zs qs->(∀b xs,H b=some (.tup xs)->H' b=some (.tup xs))->bG H' zs qs
 | _,_,.nil,_=>.nil
 | _,_,.cons ⟨p,e1,e2⟩ t,k=>.cons ⟨p,e1,e2.mono k⟩ (bG.keep t k)
theorem bG.snoc{H:Hp}{q:Pk}{b:Addr}(e:aN H b (pk q)):∀{zs:List V}{qs:List Pk},bG H zs qs->bG H (zs ++ [.ref b]) (qs ++ [q])
 | _,_,.nil=>.cons ⟨b,rfl,e⟩ .nil
 | _,_,.cons r t=>.cons r (bG.snoc e t)
theorem KR:∀{l:List Int}{us:List Value},Vals (l.map V.int) us->nh us l
 | [],_,.nil=>.nil
 | _::_,_,.cons r t=>by
  obtain⟨t1,rfl⟩:=r;exact .cons ⟨t1,rfl⟩ (KR t)
variable{P:Program}{w:World}
theorem DF{H:Hp}{h:Heap}{b:Addr}{q:Pk}(ok:a9 P w H h)(e:aN H b (pk q)):iW h (.ref b) q:=by
 obtain⟨c,e1,e2⟩:=e;obtain⟨_,us,eh,o,ho,cQ,n,hd⟩:=ok b _ e1;obtain⟨u1,us,rfl,r1,eh⟩:=Vals.inv eh;obtain⟨u2,us,rfl,r2,eh⟩:=Vals.inv eh;obtain rfl:=Vals.end_ eh;obtain⟨t1,rfl⟩:=r1;obtain rfl:u2=Value.ref c:=r2;rw[show(pk q).2.map kV=q.2.map V.int by show(q.2.map Sum.inl).map kV=_;rw[gF];rfl] at e2;obtain⟨_,us,eh,o2,bX,fQ,n2,hd2⟩:=ok c _ e2;exact⟨b,o,t1,n,c,o2,us.toArray,n2,rfl,ho,cQ,hd,bX,fQ,hd2,KR eh⟩
theorem K5{P:Program}{w:World}{H:Hp}{h0:Heap}(ok:a9 P w H h0){ys:List V}{its:List Value}{qs:List Pk}(rv:Vals ys its)(ql:bG H ys qs):∀us:List Value,(∀u∈us,u∈its)->∃zs,Vals zs us/\bG H zs (us.map (je h0))
 | [],_=>⟨[],.nil,.nil⟩
 | u::us,h=>by
  obtain⟨y,hy,ry⟩:=wt rv u (h u (aU ..));obtain⟨zs,rz,hz⟩:=K5 ok rv ql us λx hx=>h x (aR _ hx);obtain⟨t,q,_,rfl,e2⟩:=ql.mem y hy;have hu:u=Value.ref t:=ry;subst hu;exact⟨_,.cons ry rz,.cons ⟨t,rfl,by rw[Ap (DF ok e2)];exact e2⟩ hz⟩
theorem K1{P:Program}{w:World}{H:Hp}{h0:Heap}(ok:a9 P w H h0):∀{ys:List V}{its:List Value}{qs:List Pk},Vals ys its->bG H ys qs->its.map (je h0)=qs
 | _,_,_,.nil,.nil=>rfl
 | _,_,_,.cons (b:=u) r rr,.cons ⟨p,e1,e2⟩ t=>by
  subst e1;have hu:u=Value.ref p:=r;subst hu;rw[cu,K1 ok rr t,Ap (DF ok e2)]
theorem Tv{H:Hp}{aa:List (ZG×Addr×V)}{xs:List (ZG×Addr×Value)}(h:NR aa xs):(∀x∈aa,aN H x.2.1 x.1)->∀{ps:List Pk},aa.map (·.1)=ps.map pk->∃ys,Vals ys (xs.map λx=>Value.ref x.2.1)/\bG H ys ps:=by
 induction h with
 | nil =>
  intro _ ps e;cases ps with
  | nil=>exact⟨[],.nil,.nil⟩
  | cons n ns=>cases e
 | @cons p q l m r t ih =>
  intro hk ps e;cases ps with
  | nil=>cases e
  | cons n ns =>
   rw[cu,cu] at e;obtain⟨e1,e2⟩:=List.cons.inj e;obtain⟨ys,h1,h2⟩:=ih (λx hx=>hk x (aR _ hx)) e2;refine⟨.ref q.2.1::ys,.cons rfl h1,.cons ⟨q.2.1,rfl,?_⟩ h2⟩;have h3:=hk p (aU ..);rw[e1,r.2.1] at h3;exact h3
variable{X:Cx}
theorem P6(hP:X.prog=P)(hw:X.w=w)(hc:X.calm=true)(hu:X.A.units+30<cLine):f_ X (.builtin "sorted") (λxs H Q=>∃(d:Addr)(aa:List (ZG×Addr×V))(ps:List Pk),xs=[.ref d]/\eM P w H d aa/\aa.length<=63/\aa.map (·.1)=ps.map pk/\∀(r:Addr)(zs:List V)(ms:List Pk),H r=none->ms.Perm ps->ms.Pairwise (λa b=>ni b a=false)->bG H zs ms->Q (.ref r) (upd H r (.lst zs))):=by
 subst hP hw;intro pins s σ H xs us Q I r h;obtain⟨d,aa,ps,rfl,hd,hlen,dO,q⟩:=h;obtain⟨u,rfl,rx⟩:=vals1 r;obtain rfl:u=.ref d:=rx;obtain⟨⟨z,lo,xs,rel,o,es,ep,ho,hx,cA,gR,gS⟩,_,_⟩:=(show ZL X.prog X.w H s.heap d (Zm X.prog X.w d aa) from hd.1.ok I.ah);obtain⟨ys,rv,pl⟩:=Tv rel hd.2 dO;have YS:es.toList.map (·.key)=xs.map λx=>Value.ref x.2.1:=by
  rw[gR,gF];rfl
 have F_:aa.length=xs.length:=de rel;have jL:es.size=xs.length:=by rw[<- aK,gR,ay]
 refine zW (lv:=λu v=>ni (je s.heap u) (je s.heap v)) (C:=λys=>ys=xs.map λx=>Value.ref x.2.1) (TF.OR (je s.heap)) (λQ' E' hq=>?_) (λmS h6 OY d6 hC k6 xt=>?_) λpa mS out h3 kZ d3 c hC dq kF k3 e3 hle FF=>?_
 ·refine IJ (KO lo) (I.ok.hd hc) (⟨o,ho,hx,cA⟩:ff s.heap d es ep) (by rw[aT];lia) λacc h' tk kp hit hle=>?_;have uC:acc.toList=es.toList.map (·.key):=by
   refine BY λj=>?_;rw[dU,cp,dU];cases hj:acc[j]? with
   | none =>
    have h3:acc.size<=j:=Array.getElem?_eq_none_iff.mp hj;rw[hit.1] at h3;rw[vd h3];rfl
   | some v =>
    obtain⟨e,h1,rfl⟩:=hit.2 j v hj;rw[h1];rfl
  rw[uC,YS];exact hq _ h' tk s.drawn kp rfl (by rw[ay];lia) hle
 ·subst hC;refine Qf (h0:=s.heap) (by show X.A.units+1+1+10<cLine;lia) (λv hv=>?_) k6 xt;obtain⟨y,hy,ry⟩:=wt rv v hv;obtain⟨t,q1,_,rfl,e2⟩:=pl.mem y hy;obtain rfl:v=Value.ref t:=ry;exact⟨q1,DF I.ah e2⟩
 ·subst hC;obtain⟨zs,rz,Gg⟩:=K5 I.ah rv pl out.toList λu hu=>dq.mem_iff.mp hu;have dQ:zs.length=out.size:=rz.length.trans (aK ..);have xT:out.size=xs.length:=by
   have:=dq.length_eq;rw[aK,ay] at this;exact this
  have I2:=I.laid (h':=h3) (t':=kZ) (a:=pa) (o:=.lst zs) (λb o e=>k3 b o e) hle (show ZL X.prog X.w _ h3 _ (.lst zs) from⟨by rw[aT];lia,out.toList,c,rz,e3⟩);refine⟨.ref pa,_,I2.draws (d:=d3),rfl,q pa zs _ (I.ah.fresh hle) ?_ (jk.mpr kF) Gg⟩;rw[<- K1 I.ah rv pl];exact dq.map _
end L2
namespace L2
open PySem PySem.Spec PyProof.Rows PySem.SeqAt PySem.W
structure vU(X:Cx)(pins:List (Addr×Obj))(σ : St)(it:Addr)(xs:List V)(S:Nat->Heap->Prop)(Src:Hp->Prop):Prop where
 data:∀{i h},S i h->∃o,h.get? it=some o/\(∀v,o.data ≠ .cell v)/\∀h':Heap,h'.get? it=some o->S i h'
 item:∀{i x H s}{Q':Option Value->Shared->Prop}{E:Value->Shared->Prop},Inv (bA X) pins σ H s->S i s.heap->Src H->xs[i]?= some x->bt (bA X) pins H it->(∀u s',Inv (bA X) pins σ H s'->S (i+1) s'.heap->RelV x u->Q' (some u) s')->wpAny (model X.prog X.w) X.A.in1 (pyNext (.ref it)) Q' E s
 done:∀{i H s}{Q':Option Value->Shared->Prop}{E:Value->Shared->Prop},Inv (bA X) pins σ H s->S i s.heap->Src H->xs.length<=i->bt (bA X) pins H it->(∀s',Inv (bA X) pins σ H s'->Q' none s')->wpAny (model X.prog X.w) X.A.in1 (pyNext (.ref it)) Q' E s
def AB(X:Cx)(σ : St)(f:Addr)(KF:V->Hp->VK->Prop):Prop := ∀{pins:List (Addr×Obj)}{x:V}{u:Value}{H:Hp}{s:Shared}{Q2:VK},Inv (bA X) pins σ H s->RelV x u->KF x H Q2->wpAny (model X.prog X.w) X.A.in1 (call (.ref f) [u]) (EP (bA X) pins σ Q2) dR s
structure vP(K:PySem.W.Frag)(H1:Hp)(p:Addr)(xs:List V)(bf:Nat->Nat->Bool)(KA:Nat->V->Hp->Prop)(KF:V->Hp->VK->Prop):Prop where
 keep:∀i k H H',KA i k H->(∀b o,b≠p->H b=some o->H' b=some o)->KA i k H'
 lt:∀i j k k' H,KA i k H->KA j k' H->LZ K H k k' (bf i j)
 ev:∀i x H,xs[i]?= some x->Zi H1 H->H p≠none->KF x H λkv H'=>Zi H H'/\KA i kv H'
variable{X:Cx}{pins:List (Addr×Obj)}{σ:St}{H:Hp}{s:Shared}{f it:Addr}{xs:List V}{S:Nat->Heap->Prop}{Src:Hp->Prop}{KF:V->Hp->VK->Prop}
theorem J1{x:V}{u:Value}{i:Nat}{Q2:VK}{Q':Value->Shared->Prop}(hK:AB X σ f KF)(wk:vU X pins σ it xs S Src)(I:Inv (bA X) pins σ H s)(st:S i s.heap)(hf:bt (bA X) pins H it)
  (r:RelV x u) (h:KF x H Q2) (hQ:∀v kx s' H',Inv (bA X) pins σ H' s'->S i s'.heap->bt (bA X) pins H' it->RelV kx v->Q2 kx H'->Q' v s') :
  wpAny (model X.prog X.w) X.A.in1 (call (.ref f) [u]) Q' dR s:=by
 obtain⟨o,e,hd,back⟩:=wk.data st;have I':Inv (bA X) (pins ++ [(it,o)]) σ H s:=I.yu λq hq=>(bc.mp hq).elim (λz=>I.pin q (bO _ z)) λz=>by
  rw[az.mp z];exact⟨e,hf.1,hf.2.1,hf.2.2.1,hd⟩
 refine ap (hK I' r h) λv s' ⟨kx,H',I2,rk,q⟩=>?_;have pn:=I2.pin (it,o) (bO _ (bO _ (az.mpr rfl)));exact hQ v kx s' H' I2.sM (back _ pn.1) ⟨pn.2.1,hf.2⟩ rk q
variable{H1:Hp}{p:Addr}
theorem C0{o:HO}(hn:H1 p=none)(s:Zi H1 H):Zi H1 (upd H p o):=λb u e=>by
 rw[Zc (λz=>by rw[z,hn] at e;cases e)];exact s b u e
theorem IE{o:HO}:∀b u,b≠p->H b=some u->(upd H p o) b=some u:=λb u hb e=>by
 rw[Zc hb];exact e
variable{KA:Nat->V->Hp->Prop}{bf:Nat->Nat->Bool}{Q:VK}{kw:List (Str×Value)}
theorem Sy(hu:X.A.in1.units+200<cLine)(hK:AB X σ f KF)(wk:vU X pins σ it xs S Src)(ok:X.Ok)(hn:H1 p=none)(hs:∀H,Zi H1 H->Src H)(kb:vP X.K H1 p xs bf KA KF)
  (q:∀x H',xs[c6 bf (xs.length-1)]?= some x->Zi H1 H'->Q x H') :
  ∀(r i:Nat)(bi bk:V)(H:Hp)(s:Shared),xs.length-(i+1)=r->i<xs.length->xs[c6 bf i]?= some bi->KA (c6 bf i) bk H->Zi H1 H->H p=some (.lst [bi,bk])->Inv (bA X) pins σ H s->S (i+1) s.heap->bt (bA X) pins H it ->
   codeAny (model X.prog X.w) X.A (.builtin "min.loop" ⟨[.ref it,.ref f,.ref p],kw⟩) (L9 X pins σ Q) s:=by
 have pI:(toString "min" ++ toString ".loop" : String)= "min.loop" := by decide
 intro r
 induction r with
 | zero =>
  intro i bi bk H s kD hi hb ka sm hp I st hf;obtain⟨_,its,n,rv,_,e⟩:=I.mh hp;obtain⟨ub,uk,rfl,rb,rk⟩:=vals2 rv;refine fF PySem.F.entry_min_loop ?_;rw[jj qy _];show wpAny _ X.A.in1 (seqItems? (.ref p) >>= _) _ _ _;refine ae (oA e rfl ?_);show wpAny _ X.A.in1 (tryCatch (pyNext (.ref it)) _ >>= _) _ _ _;refine ae (qB (wk.done I st (hs _ sm) (by lia) hf λs1 I1=>?_));obtain⟨_,its,n,rv,_,e⟩:=I1.mh hp;show wpAny _ X.A.in1 (updateSeq p (λ_=>#[]) >>= _) _ _ _;refine ae (wpAny_updateSeq e rfl (ae (wpAny_letGo (af ?_))));exact⟨bi,_,Inv.ZqL ok (I1.yi (its':=[]) hp e rfl .nil (bE _)),rb,q bi _ (by rw[show xs.length-1=i by lia];exact hb) (C0 hn sm)⟩
 | succ r ih =>
  intro i bi bk H s kD hi hb ka sm hp I st hf;obtain⟨_,its,n,rv,_,e⟩:=I.mh hp;obtain⟨ub,uk,rfl,rb,rk⟩:=vals2 rv;have jM:i+1<xs.length:=by lia
  have hx:xs[i+1]?= some (xs[i+1]' jM):=bT jM;generalize xs[i+1]' jM=xi at hx;refine fF PySem.F.entry_min_loop ?_;rw[jj qy _];show wpAny _ X.A.in1 (seqItems? (.ref p) >>= _) _ _ _;refine ae (oA e rfl ?_);show wpAny _ X.A.in1 (tryCatch (pyNext (.ref it)) _ >>= _) _ _ _;refine ae (qB (wk.item I st (hs _ sm) hx hf λu s1 I1 sI ru=>?_));show wpAny _ X.A.in1 (tryCatch (holding [u] (call (.ref f) [u])) _ >>= _) _ _ _;refine ae (qB (dC (cw (J1 hK wk I1 sI hf ru (kb.ev (i+1) xi H hx sm (by rw[hp];exact λz=>nomatch z)) (Q':=λv s'=>∃kx H',Inv (bA X) pins σ H' s'/\S (i+1+1) s'.heap/\bt (bA X) pins H' it/\RelV kx v/\Zi H H'/\KA (i+1) kx H')
   λv kx s' H' a b c d e'=>⟨kx,H',a,b,c,d,e'⟩) (λv s2 h2=>?_) λ_ _ hF=>hF.elim)))
  obtain⟨kx,H2,I2,cT,uH,BH,cG,kI⟩:=h2;have dP:=cG _ _ hp;have N8:=kb.keep _ _ _ H2 ka λb o _ e=>cG b o e;obtain⟨d1,d2,D1,D2,c1,c2,hd,au⟩:=kb.lt _ _ _ _ _ kI N8;obtain⟨as,ra⟩:=D1.reads I2 BH;obtain⟨bs,Pu⟩:=D2.reads I2 rk;show wpAny _ X.A.in1 (tryCatch (holding [u,v] (richCompare .Lt v uk >>= _)) _ >>= _) _ _ _;refine ae (qB (dC (ae (au.at X.A.in1 ra Pu c1 c2 (by lia) X.prog X.w _ _ ?_))));refine ae (dC (mN ?_));refine ae (wpAny_letGo (af ?_));obtain⟨_,pT,n2,rv2,_,e2⟩:=I2.mh dP;cases c:bf (i+1) (c6 bf i) with
  | true =>
   simp only[lq];refine ae (wpAny_updateSeq e2 rfl (ae (wpAny_letGo ?_)));rw[pI];have e4:c6 bf (i+1)=i+1:=by
    show(if bf (i+1) (c6 bf i)=true then i+1 else c6 bf i)=_
    rw[ai c]
   refine af ⟨g_ qy _,ih (i+1) xi kx (upd H2 p (.lst [xi,kx])) _ (by lia) jM (by rw[e4];exact hx) (by rw[e4];exact kb.keep _ _ _ _ kI IE) (C0 hn (sm.trans cG)) Za (I2.yi (t':=s2.toks) (its':=[u,v]) dP e2 rfl (.cons ru (.cons BH .nil)) (by show 2<=sizeLine;decide)) ?_ (LC uH ⟨_,dP⟩)⟩;obtain⟨o,eo,_,back⟩:=wk.data cT;exact back _ ((g8 _ _ (Zg dP uH.1)).trans eo)
  | false =>
   simp only[eZ,dB];refine ae (wpAny_letGo ?_);rw[pI];have e4:c6 bf (i+1)=c6 bf i:=by
    show(if bf (i+1) (c6 bf i)=true then i+1 else c6 bf i)=_
    rw[ag (by rw[c];decide)]
   exact af ⟨g_ qy _,ih (i+1) bi bk H2 _ (by lia) jM (by rw[e4];exact hb) (by rw[e4];exact N8) (sm.trans cG) dP I2 cT uH⟩
theorem Jo(hu:X.A.in1.units+200<cLine)(hK:AB X σ f KF)(wk:vU X pins σ it xs S Src)(ok:X.Ok)(hn:H1 p=none)(hs:∀H,Zi H1 H->Src H)(kb:vP X.K H1 p xs bf KA KF)(aO:xs ≠ [])
  (q:∀x H',xs[c6 bf (xs.length-1)]?= some x->Zi H1 H'->Q x H') (I:Inv (bA X) pins σ (upd H1 p (.lst [])) s) (st:S 0 s.heap) (hf:bt (bA X) pins (upd H1 p (.lst [])) it) :
  codeAny (model X.prog X.w) X.A (.builtin "min.loop" ⟨[.ref it,.ref f,.ref p],kw⟩) (L9 X pins σ Q) s:=by
 have pI:(toString "min" ++ toString ".loop" : String)= "min.loop" := by decide
 have FG:(upd H1 p (.lst [])) p=some (.lst []):=Za;have yG:Zi H1 (upd H1 p (.lst [])):=Zi.new hn;obtain⟨_,ZsF,n0,rv0,_,e0⟩:=I.mh FG;cases rv0;refine fF PySem.F.entry_min_loop ?_;rw[jj qy _];show wpAny _ X.A.in1 (seqItems? (.ref _) >>= _) _ _ _;refine ae (oA e0 rfl ?_);show wpAny _ X.A.in1 (tryCatch (pyNext (.ref it)) _ >>= _) _ _ _;have hlen:0<xs.length:=B1.mpr aO;have hx:xs[0]?= some (xs[0]' hlen):=bT hlen;generalize xs[0]' hlen=x0 at hx;refine ae (qB (wk.item I st (hs _ yG) hx hf λu s1 I2 sI ru=>?_));show wpAny _ X.A.in1 (tryCatch (holding [u] (call (.ref f) [u])) _ >>= _) _ _ _;refine ae (qB (dC (cw (J1 hK wk I2 sI hf ru (kb.ev 0 x0 _ hx yG (by rw[FG];exact λz=>nomatch z)) (Q':=λv s'=>∃kx H',Inv (bA X) pins σ H' s'/\S (0+1) s'.heap/\bt (bA X) pins H' it/\RelV kx v/\Zi (upd H1 p (.lst [])) H'/\KA 0 kx H')
  λv kx s' H' a b c d e'=>⟨kx,H',a,b,c,d,e'⟩) (λv s2 h2=>?_) λ_ _ hF=>hF.elim)))
 obtain⟨kx,H2,I3,cT,uH,BH,cG,kI⟩:=h2;have dP:=cG _ _ FG;obtain⟨_,pT,n2,rv2,_,e2⟩:=I3.mh dP;refine ae (wpAny_updateSeq e2 rfl ?_);rw[pI];refine af ⟨g_ qy _,Sy hu hK wk ok hn hs kb q _ 0 x0 kx (upd H2 p (.lst [x0,kx])) _ rfl hlen hx (kb.keep _ _ _ _ kI IE) (C0 hn (yG.trans cG)) Za (I3.yi (t':=s2.toks) (its':=[u,v]) dP e2 rfl (.cons ru (.cons BH .nil)) (by show 2<=sizeLine;decide)) ?_ (LC uH ⟨_,dP⟩)⟩;obtain⟨o,eo,_,back⟩:=wk.data cT;exact back _ ((g8 _ _ (Zg dP uH.1)).trans eo)
theorem ID(a v:Value):argsOk "min" ⟨[a],[(Str.ofString "key",v)]⟩:=by unfold argsOk;kernel_rfl
def wK(K:PySem.W.Frag)(sp:Sp)(x:V)(H:Hp)(Q:VK):Prop := ∃l xs bf,x=.ref l/\aj K H l xs/\xs ≠ []/\∀p,H p=none->(∃KA,vP K H p xs bf KA (λx H Q2=>sp [x] H Q2 E0))/\∀x H',xs[c6 bf (xs.length-1)]?= some x->Zi H H'->Q x H'
theorem aj.sm{K:PySem.W.Frag}{H':Hp}{l:Addr}(h:aj K H l xs)(s:Zi H H'):aj K H' l xs:=by
 rcases h with(h|⟨o,h⟩)|h
 ·exact .inl (.inl (s _ _ h))
 ·exact .inl (.inr ⟨o,s _ _ h⟩)
 ·exact .inr h
section
variable{X:Cx}{pins:List (Addr×Obj)}{σ : St}{H:Hp}{s:Shared}{k:Nat}{f:Addr}{fd:FuncData}{ps:List Str}{sp:Sp}{Q:VK}
theorem Th{it l:Addr}{xs:List V}(hc:X.calm=true):vU X pins σ it xs (λi h=>h.IsListIter it l i) (λH=>aj X.K H l xs) where
 data:=λst=>RR st
 item:=λI st hq hx hf h=>R8 I st hq hx hf h
 done:=λI st hq hx hf h=>UL hc I st hq hx hf h
theorem QB{x:V}{u:Value}(hc:X.calm=true)(hu:X.A.in1.units+200<cLine)(F:aX X.prog X.w X.K X.mg X.base cx k f fd ps sp)(hb:Binds X.K fd ps [])(hr:bj k X.A.in1)(I:Inv X pins σ H s)(rx:RelV x u)(h:wK X.K sp x H Q) :
  wpAny (model X.prog X.w) X.A (call (.builtin "min") [u] [(Str.ofString "key",.ref f)]) (EP X pins σ Q) X.xe s:=by
 have pI:(toString "min" ++ toString ".loop" : String)= "min.loop" := by decide
 obtain⟨l,xs,bf,rfl,hq,aO,alt⟩:=h;cases rx;obtain⟨its,rv,pl,hz⟩:=I.list hq;refine PyProof.Rows.kmk_tree PySem.F.kind_min PySem.F.plain_min PySem.F.entry_min (ID _ _) ?_;show wpAny _ X.A.in1 (Builtin.Builtins.bindParams "min" ["key","default"] 0 ⟨[],[(Str.ofString "key",.ref f)]⟩ >>= _) _ _ s;refine ae (qz (show Builtin.Builtins.bindParams "min" ["key","default"] 0 ⟨[],[(Str.ofString "key",.ref f)]⟩=pure [some (.ref f),none] from rfl) ?_);refine ae (af ?_);refine ae (ti pl.isList ?_);refine ae (vC ?_ (bE _));rw[pI];refine af ⟨g_ qy _,?_⟩;have hS:(s.heap.push { cls:=.type "list_iterator",data:=.fields #[.ref l,.int 0 0] }).objs.size=s.heap.objs.size+1:=size_push' ..;have I0:Inv (bA X) pins σ H { s with heap:=s.heap.push { cls:=.type "list_iterator",data:=.fields #[.ref l,.int 0 0] },toks:=s.toks }:=I.in1.kept λb o e=>ax _ e;have I1:=I0.yh (its:=[]) (t':=s.toks) .nil (bE _);have fr:H (s.heap.push { cls:=.type "list_iterator",data:=.fields #[.ref l,.int 0 0] }).objs.size=none:=I0.fresh;have ne:s.heap.objs.size≠(s.heap.push { cls:=.type "list_iterator",data:=.fields #[.ref l,.int 0 0] }).objs.size:=by rw[hS];exact aV (mE _)
 have hf:bt (bA X) pins (upd H (s.heap.push { cls:=.type "list_iterator",data:=.fields #[.ref l,.int 0 0] }).objs.size (.lst [])) s.heap.objs.size:=I.in1.iY (aq _) (by rw[Zc ne];exact I.fresh);have st:((s.heap.push { cls:=.type "list_iterator",data:=.fields #[.ref l,.int 0 0] }).push { cls:=.type "list",data:=.seq ([]:List Value).toArray }).IsListIter s.heap.objs.size l 0:=⟨_,ax _ (bo _ rfl),rfl,rfl⟩;obtain⟨⟨KA,kb⟩,q⟩:=alt _ fr;exact Jo hu (λI' r h=>Aq (X:=bA X) (ds:=[]) (dvs:=[]) (E:=E0) F hr hb .nil wR I' (.cons r .nil) h) (Th hc) I.ok fr (λH' sm=>hq.sm sm) kb aO q I1 st hf
end
section
variable{X:Cx}{x:Str}{ps:List Str}{j k:Nat}{sp:Sp}{e:Expr}{te:TE}{p p2 pos kp:Pos}
theorem Tg(G:dY X.prog X.w X.K X.mg X.base x ps j sp)(hr:bj (k+1) X.A)(hc:X.calm=true)(YZ:Gl X (Str.ofString "min")) (Bf:X.mg (Str.ofString "min")=none) (hg:Gl X x) (pa:PA X [e] (lL te gf)) (hk:j<=k:=by decide) (du:(x == ("__debug__" : Str))=false:=by decide)
  (bY:backTo pos (starEach [e] X.env)=(false,eval e X.env)::backTo pos (starEach [] X.env):=by rfl) (aA:(backTo pos (starEach [e] X.env)).any (·.1)=false:=by rfl) :
  PE X (.Call (.Name (Str.ofString "min") p) [e] [⟨some (Str.ofString "key"),.Name x p2,kp⟩] pos) (λσ H Q=>te σ H λv H1=>wK X.K sp v H1 Q):=by
 obtain⟨f,fd,F,b,kpn,m⟩:=G.ex;intro pins s σ H Q I h;refine mK (kl I YZ Bf wI ?_);refine callWith_kw (ap (pa pos pins s σ H (λvs H1=>match vs with | [v]=>wK X.K sp v H1 Q|_=>False) I h) λus s1 ⟨vs,H1,I1,r,q⟩=>?_) bY aA
 match vs,r,q with
 | [v],r,q =>
  obtain⟨u,rfl,ru⟩:=r.one;have pk:PK X [⟨some (Str.ofString "key"),.Name x p2,kp⟩] (lL (tC (.ref f)) gf):=U8 (tX hg m (v:=.ref f) rfl du) UD;refine ap (pk pos pins s1 σ H1 (λzs H2=>match zs with | [z]=>z=.ref f/\wK X.K sp v H2 Q|_=>False) I1 ?_) λws s2 ⟨zs,H2,I2,rz,q2⟩=>?_
  ·show V.ref f=.ref f/\wK X.K sp v H1 Q;exact⟨rfl,q⟩
  ·match zs,rz,q2 with
   | [z],rz,q2 =>
    obtain⟨rfl,q2⟩:=q2;obtain⟨uf,rfl,rf⟩:=rz.one;cases rf;exact QB hc (by have:=(hr.in1).un;lia) (F.room hk) b hr.in1 I2 ru q2
end
def Lc(X:Cx)(P:Addr)(L:List (Pos×Str))(aw:List (Str×Nat))(t:TE)(v:V)(σ : St)(H:Hp)(Q:VK):Prop :=
 cL H P L/\∃d aa bf,v=.ref d/\H d=some (Zm X.prog X.w d aa)/\aa ≠ []/\(∀o u,X.jv d≠some (.aI o u))/\∀f H2 ob,H f=none->fO P H H2->cL H2 P L ->
  (∀p,(upd H2 d (.aI ob (Zm X.prog X.w d aa))) p=none->∃KA,vP X.K (upd H2 d (.aI ob (Zm X.prog X.w d aa))) p (aa.map λx=>V.ref x.2.1) bf KA (λx H Q2=>t (sq x σ aw) H Q2)) /\
  ∀b k v H',aa[c6 bf (aa.length-1)]?= some (k,b,v)->fO P H H'->cL H' P L->H' d=some (Zm X.prog X.w d aa)->Q (.ref b) H'
theorem RI{d:Addr}{ob:Obj}{aa:List (ZG×Addr×V)}{es:Array DictEntry}{ep:Nat}(hc:X.calm=true)(hx:ob.ExactDict)(cA:ob.data=.dict es ep)(hl:es.size=aa.length) :
  vU X pins σ it (aa.map λx=>V.ref x.2.1) (λi h=>h.IsKeyIter it d i es.size ep) (λH=>H d=some (.aI ob (Zm X.prog X.w d aa))) where
 data:=λ{i h} st=>by
  obtain⟨o,e,c,dd⟩:=id st;exact⟨o,e,(λv z=>by rw[dd] at z;cases z),λh' e'=>⟨o,e',c,dd⟩⟩
 item:=λ{i x H s Q' E} I st hH x9 hf h=>by
  obtain⟨gU,⟨z,lo,xs,rel,o2,uv,Xm,bX,kG,xF,Fl,ZY⟩,_⟩:=(show ZL X.prog X.w H s.heap d (.aI ob (Zm X.prog X.w d aa)) from I.ah d _ hH);rw[gU] at bX;cases bX;rw[cA] at xF;cases xF;rw[cp] at x9;obtain⟨⟨k,b,v⟩,eV,rfl⟩:=gG.mp x9;have hi:=(dc.mp eV).1;have cI:i<es.size:=by lia
  obtain⟨f0,f1,f2,f3,f4,f5⟩:=hf;refine DD st (⟨ob,gU,hx,cA⟩:ff s.heap d es ep) cI λh' bq sb=>?_;have I1:Inv (bA X) pins σ H { s with heap:=h' }:=I.turned (t':=s.toks) (λb o hb e=>(sb.2 b hb).trans e) f0 f1 f3 f4 f5;have F_:i<xs.length:=by
   have:=de rel;lia
  have hk:es[i].key=Value.ref xs[i].2.1:=by
   have e1:es.toList[i]?= some es[i]:=by simp
   rw[Fl,cp,bT F_] at e1;injection e1 with e1;rw[<- e1];rfl
  obtain⟨v',zw⟩:=LV rel i xs[i] (bT F_);rw[eV] at zw;injection zw with zw;have eb:b=xs[i].2.1:=congrArg (λx=>x.2.1) zw;exact h _ _ I1 bq (by rw[hk,eb];rfl)
 done:=λ{i H s Q' E} I st hH hi hf h=>by
  obtain⟨gU,_⟩:=(show ZL X.prog X.w H s.heap d (.aI ob (Zm X.prog X.w d aa)) from I.ah d _ hH);obtain⟨f0,f1,f2,f3,f4,f5⟩:=hf;rw[ay] at hi;exact DE (I.ok.hd hc) st (⟨ob,gU,hx,cA⟩:ff s.heap d es ep) (by lia) λh' eb=>h _ (I.turned (t':=s.toks) (λb o hb e=>eb b o hb e) f0 f1 f3 f4 f5)
section
variable{X:Cx}{P:Addr}{L:List (Pos×Str)}{params:Arguments}{scope:Scope}{body e:Expr}{uT p pos kp:Pos}{eQ:List (Str×Addr)}{px:Str}{aw:List (Str×Nat)}{t te:TE}{k kb:Nat}
theorem QX(Z:HN X P L params scope body uT eQ px aw kb t)(hc:X.calm=true)(hr:bj k X.A)(hg:Gl X "min") (hm:X.mg "min" = none) (pa:PA X [e] (lL te gf)) (hk:kb+3<=k:=by decide)
  (bY:backTo pos (starEach [e] X.env)=(false,eval e X.env)::backTo pos (starEach [] X.env):=by rfl) (aA:(backTo pos (starEach [e] X.env)).any (·.1)=false:=by rfl) :
  PE X (.Call (.Name "min" p) [e] [⟨some (Str.ofString "key"),.Lambda params body scope uT,kp⟩] pos) (λσ H Q=>te σ H λv H1=>Lc X P L aw t v σ H1 Q):=by
 have pI:(toString "min" ++ toString ".loop" : String)= "min.loop" := by decide
 intro pins s σ H Q I h;refine mK (kl I hg hm wI ?_);refine callWith_kw (ap (pa pos pins s σ H (λvs H1=>match vs with | [v]=>Lc X P L aw t v σ H1 Q|_=>False) I h) λus s1 ⟨vs,H1,I1,r,q⟩=>?_) bY aA
 match vs,r,q with
 | [v],r,q =>
  obtain⟨u,rfl,ru⟩:=r.one;obtain⟨T,d,aa,bf,rfl,hq,aO,nf,q⟩:=q;obtain rfl:u=.ref d:=ru;obtain⟨c,A2,uI⟩:=Z.code;refine kws_cons (SS I1 Z.bm A2 uI T Z.mem Z.one Z.cl Z.df λf H2 s2 I2 hn sT T2 LF=>kws_nil ?_);have uV:d≠P:=λz=>by
   obtain⟨OZ,hP,_⟩:=T;rw[z,hP] at hq;cases hq
  have FK:=sT _ _ uV hq;obtain⟨⟨z,lo,xs,rel,ob,es,ep,ho,hx,cA,gR,gS⟩,_⟩:=(show ZL X.prog X.w H2 s2.heap d (Zm X.prog X.w d aa) from I2.ah d _ FK);obtain⟨q1,q2⟩:=q f H2 ob hn sT T2;have I3:=I2.ML FK ho;have jL:es.size=aa.length:=by rw[<- aK,gR,ay,de rel]
  have hu:X.A.in1.units+200<cLine:=by have:=((hr.mono hk).in1).un;lia
  show wpAny _ _ (call (.builtin "min") [.ref d] [(Str.ofString "key",.ref f)]) _ _ _;refine PyProof.Rows.kmk_tree PySem.F.kind_min PySem.F.plain_min PySem.F.entry_min (ID _ _) ?_;show wpAny _ X.A.in1 (Builtin.Builtins.bindParams "min" ["key","default"] 0 ⟨[],[(Str.ofString "key",.ref f)]⟩ >>= _) _ _ s2;refine ae (qz (show Builtin.Builtins.bindParams "min" ["key","default"] 0 ⟨[],[(Str.ofString "key",.ref f)]⟩=pure [some (.ref f),none] from rfl) ?_);refine ae (af ?_);refine ae (DB lo (⟨ob,ho,hx,cA⟩:ff s2.heap d es ep) ?_);refine ae (vC ?_ (bE _));rw[pI];refine af ⟨g_ qy _,?_⟩;have GH:∀b o u,H2 b=some (.aI o u)->b≠d:=λb o u e z=>by rw[z,FK] at e;cases e
  have HM:Ay (upd H2 d (.aI ob (Zm X.prog X.w d aa))) f "<lambda>" (X.env.qual ++ "<lambda>") params body scope eQ:=by
   obtain⟨pm,ed,c',oc,vs,tq,g1,g2,g3⟩:=LF;exact⟨pm,ed,c',oc,vs,tq,by rw[Zc (GH _ _ _ g1)];exact g1,by rw[Zc (GH _ _ _ g2)];exact g2,g3⟩
  have iA:(upd H2 d (.aI ob (Zm X.prog X.w d aa))) d=some (.aI ob (Zm X.prog X.w d aa)):=Za;have back:∀x H',((aa.map λx=>V.ref x.2.1)[c6 bf ((aa.map λx=>V.ref x.2.1).length-1)]?= some x/\Zi (upd H2 d (.aI ob (Zm X.prog X.w d aa))) H')->H' d=some (.aI ob (Zm X.prog X.w d aa))/\Q x (upd H' d (Zm X.prog X.w d aa)):=by
   rintro x H' ⟨hx,sm⟩;refine⟨sm _ _ iA,?_⟩;rw[ay,cp] at hx;obtain⟨⟨k0,b,v0⟩,eV,rfl⟩:=gG.mp hx;have oH:∀b o,b≠d->H2 b=some o->(upd H' d (Zm X.prog X.w d aa)) b=some o:=λb o hb e=>by
    rw[Zc hb];exact sm b o (by rw[Zc hb];exact e)
   refine q2 b k0 v0 _ eV (λb o hb e=>?_) (T2.keep (λOZ e=>oH _ _ uV.symm e) λb o u e=>oH _ _ (GH _ _ _ e) e) Za;by_cases Nd:b=d
   ·subst Nd;rw[hq] at e;rw[Za];exact e
   ·exact oH _ _ Nd (sT _ _ hb e)
  have hK:AB X σ f (λx H Q2=>Ay H f "<lambda>" (X.env.qual ++ "<lambda>") params body scope eQ/\t (sq x σ aw) H Q2):=λ{oG x u H s Q2} I' r ⟨O8,h⟩=>by
   obtain⟨pm,ed,c',oc,vs,tq,g1,g2,g3,g4⟩:=O8;exact UM (X:=bA X) (k:=kb) I' hc ((hr.mono (bD (ot _) hk)).in1) Z.sc.in1 g1 g2 g3 g4 (Z.bind pm c' ed u) r (Z.body _ f (.ref c') s H (((hr.mono (bD (ot _) hk)).in1).deeper _)) h
  generalize upd H2 d (.aI ob (Zm X.prog X.w d aa))=H3 at I3 q1 HM iA back;generalize eoi:({ cls:=.type "dict_keyiterator",data:=.fields #[.ref d,.int 0 0,.int es.size 0,.int ep 0] }:Obj)=oi;have Fp:oi.isFreed=false:=by rw[<- eoi];rfl
  have hS:(s2.heap.push oi).objs.size=s2.heap.objs.size+1:=size_push' ..;have I4:Inv (bA X) pins σ H3 { s2 with heap:=s2.heap.push oi,toks:=s2.toks }:=I3.in1.kept λb o e=>ax _ e;have I5:=I4.yh (its:=[]) (t':=s2.toks) .nil (bE _);have fr:H3 (s2.heap.push oi).objs.size=none:=I4.fresh;have ne:s2.heap.objs.size≠(s2.heap.push oi).objs.size:=by rw[hS];exact aV (mE _)
  have hf:bt (bA X) pins (upd H3 (s2.heap.push oi).objs.size (.lst [])) s2.heap.objs.size:=I3.in1.iY (aq _) (by rw[Zc ne];exact I3.fresh);have st:((s2.heap.push oi).push { cls:=.type "list",data:=.seq ([]:List Value).toArray }).IsKeyIter s2.heap.objs.size d 0 es.size ep:=⟨_,ax _ (bo _ Fp),by rw[<- eoi],by rw[<- eoi];rfl⟩;obtain⟨KA,kb⟩:=q1 _ fr;have Po:vP X.K H3 (s2.heap.push oi).objs.size (aa.map λx=>V.ref x.2.1) bf KA (λx H Q2=>Ay H f "<lambda>" (X.env.qual ++ "<lambda>") params body scope eQ/\t (sq x σ aw) H Q2):=⟨kb.keep,kb.lt,λi x H hx sm hp=>⟨by
   obtain⟨pm,ed,c',oc,vs,tq,g1,g2,g3⟩:=HM;exact⟨pm,ed,c',oc,vs,tq,sm _ _ g1,sm _ _ g2,g3⟩,kb.ev i x H hx sm hp⟩⟩
  refine ow (Jo (Q:=λx H'=>(aa.map λx=>V.ref x.2.1)[c6 bf ((aa.map λx=>V.ref x.2.1).length-1)]?= some x/\Zi H3 H') hu hK (RI hc hx cA jL) I.ok fr (λH' sm=>sm _ _ iA) Po (λz=>aO (List.map_eq_nil_iff.mp z)) (λx H' hx sm=>⟨hx,sm⟩) I5 st hf) λr s' Cf=>?_;cases r with
  | error e=>exact Cf
  | ok o =>
   cases o with
   | ret v =>
    obtain⟨x,H',I',rx,qq⟩:=Cf;obtain⟨e1,e2⟩:=back x H' qq;exact⟨x,_,I'.OW e1 nf,rx,e2⟩
   | _=>exact Cf
end
end L2
namespace L2
open PySem PySem.Spec PyProof.Rows PySem.W
section
variable{X:Cx}{o i e value:Expr}{pos pos' Hg:Pos}{td ty tv:TE}{P:Program}{w:World}
theorem Jz(hP:X.prog=P)(hw:X.w=w)(hu:X.A.units+30<cLine)(ho:PE X o td)(hi:PE X i ty)(hs:Eh i):PE X (.Subscript o i pos) (LY P w td ty):=by
 subst hP hw;exact wu hu ho hi hs
theorem CN(hP:X.prog=P)(hw:X.w=w)(hu:X.A.units+30<cLine)(hi:PE X i ty)(ho:PE X o td):PC X .NotIn i o (KQ P w ty td):=by
 subst hP hw;exact zT hu hi ho
def VB(X:Cx)(t:TS):TS:=λD σ H=>t { D with nx:=λao H'=>∃d ob aa,H' d=some (.aI ob (Zm X.prog X.w d aa))/\(∀o u,X.jv d≠some (.aI o u))/\D.nx ao (upd H' d (Zm X.prog X.w d aa)) } σ H
theorem Kk{st:Stmt}{t:TS}(h:PS X st t):PS X st (VB X t):=by
 intro pins s σ H D I hq;refine ap (h pins s σ H _ I hq) λf s1 z=>?_;cases f with
 | next =>
  obtain⟨ao,H',I',d,ob,aa,e,nf,q⟩:=z;exact⟨ao,_,I'.OW e nf,q⟩
 | brk=>exact z
 | cont=>exact z
 | ret u=>exact z
variable{A:Around}
theorem lE{k:Nat}(hr:bj k A):A.units+30<cLine:=by
 have:=hr.un;lia
theorem Ja{k:Nat}(hr:bj k A):A.units+40<cLine:=by
 have:=hr.un;lia
end
def Sp.or(a b:Sp):Sp:=λvs H Q E=>a vs H Q E\/b vs H Q E
theorem aX.or{P:Program}{w:World}{K:PySem.W.Frag}{mg:Str->Option Value}{base:Heap}{C:js}{k:Nat}{f:Addr}{fd:FuncData}{ps:List Str}{a b:Sp}(h1:aX P w K mg base C k f fd ps a)(h2:aX P w K mg base C k f fd ps b):aX P w K mg base C k f fd ps (Sp.or a b) :=
 ⟨λvs H Q E h=>h.elim (h1.len vs H Q E) (h2.len vs H Q E),λA outer s H args us vs Q E hr he hb hv hs=>hs.elim (h1.run A outer s H args us vs Q E hr he hb hv) (h2.run A outer s H args us vs Q E hr he hb hv)⟩
variable{P:Program}{w:World}{K:PySem.W.Frag}{mg:Str->Option Value}{base:Heap}
theorem bR.ZqI{x qual:Str}{st:Stmt}{f c:Addr}{fd:FuncData}{N ps:List Str}{k:Nat}{sp:Sp}(F:bR K x qual st f fd)(eF:fd.code=.ref c)(S:cV N ps (Zn st))(len:∀vs H Q E,sp vs H Q E->vs.length=ps.length)
  (ny:∀(A:Around)(outer:List Env)(s:Shared)(H:Hp)(vs:List V)(Q:VK)(E:XK),bj k (A.deeper (envOfC qual (Zn st) s.heap.objs.size f (.ref c)))->sp vs H Q E ->
   ∃t,cF (lQ (j6 P w) P w K mg base N qual (Zn st) f (.ref c) A outer s H E) (Zf st) t/\t { nx:=λ_ H'=>Q .aG H',rt:=Q } (start N vs) H):aX P w K mg base (j6 P w) (k+1) f fd ps sp:=by
 obtain⟨oc,od,kV,doc,pm,an,aP,ct,mn,rfl,lk,hc⟩:=F.ex;have e:aP=.ref c:=eF;subst e;exact Ea lk hc S len λA outer s H vs Q E hr iF=>ny A outer s H vs Q E hr iF
variable{d p:Addr}{ob:Obj}{aa:List (ZG×Addr×V)}{te:TE}{R:Hp->Prop}{dS:St}{H0:Hp}
theorem Ro{g:TG}(Pv:Nat->List V->St->Hp->Prop)(h0:Pv 0 [] dS H0)
  (hl:∀i ys σ H,i<=aa.length->Pv i ys σ H->H d=some (.aI ob (Zm P w d aa))/\H p=some (.lst ys))
  (hs:∀i ys k b v σ H,i<aa.length->aa[i]?= some (k,b,v)->Pv i ys σ H->g (.ref b) σ H λaC H4=>te aC H4 λv H5=>H5 p=some (.lst ys)/\ys.length<sizeLine/\∃m',m'<aa.length-i/\CW aa.length Pv (i+1) m' (ys ++ [v]) aC (upd H5 p (.lst (ys ++ [v]))))
  (hd:∀ys σ H,Pv aa.length ys σ H->R H) :
  ∃W:Nat->Nat->List V->St->Hp->Prop,(∃m,W 0 m [] dS H0)/\∀i m ys cm H2,W i m ys cm H2->H2 p=some (.lst ys)/\(((o7 P w d ob aa).stop i H2/\R H2)\/((o7 P w d ob aa).go i H2/\∀x H3,(o7 P w d ob aa).fB i H2 x H3->g x cm H3 λaC H4=>te aC H4 λv H5 =>
   H5 p=some (.lst ys)/\ys.length<sizeLine/\∃m',m'<m/\W (i+1) m' (ys ++ [v]) aC (upd H5 p (.lst (ys ++ [v]))))):=by
 refine⟨CW aa.length Pv,⟨_,rfl,bE _,h0⟩,?_⟩;rintro i m ys σ H ⟨rfl,hi,hp⟩;obtain⟨h1,h2⟩:=hl i ys σ H hi hp;refine⟨h2,?_⟩;by_cases au:i<aa.length
 ·refine .inr ⟨⟨h1,au⟩,?_⟩;rintro x H3 ⟨rfl,k,b,v,hx,rfl⟩;exact hs i ys k b v σ _ au hx hp
 ·refine .inl ⟨⟨h1,by lia⟩,hd ys σ H ?_⟩;have e:i=aa.length:=by lia
  rw[<- e];exact hp
theorem IT{g:TG}{tt:TT}(Pv:Nat->List V->St->Hp->Prop)(h0:Pv 0 [] dS H0)
  (hl:∀i ys σ H,i<=aa.length->Pv i ys σ H->H d=some (.aI ob (Zm P w d aa))/\H p=some (.lst ys))
  (hs:∀i ys k b v σ H,i<aa.length->aa[i]?= some (k,b,v)->Pv i ys σ H->g (.ref b) σ H λaC H4=>tt aC H4 λb fG=>if b=true then te aC fG λv H5=>H5 p=some (.lst ys)/\ys.length<sizeLine/\∃m',m'<aa.length-i/\CW aa.length Pv (i+1) m' (ys ++ [v]) aC (upd H5 p (.lst (ys ++ [v])))
   else ∃m',m'<aa.length-i/\CW aa.length Pv (i+1) m' ys aC fG)
  (hd:∀ys σ H,Pv aa.length ys σ H->R H) :
  ∃W:Nat->Nat->List V->St->Hp->Prop,(∃m,W 0 m [] dS H0)/\∀i m ys cm H2,W i m ys cm H2->H2 p=some (.lst ys)/\(((o7 P w d ob aa).stop i H2/\R H2)\/((o7 P w d ob aa).go i H2/\∀x H3,(o7 P w d ob aa).fB i H2 x H3->g x cm H3 λaC H4=>tt aC H4 λb fG=>if b=true then te aC fG λv H5 =>
   H5 p=some (.lst ys)/\ys.length<sizeLine/\∃m',m'<m/\W (i+1) m' (ys ++ [v]) aC (upd H5 p (.lst (ys ++ [v]))) else ∃m',m'<m/\W (i+1) m' ys aC fG)):=by
 refine⟨CW aa.length Pv,⟨_,rfl,bE _,h0⟩,?_⟩;rintro i m ys σ H ⟨rfl,hi,hp⟩;obtain⟨h1,h2⟩:=hl i ys σ H hi hp;refine⟨h2,?_⟩;by_cases au:i<aa.length
 ·refine .inr ⟨⟨h1,au⟩,?_⟩;rintro x H3 ⟨rfl,k,b,v,hx,rfl⟩;exact hs i ys k b v σ _ au hx hp
 ·have e:i=aa.length:=by lia
  subst e;exact .inl ⟨⟨h1,aq _⟩,hd ys σ H hp⟩
end L2
namespace L2
open PySem PySem.Spec PyProof.Rows PySem.SeqAt
variable{X:Cx}
theorem Lj(hu:X.A.units+200<cLine){K:PySem.W.Frag}(hK:X.K=K):dh X (compareOp .Eq) (λx y H Q=>∃a b xs,x=.ref a/\y=.ref b/\aj K H a xs/\aj K H b xs/\(∀z∈xs,∃c,z=V.ref c)/\Q (.bl true) H):=by
 subst hK;intro pins s σ H x y v u Q I rx ry h;obtain⟨a,b,xs,rfl,rfl,ha,hb,hr,q⟩:=h;cases rx;cases ry;obtain⟨its,r,pl,_⟩:=I.list ha;obtain⟨pT,r2,sv,_⟩:=I.list hb;have e:∀{xs:List V}{us yK:List Value},Vals xs us->Vals xs yK->(∀z∈xs,∃c,z=V.ref c)->us=yK:=by
  intro xs us yK h1
  induction h1 generalizing yK with
  | nil =>
   intro h2 _;cases h2;rfl
  | @cons x v xs vs r t ih =>
   intro h2 hx;cases h2 with
   | cons r' t' =>
    obtain⟨c,rfl⟩:=hx x (aU ..);obtain rfl:v=Value.ref c:=r
    rename_i v' _
    obtain rfl:v'=Value.ref c:=r';rw[ih t' λz hz=>hx z (aR _ hz)]
 obtain rfl:=e r r2 hr;refine eq_listAt (e:=λ_=>true) pl.isList sv.isList rfl (by lia) (λi hi rN=>EqAt.same _) ?_;exact⟨.bl true,H,I,congrArg Value.bool (vg.mpr λ_ _=>rfl),q⟩
end L2
namespace L2
open PySem PySem.Spec PyProof.Rows PySem.W
section
variable{P:Program}{w:World}{K:Frag}{mg:Str->Option Value}{base h:Heap}{x m q:Str}{st:Stmt}{f C:Addr}{d:FuncData}{ps:List Str}{k:Nat}{sp:Sp}
def fX(K:Frag)(mg:Str->Option Value)(x:Str)(st:Stmt)(f:Addr)(d:FuncData):Prop:=mg x=some (.ref f)/\bR K x x st f d
def tI(K:Frag)(C:Addr)(m q:Str)(st:Stmt)(f:Addr)(d:FuncData):Prop:=Meth K C m f/\bR K m q st f d
def Cs(K:Frag)(mg:Str->Option Value)(x:Str)(C:Addr):Prop:=mg x=some (.ref C)/\makesIn K C=true/\keepIn K (.ref C)=true
def PM(K:Frag)(d:FuncData)(c p:Addr):Prop:=d.code=.ref c/\(∃lo ld lv ls,K.lookup c=some ⟨lo,ld,.fields lv,ls⟩/\lv[11]?= some (.ref p))/\codeHdIn K c p=true/\K.lookup p=none
theorem Lp(X:K.In h)(G:h.Ns mainGlobals mg){l:List Str}(Z:∀x∈l,nsIn K mainGlobals x=some none):∀x∈l,mg x=none:=λ_ hx=>mg_none_of X G (Z _ hx)
theorem bR.bn(F:bR K x q st f d)(b:∀(kV doc pm:Value) (an:Option Addr) (aP ct:Value) (us:List Value),us.length=ps.length->bindArgs (fnOf x q (wC st) (Zf st) (Zn st) .none kV doc pm an aP ct) ⟨us,[]⟩=pure (ps.zip us):=by
  intro _ _ _ _ _ _ us hl
  first
   | (obtain⟨_,_,rfl⟩:=Ma hl;rfl)
   | (obtain⟨_,rfl⟩:=L0 hl;rfl)
   | (obtain⟨_,_,_,rfl⟩:=L6 hl;rfl)
   | (obtain⟨_,_,_,_,rfl⟩:=VZ hl;rfl)
   | (obtain⟨_,_,_,_,_,rfl⟩:=ZsK hl;rfl)
   | (obtain⟨_,_,_,_,_,_,rfl⟩:=ZsL hl;rfl)):Binds K d ps []:=F.binds b
variable(P w base)
theorem lJ(F:fX K mg x st f d)(ok:aX P w K mg base cx k f d ps sp)(b:Binds K d ps []):dY P w K mg base x ps k sp:=⟨⟨f,d,ok,b,F.2.kp,F.1⟩⟩
end
end L2
namespace dF
open PySem L2 lA Fg
def top(i:Nat):Stmt:=PySem.Challenge.pw_formgrove_k53_lists_that_hold.main.body.getD i (.Pass ⟨0,0,0,0⟩)
abbrev Dt:Stmt:=top 8
abbrev CV:Stmt:=top 9
abbrev CK:Stmt:=top 11
abbrev wz:Stmt:=top 16
abbrev oW:Stmt:=top 17
abbrev Zw:Stmt:=inClass (top 18) 0
abbrev Zo:Stmt:=inClass (top 18) 1
abbrev ZK:Stmt:=inClass (top 18) 2
abbrev fN:Stmt:=top 19
abbrev zM:Stmt:=top 21
abbrev zO:Stmt:=inClass (top 24) 0
abbrev CL:Stmt:=inClass (top 24) 1
abbrev zN:Stmt:=inClass (top 24) 2
abbrev Dl:Stmt:=top 27
abbrev DW:Stmt:=top 28
abbrev C5:Stmt:=top 29
abbrev De:Stmt:=top 30
abbrev ZR:Stmt:=top 31
abbrev jz:Stmt:=top 32
abbrev ZS:Stmt:=top 33
abbrev iq:Stmt:=top 34
theorem SH:cV ["text"] ["text"] (Zn Dt):=⟨rfl,rfl,rfl,by decide +kernel,rfl,by decide +kernel,by decide +kernel⟩
theorem tM:cV ["words","tags","rows","place","word","within"] ["words"] (Zn CV):=⟨rfl,rfl,rfl,by decide +kernel,rfl,by decide +kernel,by decide +kernel⟩
theorem PX:cV ["words"] ["words"] (Zn CK):=⟨rfl,rfl,rfl,by decide +kernel,rfl,by decide +kernel,by decide +kernel⟩
theorem Kh:cV ["form","measure","words"] ["form","measure"] (Zn wz):=⟨rfl,rfl,rfl,by decide +kernel,rfl,by decide +kernel,by decide +kernel⟩
theorem Kd:cV ["form","measure","growth"] ["form","measure"] (Zn oW):=⟨rfl,rfl,rfl,by decide +kernel,rfl,by decide +kernel,by decide +kernel⟩
theorem Ib:cV ["self","form","measure","nothing"] ["self","form","measure"] (Zn Zw):=⟨rfl,rfl,rfl,by decide +kernel,rfl,by decide +kernel,by decide +kernel⟩
theorem zP:cV ["self","pair","rule","behind","within"] ["self","pair"] (Zn Zo):=⟨rfl,rfl,rfl,by decide +kernel,rfl,by decide +kernel,by decide +kernel⟩
theorem CS:cV ["self","rule","within","behind","pair","words"] ["self","rule","within","behind"] (Zn ZK):=⟨rfl,rfl,rfl,by decide +kernel,rfl,by decide +kernel,by decide +kernel⟩
theorem ki:cV ["form","measure","rows","pairs","at_kind","row","nothing","kind","tag","inner","rest","within","values"] ["form","measure","rows"] (Zn fN):=⟨rfl,rfl,rfl,by decide +kernel,rfl,by decide +kernel,by decide +kernel⟩
theorem tN:cV ["rules","within","others","found","kind","tag","inner","rest"] ["rules","within","others"] (Zn zM):=⟨rfl,rfl,rfl,by decide +kernel,rfl,by decide +kernel,by decide +kernel⟩
theorem Ic:cV ["self","form","rule"] ["self","form"] (Zn zO):=⟨rfl,rfl,rfl,by decide +kernel,rfl,by decide +kernel,by decide +kernel⟩
theorem PZ:cV ["self"] ["self"] (Zn CL):=⟨rfl,rfl,rfl,by decide +kernel,rfl,by decide +kernel,by decide +kernel⟩
theorem CO:cV ["self","tag","inner","rest","within","others"] ["self","tag","inner","rest"] (Zn zN):=⟨rfl,rfl,rfl,by decide +kernel,rfl,by decide +kernel,by decide +kernel⟩
theorem Sr:cV ["_law_script","_law_k"] ["_law_script","_law_k"] (Zn Dl):=⟨rfl,rfl,rfl,by decide +kernel,rfl,by decide +kernel,by decide +kernel⟩
theorem jB:cV ["_law_seed","_law_v","_law_letters","_law_many","_law_at","_law_more","_law_word","_law_j","_law_sign"] ["_law_seed","_law_v"] (Zn DW):=⟨rfl,rfl,rfl,by decide +kernel,rfl,by decide +kernel,by decide +kernel⟩
theorem lD:cV ["_law_script","_law_side","_law_cell_here","_law_many","_law_turn","_law_tails","_law_heads","_law_rules","_law_k","_law_drawn","_law_word"] ["_law_script","_law_side"] (Zn C5):=⟨rfl,rfl,rfl,by decide +kernel,rfl,by decide +kernel,by decide +kernel⟩
theorem IQ:cV ["_law_other","_law_word","_law_inner","_law_rest","_law_some"] ["_law_other","_law_word","_law_inner","_law_rest"] (Zn De):=⟨rfl,rfl,rfl,by decide +kernel,rfl,by decide +kernel,by decide +kernel⟩
theorem ZZ:cV ["_law_one","_law_other","_law_pairs","_law_kind","_law_word","_law_inner","_law_rest","_law_ahead","_law_behind","_law_a","_law_b"] ["_law_one","_law_other","_law_pairs"] (Zn ZR):=⟨rfl,rfl,rfl,by decide +kernel,rfl,by decide +kernel,by decide +kernel⟩
theorem qT:cV ["_law_one","_law_other","_law_rows","_law_handed","_law_pairs","_law_row","_law_found","_law_again_told","_law_good"] ["_law_one","_law_other","_law_rows"] (Zn jz):=⟨rfl,rfl,rfl,by decide +kernel,rfl,by decide +kernel,by decide +kernel⟩
theorem oQ:cV ["_law_script","_law_one","_law_rows","_law_cell_here","_law_short","_law_some","_law_more","_law_k","_law_at"] ["_law_script","_law_one","_law_rows"] (Zn ZS):=⟨rfl,rfl,rfl,by decide +kernel,rfl,by decide +kernel,by decide +kernel⟩
theorem mY:cV ["_law_script","_law_one","_law_other","_law_rows","_law_kept","_law_some","_law_at"] ["_law_script"] (Zn iq):=⟨rfl,rfl,rfl,by decide +kernel,rfl,by decide +kernel,by decide +kernel⟩
structure XC(K:PySem.W.Frag)(mg:Str->Option Value)(iT dG:Addr):Prop where
 ZsQ:mg "GroveError" = some (.ref iT)
 Oq:mg "TooBig" = some (.ref dG)
 bas:PQ K iT
 isG:PySem.W.isClsIn K iT=true
 tyG:PySem.W.typeIn K (.ref iT)=some (.type "type")
 ZrU:tK K iT
 WE:tK K dG
 Zrk:qR K dG iT
 ZpZ:PySem.W.findIn K (.ref dG) "__init__" = some (some (.builtin "ValueError.__init__"))
 ZsM:PySem.W.mroIn K dG (.type "ValueError")=some true
 ZsR:dG≠iT
 ZsN:PySem.W.mroIn K dG (.ref iT)=some true
 Zqe:PySem.W.mroIn K dG (.ref dG)=some true
abbrev io:List (Pos×Str):=[(⟨48,46,48,94⟩,"grown.<locals>.<lambda>")]
abbrev dM:List Str:=["all","any","bool","dict","enumerate","int","isinstance","len","list","min","range","reversed","set","sorted","tuple"]
section
variable{P:Program}{w:World}{K:PySem.W.Frag}{mg:Str->Option Value}{base:Heap}{f:Addr}{fd:FuncData}{iT dG:Addr}
theorem RO(B:∀x∈dM,mg x=none)(Cc:∃t:Tok,mg "LONGEST_TAG" = some (.int 8 t)) (F:bR K "is_tag" "is_tag" Dt f fd):aX P w K mg base cx 1 f fd ["text"] Kt:=by
 refine F.ok SH (λvs H Q E h=>?_) (λaP A outer s H vs Q E hr h=>?_)
 ·obtain⟨z,rfl,_⟩:=h;rfl
 obtain⟨z,rfl,hz,q⟩:=h;obtain⟨t8,WA⟩:=Cc;unfold wZ at q;refine⟨_,(Zj (Z3 (DY (SN LQ LQ Zh (Zx Qv rfl (B "len" (by decide)) fV (Zb (pv 0) Ze)) (tX (v:=.int 8) rfl WA ⟨_,rfl⟩)) (Lr (Zx (TB rfl) rfl (B "all" (by decide)) VE (Zb (Rn (pv 0) rfl (by decide) (by decide) rfl (by decide) rfl (by decide) (λ_=>rfl)) Ze)))))),?_⟩;refine⟨_,rfl,z,rfl,DJ (by lia),_,_,rfl,rfl,_,rfl,?_⟩;refine cz (λc=>?_) (λc=>?_)
 ·have c1:1<=z.length:=by
   have:=bh c;lia
  rw[aF c1,Bool.true_and] at q;refine⟨_,_,rfl,rfl,_,rfl,?_⟩;refine cz (λc=>?_) (λc=>?_)
  ·have c2:z.length<=8:=by
    have:=bh c;lia
   rw[aF c2,Bool.true_and] at q;refine⟨_,rfl,z,rfl,DJ (by lia),λp hp=>⟨p,z.cps.toList.map iz,rfl,aj.of ?_,?_⟩⟩
   ·rw[Za,gF];rfl
   ·have e:(z.cps.toList.map iz).all id=z.cps.toList.all iz:=by
     rw[List.all_map];rfl
    rw[e];exact q _ (Zi.new hp)
  ·have c2 : ¬ z.length<=8:=λh=>c (aF (by show((z.length:Nat):Int)<=8;lia));rw[a8 c2,Bool.false_and] at q;exact q H (Zi.refl H)
 ·have c1 : ¬ 1<=z.length:=λh=>c (aF (by show(1:Int)<=((z.length:Nat):Int);lia));rw[a8 c1,Bool.false_and,Bool.false_and] at q;exact⟨_,rfl,jE (q H (Zi.refl H))⟩
def L5(ws:List Str):Prop := ∀w∈ws,w=SL\/(km w/\w.length<=8)
theorem RW{z:Str}(h:km z)(h8:z.length<=8):wZ z=true:=by
 have h1:1<=z.length:=by
  have:0<z.cps.toList.length:=B1.mpr h.1;rw[aK] at this;exact this
 unfold wZ;rw[aF h1,aF h8,Bool.true_and,Bool.true_and,vg];intro c hc;have:=h.2 c hc;unfold iz;simp;lia
theorem TY:wZ SL=false:=by decide
def JG(K:PySem.W.Frag):Sp:=λvs H Q _=>∃(a:Addr)(ws:List Str),vs=[.ref a]/\aj K H a (ws.map V.str)/\ws.length<=1000/\fI SL 0 ws/\L5 ws /\
 ∀(r:Addr)(xs:List V)(g:Gr Str)(H':Hp),Zi H H'->H r=none->H' r=some (.tup xs)->eN H' xs g->words SL g=ws->rl SL g->Q (.ref r) H'
theorem QJ(B:∀x∈dM,mg x=none)(EG:dY P w K mg base "is_tag" ["text"] 1 Kt) (F:bR K "grove_of" "grove_of" CV f fd):aX P w K mg base cx 2 f fd ["words"] (JG K):=by
 refine F.ok tM (λvs H Q E h=>?_) (λaP A outer s H vs Q E hr h=>?_)
 ·obtain⟨a,ws,rfl,_⟩:=h;rfl
 obtain⟨a,ws,rfl,hS,hlen,YE,ZH,q⟩:=h;refine⟨_,(Zd (Zz (i:=1) tM.nd rfl (Or.inl rfl) (Z1 Ze))
  (Zd (Zz (i:=2) tM.nd rfl (Or.inl rfl) (Z1 (Zb (Z1 Ze) Ze)))
  (Zd (e_ fE rfl (U7 rfl (B "enumerate" (by decide)) (Zb (pv 0) Ze)) (wM rfl (Z2 (Zq (i:=3) tM.nd rfl (Or.inl rfl)) (Z2 (Zq (i:=4) tM.nd rfl (Or.inl rfl)) wF)))
   (Zj (c5 (kj (d5 EG hr rfl (Zb (pv 4) Ze)) (λ_=>rfl))
     (Zd (ij (lO jX mF mG jA (pv 1) (Zb (pv 4) Ze)))
      (Zj (ij (lO jX mF mG jA (pv 2) (Zb (Z1 Ze) Ze)))))
     (Zj (c5 (PW.pt (wL (fb gM (pv 4) wH (dI _)) (Ad (kj (pv 1) (λ_=>rfl)))))
       (Zd (Zz (i:=5) tM.nd rfl (Or.inl rfl) (ZV Z9 rfl (B "tuple" (by decide)) q_ (Zb (Lk jX PySem.F.slot_list_pop PySem.F.type_list_pop Lh (pv 2)) Ze)))
        (Zj (ij (lO jX mF mG jA (ZJ wB (pv 2) (Va VD Zh) (λ_ _=>rfl)) (Zb (c7 (Zb (Lk jX PySem.F.slot_list_pop PySem.F.type_list_pop Lh (pv 1)) (Zb (pv 5) Ze))) Ze)))))
       (Zj z8))))))
  (Zd (c5 (kj (pv 1) (λ_=>rfl))
   (Zj z8)
   ZQ)
  (Zj (Z3 (ZV Z9 rfl (B "tuple" (by decide)) q_ (Zb (ZJ wB (pv 2) Zh (λ_ _=>rfl)) Ze)))))))),?_⟩
 refine⟨by decide,λT hT=>?_⟩;refine⟨by decide,λa0 h0=>⟨(by show 1<=sizeLine;decide),λR hR=>?_⟩⟩;obtain⟨Oj,Hw⟩:=oO h0;obtain⟨Om,Yb⟩:=oO hR;obtain⟨Oo,Cb⟩:=oO Yb;have s3:Zi H (upd (upd (upd H T (.lst [])) a0 (.lst [])) R (.lst [.ref a0])):=((Zi.new hT).cC Hw).cC Cb;refine⟨_,rfl,a,_,rfl,s3.seq hS,Td (K:=K) (a:=a) (xs:=ws.map V.str) (λi σ H1=>∃(as:List Addr)(gs:List (Gr Str))(ts:List Str)(v3 v4 v5:Option V),
  σ =[some (.ref a),some (.ref T),some (.ref R),v3,v4,v5]/\Zi H H1/\H1 T=some (.lst ((ts.map V.str).reverse))/\H1 R=some (.lst ((as.map V.ref).reverse))/\As H1 as gs/\(R::T::as).Nodup /\
  (∀b∈as,H b=none)/\gs.length=ts.length+1/\fc SL gs ts=ws.take i/\fI SL ts.length (ws.drop i)/\(∀g∈gs,rl SL g)/\∀t∈ts,t≠SL)
  ⟨[a0],[.nil],[],none,none,none,rfl,s3,?_,Za,?_,?_,?_,rfl,rfl,YE,?_,λ_ h=>nomatch h⟩ ?_ ?_ ?_⟩
 ·rw[Zc Oo.symm,Zc Oj.symm];exact Za
 ·refine .cons ⟨[],?_,.nil⟩ .nil;rw[Zc Om.symm];exact Za
 ·simp[Oo,Om,Oj.symm]
 ·intro b hb;obtain rfl:=az.mp hb;exact Hw
 ·intro g hg;obtain rfl:=az.mp hg
  trivial
 ·rintro i σ H1 _ ⟨as,gs,ts,v3,v4,v5,_,sm,_⟩;exact sm.seq hS
 ·rintro i x p σ H0 hi ⟨as,gs,ts,v3,v4,v5,rfl,yG,Yd,Ya,NT,nd,l6,nE,pB,hc,bu,jO⟩ hp;obtain⟨nF,Y4⟩:=dc.mp hi;rw[ay] at nF;obtain rfl:x=V.str ws[i]:=by
   rw[<- Y4,List.getElem_map]
  have YQ:ws.drop i=ws[i]::ws.drop (i+1):=yR nF;have FW:ws.take (i+1)=ws.take i ++ [ws[i]]:=List.take_succ_eq_append_getElem nF;have F5:=ZH ws[i] (vq nF);rw[YQ] at hc;generalize ws[i]=wd at hc FW F5;have Zr6:as.length=gs.length:=de NT;obtain⟨By,ndT⟩:=fD.mp nd;obtain⟨Cj,Ou⟩:=fD.mp ndT;have xx:∀b∈as,b≠R:=λb hb e=>By (by rw[<- e];exact aR _ hb);have AW:∀b∈as,b≠T:=λb hb e=>Cj (by rw[<- e];exact hb);have uA:R≠T:=λe=>By (by rw[e];exact aU ..);have XF:wd.length<=100000:=by
   rcases F5 with e|e
   ·rw[e];decide
   ·have:=e.2;lia
  refine⟨p,_,rfl,ar.of Za,rfl,_,_,rfl,_,_,rfl,rfl,?_⟩;refine⟨_,rfl,wd,rfl,XF,λH1 s1=>⟨_,rfl,?_⟩⟩;have yx:=(Zi.new (o:=.tup [.int i,.str wd]) hp).trans s1;have sm:=yG.trans yx;have fP:=yx _ _ Yd;have vF:=yx _ _ Ya;have kE:=zS yx.tk NT λb hb o ho=>yx _ _ ho;refine cz (λc=>?_) (λc=>?_)
  ·-- a tag
   have e:wd≠SL:=λz=>by rw[z,TY] at c;exact absurd c (by decide)
   have cQ:=(Ah e).mp hc;have pR:ts.length<=1000:=by
    have h1:=JD SL (ts:=ts) nE;rw[pB,cY] at h1;lia
   refine⟨_,rfl,.inl ⟨rfl,_,aj.of fP⟩,_,rfl,T,_,_,rfl,rfl,fP,jC (by rw[B2,ay];lia),?_⟩;have M7:(upd H1 T (.lst ((ts.map V.str).reverse ++ [.str wd]))) R=some (.lst (as.map V.ref).reverse):=by
    rw[Zc uA];exact vF
   refine⟨_,rfl,.inl ⟨rfl,_,aj.of M7⟩,by decide,λl hl=>?_⟩;obtain⟨yo,bW⟩:=oO hl;have uW:R≠l:=Zg vF bW;have AV:(upd (upd H1 T (.lst ((ts.map V.str).reverse ++ [.str wd]))) l (.lst [])) R=some (.lst (as.map V.ref).reverse):=by
    rw[Zc uW];exact M7
   refine⟨R,_,_,rfl,rfl,AV,jC (by rw[B2,ay];lia),?_⟩;have tk:TK H1 (upd (upd (upd H1 T (.lst ((ts.map V.str).reverse ++ [.str wd]))) l (.lst [])) R (.lst ((as.map V.ref).reverse ++ [.ref l]))):=((TK.lst fP).trans (TK.new hl)).trans (TK.lst AV);have nla:l∉as:=λhb=>by
    obtain⟨o,ho⟩:=IM kE l hb;rw[bW] at ho;cases ho
   refine⟨l::as,.nil::gs,wd::ts,_,_,_,rfl,?_,?_,?_,?_,?_,?_,?_,?_,?_,?_,?_⟩
   ·exact((sm.cC hT).cC (sm.free bW)).cC Cb
   ·rw[Zc uA.symm,Zc yo.symm,Za,cu,sW]
   ·rw[Za,cu,sW]
   ·refine .cons ⟨[],?_,.nil⟩ (zS tk kE λb hb o ho=>?_)
    ·rw[Zc uW.symm];exact Za
    ·rw[Zc (xx b hb),Zc (Zg ho bW),Zc (AW b hb)];exact ho
   ·refine fD.mpr ⟨λh=>?_,fD.mpr ⟨λh=>?_,fD.mpr ⟨nla,Ou⟩⟩⟩
    ·rcases aJ.mp h with h|h
     ·exact uA h
     ·rcases aJ.mp h with h|h
      ·exact uW h
      ·exact By (aR _ h)
    ·rcases aJ.mp h with h|h
     ·exact yo h.symm
     ·exact Cj h
   ·intro b hb;rcases aJ.mp hb with rfl|hb
    ·exact sm.free bW
    ·exact l6 b hb
   ·simpa using nE
   ·rw[Rx,pB,FW]
   ·exact cQ
   ·intro g hg;rcases aJ.mp hg with rfl|hg
    ·trivial
    ·exact bu g hg
   ·intro x hx;rcases aJ.mp hx with rfl|hx
    ·exact e
    ·exact jO x hx
  ·-- an end
   have e:wd=SL:=F5.elim id λe=>absurd (RW e.1 e.2) c;subst e;obtain⟨sg,cQ⟩:=Af.mp hc;cases ts with
   | nil=>exact absurd sg (by simp)
   | cons t ts =>
    cases gs with
    | nil=>simp at nE
    | cons g0 gs =>
     cases gs with
     | nil=>simp at nE
     | cons g1 gs =>
      cases kE with
      | @cons b0 _ as _ r0 kE =>
       cases kE with
       | @cons b1 _ as _ r1 kE =>
        obtain⟨qg,XA,r00⟩:=r0;obtain⟨Hm,ES,OG⟩:=r1;have m0:b0∈b0::b1::as:=aU ..;have m1:b1∈b0::b1::as:=aR _ (aU ..);have Nl:gs.length=ts.length:=by simpa using nE
        have eI:(words SL g1).length<=1000:=by
         have h1:=SW SL (r:=g1) Nl;have h2:=congrArg List.length pB;rw[cY] at h2;simp only[fc,bL] at h2;lia
        have NY:=OG.length;have E4:H1 R=some (.lst (((b1::as).map V.ref).reverse ++ [.ref b0])):=by
         rw[vF,cu,sW]
        have AX:H1 T=some (.lst ((ts.map V.str).reverse ++ [.str t])):=by
         rw[fP,cu,sW]
        refine⟨_,rfl,rfl,_,rfl,cz (λ_=>?_) (λc=>absurd (aF rfl) c)⟩;refine⟨_,rfl,true,.inl ⟨_,aj.of AX,by simp⟩,AA ?_⟩;refine⟨_,rfl,.inl ⟨rfl,_,aj.of E4⟩,R,_,_,rfl,rfl,E4,Jy _ _,?_⟩;rw[JJ];have AQ:(upd H1 R (.lst ((b1::as).map V.ref).reverse)) b0=some (.lst qg):=by
         rw[Zc (xx b0 m0)];exact XA
        refine⟨b0,qg,rfl,.inl ⟨aj.of AQ,λl hl=>?_⟩⟩;obtain⟨uW,bW⟩:=oO hl;have yo:l≠T:=(Zg fP bW).symm;have yn:b1≠l:=Zg ES bW;have AV:(upd (upd H1 R (.lst ((b1::as).map V.ref).reverse)) l (.tup qg)) R=some (.lst ((as.map V.ref).reverse ++ [.ref b1])):=by
         rw[Zc uW.symm,Za,cu,sW]
        have MR:(upd (upd H1 R (.lst ((b1::as).map V.ref).reverse)) l (.tup qg)) b1=some (.lst Hm):=by
         rw[Zc yn,Zc (xx b1 m1)];exact ES
        have xA:(upd (upd H1 R (.lst ((b1::as).map V.ref).reverse)) l (.tup qg)) T=some (.lst ((ts.map V.str).reverse ++ [.str t])):=by
         rw[Zc yo.symm,Zc uA.symm];exact AX
        refine⟨_,rfl,1,rfl,R,_,-1,.ref b1,rfl,rfl,aj.of AV,S2 _ _,.inl ⟨rfl,_,aj.of MR⟩,_,rfl,.inl ⟨rfl,_,aj.of xA⟩,T,_,_,rfl,rfl,xA,Jy _ _,?_⟩;rw[JJ];refine⟨_,rfl,(by show 2<=sizeLine;decide),λl2 gm=>?_⟩;obtain⟨n2T,Y_⟩:=oO gm;obtain⟨n2l,Zl⟩:=oO Y_;obtain⟨n2R,Fx⟩:=oO Zl;have Ol:b1≠l2:=Zg ES Fx;have MS:(upd (upd (upd (upd H1 R (.lst ((b1::as).map V.ref).reverse)) l (.tup qg)) T (.lst (ts.map V.str).reverse)) l2 (.tup [.str t,.ref l])) b1=some (.lst Hm):=by
         rw[Zc Ol,Zc (AW b1 m1)];exact MR
        refine⟨b1,_,_,rfl,rfl,MS,jC (by lia),?_⟩;have tk:TK H1 (upd (upd (upd (upd (upd H1 R (.lst ((b1::as).map V.ref).reverse)) l (.tup qg)) T (.lst (ts.map V.str).reverse)) l2 (.tup [.str t,.ref l])) b1 (.lst (Hm ++ [.ref l2]))) :=
         ((((TK.lst E4).trans (TK.new hl)).trans (TK.lst xA)).trans (TK.new gm)).trans (TK.lst MS)
        have Ov:=(fD.mp Ou).2;have Zqg:=(fD.mp Ov).1;refine⟨b1::as,snoc g1 t g0::gs,ts,_,_,_,rfl,?_,?_,?_,?_,?_,?_,?_,?_,?_,?_,?_⟩
        ·exact((((sm.cC Cb).cC (sm.free bW)).cC hT).cC (sm.free Fx)).cC (l6 b1 m1)
        ·rw[Zc (AW b1 m1).symm,Zc n2T.symm,Za]
        ·rw[Zc (xx b1 m1).symm,Zc n2R.symm,Zc uA,Zc uW.symm,Za]
        ·refine .cons ⟨_,Za,eN.snoc (q:=l) (ys:=qg) ?_ ?_ (r00.mono tk) (OG.mono tk)⟩ (zS tk kE λb hb o ho=>?_)
         ·rw[Zc Ol.symm];exact Za
         ·rw[Zc yn.symm,Zc n2l.symm,Zc yo];exact Za
         ·have mb:b∈b0::b1::as:=aR _ (aR _ hb);have nb1:b≠b1:=λe=>Zqg (by rw[<- e];exact hb);rw[Zc nb1,Zc (Zg ho Fx),Zc (AW b mb),Zc (Zg ho bW),Zc (xx b mb)];exact ho
        ·refine fD.mpr ⟨λh=>?_,fD.mpr ⟨λh=>Cj (aR _ h),Ov⟩⟩;rcases aJ.mp h with h|h
         ·exact uA h
         ·exact By (aR _ (aR _ h))
        ·exact λb hb=>l6 b (aR _ hb)
        ·simpa using nE
        ·rw[QI SL t Nl,pB,FW]
        ·exact cQ
        ·intro g hg;rcases aJ.mp hg with rfl|hg
         ·exact IP (jO t (aU ..)) (bu g0 (aU ..)) (bu g1 (aR _ (aU ..)))
         ·exact bu g (aR _ (aR _ hg))
        ·exact λx hx=>jO x (aR _ hx)
 ·rintro σ H1 ⟨as,gs,ts,v3,v4,v5,rfl,sm,fP,vF,kE,nd,l6,nE,pB,hc,bu,jO⟩;rw[ay] at pB hc;rw[cH] at pB;rw[List.drop_length] at hc;obtain rfl:ts=[]:=om hc;cases gs with
  | nil=>simp at nE
  | cons g gs =>
   obtain rfl:gs=[]:=om (by simpa using nE);cases kE with
   | @cons b _ _ _ r kE =>
    cases kE;obtain⟨vs,hb,hg⟩:=r;refine⟨_,rfl,false,.inl ⟨_,aj.of fP,rfl⟩,jE ?_⟩;refine⟨_,rfl,R,_,0,.ref b,rfl,rfl,aj.of vF,rfl,b,vs,rfl,.inl ⟨aj.of hb,λr hr=>?_⟩⟩;exact q r vs g _ (sm.cC (sm.free hr)) (sm.free hr) Za (hg.mono (TK.new hr)) pB (bu g (aU ..))
def DP:Sp:=λvs H Q _=>∃(p:Addr)(ws:List Str),vs=[.ref p]/\H p=some (.lst (ws.map V.str))/\∀r,H r=none->Q (.ref r) (upd H r (.tup [.int (ws.length:Nat),.ref p]))
theorem P0(B:∀x∈dM,mg x=none)(F:bR K "rank_of_words" "rank_of_words" CK f fd):aX P w K mg base cx 1 f fd ["words"] DP:=by
 refine F.ok PX (λvs H Q E h=>?_) (λaP A outer s H vs Q E hr h=>?_)
 ·obtain⟨p,ws,rfl,_⟩:=h;rfl
 obtain⟨p,ws,rfl,e1,q⟩:=h;refine⟨_,(Zj (Z3 (c7 (Zb (Zx Zy rfl (B "len" (by decide)) fV (Zb (pv 0) Ze)) (Zb (pv 0) Ze))))),?_⟩;refine⟨_,rfl,p,_,rfl,.inl (aj.of e1),_,rfl,(by show 2<=sizeLine;decide),λr jc=>?_⟩;rw[ay];exact q r jc
theorem RH(B:∀x∈dM,mg x=none)(F:bR K "_law_cell" "_law_cell" Dl f fd):aX P w K mg base cx 1 f fd ["_law_script","_law_k"] (zZ K):=by
 refine F.ok Sr (λvs H Q E h=>?_) (λaP A outer s H vs Q E hr h=>?_)
 ·obtain⟨a,ns,k,rfl,_⟩:=h;rfl
 obtain⟨a,ns,k,rfl,hS,i5,h0,hk,q⟩:=h;refine⟨_,(Zd (c5 (fb Wn (pv 1) (Zx Zy rfl (B "len" (by decide)) fV (Zb (pv 0) Ze)) (dI _))
   (Zj (Z3 (Zv Z7 (Zv d9 (Zv oY (ZJ wB (pv 0) (pv 1) (λ_ _=>rfl)) Zh) (Zv oY (Zv oY (pv 1) (pv 1)) Zh)) Zh)))
   ZQ)
  (Zj (Z3 (Zv Z7 (Zv d9 (Zv d9 (Zv oY (Zv oY (pv 1) (pv 1)) Zh) (Zv oY (Zx Zy rfl (B "len" (by decide)) fV (Zb (pv 0) Ze)) Zh)) Zh) Zh)))),?_⟩
 have hq:∀v:Int,Q (.int (v % 2147483647)) H:=λv=>q _ (jW _ (by decide)) (jV _ (by decide));refine⟨_,rfl,_,rfl,a,_,rfl,.inl hS,_,_,rfl,rfl,_,rfl,?_⟩;refine cz (λc=>?_) (λc=>?_)
 ·have c':=bh c;rw[ay] at c';obtain⟨v,hv⟩:=UU (ns:=ns) h0 c';exact⟨_,rfl,_,rfl,a,_,k,_,rfl,rfl,hS,hv,_,_,rfl,rfl,.inr ⟨by decide,by decide⟩,_,rfl,_,rfl,_,_,rfl,rfl,.inl ⟨by lia,by lia⟩,_,_,rfl,rfl,.inr ⟨by decide,by decide⟩,_,_,rfl,rfl,_,_,rfl,rfl,(by show(0:Int)<2147483647;decide),hq _⟩
 ·exact⟨_,rfl,_,rfl,_,_,rfl,rfl,.inl ⟨by lia,by lia⟩,_,_,rfl,rfl,.inr ⟨by decide,by decide⟩,_,rfl,a,_,rfl,.inl hS,_,_,rfl,rfl,.inr ⟨by decide,by decide⟩,_,_,rfl,rfl,_,_,rfl,rfl,_,_,rfl,rfl,(by show(0:Int)<2147483647;decide),hq _⟩
theorem TH(B:∀x∈dM,mg x=none)(F:bR K "_law_tag" "_law_tag" DW f fd):aX P w K mg base cx 1 f fd ["_law_seed","_law_v"] LL:=by
 refine F.ok jB (λvs H Q E h=>?_) (λaP A outer s H vs Q E hr h=>?_)
 ·obtain⟨sd,v,rfl,_⟩:=h;rfl
 obtain⟨sd,v,rfl,q⟩:=h;refine cut 5 (λao H'=>∃many at' more:Int,ao=[some (.int sd),some (.int v),some (.str tF),some (.int many),some (.int at'),some (.int more),none,none,none]/\H'=H/\1<=many/\many<=8)
  ⟨_,(Zd (Zz (i:=6) jB.nd rfl (Or.inl rfl) wH)
  (Zd (e_ fE rfl (zR rfl (B "range" (by decide)) (Zb (pv 3) Ze)) (Zq (i:=7) jB.nd rfl (Or.inl rfl))
   (Zd (Zz (i:=8) jB.nd rfl (Or.inl rfl) (Zv d9 (Zv fM (pv 0) (Zv d9 (pv 7) Zh)) (Zv oY (ZV Jd rfl (B "int" (by decide)) Ly (Zb (tW gM (pv 7) (pv 4) (dI _)) Ze)) (pv 5))))
    (Zj (Zz (i:=6) jB.nd rfl (Or.inl rfl) (Zv QP (pv 6) (ZJ VU (pv 2) (Zv Z7 (pv 8) Zh) (λ_ _=>rfl)))))))
  (Zj (Z3 (pv 6))))),?_⟩
  (λu FY hR=>⟨_,(Zd (Zz (i:=2) jB.nd rfl (Or.inl rfl) wH)
  (Zd (Zz (i:=3) jB.nd rfl (Or.inl rfl) (Zv d9 Zh (Zv Z7 (pv 0) Zh)))
  (Zd (Zz (i:=4) jB.nd rfl (Or.inl rfl) (Zv Z7 (Zv fM (pv 0) Zh) (pv 3)))
  (Zd (Zz (i:=5) jB.nd rfl (Or.inl rfl) (pv 1))
  (Zd (c5 (fb gM (Zv Z7 (Zv fM (pv 0) Zh) Zh) Zh (dI _))
   (Zd (Zz (i:=3) jB.nd rfl (Or.inl rfl) (Zv d9 Zh (Zv Z7 (Zv d9 (Zv fM (pv 0) Zh) (pv 1)) Zh)))
    (Zd (Zz (i:=4) jB.nd rfl (Or.inl rfl) (Zv Us (pv 3) Zh))
    (Zj (Zz (i:=5) jB.nd rfl (Or.inl rfl) (Zv fM (pv 1) Zh)))))
   ZQ)
  FY))))),?_⟩)
 rotate_left
 ·have m1:=jW sd (by decide:(8:Int)≠0);have m2:=jV sd (by decide:(0:Int)<8);refine⟨_,rfl,_,_,rfl,rfl,(by show(0:Int)<8;decide),_,_,rfl,rfl,?_⟩;refine⟨_,rfl,_,_,rfl,rfl,⟨by decide,by decide⟩,_,rfl,_,_,rfl,rfl,(by show(0:Int)<1+sd % 8;lia),?_⟩;refine⟨_,rfl,?_⟩;refine⟨_,rfl,_,_,rfl,rfl,⟨by decide,by decide⟩,_,_,rfl,rfl,(by show(0:Int)<2;decide),rfl,_,rfl,?_⟩;refine cz (λ_=>?_) (λ_=>?_)
  ·have m3:=jW (sd / 8+v) (by decide:(8:Int)≠0);have m4:=jV (sd / 8+v) (by decide:(0:Int)<8);refine⟨_,rfl,_,_,rfl,rfl,⟨by decide,by decide⟩,_,rfl,_,_,rfl,rfl,_,_,rfl,rfl,(by show(0:Int)<8;decide),_,_,rfl,rfl,?_⟩;refine⟨_,rfl,_,_,rfl,rfl,?_⟩;refine⟨_,rfl,_,_,rfl,rfl,⟨by decide,by decide⟩,?_⟩;exact hR _ _ ⟨_,_,_,rfl,rfl,by lia,by lia⟩
  ·exact hR _ _ ⟨_,_,_,rfl,rfl,by lia,by lia⟩
 ·rintro ao H' ⟨many,at',more,rfl,rfl,h1,h8⟩;refine⟨_,rfl,_,rfl,by lia,by lia,JL (lo:=0) (n:=many.toNat) (λi σ H1=>∃(t:Str)(v7 v8:Option V),σ =[some (.int sd),some (.int v),some (.str tF),some (.int many),some (.int at'),some (.int more),some (.str t),v7,v8]/\H1=H'/\t.length=i/\o5 t) ⟨Str.empty,none,none,rfl,rfl,rfl,λ_ h=>(nomatch h)⟩ ?_ ?_⟩
  ·rintro i σ H1 hi ⟨t,v7,v8,rfl,rfl,hl,au⟩;refine⟨_,rfl,_,rfl,_,_,rfl,rfl,_,_,rfl,rfl,⟨by lia,by lia⟩,_,rfl,_,rfl,rfl,_,rfl,_,rfl,_,_,rfl,rfl,.inl ⟨by split <;> decide,by split <;> decide⟩,_,_,rfl,rfl,?_⟩
   obtain⟨c,hc,c1,c2⟩:=VI (i:=(sd / (0+(i:Int)+9)+(if decide (V.int (0+(i:Int))=V.int at')=true then 1 else 0)*more) % 26) (jW _ (by decide)) (jV _ (by decide))
   refine⟨_,rfl,_,rfl,_,rfl,_,_,rfl,rfl,(by show(0:Int)<26;decide),_,_,c,rfl,rfl,(by decide),hc,_,_,rfl,rfl,?_,?_⟩
   ·show t.length+1<=sizeLine;exact DJ (by lia)
   ·refine⟨t++⟨#[c]⟩,_,_,rfl,rfl,?_,TC au (Sm c1 c2).Oc⟩;rw[Ui,hl];rfl
  ·rintro σ H1 ⟨t,v7,v8,rfl,rfl,hl,au⟩;refine⟨_,rfl,q t ⟨λz=>?_,au⟩ (by lia)⟩;have e:t.cps.toList.length=t.length:=aK;rw[z] at e;have e0:(0:Nat)=t.length:=e;lia
structure mV(K:PySem.W.Frag)(C:Addr):Prop where
 cls:fJ K C
 ns:f9 K C "starts"
 nf:f9 K C "finals"
 nb:f9 K C "by_tag"
def BT(H:Hp)(m:List (Key×V))(qs:List av.Qd):Prop:=(∀t:Str,(aQ m (Sum.inr t)=none/\(qs.filter λq=>decide (q.2.1=t))=[])\/∃l zs,aQ m (Sum.inr t)=some (.ref l)/\H l=some (.lst zs)/\QL H zs (qs.filter λq=>decide (q.2.1=t)))/\∀t t' l,aQ m (Sum.inr t)=some (.ref l)->aQ m (Sum.inr t')=some (.ref l)->t=t'
theorem BT.keep{H H':Hp}{m:List (Key×V)}{qs:List av.Qd}(h:BT H m qs)(s:Zi H H'):BT H' m qs:=⟨λt=>by
 rcases h.1 t with h1|⟨l,zs,h1,h2,h3⟩
 ·exact .inl h1
 ·exact .inr ⟨l,zs,h1,s _ _ h2,h3.keep λb xs e=>s _ _ e⟩,h.2⟩
def N9(h1 h2 d:Addr):List (Str×V):=[("starts",.ref h1),("finals",.ref h2),("by_tag",.ref d)]
def iw(C:Addr)(H:Hp)(a:Addr)(f:FQ):Prop := ∃(dx h1 h2 d:Addr)(m:List (Key×V)),H a=some (.ins C dx (N9 h1 h2 d))/\H h1=some (.tup (f.hs.map V.int))/\H h2=some (.tup (f.ts.map V.int))/\H d=some (.dK m)/\BT H m f.qs
variable{C a:Addr}{H H':Hp}
theorem iw.same{f:FQ}(h:iw C H a f)(s:Zi H H'):iw C H' a f:=by
 obtain⟨dx,h1,h2,d,m,e1,e2,e3,e4,e5⟩:=h;exact⟨dx,h1,h2,d,m,s _ _ e1,s _ _ e2,s _ _ e3,s _ _ e4,e5.keep s⟩
def lN(f:FQ):Prop:=f.hs.length<=20/\f.ts.length<=20/\f.qs.length<=63/\o4 f.ts
def lB(f:FQ)(w:Str)(n1 n2 ks:List Int):Prop:=o4 ks/\ks.length<=63/\∀x,x∈ks↔∃q∈f.qs,q.1=x/\q.2.1=w/\q.2.2.1∈n1/\q.2.2.2∈n2
def Kw:Sp:=λvs H Q _=>∃(r w1 w2:Addr)(zs:List V)(qs:List av.Qd)(n1 n2:List Int),vs=[.ref r,.ref w1,.ref w2]/\H r=some (.lst zs)/\QL H zs qs/\qs.length<=63/\DI H w1 n1/\DI H w2 n2/\∀(d:Addr)(ns:List Int)(H':Hp),Zi H H'->H d=none->DI H' d ns->ns.length<=qs.length->(∀x,x∈ns↔∃q∈qs,q.1=x/\q.2.2.1∈n1/\q.2.2.2∈n2)->Q (.ref d) H'
def tP(K:PySem.W.Frag)(C:Addr):Sp:=λvs H Q _=>∃(a p dx:Addr)(f:FQ),vs=[.ref a,.ref p]/\H a=some (.ins C dx [])/\dE H p f/\f.qs.length<=63/\∀H',(∀b o,b≠a->H b=some o->H' b=some o)->iw C H' a f->Q .aG H'
def wc(C:Addr):Sp:=λvs H Q _=>∃(a:Addr)(f:FQ),vs=[.ref a]/\iw C H a f/\∀r,H r=some (.tup (f.ts.map V.int))->Q (.ref r) H
def vX(C:Addr):Sp:=λvs H Q _=>∃(a p1 p2:Addr)(w:Str)(f:FQ)(n1 n2:List Int),vs=[.ref a,.str w,.ref p1,.ref p2]/\iw C H a f/\lN f/\H p1=some (.tup (n1.map V.int))/\H p2=some (.tup (n2.map V.int))/\n1.length<=63/\n2.length<=63/\n1.Nodup/\n2.Nodup/\∀(r:Addr)(ks:List Int)(H':Hp),Zi H H'->H' r=some (.tup (ks.map V.int))->lB f w n1 n2 ks->Q (.ref r) H'
set_option maxHeartbeats 1000000 in
theorem P4(B:∀x∈dM,mg x=none)(F:bR K "kinds_above" "kinds_above" zM f fd):aX P w K mg base cx 1 f fd ["rules","within","others"] Kw:=by
 refine F.ok tN (λvs H Q E h=>?_) (λaP A outer s H vs Q E hr h=>?_)
 ·obtain⟨r,w1,w2,zs,qs,n1,n2,rfl,_⟩:=h;rfl
 obtain⟨r,w1,w2,zs,qs,n1,n2,rfl,hR,hQ,pN,⟨m1,h1,k1⟩,⟨m2,h2,k2⟩,q⟩:=h;have gq:(A.deeper (PyProof.Rows.envOfC (Str.ofString "kinds_above") (Zn zM) s.heap.objs.size f aP)).units+1<cLine:=by have:=hr.un;lia
 have dQ:=hQ.length;refine⟨_,(Zd (Zz (i:=3) tN.nd rfl (Or.inl rfl) zY)
  (Zd (e_ fE rfl (iU (pv 0)) (wM rfl (Z2 (Zq (i:=4) tN.nd rfl (Or.inl rfl)) (Z2 (Zq (i:=5) tN.nd rfl (Or.inl rfl)) (Z2 (Zq (i:=6) tN.nd rfl (Or.inl rfl)) (Z2 (Zq (i:=7) tN.nd rfl (Or.inl rfl)) wF)))))
   (Zj (c5 (PW.pt (wL (ue (LM gq (pv 6) (pv 1))) (Ad (ue (LM gq (pv 7) (pv 2))))))
     (Zj (UP gq (pv 3) (pv 4) f' rfl))
     ZQ)))
  (Zj (Z3 (pv 3))))),?_⟩
 refine λd hd=>?_;have s0:Zi H (upd H d (.dK [])):=Zi.new hd;refine⟨_,rfl,r,rfl,⟨_,aj.of (s0 _ _ hR)⟩,mX (K:=K) (a:=r) (xs:=zs) (λi σ H1=>∃(v4 v5 v6 v7:Option V)(m:List (Key×V))(ns:List Int),σ =[some (.ref r),some (.ref w1),some (.ref w2),some (.ref d),v4,v5,v6,v7]/\Zi H H1/\H1 d=some (.dK m)/\m.map (·.1)=ns.map Sum.inl/\ns.length<=i/\∀x,x∈ns↔∃q∈qs.take i,q.1=x/\q.2.2.1∈n1/\q.2.2.2∈n2)
  ⟨none,none,none,none,[],[],rfl,s0,Za,rfl,aq _,λx=>⟨λh=>(nomatch h),λ⟨_,h,_⟩=>(nomatch h)⟩⟩ ?_ ?_ ?_⟩
 ·rintro i σ H1 _ ⟨_,_,_,_,_,_,_,sm,_⟩;exact aj.of (sm _ _ hR)
 ·rintro i x σ H1 hx ⟨v4,v5,v6,v7,m,ns,rfl,sm,nz,dO,nJ,bB⟩;obtain⟨p,q1,e1,rfl,e2⟩:=hQ.get i x hx;have nF:=(dc.mp e1).1;have eG:m.length=ns.length:=by have:=congrArg List.length dO;simpa using this
  refine⟨p,_,rfl,ar.of (sm _ _ e2),rfl,_,_,rfl,_,_,rfl,_,_,rfl,_,_,rfl,rfl,?_⟩;have skip : ¬ (q1.2.2.1∈n1/\q1.2.2.2∈n2)->∃(v4 v5 v6 v7:Option V)(m:List (Key×V))(ns:List Int),[some (V.ref r),some (V.ref w1),some (V.ref w2),some (V.ref d),some (V.int q1.1),some (V.str q1.2.1),some (V.int q1.2.2.1),some (V.int q1.2.2.2)] =[some (.ref r),some (.ref w1),some (.ref w2),some (.ref d),v4,v5,v6,v7]/\Zi H H1/\H1 d=some (.dK m)/\m.map (·.1)=ns.map Sum.inl/\ns.length<=i+1/\∀x,x∈ns↔∃q∈qs.take (i+1),q.1=x/\q.2.2.1∈n1/\q.2.2.2∈n2:=by
   intro gT;refine⟨_,_,_,_,m,ns,rfl,sm,nz,dO,by lia,λx=>(bB x).trans ?_⟩;rw[Zk e1];constructor
   ·rintro⟨q,hq,r⟩;exact⟨q,dy _ hq,r⟩
   ·rintro⟨q,hq,r⟩;rcases bc.mp hq with hq|hq
    ·exact⟨q,hq,r⟩
    ·rw[az.mp hq] at r;exact absurd r.2 gT
  refine⟨_,rfl,_,rfl,w1,_,rfl,iX.k (k:=Sum.inl q1.2.2.1) (sm _ _ h1),_,rfl,?_⟩;rw[DI.has k1];refine cz (λc1=>?_) (λc1=>jE ?_)
  ·have hU:=bh c1;refine⟨_,rfl,_,rfl,w2,_,rfl,iX.k (k:=Sum.inl q1.2.2.2) (sm _ _ h2),_,rfl,?_⟩;rw[DI.has k2];refine cz (λc2=>?_) (λc2=>?_)
   ·have jo:=bh c2;refine⟨_,rfl,_,rfl,d,_,rfl,wU.k (k:=Sum.inl q1.1) nz (jC (by lia)),?_⟩;refine⟨_,_,_,_,_,if q1.1∈ns then ns else ns ++ [q1.1],rfl,sm.cC hd,Za,DI.put dO _ _,?_,λx=>?_⟩
    ·split
     ·lia
     ·rw[bL,fS];lia
    ·have e3:x∈(if q1.1∈ns then ns else ns ++ [q1.1])↔x∈ns\/x=q1.1:=by
      split
      ·rename_i h
       exact⟨.inl,λz=>z.elim id λz=>z ▸ h⟩
      ·rw[bc,az]
     rw[e3,bB,Zk e1];constructor
     ·rintro(⟨q,hq,r⟩|rfl)
      ·exact⟨q,dy _ hq,r⟩
      ·exact⟨q1,bO _ (az.mpr rfl),rfl,hU,jo⟩
     ·rintro⟨q,hq,r⟩;rcases bc.mp hq with hq|hq
      ·exact .inl ⟨q,hq,r⟩
      ·rw[az.mp hq] at r;exact .inr r.1.symm
   ·exact skip λh=>c2 (aF h.2)
  ·exact skip λh=>c1 (aF h.1)
 ·rintro σ H1 ⟨v4,v5,v6,v7,m,ns,rfl,sm,nz,dO,nJ,bB⟩;rw[dQ,cH] at bB;exact⟨_,rfl,q d ns H1 sm hd ⟨m,nz,dO⟩ (by lia) bB⟩
set_option maxHeartbeats 2000000 in
theorem Ie(B:∀x∈dM,mg x=none)(c:mV K C)(F:bR K "__init__" "Kinds.__init__" zO f fd):aX P w K mg base cx 1 f fd ["self","form"] (tP K C):=by
 refine F.ok Ic (λvs H Q E h=>?_) (λaP A outer s H vs Q E hr h=>?_)
 ·obtain⟨a,p,dx,fm,rfl,_⟩:=h;rfl
 obtain⟨a,p0,dx,fm,rfl,hA,hF,pN,q⟩:=h;obtain⟨f1,f2,f3,zf,a1,a2,a3,a4,a5⟩:=id hF;have gq:(A.deeper (PyProof.Rows.envOfC (Str.ofString "Kinds.__init__") (Zn zO) s.heap.objs.size f aP)).units+1<cLine:=by have:=hr.un;lia
 have na:∀b xs,H b=some (.tup xs)->b≠a:=λb xs e z=>by rw[z,hA] at e;cases e
 refine⟨_,(Zd (lF (pv 0) (ZJ ZD (pv 1) Zh (λ_ _=>rfl)) rfl)
  (Zd (lF (pv 0) (ZJ ZD (pv 1) Zh (λ_ _=>rfl)) rfl)
  (Zd (lF (pv 0) zY rfl)
  (Zj (e_ fE rfl (lI (ZJ ZD (pv 1) Zh (λ_ _=>rfl))) (Zq (i:=2) Ic.nd rfl (Or.inl rfl))
   (Zj (ij (lO jX mF mG jA (Dw (Z6 (pv 0) rfl) (ZJ ZD (pv 2) Zh (λ_ _=>rfl)) (Z1 Ze) ⟨rfl,rfl,rfl,rfl⟩) (Zb (pv 2) Ze))))))))),?_⟩
 refine⟨_,rfl,p0,_,1,_,rfl,rfl,ar.of a1,rfl,_,rfl,a,C,dx,_,rfl,hA,c.cls,c.ns,by decide,?_⟩;refine⟨_,rfl,p0,_,2,_,rfl,rfl,ar.of (by rw[Zc (na _ _ a1)];exact a1),rfl,_,rfl,a,C,dx,_,rfl,Za,c.cls,c.nf,(show 1<1000 by decide),?_⟩;refine λpb i_=>?_;have uU:pb≠a:=λz=>by
  rw[z,Za] at i_;cases i_
 refine⟨_,rfl,a,C,dx,[("starts",.ref f1),("finals",.ref f2)],rfl,(by rw[Zc uU.symm];exact Za),c.cls,c.nb,(show 2<1000 by decide),?_⟩;rw[Zc uU,Zc uU] at i_;generalize AI:upd (upd (upd (upd H a (HO.ins C dx (dr "starts" (V.ref f1) []))) a (HO.ins C dx (dr "finals" (V.ref f2) (dr "starts" (V.ref f1) [])))) pb (HO.dK [])) a (HO.ins C dx (dr "by_tag" (V.ref pb) [("starts",V.ref f1),("finals",V.ref f2)]))=H5;have kb:∀b o,b≠a->H b=some o->H5 b=some o:=λb o hb e=>by
  rw[<- AI,Zc hb,Zc (Zg e i_),Zc hb,Zc hb];exact e
 have Ml:H5 a=some (.ins C dx (N9 f1 f2 pb)):=by
  rw[<- AI,Za];rfl
 have Mm:H5 pb=some (.dK []):=by
  rw[<- AI,Zc uU];exact Za
 clear AI;have hF5:dE H5 p0 fm:=⟨f1,f2,f3,zf,kb _ _ (na _ _ a1) a1,kb _ _ (na _ _ a2) a2,kb _ _ (na _ _ a3) a3,kb _ _ (na _ _ a4) a4,a5.keep λb xs e=>kb _ _ (na _ _ e) e⟩;have b4:H5 f3=some (.tup zf):=kb _ _ (na _ _ a4) a4;have b5:QL H5 zf fm.qs:=a5.keep λb xs e=>kb _ _ (na _ _ e) e;have nd:∀b xs,H5 b=some (.tup xs)->b≠pb:=λb xs e z=>by rw[z,Mm] at e;cases e
 refine⟨_,rfl,p0,_,3,_,rfl,rfl,ar.of (kb _ _ (na _ _ a1) a1),rfl,f3,rfl,⟨_,ar.of b4⟩,wy (K:=K) (a:=f3) (xs:=zf) (λi σ H7=>∃(v2:Option V)(m:List (Key×V)),σ =[some (.ref a),some (.ref p0),v2]/\(∀c o,c≠pb->H5 c=some o->H7 c=some o)/\H7 pb=some (.dK m)/\m.length<=i/\BT H7 m (fm.qs.take i)/\∀t l,aQ m (Sum.inr t)=some (.ref l)->H5 l=none)
  ⟨none,[],rfl,(λc o _ h=>h),Mm,aq _,⟨λt=>.inl ⟨rfl,rfl⟩,λt t' l h=>by cases h⟩,λt l h=>by cases h⟩ ?_ ?_ ?_⟩
 ·rintro i σ H7 _ ⟨_,_,_,kk,_⟩;exact ar.of (kk _ _ (nd _ _ b4) b4)
 ·rintro i x σ H7 hx ⟨v6,m,rfl,kk,e7,eG,i7,kA⟩;obtain⟨p,q1,x1,rfl,x2⟩:=b5.get i x hx;have nF:=(dc.mp x1).1;have Co:=kk _ _ (nd _ _ x2) x2;have Xg:=kk _ _ (λz=>uU z.symm) Ml;have Bk:∀t,(fm.qs.take (i+1)).filter (λq=>decide (q.2.1=t))=(fm.qs.take i).filter (λq=>decide (q.2.1=t))++if q1.2.1=t then [q1] else []:=by
   intro t;rw[Zk x1,qm]
   congr 1
   split
   ·rename_i h
    rw[List.filter_cons,ai (aF h)];rfl
   ·rename_i h
    rw[List.filter_cons,ag (by rw[a8 h];decide)];rfl
  refine⟨_,rfl,a,C,dx,_,_,rfl,Xg,c.cls,c.nb,rfl,pb,rfl,.inl ⟨m,.inl e7⟩,_,rfl,p,_,1,_,rfl,rfl,ar.of Co,rfl,by decide,λl0 bp=>?_⟩;have t8:Zi H7 (upd H7 l0 (.lst [])):=Zi.new bp;have e8:(upd H7 l0 (.lst [])) l0=some (.lst []):=Za;have nV:l0≠pb:=λz=>by rw[z,e7] at bp;cases bp
  have Nw:H5 l0=none:=by
   cases h:H5 l0 with
   | none=>rfl
   | some o =>
    rw[kk l0 o nV h] at bp;cases bp
  generalize upd H7 l0 (.lst [])=H8 at t8 e8 ⊢;refine⟨m,Sum.inr q1.2.1,t8 _ _ e7,rfl,jC (by lia),λv hv=>?_,λhn=>?_⟩
  ·rcases i7.1 q1.2.1 with⟨h1,_⟩|⟨l,zs,h1,h2,h3⟩
   ·rw[h1] at hv;cases hv
   ·rw[h1] at hv;injection hv with hv;subst hv;have h_:=t8 _ _ h2;have nlb:l≠pb:=λz=>by rw[z,e7] at h2;cases h2
    have hl:=kA _ _ h1;have hlen:zs.length<=63:=by
     rw[h3.length];refine bD (qt ..) ?_;rw[cY];lia
    refine⟨.inl ⟨rfl,_,aj.of h_⟩,_,rfl,l,_,_,rfl,rfl,h_,jC (by lia),?_⟩;refine⟨_,m,rfl,λc o hc h=>?_,?_,by lia,⟨λt=>?_,i7.2⟩,kA⟩
    ·rw[Zc (λz=>by rw[z,hl] at h;cases h)];exact t8 _ _ (kk c o hc h)
    ·rw[Zc nlb.symm];exact t8 _ _ e7
    ·by_cases ht:q1.2.1=t
     ·subst ht;refine .inr ⟨l,zs ++ [.ref p],h1,Za,?_⟩;rw[Bk,ai rfl];exact(QL.snoc (t8 _ _ Co) (h3.keep λb xs e=>t8 _ _ e)).keep (gL h_)
     ·rw[Bk,ag ht,gE];rcases i7.1 t with⟨h4,h5⟩|⟨l',dD,h4,h5,h6⟩
      ·exact .inl ⟨h4,h5⟩
      ·have nll:l'≠l:=λz=>ht (i7.2 _ _ l h1 (z ▸ h4));exact .inr ⟨l',dD,h4,by rw[Zc nll];exact t8 _ _ h5,(h6.keep λb xs e=>t8 _ _ e).keep (gL h_)⟩
  ·have e9:(upd H8 pb (.dK (putK m (Sum.inr q1.2.1) (.ref l0)))) l0=some (.lst []):=by
    rw[Zc nV];exact e8
   refine⟨.inl ⟨rfl,_,aj.of e9⟩,_,rfl,l0,_,_,rfl,rfl,e9,by decide,?_⟩;have YT:(fm.qs.take i).filter (λq=>decide (q.2.1=q1.2.1))=[]:=by
    rcases i7.1 q1.2.1 with⟨_,h⟩|⟨l,zs,h1,_⟩
    ·exact h
    ·rw[h1] at hn;cases hn
   have Ff:∀{zs:List V}{qs:List av.Qd},QL H7 zs qs->QL (upd (upd H8 pb (.dK (putK m (Sum.inr q1.2.1) (.ref l0)))) l0 (.lst ([] ++ [.ref p]))) zs qs:=λh=>h.keep λb xs e=>by
    have h1:b≠pb:=λz=>by rw[z,e7] at e;cases e
    have h2:b≠l0:=λz=>by rw[z,bp] at e;cases e
    rw[Zc h2,Zc h1];exact t8 _ _ e
   refine⟨_,putK m (Sum.inr q1.2.1) (.ref l0),rfl,λc o hc h=>?_,?_,?_,⟨λt=>?_,λt t' l h h'=>?_⟩,λt l h=>?_⟩
   ·have h2:c≠l0:=λz=>by rw[z,Nw] at h;cases h
    rw[Zc h2,Zc hc];exact t8 _ _ (kk c o hc h)
   ·rw[Zc nV.symm];exact Za
   ·have:=qV m (Sum.inr q1.2.1) (.ref l0);lia
   ·rw[q5];by_cases ht:q1.2.1=t
    ·subst ht;refine .inr ⟨l0,[.ref p],by rw[ai rfl],Za,?_⟩;rw[Bk,ai rfl,YT];exact Ff (.cons ⟨p,rfl,Co⟩ .nil)
    ·rw[ag (λz=>ht (by injection z with z;exact z.symm)),Bk,ag ht,gE];rcases i7.1 t with⟨h4,h5⟩|⟨l',dD,h4,h5,h6⟩
     ·exact .inl ⟨h4,h5⟩
     ·have n1:l'≠l0:=λz=>by rw[z,bp] at h5;cases h5
      have n2:l'≠pb:=λz=>by rw[z,e7] at h5;cases h5
      exact .inr ⟨l',dD,h4,by rw[Zc n1,Zc n2];exact t8 _ _ h5,Ff h6⟩
   ·rw[q5] at h h';have old:∀t,aQ m (Sum.inr t)≠some (.ref l0):=λt z=>by
     rcases i7.1 t with⟨h4,_⟩|⟨l',dD,h4,h5,_⟩
     ·rw[h4] at z;cases z
     ·rw[h4] at z;injection z with z;injection z with z;rw[z,bp] at h5;cases h5
    by_cases h1:t=q1.2.1
    ·by_cases h2:t'=q1.2.1
     ·rw[h1,h2]
     ·rw[ai (by rw[h1])] at h;rw[ag (λz=>h2 (by injection z))] at h';injection h with h;injection h with h;subst h;exact absurd h' (old t')
    ·rw[ag (λz=>h1 (by injection z))] at h;by_cases h2:t'=q1.2.1
     ·rw[ai (by rw[h2])] at h';injection h' with h';injection h' with h';subst h';exact absurd h (old t)
     ·rw[ag (λz=>h2 (by injection z))] at h';exact i7.2 t t' l h h'
   ·rw[q5] at h;by_cases h1:t=q1.2.1
    ·rw[ai (by rw[h1])] at h;injection h with h;injection h with h;rw[<- h];exact Nw
    ·rw[ag (λz=>h1 (by injection z))] at h;exact kA t l h
 ·rintro σ H7 ⟨v6,m,rfl,kk,e7,eG,i7,kA⟩;have dQ:=b5.length;rw[dQ,cH] at i7;refine q H7 (λb o hb e=>kk b o (Zg e i_) (kb b o hb e)) ⟨dx,f1,f2,pb,m,kk _ _ (λz=>uU z.symm) Ml,?_,?_,e7,i7⟩
  ·exact kk _ _ (nd _ _ (kb _ _ (na _ _ a2) a2)) (kb _ _ (na _ _ a2) a2)
  ·exact kk _ _ (nd _ _ (kb _ _ (na _ _ a3) a3)) (kb _ _ (na _ _ a3) a3)
theorem Ih(B:∀x∈dM,mg x=none)(c:mV K C)(F:bR K "nothing" "Kinds.nothing" CL f fd):aX P w K mg base cx 1 f fd ["self"] (wc C):=by
 refine F.ok PZ (λvs H Q E h=>?_) (λaP A outer s H vs Q E hr h=>?_)
 ·obtain⟨a,fm,rfl,_⟩:=h;rfl
 obtain⟨a,fm,rfl,⟨dx,h1,h2,d,m,e1,e2,e3,e4,e5⟩,q⟩:=h;refine⟨_,(Zj (Z3 (Z6 (pv 0) rfl))),?_⟩;exact⟨_,rfl,a,C,dx,_,_,rfl,e1,c.cls,c.nf,rfl,q h2 e3⟩
theorem Jx:∀(aa m:List (Key×V)),((m++aa).map (·.1)).Nodup->aa.foldl (λm kv=>putK m kv.1 kv.2) m=m++aa
 | [],m,_=>(gE m).symm
 | kv::aa,m,h=>by
  have h1:aQ m kv.1=none:=by
   rw[<- Option.not_isSome_iff_eq_none,<- oP,k9];rintro⟨x,hx,e⟩;have e':=bh e;rw[cZ,yW] at h;exact h.2.2 x.1 (aS.mpr ⟨x,hx,rfl⟩) kv.1 (by rw[cu];exact aU ..) e'
  rw[vp,S6 _ h1,Jx aa (m ++ [(kv.1,kv.2)]) (by rw[sS];exact h),sS];rfl
theorem LD{ns:List Int}(h:ns.Nodup):putAll (ns.map λx=>((Sum.inl x:Key),V.bl true))=ns.map λx=>((Sum.inl x:Key),V.bl true):=by
 unfold putAll;have:=Jx (ns.map λx=>((Sum.inl x:Key),V.bl true)) [] (by
  rw[List.nil_append,gF];refine jk.mpr (h.imp λ{x y} x_ z=>x_ ?_);injection z)
 rw[List.nil_append] at this;exact this
variable{y:Int}{zs:List V}
theorem KC{H1:Hp}{t pl:Addr}{us0:List V}(t1:Zi H1 (upd H1 t (.tup [.int y,.bl true])))(h:H1 pl=some (.lst us0)){us:List V}{aa:List (Key×V)}(hh:Paired (λ(y:V)(kv:Key×V)=>∃t,y=.ref t/\H1 t=some (.tup [kV kv.1,kv.2])) us aa) :
  Paired (λ(z:V)(kv:Key×V)=>∃t',z=.ref t'/\(upd (upd H1 t (.tup [.int y,.bl true])) pl (.lst zs)) t'=some (.tup [kV kv.1,kv.2])) us aa:=by
 induction hh with
 | nil=>exact .nil
 | cons hz _ ih =>
  obtain⟨t',e1,e2⟩:=hz;exact .cons ⟨t',e1,gL (t1 _ _ h) _ _ (t1 _ _ e2)⟩ ih
set_option maxHeartbeats 2000000 in
theorem HY(B:∀x∈dM,mg x=none)(c:mV K C)(AN:dY P w K mg base "kinds_above" ["rules","within","others"] 1 Kw) (F:bR K "above" "Kinds.above" zN f fd):aX P w K mg base cx 2 f fd ["self","tag","inner","rest"] (vX C):=by
 refine F.ok CO (λvs H Q E h=>?_) (λaP A outer s H vs Q E hr h=>?_)
 ·obtain⟨a,p1,p2,w,fm,n1,n2,rfl,_⟩:=h;rfl
 obtain⟨a,p1,p2,wd,fm,n1,n2,rfl,hK,⟨l1,l2,l3,l4⟩,h1,h2,bW,gm,xQ,uL,q⟩:=h;have gq:(A.deeper (PyProof.Rows.envOfC (Str.ofString "Kinds.above") (Zn zN) s.heap.objs.size f aP)).units+1<cLine:=by have:=hr.un;lia
 refine⟨_,(Zd (Zz (i:=4) CO.nd rfl (Or.inl rfl) (ZV (HX rfl) rfl (B "dict" (by decide)) DM (Zb (oX (cl:=[]) ["kind"] [] (lI (pv 2)) (λ_ _ _ _=>(Zq (i:=0) jQ rfl (Or.inl rfl))) (λ_ _ _ _=>(c7 (Zb (pv 0) (Zb f' Ze)))) rfl rfl (by decide) rfl (by decide) (λ_ _ h=>nomatch h) (t7 (by decide)) (λ_ _ h=>nomatch h) (λ_=>rfl)) Ze)))
  (Zd (Zz (i:=5) CO.nd rfl (Or.inl rfl) (ZV (HX rfl) rfl (B "dict" (by decide)) DM (Zb (oX (cl:=[]) ["kind"] [] (lI (pv 3)) (λ_ _ _ _=>(Zq (i:=0) jQ rfl (Or.inl rfl))) (λ_ _ _ _=>(c7 (Zb (pv 0) (Zb f' Ze)))) rfl rfl (by decide) rfl (by decide) (λ_ _ h=>nomatch h) (t7 (by decide)) (λ_ _ h=>nomatch h) (λ_=>rfl)) Ze)))
  (Zj (Z3 (ZV Z9 rfl (B "tuple" (by decide)) q_ (Zb (Zx (P' rfl) rfl (B "sorted" (by decide)) JC (Zb (d5 AN hr rfl (Zb (wq gq (Z6 (pv 0) rfl) (pv 1) (Z1 Ze) ⟨rfl,rfl,rfl,rfl⟩) (Zb (pv 4) (Zb (pv 5) Ze)))) Ze)) Ze)))))),?_⟩
 refine⟨_,rfl,p1,rfl,⟨_,ar.of h1⟩,λpl aA=>z_ (K:=K) (a:=p1) (p:=pl) (xs:=n1.map V.int) (λj us σ H1=>∃v0:Option V,σ =[v0]/\Zi H H1/\H1 pl=some (.lst us)/\Paired (λ(y:V)(kv:Key×V)=>∃t,y=.ref t/\H1 t=some (.tup [kV kv.1,kv.2])) us ((n1.take j).map λx=>((Sum.inl x:Key),V.bl true)))
  ⟨none,rfl,Zi.new aA,Za,.nil⟩ ?_ ?_ ?_⟩
 ·rintro j us σ H1 _ ⟨_,_,sm,h,_⟩;exact⟨ar.of (sm _ _ h1),h⟩
 ·rintro j us x σ H1 hj hx ⟨v0,rfl,sm,h,hP⟩;rw[cp] at hx;obtain⟨y,hy,rfl⟩:=gG.mp hx;refine⟨_,rfl,by show(2:Nat)<=sizeLine;decide,λt ht=>?_⟩;have t1:Zi H1 (upd H1 t (.tup [.int y,.bl true])):=Zi.new ht;refine⟨t1 _ _ h,jC (by rw[de hP,ay,cY];lia),CW.next hj ⟨_,rfl,(sm.trans t1).cC aA,Za,?_⟩⟩
  rw[Zk hy,cZ];exact Paired.snoc (KC t1 h hP) ⟨t,rfl,gL (t1 _ _ h) _ _ Za⟩
 rintro us σ H1 ⟨v0,rfl,sA,eA,hP⟩;rw[ay,cH] at hP;have E3:=de hP;rw[ay] at E3;refine⟨pl,us,_,rfl,aj.of eA,by lia,hP,λpe hpe=>?_⟩;rw[LD xQ];have tA:Zi H1 (upd H1 pe (.dK (n1.map λx=>((Sum.inl x:Key),V.bl true)))):=Zi.new hpe;have dA:DI (upd H1 pe (.dK (n1.map λx=>((Sum.inl x:Key),V.bl true)))) pe n1:=⟨_,Za,by rw[gF];rfl⟩;generalize upd H1 pe (.dK (n1.map λx=>((Sum.inl x:Key),V.bl true)))=H2 at tA dA ⊢;have sA:=sA.trans tA;have h2:=sA _ _ h2;refine⟨_,rfl,p2,rfl,⟨_,ar.of h2⟩,λpm c_=>z_ (K:=K) (a:=p2) (p:=pm) (xs:=n2.map V.int) (λj us σ H1=>∃v0:Option V,σ =[v0]/\Zi H2 H1/\H1 pm=some (.lst us)/\Paired (λ(y:V)(kv:Key×V)=>∃t,y=.ref t/\H1 t=some (.tup [kV kv.1,kv.2])) us ((n2.take j).map λx=>((Sum.inl x:Key),V.bl true)))
  ⟨none,rfl,Zi.new c_,Za,.nil⟩ ?_ ?_ ?_⟩
 ·rintro j us σ H1 _ ⟨_,_,sm,h,_⟩;exact⟨ar.of (sm _ _ h2),h⟩
 ·rintro j us x σ H1 hj hx ⟨v0,rfl,sm,h,hP⟩;rw[cp] at hx;obtain⟨y,hy,rfl⟩:=gG.mp hx;refine⟨_,rfl,by show(2:Nat)<=sizeLine;decide,λt ht=>?_⟩;have t1:Zi H1 (upd H1 t (.tup [.int y,.bl true])):=Zi.new ht;refine⟨t1 _ _ h,jC (by rw[de hP,ay,cY];lia),CW.next hj ⟨_,rfl,(sm.trans t1).cC c_,Za,?_⟩⟩
  rw[Zk hy,cZ];exact Paired.snoc (KC t1 h hP) ⟨t,rfl,gL (t1 _ _ h) _ _ Za⟩
 rintro us σ H1 ⟨v0,rfl,zB,Pc,hP⟩;rw[ay,cH] at hP;have E3:=de hP;rw[ay] at E3;refine⟨pm,us,_,rfl,aj.of Pc,by lia,hP,λpf hpf=>?_⟩;rw[LD uL];have qG:Zi H1 (upd H1 pf (.dK (n2.map λx=>((Sum.inl x:Key),V.bl true)))):=Zi.new hpf;have Hs:DI (upd H1 pf (.dK (n2.map λx=>((Sum.inl x:Key),V.bl true)))) pf n2:=⟨_,Za,by rw[gF];rfl⟩;generalize upd H1 pf (.dK (n2.map λx=>((Sum.inl x:Key),V.bl true)))=H3 at qG Hs ⊢;have zB:=zB.trans qG;have dA:=dA.same zB;have s3:=sA.trans zB;obtain⟨dx,g1,g2,d,m,k1,k2,k3,k4,k5⟩:=hK.same s3;refine⟨_,rfl,a,C,dx,_,_,rfl,k1,c.cls,c.nb,rfl,d,rfl,.inl ⟨m,.inl k4⟩,_,rfl,by decide,λl0 bp=>?_⟩;have t4:Zi H3 (upd H3 l0 (.lst [])):=Zi.new bp;have e4:(upd H3 l0 (.lst [])) l0=some (.lst []):=Za;generalize upd H3 l0 (.lst [])=H4 at t4 e4 ⊢;obtain⟨r,zr,jc,nQ,l9⟩:∃r zr,(aQ m (Sum.inr wd)).getD (.ref l0)=.ref r/\H4 r=some (.lst zr)/\QL H4 zr (fm.qs.filter λq=>decide (q.2.1=wd)):=by
  rcases k5.1 wd with⟨h1,h2⟩|⟨l,zl,h1,h2,h3⟩
  ·exact⟨l0,[],by rw[h1];rfl,e4,by rw[h2];exact .nil⟩
  ·exact⟨l,zl,by rw[h1];rfl,t4 _ _ h2,h3.keep λb xs e=>t4 _ _ e⟩
 have hfl:(fm.qs.filter λq=>decide (q.2.1=wd)).length<=63:=bD (qt ..) l3;refine⟨_,iX.k (k:=Sum.inr wd) (t4 _ _ k4),?_⟩;rw[jc];refine⟨_,rfl,_,rfl,r,pe,pf,zr,_,n1,n2,rfl,nQ,l9,by lia,dA.same t4,Hs.same t4,λdk ns H5 t5 Ff ⟨mk,j1,j2⟩ nJ bB=>?_⟩;have ZO:mk.length=ns.length:=by have:=congrArg List.length j2;simpa using this
 refine⟨dk,mk,ns,rfl,j1,by lia,j2,λr6 ms hr6 dq Zpo=>⟨r6,_,rfl,.inl ⟨aj.of Za,λu6 hu6=>?_⟩⟩⟩;refine q u6 ms _ (((s3.trans t4).trans t5).trans ((Zi.new hr6).trans (Zi.new hu6))) Za ⟨Zpo,by rw[dq.length_eq];lia,λx=>?_⟩;rw[dq.mem_iff,bB];constructor
 ·rintro⟨q1,hq,e1,e2⟩;obtain⟨g1,g2⟩:=dz.mp hq;exact⟨q1,g1,e1,bh g2,e2⟩
 ·rintro⟨q1,hq,e1,e2,e3⟩;exact⟨q1,dz.mpr ⟨hq,aF e2⟩,e1,e3⟩
theorem Jl:∀{xs ys zs:List Str},xs.length=ys.length->ys.length=zs.length->gg xs ys=true->gg ys zs=true->gg xs zs=true
 | [],[],_,_,_,h,_=>by
  unfold gg at h;cases h
 | [],_::_,_,h,_,_,_=>by simp at h
 | _::_,[],_,h,_,_,_=>by simp at h
 | _::_,_::_,[],_,h,_,_=>by simp at h
 | x::xs,y::ys,z::zs,h1,h2,k1,k2=>by
  rw[gg] at k1 k2 ⊢;by_cases e1:x=y
  ·subst e1;rw[ai rfl] at k1;by_cases e2:x=z
   ·rw[ai e2] at k2 ⊢;exact Jl (by simpa using h1) (by simpa using h2) k1 k2
   ·rw[ag e2] at k2 ⊢;exact k2
  ·rw[ag e1] at k1;have l1:=bh k1;by_cases e2:y=z
   ·subst e2;rw[ag e1];exact k1
   ·rw[ag e2] at k2;have l2:=bh k2;have l3:=List.lt_trans l1 l2;rw[ag (λe=>by subst e;exact List.lt_irrefl _ l3)];exact aF l3
variable{xs ys:List Str}
theorem Rt{zs:List Str}(h1:a_ xs ys=true)(h2:a_ ys zs=true):a_ xs zs=true:=by
 unfold a_ at *;by_cases e1:xs.length=ys.length
 ·rw[ai e1] at h1;by_cases e2:ys.length=zs.length
  ·rw[ai e2] at h2;rw[ai (e1.trans e2)];exact Jl e1 e2 h1 h2
  ·rw[ag e2] at h2;have:=bh h2;rw[ag (by lia)];exact aF (by lia)
 ·rw[ag e1] at h1;have:=bh h1;by_cases e2:ys.length=zs.length
  ·rw[ag (by lia)];exact aF (by lia)
  ·rw[ag e2] at h2;have:=bh h2;rw[ag (by lia)];exact aF (by lia)
theorem qS(xs:List Str):a_ xs xs=false:=by
 unfold a_;rw[ai rfl];exact C8 xs
theorem Uc(h:ys.length<xs.length):a_ xs ys=false:=by
 unfold a_;rw[ag (by lia)];exact a8 (by lia)
theorem Kl{zs:List Str}(h1:a_ xs ys=false)(h2:a_ ys zs=false):a_ xs zs=false:=by
 cases e:a_ xs zs with
 | false=>rfl
 | true =>
  by_cases e2:xs=ys
  ·subst e2;rw[h2] at e;cases e
  ·have h3:=Di e2;rw[h1] at h3;have h4:a_ ys xs=true:=by
    cases z:a_ ys xs with
    | true=>rfl
    | false=>rw[z] at h3;cases h3
   rw[Rt h4 e] at h2;cases h2
abbrev Pk:=av.Pk
abbrev Wd:=List Str
open Classical in
noncomputable def ji(f:FQ)(w:Str)(n1 n2:List Int):List Int:=if h:∃ks,lB f w n1 n2 ks then h.choose else []
theorem lB.one{f:FQ}{w:Str}{n1 n2 a b:List Int}(h1:lB f w n1 n2 a)(h2:lB f w n1 n2 b):a=b:=J9 h1.1 h2.1 λx=>(h1.2.2 x).trans (h2.2.2 x).symm
variable{n1 n2:List Int}
theorem t9{f:FQ}{w:Str}{ks:List Int}(h:lB f w n1 n2 ks):ji f w n1 n2=ks:=by
 unfold ji;rw[dif_pos ⟨ks,h⟩];exact(Exists.choose_spec (⟨ks,h⟩:∃ks,lB f w n1 n2 ks)).one h
noncomputable def aZ(f:FQ)(q:av.Qd)(a b:Pk):Pk:=(q.1,ji f q.2.1 a.2 b.2)
def br(q:av.Qd)(wa wb:Wd):Wd:=q.2.1::(wa++SL::wb)
theorem vY(q:av.Qd)(wa wb:Wd):(br q wa wb).length=2+wa.length+wb.length:=by
 unfold br;simp;lia
structure Gs where
 sl:List (Pk×Wd)
 tl:List (Pk×Wd)
 bl:List Pk
 st:List (Pk×Str×Pk×Pk)
 ak:List Pk
section
variable{α : Type}
def aY(l:List (Pk × α))(p:Pk):Option α := (l.find? λx=>decide (x.1=p)).map (·.2)
def gN(l:List (Pk × α))(p:Pk)(w : α):List (Pk × α):=if(l.find? λx=>decide (x.1=p)).isSome then l.map (λx=>if x.1=p then(x.1,w) else x) else l ++ [(p,w)]
def m9(l:List (Pk × α))(p:Pk):List (Pk × α):=l.eraseIdx (l.findIdx λx=>decide (x.1=p))
end
def lR(new:Wd):Option Wd->Wd
 | none=>new
 | some old=>if a_ old new=true then old else new
def iu(l:List Pk)(p:Pk):List Pk:=if p∈l then l else l ++ [p]
noncomputable def cy(f:FQ)(q:av.Qd)(a b:Pk)(wa wb:Wd)(g:Gs):Gs :=
 if(aY g.sl (aZ f q a b)).isSome then { g with st:=g.st ++ [(aZ f q a b,q.2.1,a,b)] }
 else if 600<2+wa.length+wb.length then { g with st:=g.st ++ [(aZ f q a b,q.2.1,a,b)],bl:=iu g.bl (aZ f q a b) }
 else { g with st:=g.st ++ [(aZ f q a b,q.2.1,a,b)],tl:=gN g.tl (aZ f q a b) (lR (br q wa wb) (aY g.tl (aZ f q a b))) }
variable{q:av.Qd}{b:Pk}{wa wb:Wd}{g:Gs}
theorem wm{f:FQ}{a:Pk}:(cy f q a b wa wb g).sl=g.sl:=by
 unfold cy
 split
 ·rfl
 ·split <;> rfl
theorem vZ{f:FQ}{a:Pk}:(cy f q a b wa wb g).st=g.st ++ [(aZ f q a b,q.2.1,a,b)]:=by
 unfold cy
 split
 ·rfl
 ·split <;> rfl
theorem S7{f:FQ}{a:Pk}:(cy f q a b wa wb g).ak=g.ak:=by
 unfold cy
 split
 ·rfl
 ·split <;> rfl
section
variable{α : Type}
variable{p:Pk}
theorem oU{l:List (Pk × α)}{w : α}(h:aY l p=some w):(p,w)∈l:=by
 obtain⟨x,hx,rfl⟩:=gG.mp h;have h1:x.1=p:=bh (List.find?_some (p:=λy:Pk × α=>decide (y.1=p)) hx);have h2:=List.mem_of_find?_eq_some hx;rw[<- h1];exact h2
theorem Z0{l:List (Pk × α)}(nd:(l.map (·.1)).Nodup){p:Pk}{w : α}(h:(p,w)∈l):aY l p=some w:=by
 induction l with
 | nil=>cases h
 | cons x xs ih =>
  rw[cu,fD] at nd;unfold aY;rcases aJ.mp h with e|e
  ·subst e;rw[qp (by simp)];rfl
  ·have aO:x.1≠p:=λz=>nd.1 (by rw[z];exact aS.mpr ⟨_,e,rfl⟩);rw[qo (by simpa using aO)];exact ih nd.2 e
theorem S8{l:List (Pk × α)}{w : α}{x:Pk × α}:x∈gN l p w->(x∈l/\x.1≠p)\/x=(p,w):=by
 intro h;unfold gN at h
 split at h
 ·obtain⟨y,hy,e⟩:=aS.mp h
  split at e
  ·rename_i e2
   exact .inr (by rw[<- e,e2])
  ·rename_i e2
   rw[<- e];exact .inl ⟨hy,e2⟩
 ·rename_i hn
  rcases bc.mp h with h|h
  ·refine .inl ⟨h,λz=>hn ?_⟩;rw[vn];exact⟨x,h,aF z⟩
  ·exact .inr (az.mp h)
theorem C'{l:List (Pk × α)}{w : α}:(p,w)∈gN l p w:=by
 unfold gN
 split
 ·rename_i h
  obtain⟨y,hy,e⟩:=vn.mp h;exact aS.mpr ⟨y,hy,by rw[ai (bh e),bh e]⟩
 ·exact bO _ (az.mpr rfl)
theorem J3{l:List (Pk × α)}{w : α}{x:Pk × α}(h:x∈l)(aO:x.1≠p):x∈gN l p w:=by
 unfold gN
 split
 ·exact aS.mpr ⟨x,h,by rw[ag aO]⟩
 ·exact dy _ h
theorem Dc(l:List (Pk × α))(p:Pk)(w : α):(gN l p w).map (·.1)=iu (l.map (·.1)) p:=by
 unfold gN iu;have e:((l.find? λx=>decide (x.1=p)).isSome=true)↔p∈l.map (·.1):=by
  rw[vn];constructor
  ·rintro⟨x,h1,h2⟩;exact aS.mpr ⟨x,h1,bh h2⟩
  ·intro h;obtain⟨x,h1,h2⟩:=aS.mp h;exact⟨x,h1,aF h2⟩
 by_cases h:p∈l.map (·.1)
 ·rw[ai (e.mpr h),ai h,gF];refine List.map_congr_left λx _=>?_;show(if x.1=p then(x.1,w) else x).1=x.1
  split <;> rfl
 ·rw[ag (λz=>h (e.mp z)),ag h,cZ];rfl
variable{l:List Pk}
theorem Rv(h:l.Nodup):(iu l p).Nodup:=by
 unfold iu
 split
 ·exact h
 ·rename_i hn
  exact yW.mpr ⟨h,(by simp),λa ha b hb e=>hn (by rw[<- az.mp hb,<- e];exact ha)⟩
theorem ww{x:Pk}:x∈iu l p↔x∈l\/x=p:=by
 unfold iu
 split
 ·rename_i h
  exact⟨.inl,λz=>z.elim id λe=>e ▸ h⟩
 ·rw[bc,az]
theorem Dh(l:List Pk)(p:Pk):(iu l p).length<=l.length+1:=by
 unfold iu
 split
 ·lia
 ·rw[bL];exact aq _
theorem S9(l:List (Pk × α))(p:Pk)(w : α):(gN l p w).length<=l.length+1:=by
 have:=congrArg List.length (Dc l p w);rw[ay] at this;rw[this];have:=Dh (l.map (·.1)) p
 rwa [ay] at this
theorem CY{l:List (Pk × α)}{w : α}(h:aY l p=some w):l.Perm ((p,w)::m9 l p):=by
 induction l with
 | nil=>cases h
 | cons x xs ih =>
  unfold aY at h;unfold m9 at ih ⊢;by_cases e:x.1=p
  ·rw[qp (by simpa using e)] at h;obtain rfl:x.2=w:=by injection h
   rw[vo,aF e];subst e;exact .refl _
  ·rw[qo (by simpa using e)] at h;rw[vo,a8 e];show(x::xs).Perm ((p,w)::x::xs.eraseIdx (xs.findIdx λx=>decide (x.1=p)));exact((ih h).cons x).trans (.swap ..)
end
def Made(ts:List Int)(qs:List av.Qd)(f:FQ)(S:List (Pk×Wd))(e:Pk×Wd):Prop:=(∃k∈ts,e=((k,f.ts),[]))\/∃q∈qs,∃a wa b wb,(a,wa)∈S/\(b,wb)∈S/\a.1=q.2.2.1/\b.1=q.2.2.2/\e=(aZ f q a b,br q wa wb)
variable{ts:List Int}{qs:List av.Qd}{S:List (Pk×Wd)}
theorem Made.mono{f:FQ}{S':List (Pk×Wd)}{e:Pk×Wd}(h:Made ts qs f S e)(s:∀x∈S,x∈S'):Made ts qs f S' e:=by
 rcases h with h|⟨q,hq,a,wa,b,wb,h1,h2,r⟩
 ·exact .inl h
 ·exact .inr ⟨q,hq,a,wa,b,wb,s _ h1,s _ h2,r⟩
def qJ(g:Gs)(p:Pk)(w:Wd):Prop:=(∃v,(p,v)∈g.sl/\a_ w v=false)\/(∃v,(p,v)∈g.tl/\a_ w v=false)\/(600<w.length/\p∈g.bl)
def eO(f:FQ)(g:Gs)(q:av.Qd)(a:Pk)(wa:Wd)(b:Pk)(wb:Wd):Prop:=qJ g (aZ f q a b) (br q wa wb)/\(aZ f q a b,q.2.1,a,b)∈g.st
structure GI(ts:List Int)(qs:List av.Qd)(f:FQ)(g:Gs):Prop where
 nd:((g.sl++g.tl).map (·.1)).Nodup
 len:∀e∈g.sl++g.tl,e.2.length<=600
 sr:∀i e,g.sl[i]?= some e->Made ts qs f (g.sl.take i) e
 Bx:∀e∈g.tl,Made ts qs f g.sl e
 fin:∀k∈ts,((k,f.ts),[])∈g.sl++g.tl
 yk:∀p∈g.bl,∃q∈qs,∃a wa b wb,(a,wa)∈g.sl/\(b,wb)∈g.sl/\a.1=q.2.2.1/\b.1=q.2.2.2/\p=aZ f q a b/\600<(br q wa wb).length
 u_:g.tl.length+g.bl.length<=g.st.length+ts.length
 sL:∀x∈g.st,∃q∈qs,∃a wa b wb,(a,wa)∈g.sl/\(b,wb)∈g.sl/\a.1=q.2.2.1/\b.1=q.2.2.2/\x=(aZ f q a b,q.2.1,a,b)
def Ord(g:Gs):Prop := ∀e∈g.sl,∀t∈g.tl,e.2.length<=t.2.length
theorem zQ(new old:Wd):lR new (some old)=if a_ old new=true then old else new:=rfl
theorem TV(new:Wd)(o:Option Wd):lR new o=new\/o=some (lR new o):=by
 cases o with
 | none=>exact .inl rfl
 | some old =>
  rw[zQ]
  split
  ·exact .inr rfl
  ·exact .inl rfl
theorem U6(new:Wd)(o:Option Wd):a_ new (lR new o)=false:=by
 cases o with
 | none=>exact qS _
 | some old =>
  rw[zQ]
  split
  ·rename_i h
   by_cases e:new=old
   ·subst e;exact qS _
   ·rw[Di e,h];rfl
  ·exact qS _
theorem SK{new old w:Wd}(h:a_ w old=false):a_ w (lR new (some old))=false:=by
 rw[zQ]
 split
 ·exact h
 ·rename_i h2
  exact Kl h (Bool.eq_false_iff.mpr h2)
section
variable{ts:List Int}{qs:List av.Qd}{f:FQ}{g:Gs}{q:av.Qd}{a b:Pk}{wa wb:Wd}
variable{l:List (Pk×Wd)}
theorem ZX{m:List (Pk×Wd)}(h:((l++m).map (·.1)).Nodup):(l.map (·.1)).Nodup/\(m.map (·.1)).Nodup/\∀x∈l,∀y∈m,x.1≠y.1:=by
 rw[cZ,yW] at h;exact⟨h.1,h.2.1,λx hx y hy=>h.2.2 _ (aS.mpr ⟨x,hx,rfl⟩) _ (aS.mpr ⟨y,hy,rfl⟩)⟩
theorem z7{x:Pk×Wd}(h:x∈(cy f q a b wa wb g).tl):(x∈g.tl)\/(x=(aZ f q a b,br q wa wb)/\(br q wa wb).length<=600):=by
 unfold cy at h
 split at h
 ·exact .inl h
 ·split at h
  ·exact .inl h
  ·rename_i hl
   rcases S8 h with⟨h,_⟩|h
   ·exact .inl h
   ·rcases TV (br q wa wb) (aY g.tl (aZ f q a b)) with e|e
    ·rw[e] at h;exact .inr ⟨h,by rw[vY];lia⟩
    ·rw[h];exact .inl (oU e)
theorem SM(h:GI ts qs f g)(hq:q∈qs)(ha:(a,wa)∈g.sl)(hb:(b,wb)∈g.sl)(e1:a.1=q.2.2.1)(e2:b.1=q.2.2.2):GI ts qs f (cy f q a b wa wb g):=by
 have eS:=wm (f:=f) (q:=q) (a:=a) (b:=b) (wa:=wa) (wb:=wb) (g:=g);have Mt:=vZ (f:=f) (q:=q) (a:=a) (b:=b) (wa:=wa) (wb:=wb) (g:=g);obtain⟨n1,n2,n3⟩:=ZX h.nd;refine⟨?_,λe he=>?_,λi e he=>?_,λe he=>?_,λk hk=>?_,λp hp=>?_,?_,λx hx=>?_⟩
 ·unfold cy
  split
  ·exact h.nd
  ·rename_i i9
   split
   ·exact h.nd
   ·rw[cZ,yW];refine⟨n1,by rw[Dc];exact Rv n2,λx hx y hy=>?_⟩;rw[Dc] at hy;rcases ww.mp hy with hy|hy
    ·obtain⟨x',vJ,rfl⟩:=aS.mp hx;obtain⟨y',Cg,rfl⟩:=aS.mp hy;exact n3 x' vJ y' Cg
    ·rw[hy];rintro rfl;obtain⟨x',vJ,e⟩:=aS.mp hx;refine i9 ?_;rw[<- e,Z0 n1 (show(x'.1,x'.2)∈g.sl from vJ)];rfl
 ·rcases bc.mp he with he|he
  ·rw[eS] at he;exact h.len e (dy _ he)
  ·rcases z7 he with he|⟨rfl,hl⟩
   ·exact h.len e (bO _ he)
   ·exact hl
 ·rw[eS] at he ⊢;exact h.sr i e he
 ·rw[eS];rcases z7 he with he|⟨rfl,hl⟩
  ·exact h.Bx e he
  ·exact .inr ⟨q,hq,a,wa,b,wb,ha,hb,e1,e2,rfl⟩
 ·rw[eS];rcases bc.mp (h.fin k hk) with he|he
  ·exact dy _ he
  ·refine bO _ ?_;unfold cy
   split
   ·exact he
   ·split
    ·exact he
    ·by_cases e:(k,f.ts)=aZ f q a b
     ·rw[<- e,Z0 n2 he];have:lR (br q wa wb) (some [])=[]:=by
       rw[zQ,ai];unfold a_;rw[vY,ag (by simp only[sU];lia)];exact aF (by simp only[sU];lia)
      rw[this];exact C'
     ·exact J3 he e
 ·rw[eS];unfold cy at hp
  split at hp
  ·exact h.yk p hp
  ·split at hp
   ·rename_i hl
    rcases ww.mp hp with hp|hp
    ·exact h.yk p hp
    ·exact⟨q,hq,a,wa,b,wb,ha,hb,e1,e2,hp,by rw[vY];exact hl⟩
   ·exact h.yk p hp
 ·rw[Mt,bL,fS];have:=h.u_;unfold cy
  split
  ·dsimp only;lia
  ·split
   ·have:=Dh g.bl (aZ f q a b);dsimp only;lia
   ·have:=S9 g.tl (aZ f q a b) (lR (br q wa wb) (aY g.tl (aZ f q a b)));dsimp only;lia
 ·rw[eS];rw[Mt] at hx;rcases bc.mp hx with hx|hx
  ·exact h.sL x hx
  ·exact⟨q,hq,a,wa,b,wb,ha,hb,e1,e2,az.mp hx⟩
theorem Sh(h:GI ts qs f g)(hl:∀e∈g.sl,e.2.length<(br q wa wb).length):eO f (cy f q a b wa wb g) q a wa b wb:=by
 refine⟨?_,by rw[vZ];exact bO _ (az.mpr rfl)⟩;unfold cy
 split
 ·rename_i hs
  obtain⟨v,hv⟩:=B5.mp hs;have hm:=oU hv;exact .inl ⟨v,hm,Uc (hl _ hm)⟩
 ·split
  ·rename_i gm
   exact .inr (.inr ⟨by rw[vY];exact gm,ww.mpr (.inr rfl)⟩)
  ·exact .inr (.inl ⟨_,C',U6 _ _⟩)
theorem IF(h:GI ts qs f g){p:Pk}{w:Wd}(c:qJ g p w):qJ (cy f q a b wa wb g) p w:=by
 obtain⟨n1,n2,n3⟩:=ZX h.nd;rcases c with⟨v,h1,h2⟩|⟨v,h1,h2⟩|⟨h1,h2⟩
 ·exact .inl ⟨v,by rw[wm];exact h1,h2⟩
 ·refine .inr (.inl ?_);unfold cy
  split
  ·exact⟨v,h1,h2⟩
  ·split
   ·exact⟨v,h1,h2⟩
   ·by_cases e:p=aZ f q a b
    ·subst e;rw[Z0 n2 h1];exact⟨_,C',SK h2⟩
    ·exact⟨v,J3 h1 e,h2⟩
 ·refine .inr (.inr ⟨h1,?_⟩);unfold cy
  split
  ·exact h2
  ·split
   ·exact ww.mpr (.inl h2)
   ·exact h2
theorem Qx(h:GI ts qs f g){q':av.Qd}{a' b':Pk}{jZ j5:Wd}(c:eO f g q' a' jZ b' j5):eO f (cy f q a b wa wb g) q' a' jZ b' j5 :=
 ⟨IF h c.1,by rw[vZ];exact dy _ c.2⟩
theorem RB(h:Ord g)(hl:∀e∈g.sl,e.2.length<(br q wa wb).length):Ord (cy f q a b wa wb g):=by
 intro e he t ht;rw[wm] at he;rcases z7 ht with ht|⟨rfl,_⟩
 ·exact h e he t ht
 ·exact iN (hl e he)
def ix(g:Gs)(p:Pk)(w:Wd):Gs:={ g with sl:=g.sl ++ [(p,w)],tl:=m9 g.tl p }
theorem Dd{p:Pk}{w:Wd}(h:aY l p=some w){x:Pk×Wd}:x∈l↔x=(p,w)\/x∈m9 l p:=by
 rw[(CY h).mem_iff,aJ]
theorem KI(h:GI ts qs f g){p:Pk}{w:Wd}(hp:aY g.tl p=some w):GI ts qs f (ix g p w):=by
 have pm:=CY hp;have dq:((g.sl ++ [(p,w)])++m9 g.tl p).Perm (g.sl++g.tl):=by
  rw[sS];exact List.Perm.append_left _ pm.symm
 have l_:∀x∈g.sl,x∈g.sl ++ [(p,w)]:=λx hx=>dy _ hx;refine⟨((dq.map _).nodup_iff).mpr h.nd,λe he=>h.len e (dq.mem_iff.mp he),λi e he=>?_,λe he=>(h.Bx e ((Dd hp).mpr (.inr he))).mono l_,λk hk=>dq.mem_iff.mpr (h.fin k hk),λb hb=>?_,?_,λx hx=>?_⟩
 ·show Made ts qs f ((g.sl ++ [(p,w)]).take i) e;have he:(g.sl ++ [(p,w)])[i]?= some e:=he;by_cases hi:i<g.sl.length
  ·rw[BZ hi] at he;rw[List.take_append_of_le_length (iN hi)];exact h.sr i e he
  ·rw[yU (by lia)] at he;have rN:i=g.sl.length:=by
    have:=(dc.mp he).1;simp at this;lia
   subst rN;rw[Nat.sub_self] at he;injection he with he;subst he;rw[List.take_append_of_le_length (aq _),cH];exact h.Bx _ (oU hp)
 ·obtain⟨q,hq,a,wa,b',wb,h1,h2,r⟩:=h.yk b hb;exact⟨q,hq,a,wa,b',wb,l_ _ h1,l_ _ h2,r⟩
 ·have:=h.u_;have:=pm.length_eq;rw[bM] at this;show(m9 g.tl p).length+g.bl.length<=_;show _<=g.st.length+ts.length;lia
 ·obtain⟨q,hq,a,wa,b',wb,h1,h2,r⟩:=h.sL x hx;exact⟨q,hq,a,wa,b',wb,l_ _ h1,l_ _ h2,r⟩
theorem RV{p:Pk}{w:Wd}(hp:aY g.tl p=some w){p':Pk}{w':Wd}(c:qJ g p' w'):qJ (ix g p w) p' w':=by
 rcases c with⟨v,h1,h2⟩|⟨v,h1,h2⟩|⟨h1,h2⟩
 ·exact .inl ⟨v,dy _ h1,h2⟩
 ·rcases(Dd hp).mp h1 with e|e
  ·injection e with e1 e2;subst e1 e2;exact .inl ⟨_,bO _ (az.mpr rfl),h2⟩
  ·exact .inr (.inl ⟨v,e,h2⟩)
 ·exact .inr (.inr ⟨h1,h2⟩)
theorem S4(h:Ord g){p:Pk}{w:Wd}(hp:aY g.tl p=some w)(rV:∀t∈g.tl,w.length<=t.2.length):Ord (ix g p w):=by
 intro e he t ht;have HB:=(Dd hp).mpr (.inr ht);rcases bc.mp he with he|he
 ·exact h e he t HB
 ·rw[az.mp he];exact rV t HB
def nK(S:List (Pk×Wd))(k:Int):Nat:=(S.filter λx=>decide (x.1.1=k)).length
def cnt(S:List (Pk×Wd))(qs:List av.Qd):Nat:=(qs.map λq=>nK S q.2.2.1*nK S q.2.2.2).sum
theorem Kv(S:List (Pk×Wd))(p:Pk)(w:Wd)(k:Int):nK (S ++ [(p,w)]) k=nK S k+if p.1=k then 1 else 0:=by
 unfold nK;rw[qm,bL]
 congr 1
 split
 ·rename_i h
  rw[yT (by simpa using h)];rfl
 ·rename_i h
  rw[yS (by simpa using h)];rfl
theorem SX(S:List (Pk×Wd))(qs:List av.Qd)(q:av.Qd):cnt S (qs ++ [q])=cnt S qs+nK S q.2.2.1*nK S q.2.2.2:=by
 unfold cnt;rw[cZ,List.sum_append];simp
theorem D3{S:List (Pk×Wd)}{n:Nat}(h:∀k,nK S k<=n):∀qs,cnt S qs<=qs.length*(n*n)
 | []=>by simp[cnt]
 | q::qs=>by
  have:=D3 h qs;unfold cnt at this ⊢;rw[cu,List.sum_cons,bM];have:=Nat.mul_le_mul (h q.2.2.1) (h q.2.2.2);rw[Nat.succ_mul];lia
end
structure tH(K:PySem.W.Frag)(C:Addr):Prop where
 cls:fJ K C
 n1:f9 K C "rules"
 n2:f9 K C "measure"
 n3:f9 K C "words"
 n4:f9 K C "at_kind"
 n5:f9 K C "steps"
 n6:f9 K C "waiting"
 n7:f9 K C "beyond"
structure Gd where
 a:Addr
 dx:Addr
 r:Addr
 m:Addr
 dw:Addr
 da:Addr
 ls:Addr
 dt:Addr
 db:Addr
 zr:List V
 mm:List (Key×V)
 kw:List (ZG×Addr×V)
 ml:List Addr
def ER(d:Gd):List (Str×V):=[("rules",.ref d.r),("measure",.ref d.m),("words",.ref d.dw),("at_kind",.ref d.da),("steps",.ref d.ls),("waiting",.ref d.dt),("beyond",.ref d.db)]
def aW(H:Hp)(ml:List Addr)(aa:List (ZG×Addr×V))(l:List (Pk×Wd)):Prop:=Paired (λx e=>x.1=pk e.1/\∃c,x.2.2=V.ref c/\H c=some (.lst (e.2.map V.str))/\c∉ml) aa l
theorem aW.keep{H H':Hp}{ml ml':List Addr}:∀{aa:List (ZG×Addr×V)}{l:List (Pk×Wd)},aW H ml aa l->(∀c ws,c∉ml->H c=some (.lst ws)->H' c=some (.lst ws)/\c∉ml')->aW H' ml' aa l
 | _,_,.nil,_=>.nil
 | _,_,.cons ⟨h1,c,h2,h3,h4⟩ t,k=>.cons ⟨h1,c,h2,(k _ _ h4 h3).1,(k _ _ h4 h3).2⟩ (aW.keep t k)
theorem aW.length{H:Hp}{ml:List Addr}{aa:List (ZG×Addr×V)}{l:List (Pk×Wd)}(h:aW H ml aa l):aa.length=l.length:=de h
theorem aW.keys{H:Hp}{ml:List Addr}:∀{aa:List (ZG×Addr×V)}{l:List (Pk×Wd)},aW H ml aa l->aa.map (·.1)=l.map λe=>pk e.1
 | _,_,.nil=>rfl
 | _,_,.cons h t=>by rw[cu,cu,aW.keys t,h.1]
theorem aW.val{H:Hp}{ml:List Addr}(p:Pk):∀{aa:List (ZG×Addr×V)}{l:List (Pk×Wd)},aW H ml aa l->(aY l p=none/\valN aa (pk p)=none)\/∃w c,aY l p=some w/\valN aa (pk p)=some (.ref c)/\H c=some (.lst (w.map V.str))/\c∉ml
 | _,_,.nil=>.inl ⟨rfl,rfl⟩
 | x::aa,e::l,.cons ⟨h1,c,h2,h3,h4⟩ t=>by
  by_cases z:e.1=p
  ·refine .inr ⟨e.2,c,?_,?_,h3,h4⟩
   ·unfold aY;rw[qp (by simpa using z)];rfl
   ·unfold valN;rw[qp (by rw[h1,z];simp)];rw[<- h2];rfl
  ·have e1:aY (e::l) p=aY l p:=by
    unfold aY;rw[qo (by simpa using z)]
   have e2:valN (x::aa) (pk p)=valN aa (pk p):=by
    unfold valN;rw[qo (by rw[h1];exact λy=>z (rh (bh y)))]
   rw[e1,e2];exact aW.val p t
theorem aW.ne{H:Hp}{ml:List Addr}{b:Addr}(hb:H b=none):∀{aa:List (ZG×Addr×V)}{l:List (Pk×Wd)},aW H ml aa l->∀x∈aa,x.2.2 ≠ .ref b
 | _,_,.nil,_,h=>nomatch h
 | _,_,.cons ⟨h1,c,h2,h3,h4⟩ t,x,hx=>by
  rcases aJ.mp hx with rfl|hx
  ·rw[h2];intro z;injection z with z;rw[z,hb] at h3;cases h3
  ·exact aW.ne hb t x hx
theorem aW.get{H:Hp}{ml:List Addr}:∀{aa:List (ZG×Addr×V)}{l:List (Pk×Wd)},aW H ml aa l->∀(i:Nat) x,aa[i]?= some x->∃e,l[i]?= some e/\x.1=pk e.1/\∃c,x.2.2=V.ref c/\H c=some (.lst (e.2.map V.str))/\c∉ml
 | _,_,.cons h t,i,x,hx=>by
  cases i with
  | zero =>
   injection hx with hx;subst hx;exact⟨_,rfl,h⟩
  | succ i=>exact aW.get t i x hx
variable{ml:List Addr}{p:Pk}{aa:List (ZG×Addr×V)}{l:List (Pk×Wd)}
theorem Sa(h:aW H ml aa l):(aa.find? λx=>decide (x.1=pk p)).isSome=(l.find? λx=>decide (x.1=p)).isSome:=by
 have e1:(valN aa (pk p)).isSome=(aa.find? λx=>decide (x.1=pk p)).isSome:=by unfold valN;rw[qw]
 have e2:(aY l p).isSome=(l.find? λx=>decide (x.1=p)).isSome:=by unfold aY;rw[qw]
 rw[<- e1,<- e2];rcases h.val p with⟨h1,h2⟩|⟨w,c,h1,h2,_⟩
 ·rw[h1,h2];rfl
 ·rw[h1,h2];rfl
theorem aW.snoc{H:Hp}{ml:List Addr}{p:Pk}{b c:Addr}{w:Wd}(hc:H c=some (.lst (w.map V.str)))(hm:c∉ml):∀{aa:List (ZG×Addr×V)}{l:List (Pk×Wd)},aW H ml aa l->aW H ml (aa ++ [(pk p,b,.ref c)]) (l ++ [(p,w)])
 | _,_,.nil=>.cons ⟨rfl,c,rfl,hc,hm⟩ .nil
 | _,_,.cons h t=>.cons h (aW.snoc hc hm t)
variable{b c:Addr}
theorem aW.put{w:Wd}(h:aW H ml aa l)(hc:H c=some (.lst (w.map V.str)))(hm:c∉ml):aW H ml (putN aa (pk p) b (.ref c)) (gN l p w):=by
 unfold putN gN;rw[Sa h]
 split
 ·rename_i hs
  clear hs
  induction h with
  | nil=>exact .nil
  | @cons x e aa l r t ih =>
   refine .cons ?_ ih;by_cases z:e.1=p
   ·show(if x.1=pk p then(x.1,x.2.1,V.ref c) else x).1=pk (if e.1=p then(e.1,w) else e).1/\∃c',(if x.1=pk p then(x.1,x.2.1,V.ref c) else x).2.2=V.ref c'/\H c'=some (.lst ((if e.1=p then(e.1,w) else e).2.map V.str))/\c'∉ml
    rw[ai z,ai (by rw[r.1,z])];exact⟨r.1,c,rfl,hc,hm⟩
   ·show(if x.1=pk p then(x.1,x.2.1,V.ref c) else x).1=pk (if e.1=p then(e.1,w) else e).1/\∃c',(if x.1=pk p then(x.1,x.2.1,V.ref c) else x).2.2=V.ref c'/\H c'=some (.lst ((if e.1=p then(e.1,w) else e).2.map V.str))/\c'∉ml
    rw[ag z,ag (by rw[r.1];exact λy=>z (rh y))];exact r
 ·exact aW.snoc hc hm h
theorem aW.erase{H:Hp}{ml:List Addr}:∀{aa:List (ZG×Addr×V)}{l:List (Pk×Wd)}(j:Nat),aW H ml aa l->aW H ml (aa.eraseIdx j) (l.eraseIdx j)
 | _,_,_,.nil=>.nil
 | _,_,0,.cons _ t=>t
 | _,_,j+1,.cons h t=>.cons h (aW.erase j t)
theorem aW.place{H:Hp}{ml:List Addr}{p:Pk}:∀{aa:List (ZG×Addr×V)}{l:List (Pk×Wd)},aW H ml aa l->(aa.findIdx λx=>decide (x.1=pk p))=l.findIdx λx=>decide (x.1=p)
 | _,_,.nil=>rfl
 | x::aa,e::l,.cons h t=>by
  rw[vo,vo,aW.place t];by_cases z:e.1=p
  ·rw[aF z,aF (by rw[h.1,z])]
  ·rw[a8 z,a8 (by rw[h.1];exact λy=>z (rh y))]
theorem aW.drop(h:aW H ml aa l):aW H ml (ir aa (pk p)) (m9 l p):=by
 unfold ir m9;rw[h.place];exact h.erase _
def zE(H:Hp)(ml:List Addr)(ls:Addr)(m:List (Key×V))(ak:List Pk):Prop:=(∀k:Int,(aQ m (Sum.inl k)=none/\(ak.filter λx=>decide (x.1=k))=[])\/∃l zs,aQ m (Sum.inl k)=some (.ref l)/\H l=some (.lst zs)/\bG H zs (ak.filter λx=>decide (x.1=k))/\l∈ml/\l≠ls)/\∀k k' l,aQ m (Sum.inl k)=some (.ref l)->aQ m (Sum.inl k')=some (.ref l)->k=k'
theorem zE.keep{H H':Hp}{ml:List Addr}{ls:Addr}{m:List (Key×V)}{ak:List Pk}(h:zE H ml ls m ak)(k1:∀b xs,H b=some (.tup xs)->H' b=some (.tup xs))(k2:∀b xs,b≠ls->H b=some (.lst xs)->H' b=some (.lst xs)):zE H' ml ls m ak:=⟨λk=>by
 rcases h.1 k with h1|⟨l,zs,h1,h2,h3,h4,h5⟩
 ·exact .inl h1
 ·exact .inr ⟨l,zs,h1,k2 _ _ h5 h2,h3.keep k1,h4,h5⟩,h.2⟩
def iR(H:Hp)(zs:List V)(st:List (Pk×Str×Pk×Pk)):Prop:=Paired (λz x=>∃t b a c,z=V.ref t/\H t=some (.tup [.ref b,.str x.2.1,.ref a,.ref c])/\aN H b (pk x.1)/\aN H a (pk x.2.2.1)/\aN H c (pk x.2.2.2)) zs st
theorem iR.keep{H H':Hp}(k:∀b xs,H b=some (.tup xs)->H' b=some (.tup xs)):∀{zs:List V}{st:List (Pk×Str×Pk×Pk)},iR H zs st->iR H' zs st
 | _,_,.nil=>.nil
 | _,_,.cons ⟨t,b,a,c,h1,h2,h3,h4,h5⟩ r=>.cons ⟨t,b,a,c,h1,k _ _ h2,h3.mono k,h4.mono k,h5.mono k⟩ (iR.keep k r)
theorem iR.snoc{H:Hp}{t b a c:Addr}{x:Pk×Str×Pk×Pk}(h2:H t=some (.tup [.ref b,.str x.2.1,.ref a,.ref c]))(h3:aN H b (pk x.1))(h4:aN H a (pk x.2.2.1))(h5:aN H c (pk x.2.2.2)):∀{zs:List V}{st:List (Pk×Str×Pk×Pk)},iR H zs st->iR H (zs ++ [.ref t]) (st ++ [x])
 | _,_,.nil=>.cons ⟨t,b,a,c,rfl,h2,h3,h4,h5⟩ .nil
 | _,_,.cons r s=>.cons r (iR.snoc h2 h3 h4 h5 s)
theorem ZF{P:Program}{w:World}(h:bF P w H a aa)(e:H' a=H a)(k:∀b xs,H b=some (.tup xs)->H' b=some (.tup xs)):bF P w H' a aa:=⟨by rw[e];exact h.1,λx hx=>(h.2 x hx).mono k⟩
structure aM(P:Program)(w:World)(C CM:Addr)(H0 H:Hp)(d:Gd)(qs:List av.Qd)(f:FQ)(g:Gs):Prop where
 ins:H d.a=some (.ins C d.dx (ER d))
 n9:H0 d.r=some (.tup d.zr)
 mq:QL H0 d.zr qs
 pW:iw CM H0 d.m f
 cU:bF P w H d.dw d.kw
 iL:aW H d.ml d.kw g.sl
 d_:H d.da=some (.dK d.mm)
 gO:zE H d.ml d.ls d.mm g.ak
 gZ:∃kt,bF P w H d.dt kt/\aW H d.ml kt g.tl
 gP:∃kb,bF P w H d.db kb/\kb.map (·.1)=g.bl.map pk
 iK:∃zs,H d.ls=some (.lst zs)/\iR H zs g.st
 iJ:d.ls∈d.ml
 n1:d.dw≠d.dt
 n2:d.dw≠d.db
 n3:d.dt≠d.db
 old:Zi H0 H
 jP:∀b∈d.ml,∃xs,H b=some (.lst xs)
 pX:d.mm.length<=g.ak.length
 fr:∀b∈d.a::d.dw::d.da::d.dt::d.db::d.ml,H0 b=none
section
variable{P:Program}{w:World}{C CM:Addr}{H0 H H':Hp}{d:Gd}{qs:List av.Qd}{f:FQ}{g g':Gs}
def cK(d:Gd)(H H':Hp):Prop := ∀b o,b≠d.ls->b≠d.dt->b≠d.db->H b=some o->H' b=some o
theorem cK.trans{Hq:Hp}(h:cK d H H')(h':cK d H' Hq):cK d H Hq:=λb o a1 a2 a3 e=>h' b o a1 a2 a3 (h b o a1 a2 a3 e)
theorem cK.of(s:Zi H H'):cK d H H':=λb o _ _ _ e=>s b o e
theorem aM.Xv(h:aM P w C CM H0 H d qs f g):H0 d.ls=none:=h.fr _ (by simp[h.iJ])
theorem aM.MI(h:aM P w C CM H0 H d qs f g):H0 d.dt=none:=h.fr _ (by simp)
theorem aM.Xu(h:aM P w C CM H0 H d qs f g):H0 d.db=none:=h.fr _ (by simp)
theorem aM.nS(h:aM P w C CM H0 H d qs f g)(k:cK d H H'):∀b xs,H b=some (.tup xs)->H' b=some (.tup xs):=by
 obtain⟨kt,t1,t2⟩:=h.gZ;obtain⟨kb,b1,b2⟩:=h.gP;obtain⟨zs,s1,s2⟩:=h.iK;exact λb xs e=>k b _ (λz=>by rw[z,s1] at e;cases e) (λz=>by rw[z,t1.1] at e;cases e) (λz=>by rw[z,b1.1] at e;cases e) e
theorem aM.yf(h:aM P w C CM H0 H d qs f g)(k:cK d H H'):∀b xs,b≠d.ls->H b=some (.lst xs)->H' b=some (.lst xs):=by
 obtain⟨kt,t1,t2⟩:=h.gZ;obtain⟨kb,b1,b2⟩:=h.gP;exact λb xs n e=>k b _ n (λz=>by rw[z,t1.1] at e;cases e) (λz=>by rw[z,b1.1] at e;cases e) e
theorem aM.move(h:aM P w C CM H0 H d qs f g)(k:cK d H H')(eS:g'.sl=g.sl)(Mo:g'.ak=g.ak)(t:∃kt,bF P w H' d.dt kt/\aW H' d.ml kt g'.tl)(b:∃kb,bF P w H' d.db kb/\kb.map (·.1)=g'.bl.map pk)(s:∃zs,H' d.ls=some (.lst zs)/\iR H' zs g'.st):aM P w C CM H0 H' d qs f g':=by
 obtain⟨kt,t1,t2⟩:=h.gZ;obtain⟨kb,b1,b2⟩:=h.gP;obtain⟨zs,s1,s2⟩:=h.iK;have kT:=h.nS k;have kL:=h.yf k;have nW:∀b o,H b=some o->(∀xs,o ≠ .lst xs)->b≠d.ls:=λb o e n z=>by
  rw[z,s1] at e;injection e with e;exact n _ e.symm
 have nU:∀b o,H b=some o->(∀F,o ≠ .ext F)->b≠d.dt:=λb o e n z=>by
  rw[z,t1.1] at e;injection e with e;exact n _ e.symm
 have fw:∀b o,H b=some o->(∀F,o ≠ .ext F)->b≠d.db:=λb o e n z=>by
  rw[z,b1.1] at e;injection e with e;exact n _ e.symm
 refine⟨k _ _ (nW _ _ h.ins λ_ z=>nomatch z) (nU _ _ h.ins λ_ z=>nomatch z) (fw _ _ h.ins λ_ z=>nomatch z) h.ins,h.n9,h.mq,h.pW,ZF h.cU ?_ kT,?_,k _ _ (nW _ _ h.d_ λ_ z=>nomatch z) (nU _ _ h.d_ λ_ z=>nomatch z) (fw _ _ h.d_ λ_ z=>nomatch z) h.d_,by rw[Mo];exact h.gO.keep kT kL,t,b,s,h.iJ,h.n1,h.n2,h.n3,λb o e=>k b o (λz=>by rw[z,h.Xv] at e;cases e) (λz=>by rw[z,h.MI] at e;cases e) (λz=>by rw[z,h.Xu] at e;cases e) (h.old b o e),λc hc=>?_,by rw[Mo];exact h.pX,h.fr⟩
 ·rw[h.cU.1];exact k _ _ (nW _ _ h.cU.1 λ_ z=>nomatch z) h.n1 h.n2 h.cU.1
 ·rw[eS];exact h.iL.keep λc ws hc e=>⟨kL c ws (λz=>hc (z ▸ h.iJ)) e,hc⟩
 ·by_cases z1:c=d.ls
  ·obtain⟨dD,Pw,_⟩:=s;rw[z1];exact⟨_,Pw⟩
  ·obtain⟨xs,hx⟩:=h.jP c hc;exact⟨xs,kL _ _ z1 hx⟩
theorem aM.same(h:aM P w C CM H0 H d qs f g)(s:Zi H H'):aM P w C CM H0 H' d qs f g:=by
 obtain⟨kt,t1,t2⟩:=h.gZ;obtain⟨kb,b1,b2⟩:=h.gP;obtain⟨zs,s1,s2⟩:=h.iK;have kT:∀b xs,H b=some (.tup xs)->H' b=some (.tup xs):=λb xs e=>s b _ e;exact h.move (cK.of s) rfl rfl ⟨kt,ZF t1 (by rw[s _ _ t1.1,t1.1]) kT,t2.keep λc ws hc e=>⟨s _ _ e,hc⟩⟩ ⟨kb,ZF b1 (by rw[s _ _ b1.1,b1.1]) kT,b2⟩ ⟨zs,s _ _ s1,s2.keep kT⟩
end
section
variable{P:Program}{w:World}{C CM:Addr}{H0 H:Hp}{d:Gd}{qs:List av.Qd}{f:FQ}{g:Gs}
theorem aM.Zq6(h:aM P w C CM H0 H d qs f g){zs:List V}(s1:H d.ls=some (.lst zs))(s2:iR H zs g.st){t b a c:Addr}{x:Pk×Str×Pk×Pk}(h2:H t=some (.tup [.ref b,.str x.2.1,.ref a,.ref c]))(h3:aN H b (pk x.1))(h4:aN H a (pk x.2.2.1))(h5:aN H c (pk x.2.2.2)) :
  aM P w C CM H0 (upd H d.ls (.lst (zs ++ [.ref t]))) d qs f { g with st:=g.st ++ [x] }:=by
 obtain⟨kt,t1,t2⟩:=h.gZ;obtain⟨kb,b1,b2⟩:=h.gP;have k:cK d H (upd H d.ls (.lst (zs ++ [.ref t]))):=λb o n _ _ e=>by rw[Zc n];exact e
 have kT:=h.nS k;have nt:d.dt≠d.ls:=λz=>by have:=t1.1;rw[z,s1] at this;cases this
 have nb:d.db≠d.ls:=λz=>by have:=b1.1;rw[z,s1] at this;cases this
 exact h.move k rfl rfl ⟨kt,ZF t1 (Zc nt) kT,t2.keep λc ws hc e=>⟨h.yf k c ws (λz=>hc (z ▸ h.iJ)) e,hc⟩⟩ ⟨kb,ZF b1 (Zc nb) kT,b2⟩ ⟨_,Za,iR.snoc (kT _ _ h2) (h3.mono kT) (h4.mono kT) (h5.mono kT) (s2.keep kT)⟩
theorem aM.ZqS(h:aM P w C CM H0 H d qs f g){kt:List (ZG×Addr×V)}(t1:bF P w H d.dt kt)(t2:aW H d.ml kt g.tl){p:Pk}{b c:Addr}{ws:Wd}(hb:aN H b (pk p))(hc:H c=some (.lst (ws.map V.str)))(hm:c∉d.ml) :
  aM P w C CM H0 (upd H d.dt (Zm P w d.dt (putN kt (pk p) b (.ref c)))) d qs f { g with tl:=gN g.tl p ws }:=by
 obtain⟨kb,b1,b2⟩:=h.gP;obtain⟨zs,s1,s2⟩:=h.iK;have k:cK d H (upd H d.dt (Zm P w d.dt (putN kt (pk p) b (.ref c)))):=λb o _ n _ e=>by rw[Zc n];exact e
 have kT:=h.nS k;have ns:d.ls≠d.dt:=λz=>by have:=t1.1;rw[<- z,s1] at this;cases this
 have eF:c≠d.dt:=λz=>by have:=t1.1;rw[<- z,hc] at this;cases this
 exact h.move k rfl rfl ⟨_,t1.put hb (.ref c),(t2.put (b:=b) hc hm).keep λc' HG cQ e=>⟨by rw[Zc (λz=>by have:=t1.1;rw[<- z,e] at this;cases this)];exact e,cQ⟩⟩ ⟨kb,ZF b1 (Zc h.n3.symm) kT,b2⟩ ⟨zs,by rw[Zc ns];exact s1,s2.keep kT⟩
theorem C_{p:Pk}{b:Addr}{v:V}{kb:List (ZG×Addr×V)}{l:List Pk}(h:kb.map (·.1)=l.map pk):(putN kb (pk p) b v).map (·.1)=(iu l p).map pk:=by
 have e:(kb.find? λx=>decide (x.1=pk p)).isSome=true↔p∈l:=by
  rw[vn];constructor
  ·rintro⟨x,h1,h2⟩;have h3:x.1∈l.map pk:=by rw[<- h];exact aS.mpr ⟨x,h1,rfl⟩
   rw[bh h2] at h3;obtain⟨y,h4,h5⟩:=aS.mp h3;rw[<- rh h5];exact h4
  ·intro hp;have h3:pk p∈kb.map (·.1):=by rw[h];exact aS.mpr ⟨p,hp,rfl⟩
   obtain⟨x,h1,h2⟩:=aS.mp h3;exact⟨x,h1,aF h2⟩
 unfold putN iu;by_cases hp:p∈l
 ·rw[ai (e.mpr hp),ai hp,<- h,gF];refine List.map_congr_left λx _=>?_;show(if x.1=pk p then(x.1,x.2.1,v) else x).1=x.1
  split <;> rfl
 ·rw[ag (λz=>hp (e.mp z)),ag hp,cZ,cZ,h];rfl
theorem aM.ZqR(h:aM P w C CM H0 H d qs f g){kb:List (ZG×Addr×V)}(b1:bF P w H d.db kb)(b2:kb.map (·.1)=g.bl.map pk){p:Pk}{b:Addr}{v:V}(hb:aN H b (pk p)) :
  aM P w C CM H0 (upd H d.db (Zm P w d.db (putN kb (pk p) b v))) d qs f { g with bl:=iu g.bl p }:=by
 obtain⟨kt,t1,t2⟩:=h.gZ;obtain⟨zs,s1,s2⟩:=h.iK;have k:cK d H (upd H d.db (Zm P w d.db (putN kb (pk p) b v))):=λb o _ _ n e=>by rw[Zc n];exact e
 have kT:=h.nS k;have ns:d.ls≠d.db:=λz=>by have:=b1.1;rw[<- z,s1] at this;cases this
 exact h.move k rfl rfl ⟨kt,ZF t1 (Zc h.n3) kT,t2.keep λc ws hc e=>⟨h.yf k c ws (λz=>hc (z ▸ h.iJ)) e,hc⟩⟩ ⟨_,b1.put hb v,C_ b2⟩ ⟨zs,by rw[Zc ns];exact s1,s2.keep kT⟩
theorem aM.pop(h:aM P w C CM H0 H d qs f g){kt:List (ZG×Addr×V)}(t1:bF P w H d.dt kt)(t2:aW H d.ml kt g.tl){p:Pk}{b c:Addr}{wp:Wd}(hb:aN H b (pk p))(hc:H c=some (.lst (wp.map V.str)))(hm:c∉d.ml)(hn:aY g.sl p=none) :
  aM P w C CM H0 (upd (upd H d.dt (Zm P w d.dt (ir kt (pk p)))) d.dw (Zm P w d.dw (putN d.kw (pk p) b (.ref c)))) { d with kw:=putN d.kw (pk p) b (.ref c) } qs f (ix g p wp):=by
 obtain⟨kb,b1,b2⟩:=h.gP;obtain⟨zs,s1,s2⟩:=h.iK;obtain⟨eI,iH⟩:=id h.cU;have k:∀b' o,b'≠d.dt->b'≠d.dw->H b'=some o->(upd (upd H d.dt (Zm P w d.dt (ir kt (pk p)))) d.dw (Zm P w d.dw (putN d.kw (pk p) b (.ref c)))) b'=some o:=λb' o n1 n2 e=>by
  rw[Zc n2,Zc n1];exact e
 have ne:∀b' o,H b'=some o->(∀F,o ≠ .ext F)->b'≠d.dt/\b'≠d.dw:=λb' o e n=>⟨λz=>by
  rw[z,t1.1] at e;injection e with e;exact n _ e.symm,λz=>by
  rw[z,eI] at e;injection e with e;exact n _ e.symm⟩
 have kx:∀b' o,H b'=some o->(∀F,o ≠ .ext F)->(upd (upd H d.dt (Zm P w d.dt (ir kt (pk p)))) d.dw (Zm P w d.dw (putN d.kw (pk p) b (.ref c)))) b'=some o:=λb' o e n=>k b' o (ne b' o e n).1 (ne b' o e n).2 e;have kT:∀b' xs,H b'=some (.tup xs)->(upd (upd H d.dt (Zm P w d.dt (ir kt (pk p)))) d.dw (Zm P w d.dw (putN d.kw (pk p) b (.ref c)))) b'=some (.tup xs):=λb' xs e=>kx b' _ e λ_ z=>nomatch z
 have kL:∀b' xs,H b'=some (.lst xs)->(upd (upd H d.dt (Zm P w d.dt (ir kt (pk p)))) d.dw (Zm P w d.dw (putN d.kw (pk p) b (.ref c)))) b'=some (.lst xs):=λb' xs e=>kx b' _ e λ_ z=>nomatch z
 have ep:gN g.sl p wp=g.sl ++ [(p,wp)]:=by
  unfold gN;have:(g.sl.find? λx=>decide (x.1=p)).isSome=false:=by
   have h2:=congrArg Option.isSome hn;unfold aY at h2;rw[qw] at h2;exact h2
  rw[this];rfl
 refine⟨kx _ _ h.ins (λ_ z=>nomatch z),h.n9,h.mq,h.pW,⟨Za,λx hx=>?_⟩,?_,kx _ _ h.d_ (λ_ z=>nomatch z),h.gO.keep kT λb' xs _ e=>kL b' xs e,⟨_,⟨by rw[Zc h.n1.symm];exact Za,λx hx=>(t1.2 x (List.mem_of_mem_eraseIdx hx)).mono kT⟩,t2.drop.keep λc' ws cQ e=>⟨kL c' ws e,cQ⟩⟩,⟨kb,ZF b1 (by rw[Zc h.n2.symm,Zc h.n3.symm]) kT,b2⟩,⟨zs,kL _ _ s1,s2.keep kT⟩,h.iJ,h.n1,h.n2,h.n3,λb' o e=>k b' o (λz=>by rw[z,h.MI] at e;cases e) (λz=>by rw[z,h.fr d.dw (by simp)] at e;cases e) (h.old b' o e),λc' cQ=>?_,h.pX,h.fr⟩
 ·unfold putN at hx
  split at hx
  ·obtain⟨y,hy,rfl⟩:=aS.mp hx;have:=iH y hy
   split
   ·exact this.mono kT
   ·exact this.mono kT
  ·rcases bc.mp hx with hx|hx
   ·exact(iH x hx).mono kT
   ·rw[az.mp hx];exact hb.mono kT
 ·show aW _ d.ml _ (g.sl ++ [(p,wp)]);rw[<- ep];exact(h.iL.put (b:=b) hc hm).keep λc' ws cQ e=>⟨kL c' ws e,cQ⟩
 ·obtain⟨xs,hx⟩:=h.jP c' cQ;exact⟨xs,kL _ _ hx⟩
theorem zV(ak:List Pk)(p:Pk)(k:Int):((ak ++ [p]).filter λx=>decide (x.1=k))=(ak.filter λx=>decide (x.1=k))++if p.1=k then [p] else []:=by
 rw[qm];refine congrArg _ ?_
 split
 ·rename_i h
  exact yT (by simpa using h)
 ·rename_i h
  exact yS (by simpa using h)
theorem aM.Wx(h:aM P w C CM H0 H d qs f g){p:Pk}{b l:Addr}{zs:List V}(hb:aN H b (pk p))(v:aQ d.mm (Sum.inl p.1)=some (.ref l))(e:H l=some (.lst zs)) :
  aM P w C CM H0 (upd H l (.lst (zs ++ [.ref b]))) d qs f { g with ak:=g.ak ++ [p] }:=by
 obtain⟨kt,t1,t2⟩:=h.gZ;obtain⟨kb,b1,b2⟩:=h.gP;obtain⟨zt,s1,s2⟩:=h.iK;obtain⟨pl,eG,nW⟩:bG H zs (g.ak.filter λx=>decide (x.1=p.1))/\l∈d.ml/\l≠d.ls:=by
  rcases h.gO.1 p.1 with⟨h1,_⟩|⟨l',dD,h1,h2,h3,h4,h5⟩
  ·rw[h1] at v;cases v
  ·rw[h1] at v;injection v with v;injection v with v;subst v;rw[h2] at e;injection e with e;injection e with e;subst e;exact⟨h3,h4,h5⟩
 have ne:∀b' o,H b'=some o->(∀xs,o ≠ .lst xs)->b'≠l:=λb' o e' n z=>by
  rw[z,e] at e';injection e' with e';exact n _ e'.symm
 have kx:∀b' o,H b'=some o->b'≠l->(upd H l (.lst (zs ++ [.ref b]))) b'=some o:=λb' o e' n=>by rw[Zc n];exact e'
 have kT:∀b' xs,H b'=some (.tup xs)->(upd H l (.lst (zs ++ [.ref b]))) b'=some (.tup xs):=λb' xs e'=>kx b' _ e' (ne _ _ e' λ_ z=>nomatch z)
 have kW:∀c ws,c∉d.ml->H c=some (.lst ws)->(upd H l (.lst (zs ++ [.ref b]))) c=some (.lst ws)/\c∉d.ml:=λc ws hc e'=>⟨kx c _ e' λz=>hc (z ▸ eG),hc⟩;have nx:∀b' aa,H b'=some (Zm P w b' aa)->b'≠l:=λb' aa e'=>ne _ _ e' λ_ z=>nomatch z
 refine⟨kx _ _ h.ins (ne _ _ h.ins λ_ z=>nomatch z),h.n9,h.mq,h.pW,ZF h.cU (Zc (nx _ _ h.cU.1)) kT,h.iL.keep kW,kx _ _ h.d_ (ne _ _ h.d_ λ_ z=>nomatch z),⟨λk=>?_,h.gO.2⟩,⟨kt,ZF t1 (Zc (nx _ _ t1.1)) kT,t2.keep kW⟩,⟨kb,ZF b1 (Zc (nx _ _ b1.1)) kT,b2⟩,⟨zt,kx _ _ s1 nW.symm,s2.keep kT⟩,h.iJ,h.n1,h.n2,h.n3,λb' o e'=>kx b' o (h.old b' o e') (λz=>by rw[z,h.fr l (by simp[eG])] at e';cases e'),λc hc=>?_,by rw[bL];exact bD h.pX (vw _ _),h.fr⟩
 ·show _\/∃l' dD,_/\_/\bG _ dD ((g.ak ++ [p]).filter λx=>decide (x.1=k))/\_;rw[zV];by_cases hk:p.1=k
  ·subst hk;rw[ai rfl];exact .inr ⟨l,_,v,Za,bG.snoc (hb.mono kT) (pl.keep kT),eG,nW⟩
  ·rw[ag hk,gE];rcases h.gO.1 k with⟨h1,h2⟩|⟨l',dD,h1,h2,h3,h4,h5⟩
   ·exact .inl ⟨h1,h2⟩
   ·exact .inr ⟨l',dD,h1,kx _ _ h2 (λz=>hk (h.gO.2 _ _ l v (z ▸ h1))),h3.keep kT,h4,h5⟩
 ·by_cases z:c=l
  ·rw[z];exact⟨_,Za⟩
  ·obtain⟨xs,hx⟩:=h.jP c hc;exact⟨xs,kx _ _ hx z⟩
theorem aM.Ww{H1:Hp}(h1:aM P w C CM H0 H1 d qs f g){p:Pk}{b l:Addr}(cj:aN H1 b (pk p))(v:aQ d.mm (Sum.inl p.1)=none)(n1:H1 l=none)(eH:H=upd H1 l (.lst [])) :
  aM P w C CM H0 (upd (upd H d.da (.dK (putK d.mm (Sum.inl p.1) (.ref l)))) l (.lst [.ref b])) { d with mm:=putK d.mm (Sum.inl p.1) (.ref l),ml:=l::d.ml } qs f { g with ak:=g.ak ++ [p] }:=by
 subst eH;have sn:Zi H1 (upd H1 l (.lst [])):=Zi.new n1;have h:=h1.same sn;have hb:aN (upd H1 l (.lst [])) b (pk p):=cj.mono λb' xs e=>sn _ _ e;have e:(upd H1 l (.lst [])) l=some (.lst []):=Za;have hl:l∉d.ml:=λz=>by
  obtain⟨xs,hx⟩:=h1.jP l z;rw[n1] at hx;cases hx
 have h0:H0 l=none:=by
  cases z:H0 l with
  | none=>rfl
  | some o =>
   have:=h1.old _ _ z;rw[n1] at this;cases this
 have hw:=h1.iL.ne n1;obtain⟨kt,BN,Hf⟩:=h1.gZ;have ht:=Hf.ne n1;have t1:bF P w (upd H1 l (.lst [])) d.dt kt:=ZF BN (by rw[sn _ _ BN.1,BN.1]) λb' xs e=>sn _ _ e;have t2:aW (upd H1 l (.lst [])) d.ml kt g.tl:=Hf.keep λc ws hc e=>⟨sn _ _ e,hc⟩;clear n1 BN Hf h1 cj;generalize upd H1 l (.lst [])=H at h hb e t1 t2 ⊢;obtain⟨kb,b1,b2⟩:=h.gP;obtain⟨zt,s1,s2⟩:=h.iK;have ym:l≠d.da:=λz=>by rw[z,h.d_] at e;cases e
 have nW:l≠d.ls:=λz=>hl (z ▸ h.iJ);have kx:∀b' o,H b'=some o->b'≠l->b'≠d.da->(upd (upd H d.da (.dK (putK d.mm (Sum.inl p.1) (.ref l)))) l (.lst [.ref b])) b'=some o:=λb' o e' n1 n2=>by rw[Zc n1,Zc n2];exact e'
 have ne:∀b' o,H b'=some o->(∀xs,o ≠ .lst xs)->b'≠l:=λb' o e' n z=>by
  rw[z,e] at e';injection e' with e';exact n _ e'.symm
 have nd:∀b' o,H b'=some o->(∀xs,o ≠ .dK xs)->b'≠d.da:=λb' o e' n z=>by
  rw[z,h.d_] at e';injection e' with e';exact n _ e'.symm
 have kT:∀b' xs,H b'=some (.tup xs)->(upd (upd H d.da (.dK (putK d.mm (Sum.inl p.1) (.ref l)))) l (.lst [.ref b])) b'=some (.tup xs):=λb' xs e'=>kx b' _ e' (ne _ _ e' λ_ z=>nomatch z) (nd _ _ e' λ_ z=>nomatch z)
 have Bs:∀c ws,c≠l->H c=some (.lst ws)->(upd (upd H d.da (.dK (putK d.mm (Sum.inl p.1) (.ref l)))) l (.lst [.ref b])) c=some (.lst ws):=λc ws hc e'=>kx c _ e' hc (nd _ _ e' λ_ z=>nomatch z)
 have kN:∀b' aa,H b'=some (Zm P w b' aa)->(upd (upd H d.da (.dK (putK d.mm (Sum.inl p.1) (.ref l)))) l (.lst [.ref b])) b'=H b':=λb' aa e'=>by rw[Zc (ne _ _ e' λ_ z=>nomatch z),Zc (nd _ _ e' λ_ z=>nomatch z)]
 have wk:∀{aa:List (ZG×Addr×V)}{ll:List (Pk×Wd)},aW H d.ml aa ll->(∀x∈aa,x.2.2 ≠ .ref l)->aW (upd (upd H d.da (.dK (putK d.mm (Sum.inl p.1) (.ref l)))) l (.lst [.ref b])) (l::d.ml) aa ll:=by
  intro aa ll hh
  induction hh with
  | nil=>exact λ_=>.nil
  | @cons x y aa ll r t ih =>
   intro hx;obtain⟨r1,c,r2,r3,r4⟩:=r;have bu:c≠l:=λz=>hx x (aU ..) (by rw[r2,z]);exact .cons ⟨r1,c,r2,Bs c _ bu r3,λz=>(aJ.mp z).elim bu r4⟩ (ih λy hy=>hx y (aR _ hy))
 have vk:∀k,aQ (putK d.mm (Sum.inl p.1) (.ref l)) (Sum.inl k)=if p.1=k then some (.ref l) else aQ d.mm (Sum.inl k):=λk=>by
  by_cases hk:p.1=k
  ·rw[ai hk,hk,q5,ai rfl]
  ·rw[ag hk,q5,ag (λz=>hk (by injection z with z;exact z.symm))]
 refine⟨kx _ _ h.ins (ne _ _ h.ins λ_ z=>nomatch z) (nd _ _ h.ins λ_ z=>nomatch z),h.n9,h.mq,h.pW,ZF h.cU (kN _ _ h.cU.1) kT,wk h.iL hw,by rw[Zc ym.symm];exact Za,⟨λk=>?_,λk k' l' h1 h2=>?_⟩,⟨kt,ZF t1 (kN _ _ t1.1) kT,wk t2 ht⟩,⟨kb,ZF b1 (kN _ _ b1.1) kT,b2⟩,⟨zt,Bs _ _ nW.symm s1,s2.keep kT⟩,aR _ h.iJ,h.n1,h.n2,h.n3,λb' o e'=>kx b' o (h.old b' o e') (λz=>by rw[z,h0] at e';cases e') (λz=>by rw[z,h.fr d.da (by simp)] at e';cases e'),λc hc=>?_,?_,λc hc=>?_⟩
 ·show(aQ (putK d.mm (Sum.inl p.1) (.ref l)) (Sum.inl k)=none/\((g.ak ++ [p]).filter λx=>decide (x.1=k))=[])\/∃l' dD,aQ (putK d.mm (Sum.inl p.1) (.ref l)) (Sum.inl k)=some (.ref l')/\_/\bG _ dD ((g.ak ++ [p]).filter λx=>decide (x.1=k))/\_;rw[vk,zV];by_cases hk:p.1=k
  ·subst hk;have hf:(g.ak.filter λx=>decide (x.1=p.1))=[]:=by
    rcases h.gO.1 p.1 with⟨_,h2⟩|⟨l',dD,h1,_⟩
    ·exact h2
    ·rw[v] at h1;cases h1
   rw[ai rfl,ai rfl,hf];exact .inr ⟨l,[.ref b],rfl,Za,.cons ⟨b,rfl,hb.mono kT⟩ .nil,aU ..,nW⟩
  ·rw[ag hk,ag hk,gE];rcases h.gO.1 k with⟨h1,h2⟩|⟨l',dD,h1,h2,h3,h4,h5⟩
   ·exact .inl ⟨h1,h2⟩
   ·exact .inr ⟨l',dD,h1,Bs _ _ (λz=>hl (z ▸ h4)) h2,h3.keep kT,aR _ h4,h5⟩
 ·have h1:aQ (putK d.mm (Sum.inl p.1) (.ref l)) (Sum.inl k)=some (.ref l'):=h1;have h2:aQ (putK d.mm (Sum.inl p.1) (.ref l)) (Sum.inl k')=some (.ref l'):=h2;rw[vk] at h1 h2;have N5:∀k,aQ d.mm (Sum.inl k)=some (.ref l')->l'∈d.ml:=λk hk=>by
   rcases h.gO.1 k with⟨h3,_⟩|⟨l2,yL,h3,_,_,h4,_⟩
   ·rw[h3] at hk;cases hk
   ·rw[h3] at hk;injection hk with hk;injection hk with hk;exact hk ▸ h4
  split at h1
  ·rename_i c1
   split at h2
   ·rename_i c2
    exact c1.symm.trans c2
   ·injection h1 with h1;injection h1 with h1;exact absurd (N5 _ h2) (h1 ▸ hl)
  ·split at h2
   ·injection h2 with h2;injection h2 with h2;exact absurd (N5 _ h1) (h2 ▸ hl)
   ·exact h.gO.2 _ _ l' h1 h2
 ·rcases aJ.mp hc with rfl|hc
  ·exact⟨_,Za⟩
  ·by_cases z:c=l
   ·rw[z];exact⟨_,Za⟩
   ·obtain⟨xs,hx⟩:=h.jP c hc;exact⟨xs,Bs _ _ z hx⟩
 ·show(putK d.mm (Sum.inl p.1) (.ref l)).length<=(g.ak ++ [p]).length;rw[bL];have:=qV d.mm (Sum.inl p.1) (V.ref l);have:=h.pX;show _<=g.ak.length+1;lia
 ·simp only[aJ] at hc;rcases hc with rfl|rfl|rfl|rfl|rfl|rfl|hc
  ·exact h.fr _ (by simp)
  ·exact h.fr _ (by simp)
  ·exact h.fr _ (by simp)
  ·exact h.fr _ (by simp)
  ·exact h.fr _ (by simp)
  ·exact h0
  ·exact h.fr _ (by simp[hc])
end
def Al(P:Program)(w:World)(C CM:Addr):Sp:=λvs H Q _=>∃(rq b1 b2:Addr)(H0:Hp)(d:Gd)(qs:List av.Qd)(fm:FQ)(g:Gs)(q:av.Qd)(p1 p2:Pk)(w1 w2:Wd),vs=[.ref d.a,.ref rq,.ref b1,.ref b2]/\aM P w C CM H0 H d qs fm g/\H rq=some (tq q)/\aN H b1 (pk p1)/\aN H b2 (pk p2)/\aY g.sl p1=some w1/\aY g.sl p2=some w2/\lN fm/\p1.2.length<=63/\p2.2.length<=63/\p1.2.Nodup/\p2.2.Nodup/\w1.length<=600/\w2.length<=600/\jx (br q w1 w2)/\(∀e∈g.tl,jx e.2)/\g.st.length<4000/\g.tl.length<=9000/\g.bl.length<=9000 /\
 ∀H',aM P w C CM H0 H' d qs fm (cy fm q p1 p2 w1 w2 g)->cK d H H'->Q .aG H'
theorem fZ(p:Pk):(pk p).2.map kV=p.2.map V.int:=by
 show(p.2.map Sum.inl).map kV=_;rw[gF];rfl
variable{CM:Addr}
set_option maxHeartbeats 2000000 in
theorem P5(B:∀x∈dM,mg x=none)(Cp:∃t:Tok,mg "MOST_STEPS" = some (.int 4000 t)) (Cq:∃t:Tok,mg "MOST_TAGS" = some (.int 300 t)) (aD:tH K C) (uq:fJ K CM) (EB:ic P w K mg base CM "above" ["self","tag","inner","rest"] 2 (vX CM)) (uw:dY P w K mg base "rank_of_words" ["words"] 1 DP) (F:bR K "step" "Growth.step" ZK f fd):aX P w K mg base cx 3 f fd ["self","rule","within","behind"] (Al P w C CM):=by
 refine F.ok CS (λvs H Q E h=>?_) (λaP A outer s H vs Q E hr h=>?_)
 ·obtain⟨rq,b1,b2,H0,d,qs,fm,g,q,p1,p2,w1,w2,rfl,_⟩:=h;rfl
 obtain⟨rq,b1,b2,H0,d,qs,fm,g,q,p1,p2,w1,w2,rfl,hG,hq,⟨c1,k1,Gp⟩,⟨c2,k2,Gu⟩,eI,iH,hL,l1,l2,jQ,pY,wl1,wl2,OC,okt,bY,gX,iB,Q1⟩:=h;have cN:=lE hr;have NX:=Ja hr;obtain⟨t4,m4⟩:=Cp;obtain⟨t3,m3⟩:=Cq;have WB:=m4;have WC:=m3;rw[fZ] at Gp Gu;obtain⟨zs,s1,s2⟩:=id hG.iK;have dQ:zs.length=g.st.length:=de s2;refine Zt ((LO ((Zf ZK).getD 4 (.Pass ⟨0,0,0,0⟩))).drop 1) (Zj (wj cN (Z6 (pv 0) rfl) (pv 4) (Tg uw hr rfl rfl (B "min" (by decide)) rfl (Zb (Z1 (Zb (pv 5) (Zb (R' cN (Z6 (pv 0) rfl) (pv 4) (pv 5) ⟨rfl,rfl,rfl,rfl⟩) Ze))) Ze)) rfl)) (λZtb X1 Xd=>?_);refine Zt ((LO ((Zf ZK).getD 4 (.Pass ⟨0,0,0,0⟩))).drop 0) (Zd (Zz (i:=5) CS.nd rfl (Or.inl rfl) (Zv lG (Zv lG (Zv lG (Z1 (Zb (ZJ ZD (pv 1) Zh (λ_ _=>rfl)) Ze)) (wu cN (Z6 (pv 0) rfl) (pv 2) (λ_ _=>rfl))) (Z1 (Zb wH Ze))) (wu cN (Z6 (pv 0) rfl) (pv 3) (λ_ _=>rfl)))) X1) (λZta X0 Xc=>?_);refine Zt ((Zf ZK).drop 4) (Zj (c5 (fb D_ (Zv d9 (Zv d9 Zh (Zx Zy rfl (B "len" (by decide)) fV (Zb (wu cN (Z6 (pv 0) rfl) (pv 2) (λ_ _=>rfl)) Ze))) (Zx Zy rfl (B "len" (by decide)) fV (Zb (wu cN (Z6 (pv 0) rfl) (pv 3) (λ_ _=>rfl)) Ze))) (Zv oY Zh (tX (v:=.int 300) rfl WC ⟨_,rfl⟩)) (dI _))
   (Zj (wj cN (Z6 (pv 0) rfl) (pv 4) f' rfl))
   X0)) (λu4 h4 e4=>?_)
 refine Zt ((Zf ZK).drop 3) (Zd (c5 (ue (T7 cN (pv 4) (Z6 (pv 0) rfl)))
   (Zj TQ)
   ZQ) h4) (λu3 h3 e3=>?_)
 refine Zt ((Zf ZK).drop 2) (Zd (ij (lO jX mF mG jA (Z6 (pv 0) rfl) (Zb (c7 (Zb (pv 4) (Zb (ZJ ZD (pv 1) Zh (λ_ _=>rfl)) (Zb (pv 2) (Zb (pv 3) Ze))))) Ze))) h3) (λu2 h2 e2=>?_);refine Zt ((Zf ZK).drop 1) (Zd (Zz (i:=4) CS.nd rfl (Or.inl rfl) (c7 (Zb (ZJ ZD (pv 1) Zh (λ_ _=>rfl)) (Zb (tS EB hr (Z6 (pv 0) rfl) uq (Zb (ZJ ZD (pv 1) Zh (λ_ _=>rfl)) (Zb (ZJ ZD (pv 2) Zh (λ_ _=>rfl)) (Zb (ZJ ZD (pv 3) Zh (λ_ _=>rfl)) Ze)))) Ze)))) h2) (λu1 h1 e1=>?_);refine Zt ((Zf ZK).drop 0) (Zd (c5 (fb gM (Zx Zy rfl (B "len" (by decide)) fV (Zb (Z6 (pv 0) rfl) Ze)) (tX (v:=.int 4000) rfl WB ⟨_,rfl⟩) (dI _))
   (Zj z8)
   ZQ) h1) (λu0 h0 e0=>?_)
 refine⟨u0,h0,?_⟩;refine Zr e0 ?_;refine⟨_,rfl,d.a,C,d.dx,_,_,rfl,hG.ins,aD.cls,aD.n5,rfl,d.ls,zs,rfl,.inl (aj.of s1),rfl,_,rfl,?_⟩;refine cz (λc=>absurd (bh c) (by intro z;injection z with z;lia)) (λ_=>?_);refine Zr e1 ?_;have Of:=hG.pW.same hG.old;obtain⟨ur,Og,Oh,Oe,Oi,uS,_⟩:=id Of;refine⟨_,rfl,rq,_,0,_,rfl,rfl,ar.of hq,rfl,_,rfl,d.a,C,d.dx,_,_,rfl,hG.ins,aD.cls,aD.n2,rfl,d.m,ur,_,rfl,uS,rfl,_,rfl,rq,_,1,_,rfl,rfl,ar.of hq,rfl,_,rfl,b1,_,1,_,rfl,rfl,ar.of k1,rfl,_,rfl,b2,_,1,_,rfl,rfl,ar.of k2,rfl,?_⟩;refine⟨d.m,c1,c2,q.2.1,fm,p1.2,p2.2,rfl,Of,hL,Gp,Gu,l1,l2,jQ,pY,λr ks H1 b_ er uQ=>?_⟩;refine⟨by show(2:Nat)<=sizeLine;decide,λtp htp=>?_⟩;refine Zr e2 ?_;have cG:Zi H1 (upd H1 tp (.tup [.int q.1,.ref r])):=Zi.new htp;have YO:aZ fm q p1 p2=(q.1,ks):=by unfold aZ;rw[t9 uQ]
 have GY:aN (upd H1 tp (.tup [.int q.1,.ref r])) tp (pk (aZ fm q p1 p2)):=by
  rw[YO];exact⟨r,Za,by rw[fZ];exact cG _ _ er⟩
 have fk:=(hG.same b_).same cG;generalize upd H1 tp (.tup [.int q.1,.ref r])=H2 at cG GY fk ⊢;obtain⟨yL,s3,s4⟩:=id fk.iK;have Bo:yL.length=g.st.length:=de s4;have sE:Zi H H2:=b_.trans cG;have Pn:=sE _ _ k1;have tD:=sE _ _ k2;refine⟨_,rfl,d.a,C,d.dx,_,_,rfl,fk.ins,aD.cls,aD.n5,rfl,.inl ⟨rfl,_,aj.of s3⟩,_,rfl,_,rfl,rq,_,1,_,rfl,rfl,ar.of (sE _ _ hq),rfl,_,rfl,_,rfl,by show(4:Nat)<=sizeLine;decide,λtt htt=>?_⟩;have gA:Zi H2 (upd H2 tt (.tup [.ref tp,.str q.2.1,.ref b1,.ref b2])):=Zi.new htt;have Mv:(upd H2 tt (.tup [.ref tp,.str q.2.1,.ref b1,.ref b2])) tt=some (.tup [.ref tp,.str q.2.1,.ref b1,.ref b2]):=Za;have MW:=fk.same gA;generalize upd H2 tt (.tup [.ref tp,.str q.2.1,.ref b1,.ref b2])=H3 at gA Mv MW ⊢;have qF:=gA _ _ s3;have uB:∀b xs,H2 b=some (.tup xs)->H3 b=some (.tup xs):=λb xs e=>gA _ _ e;have BF:aN H2 b1 (pk p1):=⟨c1,Pn,by rw[fZ];exact sE _ _ Gp⟩;have uY:aN H2 b2 (pk p2):=⟨c2,tD,by rw[fZ];exact sE _ _ Gu⟩;refine⟨d.ls,_,_,rfl,rfl,qF,by rw[aT];lia,?_⟩;refine Zr e3 ?_;have dN:=MW.Zq6 (x:=(aZ fm q p1 p2,q.2.1,p1,p2)) qF (s4.keep uB) Mv (GY.mono uB) (BF.mono uB) (uY.mono uB);have kS:cK d H (upd H3 d.ls (.lst (yL ++ [.ref tt]))):=(cK.of (sE.trans gA)).trans λb o n _ _ e=>by rw[Zc n];exact e
 have kT:∀b xs,H2 b=some (.tup xs)->(upd H3 d.ls (.lst (yL ++ [.ref tt]))) b=some (.tup xs):=λb xs e=>by
  rw[Zc (λz=>by rw[z,s3] at e;cases e)];exact gA _ _ e
 have uZ:=GY.mono kT;have GU:=BF.mono kT;have GV:=uY.mono kT;have NO:=kT _ _ (sE _ _ hq);clear qF s4 s3;generalize upd H3 d.ls (.lst (yL ++ [.ref tt]))=H4 at dN kS uZ GU GV NO ⊢;refine⟨_,rfl,_,rfl,d.a,C,d.dx,_,_,rfl,dN.ins,aD.cls,aD.n3,rfl,d.dw,tp,d.kw,_,rfl,rfl,dN.cU.r,uZ,_,rfl,?_⟩;have NW:(valN d.kw (pk (aZ fm q p1 p2))).isSome=(aY g.sl (aZ fm q p1 p2)).isSome:=by
  rcases dN.iL.val (aZ fm q p1 p2) with⟨h1,h2⟩|⟨_,_,h1,h2,_⟩
  ·rw[h2,show aY g.sl (aZ fm q p1 p2)=none from h1];rfl
  ·rw[h2,show aY g.sl (aZ fm q p1 p2)=some _ from h1];rfl
 refine cz (λc=>?_) (λc=>?_)
 ·rw[NW] at c;refine Q1 H4 ?_ kS;unfold cy;rw[ai c];exact dN
 rw[NW] at c;have cS:=c;refine Zr e4 ?_;obtain⟨a1,v1,x1,m1⟩:∃a1,valN d.kw (pk p1)=some (.ref a1)/\H4 a1=some (.lst (w1.map V.str))/\a1∉d.ml:=by
  rcases dN.iL.val p1 with⟨h1,_⟩|⟨w',a1,h1,h2,h3,h4⟩
  ·rw[show aY g.sl p1=none from h1] at eI;cases eI
  ·rw[show aY g.sl p1=some w' from h1] at eI;injection eI with eI;subst eI;exact⟨a1,h2,h3,h4⟩
 obtain⟨a2,v2,x2,m2⟩:∃a2,valN d.kw (pk p2)=some (.ref a2)/\H4 a2=some (.lst (w2.map V.str))/\a2∉d.ml:=by
  rcases dN.iL.val p2 with⟨h1,_⟩|⟨w',a2,h1,h2,h3,h4⟩
  ·rw[show aY g.sl p2=none from h1] at iH;cases iH
  ·rw[show aY g.sl p2=some w' from h1] at iH;injection iH with iH;subst iH;exact⟨a2,h2,h3,h4⟩
 refine⟨_,rfl,d.a,C,d.dx,_,_,rfl,dN.ins,aD.cls,aD.n3,rfl,_,rfl,d.dw,b1,d.kw,_,_,rfl,rfl,dN.cU.r,GU,v1,a1,_,rfl,.inl (aj.of x1),_,_,rfl,rfl,_,rfl,d.a,C,d.dx,_,_,rfl,dN.ins,aD.cls,aD.n3,rfl,_,rfl,d.dw,b2,d.kw,_,_,rfl,rfl,dN.cU.r,GV,v2,a2,_,rfl,.inl (aj.of x2),_,_,rfl,rfl,_,_,rfl,rfl,.inl (by decide),_,_,rfl,rfl,_,rfl,?_⟩;rw[ay,ay];refine cz (λc2=>?_) (λc2=>?_)
 ·have jo:=bh c2;obtain⟨kb,n1,n2⟩:=dN.gP;have Nr:kb.length=g.bl.length:=by have:=congrArg List.length n2;simpa using this
  refine⟨_,rfl,d.a,C,d.dx,_,_,rfl,dN.ins,aD.cls,aD.n7,rfl,_,rfl,d.db,tp,kb,_,rfl,rfl,n1,uZ,by rw[aT];lia,?_⟩;refine Q1 _ ?_ (kS.trans λb o _ _ n e=>by rw[Zc n];exact e);unfold cy;rw[ag c,ai (by lia)];exact dN.ZqR n1 n2 uZ
 have jo : ¬ 600<2+w1.length+w2.length:=λz=>c2 (aF (by lia));refine Zr Xc ?_;refine⟨_,rfl,rq,_,1,_,rfl,rfl,ar.of NO,rfl,by show(1:Nat)<=sizeLine;decide,λy1 Ga=>?_⟩;have s5:Zi H4 (upd H4 y1 (.lst [.str q.2.1])):=Zi.new Ga;have Mx:(upd H4 y1 (.lst [.str q.2.1])) y1=some (.lst [.str q.2.1]):=Za;generalize upd H4 y1 (.lst [.str q.2.1])=H5 at s5 Mx ⊢;have uy:=dN.same s5;refine⟨_,rfl,d.a,C,d.dx,_,_,rfl,uy.ins,aD.cls,aD.n3,rfl,_,rfl,d.dw,b1,d.kw,_,_,rfl,rfl,uy.cU.r,GU.mono λc xs e=>s5 _ _ e,v1,y1,a1,_,_,rfl,rfl,Mx,s5 _ _ x1,by rw[aT,ay,fS];lia,λy2 ya=>?_⟩;have s6:Zi H5 (upd H5 y2 (.lst ([.str q.2.1]++w1.map V.str))):=Zi.new ya;have Mz:(upd H5 y2 (.lst ([.str q.2.1]++w1.map V.str))) y2=some (.lst ([.str q.2.1]++w1.map V.str)):=Za;generalize upd H5 y2 (.lst ([.str q.2.1]++w1.map V.str))=H6 at s6 Mz ⊢;refine⟨by show(1:Nat)<=sizeLine;decide,λy3 hy3=>?_⟩;have s7:Zi H6 (upd H6 y3 (.lst [.str (Str.ofString "/")])):=Zi.new hy3;have MA:(upd H6 y3 (.lst [.str (Str.ofString "/")])) y3=some (.lst [.str (Str.ofString "/")]):=Za;generalize upd H6 y3 (.lst [.str (Str.ofString "/")])=H7 at s7 MA ⊢;refine⟨y2,y3,_,_,rfl,rfl,s7 _ _ Mz,MA,by rw[aT];simp only[bL,ay,bM,sU];lia,λy4 hy4=>?_⟩;have s8:Zi H7 (upd H7 y4 (.lst (([.str q.2.1]++w1.map V.str) ++ [.str (Str.ofString "/")]))):=Zi.new hy4;have MB:(upd H7 y4 (.lst (([.str q.2.1]++w1.map V.str) ++ [.str (Str.ofString "/")]))) y4=some (.lst (([.str q.2.1]++w1.map V.str) ++ [.str (Str.ofString "/")])):=Za;generalize upd H7 y4 (.lst (([.str q.2.1]++w1.map V.str) ++ [.str (Str.ofString "/")]))=H8 at s8 MB ⊢;have kQ:Zi H4 H8:=((s5.trans s6).trans s7).trans s8;have EZ:=dN.same kQ;refine⟨_,rfl,d.a,C,d.dx,_,_,rfl,EZ.ins,aD.cls,aD.n3,rfl,_,rfl,d.dw,b2,d.kw,_,_,rfl,rfl,EZ.cU.r,GV.mono λc xs e=>kQ _ _ e,v2,y4,a2,_,_,rfl,rfl,MB,kQ _ _ x2,by rw[aT];simp only[bL,ay,bM,sU];lia,λy5 N1=>?_⟩;refine Zr Xd ?_;have Xk:([V.str q.2.1]++w1.map V.str) ++ [.str (Str.ofString "/")]++w2.map V.str=(br q w1 w2).map V.str:=by
  unfold br;simp[SL]
 rw[Xk];have s9:Zi H8 (upd H8 y5 (.lst ((br q w1 w2).map V.str))):=Zi.new N1;have AK:(upd H8 y5 (.lst ((br q w1 w2).map V.str))) y5=some (.lst ((br q w1 w2).map V.str)):=Za;have O2:y5∉d.ml:=by
  intro hm;obtain⟨xs,hx⟩:=EZ.jP _ hm;rw[N1] at hx;cases hx
 generalize upd H8 y5 (.lst ((br q w1 w2).map V.str))=H9 at s9 AK ⊢;have yF:=kQ.trans s9;have MX:=dN.same yF;obtain⟨kt,t1,t2⟩:=id MX.gZ;have ZqQ:=uZ.mono λc xs e=>yF _ _ e;have hkt:kt.length=g.tl.length:=t2.length;obtain⟨jG,wo,g1,g2,g3,g4,g5⟩:∃jG wo,(valN kt (pk (aZ fm q p1 p2))).getD (V.ref y5)=.ref jG/\H9 jG=some (.lst (wo.map V.str))/\jG∉d.ml/\jx wo/\lR (br q w1 w2) (aY g.tl (aZ fm q p1 p2))=if a_ wo (br q w1 w2)=true then wo else br q w1 w2:=by
  rcases t2.val (aZ fm q p1 p2) with⟨h1,h2⟩|⟨w',c',h1,h2,h3,h4⟩
  ·refine⟨y5,br q w1 w2,by rw[h2];rfl,AK,O2,OC,?_⟩;rw[show aY g.tl (aZ fm q p1 p2)=none from h1,qS];rfl
  ·refine⟨c',w',by rw[h2];rfl,h3,h4,okt _ (oU (show aY g.tl (aZ fm q p1 p2)=some w' from h1)),?_⟩;rw[show aY g.tl (aZ fm q p1 p2)=some w' from h1];rfl
 refine⟨_,rfl,_,rfl,d.a,C,d.dx,_,_,rfl,MX.ins,aD.cls,aD.n6,rfl,d.dt,rfl,⟨_,t1.r⟩,_,rfl,_,rfl,tp,kt,_,rfl,t1.r,ZqQ,?_⟩;rw[g1];refine⟨by show(2:Nat)<=sizeLine;decide,λlm Zs=>?_⟩;have fA:Zi H9 (upd H9 lm (.lst [.ref y5,.ref jG])):=Zi.new Zs;have Mq:(upd H9 lm (.lst [.ref y5,.ref jG])) lm=some (.lst [.ref y5,.ref jG]):=Za;generalize upd H9 lm (.lst [.ref y5,.ref jG])=oI at fA Mq ⊢;refine⟨lm,[.ref y5,.ref jG],λi j=>a_ ([br q w1 w2,wo].getD i []) ([br q w1 w2,wo].getD j []),rfl,aj.of Mq,by simp,λpm c_=>⟨⟨λi k H=>∃r c,k=.ref r/\ug H r c ([br q w1 w2,wo].getD i [])/\r≠pm/\c≠pm/\jx ([br q w1 w2,wo].getD i []),?_,?_,?_⟩,λx H' hx sm=>?_⟩⟩
 ·rintro i k H H' ⟨r,c,rfl,h,n1,n2,ok⟩ kp;exact⟨r,c,rfl,⟨kp _ _ n2 h.1,kp _ _ n1 h.2⟩,n1,n2,ok⟩
 ·rintro i j k k' H ⟨r,c,rfl,h,n1,n2,ok⟩ ⟨r',c',rfl,h',Pp,Ci,Ck⟩;exact K9 h h' ok Ck
 ·intro i x H hx sm hp;have:∃c,x=V.ref c/\oI c=some (.lst (([br q w1 w2,wo].getD i []).map V.str))/\jx ([br q w1 w2,wo].getD i []):=by
   match i,hx with
   | 0,hx =>
    injection hx with hx;exact⟨y5,hx.symm,fA _ _ AK,OC⟩
   | 1,hx =>
    injection hx with hx;exact⟨jG,hx.symm,fA _ _ g2,g4⟩
  obtain⟨c,rfl,hc,ok⟩:=this;refine⟨c,_,rfl,sm _ _ hc,λr hr=>⟨Zi.new hr,r,c,rfl,⟨(Zi.new hr) _ _ (sm _ _ hc),Za⟩,λz=>hp (z ▸ hr),λz=>?_,ok⟩⟩;rw[z,c_] at hc;cases hc
 ·have kG:∃c,x=V.ref c/\H' c=some (.lst ((lR (br q w1 w2) (aY g.tl (aZ fm q p1 p2))).map V.str))/\c∉d.ml:=by
   rw[g5];have e1:c6 (λi j=>a_ ([br q w1 w2,wo].getD i []) ([br q w1 w2,wo].getD j [])) (([V.ref y5,.ref jG]:List V).length-1)=if a_ wo (br q w1 w2)=true then 1 else 0:=rfl
   rw[e1] at hx;by_cases hb:a_ wo (br q w1 w2)=true
   ·rw[ai hb] at hx ⊢;injection hx with hx;exact⟨jG,hx.symm,sm _ _ (fA _ _ g2),g3⟩
   ·rw[ag hb] at hx ⊢;injection hx with hx;exact⟨y5,hx.symm,sm _ _ (fA _ _ AK),O2⟩
  obtain⟨c,rfl,hc,xD⟩:=kG;have sF:Zi H4 H':=(yF.trans fA).trans sm;have MY:=dN.same sF;have Ha:Zi H9 H':=fA.trans sm;have OS:bF P w H' d.dt kt:=ZF t1 (by rw[Ha _ _ t1.1,t1.1]) λb xs e=>Ha _ _ e;have t2F:aW H' d.ml kt g.tl:=t2.keep λc ws hc e=>⟨Ha _ _ e,hc⟩;have OF:=uZ.mono λc xs e=>sF _ _ e;refine⟨_,rfl,d.a,C,d.dx,_,_,rfl,MY.ins,aD.cls,aD.n6,rfl,_,rfl,d.dt,tp,kt,_,rfl,rfl,OS,OF,by rw[aT];lia,?_⟩;refine Q1 _ ?_ ((kS.trans (cK.of sF)).trans λb o _ n _ e=>by rw[Zc n];exact e);unfold cy;rw[ag cS,ag jo];exact MY.ZqS OS t2F OF hc xD
theorem UE{f:FQ}{w:Str}:(ji f w n1 n2).Nodup/\(ji f w n1 n2).length<=63:=by
 by_cases h:∃ks,lB f w n1 n2 ks
 ·obtain⟨ks,hk⟩:=h;rw[t9 hk];exact⟨tL hk.1,by have:=hk.2.1;lia⟩
 ·unfold ji;rw[dif_neg h];exact⟨List.nodup_nil,bE _⟩
def qM(p:Pk):Prop:=p.2.Nodup/\p.2.length<=63
def HR(g:Gs):Prop := ∀e∈g.sl++g.tl,jx e.2/\qM e.1
theorem KH(hq:PyData.strOk q.2.1=true)(ha:jx wa)(hb:jx wb):jx (br q wa wb):=by
 intro x hx;unfold br at hx;rcases aJ.mp hx with rfl|hx
 ·exact hq
 ·rcases bc.mp hx with hx|hx
  ·exact ha x hx
  ·rcases aJ.mp hx with rfl|hx
   ·exact Vx
   ·exact hb x hx
structure iQ(ts:List Int)(qs:List av.Qd)(f:FQ)(g:Gs):Prop where
 gi:GI ts qs f g
 Mg:∀q∈qs,∀a wa b wb,(a,wa)∈g.sl->(b,wb)∈g.sl->a.1=q.2.2.1->b.1=q.2.2.2->eO f g q a wa b wb
 ord:Ord g
 cnt:g.st.length=cnt g.sl qs
 ak:g.ak=g.sl.map (·.1)
 ok:HR g
section
variable{ts:List Int}{qs:List av.Qd}{f:FQ}{g g0 g1:Gs}{q:av.Qd}{p a b:Pk}{wp wa wb:Wd}{S:List (Pk×Wd)}
structure SI(ts:List Int)(qs:List av.Qd)(f:FQ)(g0:Gs)(p:Pk)(wp:Wd)(g1:Gs):Prop where
 gi:GI ts qs f g1
 sl:g1.sl=g0.sl
 ak:g1.ak=g0.ak
 ord:Ord g1
 mono:∀x w,qJ g0 x w->qJ g1 x w
 st:∀x∈g0.st,x∈g1.st
 ok:HR g1
 top:∀e∈g0.sl,e.2.length<=wp.length
 self:(p,wp)∈g0.sl
theorem SI.step(h:SI ts qs f g0 p wp g1)(hq:q∈qs)(nO:PyData.strOk q.2.1=true)(ha:(a,wa)∈g0.sl)(hb:(b,wb)∈g0.sl)(e1:a.1=q.2.2.1)(e2:b.1=q.2.2.2)(hw:wa=wp\/wb=wp) :
  SI ts qs f g0 p wp (cy f q a b wa wb g1)/\eO f (cy f q a b wa wb g1) q a wa b wb/\∀q' a' jZ b' j5,eO f g1 q' a' jZ b' j5->eO f (cy f q a b wa wb g1) q' a' jZ b' j5:=by
 have hl:∀e∈g1.sl,e.2.length<(br q wa wb).length:=λe he=>by
  rw[h.sl] at he;have:=h.top e he;rw[vY];rcases hw with e|e <;> rw[e] <;> lia
 have iO:(a,wa)∈g1.sl:=by rw[h.sl];exact ha
 have aB:(b,wb)∈g1.sl:=by rw[h.sl];exact hb
 refine⟨⟨SM h.gi hq iO aB e1 e2,by rw[wm];exact h.sl,by rw[S7];exact h.ak,RB h.ord hl,λx w c=>IF h.gi (h.mono x w c),λx hx=>by rw[vZ];exact dy _ (h.st x hx),λe he=>?_,h.top,h.self⟩,Sh h.gi hl,λq' a' jZ b' j5 c=>Qx h.gi c⟩;rcases bc.mp he with he|he
 ·rw[wm] at he;exact h.ok e (dy _ he)
 ·rcases z7 he with he|⟨rfl,_⟩
  ·exact h.ok e (bO _ he)
  ·exact⟨KH nO (h.ok _ (dy _ iO)).1 (h.ok _ (dy _ aB)).1,UE⟩
theorem SI.start(h:iQ ts qs f g)(hp:aY g.tl p=some wp)(rV:∀t∈g.tl,wp.length<=t.2.length):SI ts qs f (ix g p wp) p wp (ix g p wp):=by
 have hm:=oU hp;refine⟨KI h.gi hp,rfl,rfl,S4 h.ord hp rV,λ_ _ c=>c,λ_ c=>c,λe he=>?_,λe he=>?_,bO _ (az.mpr rfl)⟩
 ·have pm:=CY hp;have dq:((g.sl ++ [(p,wp)])++m9 g.tl p).Perm (g.sl++g.tl):=by
   rw[sS];exact List.Perm.append_left _ pm.symm
  exact h.ok e (dq.mem_iff.mp he)
 ·rcases bc.mp he with he|he
  ·exact h.ord e he _ hm
  ·rw[az.mp he];exact aq _
def Eb(f:FQ)(g1:Gs)(S:List (Pk×Wd))(p:Pk)(wp:Wd)(l:List av.Qd):Prop := ∀q∈l,∀a wa b wb,(a,wa)∈S->(b,wb)∈S->a.1=q.2.2.1->b.1=q.2.2.2->(a,wa)=(p,wp)\/(b,wb)=(p,wp)->eO f g1 q a wa b wb
theorem SI.fin(h:iQ ts qs f g)(hp:aY g.tl p=some wp)(s:SI ts qs f (ix g p wp) p wp g1)(d:Eb f g1 (g.sl ++ [(p,wp)]) p wp qs)(hc:g1.st.length=dF.cnt (g.sl ++ [(p,wp)]) qs) :
  iQ ts qs f { g1 with ak:=g1.ak ++ [p] }:=by
 have eS:g1.sl=g.sl ++ [(p,wp)]:=s.sl;refine⟨⟨s.gi.nd,s.gi.len,s.gi.sr,s.gi.Bx,s.gi.fin,s.gi.yk,s.gi.u_,s.gi.sL⟩,λq hq a wa b wb ha hb e1 e2=>?_,s.ord,?_,?_,s.ok⟩
 ·have ha:(a,wa)∈g1.sl:=ha;have hb:(b,wb)∈g1.sl:=hb;rw[eS] at ha hb;have key:eO f g1 q a wa b wb:=by
   rcases bc.mp ha with iO|iO
   ·rcases bc.mp hb with aB|aB
    ·have c:=h.Mg q hq a wa b wb iO aB e1 e2;exact⟨s.mono _ _ (RV hp c.1),s.st _ c.2⟩
    ·exact d q hq a wa b wb ha hb e1 e2 (.inr (az.mp aB))
   ·exact d q hq a wa b wb ha hb e1 e2 (.inl (az.mp iO))
  exact key
 ·show g1.st.length=dF.cnt g1.sl qs;rw[eS];exact hc
 ·show g1.ak ++ [p]=g1.sl.map (·.1);rw[eS,s.ak,cZ];show g.ak ++ [p]=_;rw[h.ak];rfl
end
def Dx(P:Program)(w:World)(C CM:Addr):Sp:=λvs H Q _=>∃(b:Addr)(H0:Hp)(d:Gd)(ts:List Int)(qs:List av.Qd)(fm:FQ)(g:Gs)(p:Pk)(wp:Wd),vs=[.ref d.a,.ref b]/\aM P w C CM H0 H d qs fm g/\aN H b (pk p)/\aY g.tl p=some wp/\iQ ts qs fm g/\(∀t∈g.tl,wp.length<=t.2.length)/\g.sl.length<64/\lN fm/\(∀q∈qs,PyData.strOk q.2.1=true)/\cnt (g.sl ++ [(p,wp)]) qs<=4000/\ts.length<=63 /\
 ∀d' H' g',aM P w C CM H0 H' d' qs fm g'->iQ ts qs fm g'->g'.sl=g.sl ++ [(p,wp)]->d'.a=d.a->d'.dt=d.dt->(∀b xs,H b=some (.tup xs)->H' b=some (.tup xs))->Q .aG H'
structure jw(P:Program)(w:World)(C CM:Addr)(H0 H3:Hp)(d:Gd)(ts:List Int)(qs:List av.Qd)(fm:FQ)(g:Gs)(p:Pk)(wp:Wd)(j:Nat)(n:Nat)(g1:Gs)(H:Hp):Prop where
 gw:aM P w C CM H0 H d qs fm g1
 si:SI ts qs fm (ix g p wp) p wp g1
 dn:Eb fm g1 (g.sl ++ [(p,wp)]) p wp (qs.take j)
 ct:g1.st.length=cnt (g.sl ++ [(p,wp)]) (qs.take j)+cnt g.sl (qs.drop (j+1))+n
 kp:cK d H3 H
theorem J_{j:Nat}(h:qs[j]?= some q):cnt S (qs.drop j)=nK S q.2.2.1*nK S q.2.2.2+cnt S (qs.drop (j+1)):=by
 obtain⟨h1,h2⟩:=dc.mp h;rw[yR h1,h2];rfl
theorem SD(S:List (Pk×Wd))(qs:List av.Qd)(j:Nat):cnt S qs=cnt S (qs.take j)+cnt S (qs.drop j):=by
 unfold cnt;rw[<- List.sum_append,<- cZ,List.take_append_drop]
theorem Ag(S:List (Pk×Wd))(p:Pk)(wp:Wd)(k:Int):nK S k<=nK (S ++ [(p,wp)]) k:=by
 rw[Kv];lia
theorem Dz(S:List (Pk×Wd))(p:Pk)(wp:Wd):∀qs,cnt S qs<=cnt (S ++ [(p,wp)]) qs
 | []=>aq _
 | q::qs=>by
  have:=Dz S p wp qs;have:=Nat.mul_le_mul (Ag S p wp q.2.2.1) (Ag S p wp q.2.2.2);show nK S q.2.2.1*nK S q.2.2.2+cnt S qs<=nK (S ++ [(p,wp)]) q.2.2.1*nK (S ++ [(p,wp)]) q.2.2.2+cnt (S ++ [(p,wp)]) qs;lia
variable{i:Nat}
theorem J6{k:Int}{x:Pk}(h:((S.map (·.1)).filter λx=>decide (x.1=k))[i]?= some x):∃w,(S.filter λe=>decide (e.1.1=k))[i]?= some (x,w)/\(x,w)∈S/\x.1=k:=by
 rw[List.filter_map,cp] at h;obtain⟨e,he,rfl⟩:=gG.mp h;have hm:=dz.mp (bU he);exact⟨e.2,he,hm.1,bh hm.2⟩
def C1(fm:FQ)(S:List (Pk×Wd))(p:Pk)(wp:Wd)(q:av.Qd)(g1:Gs):Prop:=q.2.2.1=p.1->∀e∈S,e.1.1=q.2.2.2->eO fm g1 q p wp e.1 e.2
def C2(fm:FQ)(S:List (Pk×Wd))(p:Pk)(wp:Wd)(q:av.Qd)(g1:Gs):Prop:=q.2.2.2=p.1->∀e∈S,e.1.1=q.2.2.1->eO fm g1 q e.1 e.2 p wp
def C3(fm:FQ)(p:Pk)(wp:Wd)(q:av.Qd)(g1:Gs):Prop:=q.2.2.1=p.1->q.2.2.2=p.1->eO fm g1 q p wp p wp
variable{x:Int}
theorem Ak(h:decide (V.int x=kV (Sum.inl y))=true):x=y:=by
 have h1:V.int x=V.int y:=bh h;injection h1
theorem Ac(h : ¬ decide (V.int x=kV (Sum.inl y))=true) : ¬ x=y:=λz=>h (aF (by rw[z];rfl))
set_option maxHeartbeats 4000000 in
theorem P1(B:∀x∈dM,mg x=none)(Cr:∃t:Tok,mg "MOST_TUPLES" = some (.int 64 t)) (aD:tH K C) (xm:ic P w K mg base C "step" ["self","rule","within","behind"] 3 (Al P w C CM)) (F:bR K "settle" "Growth.settle" Zo f fd):aX P w K mg base cx 4 f fd ["self","pair"] (Dx P w C CM):=by
 refine F.ok zP (λvs H Q E h=>?_) (λaP A outer s H vs Q E hr h=>?_)
 ·obtain⟨b,H0,d,ts,qs,fm,g,p,wp,rfl,_⟩:=h;rfl
 obtain⟨b,H0,d,ts,qs,fm,g,p,wp,rfl,hG,hb,hp,ah,rV,h64,hL,nO,YH,jO,Q1⟩:=h;have cN:=lE hr;have gq:(A.deeper (PyProof.Rows.envOfC (Str.ofString "Growth.settle") (Zn Zo) s.heap.objs.size f aP)).units+1<cLine:=by have:=hr.un;lia
 obtain⟨t4,m4⟩:=Cr;have WD:=m4;have Nu:d.kw.length=g.sl.length:=hG.iL.length;obtain⟨kt,t1,t2⟩:=id hG.gZ;have hsz:=ah.gi.u_;obtain⟨n1,n2,n3⟩:=ZX ah.gi.nd;have sf:aY g.sl p=none:=by
  cases e:aY g.sl p with
  | none=>rfl
  | some w'=>exact absurd rfl (n3 (p,w') (oU e) (p,wp) (oU hp))
 obtain⟨c,v1,x1,m1⟩:∃c,valN kt (pk p)=some (.ref c)/\H c=some (.lst (wp.map V.str))/\c∉d.ml:=by
  rcases t2.val p with⟨h1,_⟩|⟨w',c,h1,h2,h3,h4⟩
  ·rw[h1] at hp;cases hp
  ·rw[h1] at hp;injection hp with hp;subst hp;exact⟨c,h2,h3,h4⟩
 have Zr9:g.st.length<=4000:=by
  rw[ah.cnt];exact bD (Dz g.sl p wp qs) YH
 refine Zt ((Zf Zo).drop 3) (Zj (ij (lO jX mF mG jA (Dw (Z6 (pv 0) rfl) (ZJ ZD (pv 1) Zh (λ_ _=>rfl)) (Z1 Ze) ⟨rfl,rfl,rfl,rfl⟩) (Zb (pv 1) Ze)))) (λu3 h3 e3=>?_);refine Zt ((Z4 ((Zf Zo).getD 2 (.Pass ⟨0,0,0,0⟩))).drop 2) (Zj (c5 (PW.pt (wL (fb gM (ZJ ZD (pv 2) Zh (λ_ _=>rfl)) (ZJ ZD (pv 1) Zh (λ_ _=>rfl)) (dI _)) (Ad (fb gM (ZJ ZD (pv 2) Zh (λ_ _=>rfl)) (ZJ ZD (pv 1) Zh (λ_ _=>rfl)) (dI _)))))
   (Zj (ij (tS xm hr (pv 0) aD.cls (Zb (pv 2) (Zb (pv 1) (Zb (pv 1) Ze))))))
   ZQ)) (λO1 XT W8=>?_)
 refine Zt ((Z4 ((Z4 ((Z4 ((Zf Zo).getD 2 (.Pass ⟨0,0,0,0⟩))).getD 1 (.Pass ⟨0,0,0,0⟩))).getD 0 (.Pass ⟨0,0,0,0⟩))).drop 0) (Zj (ij (tS xm hr (pv 0) aD.cls (Zb (pv 2) (Zb (pv 4) (Zb (pv 1) Ze)))))) (λZs7 XS W7=>?_);refine Zt ((Z4 ((Z4 ((Zf Zo).getD 2 (.Pass ⟨0,0,0,0⟩))).getD 1 (.Pass ⟨0,0,0,0⟩))).drop 0) (Zj (e_ fE rfl (iU (wq gq (Z6 (pv 0) rfl) (ZJ ZD (pv 2) Zh (λ_ _=>rfl)) (Z1 Ze) ⟨rfl,rfl,rfl,rfl⟩)) (Zq (i:=4) zP.nd rfl (Or.inl rfl))
   XS)) (λZs6 XR W6=>?_)
 refine Zt ((Z4 ((Zf Zo).getD 2 (.Pass ⟨0,0,0,0⟩))).drop 1) (Zd (c5 (fb gM (ZJ ZD (pv 2) Zh (λ_ _=>rfl)) (ZJ ZD (pv 1) Zh (λ_ _=>rfl)) (dI _))
   XR
   ZQ) XT) (λO0 XQ W5=>?_)
 refine Zt ((Z4 ((Z4 ((Z4 ((Zf Zo).getD 2 (.Pass ⟨0,0,0,0⟩))).getD 0 (.Pass ⟨0,0,0,0⟩))).getD 0 (.Pass ⟨0,0,0,0⟩))).drop 0) (Zj (ij (tS xm hr (pv 0) aD.cls (Zb (pv 2) (Zb (pv 1) (Zb (pv 3) Ze)))))) (λZs4 XM W3=>?_);refine Zt ((Z4 ((Z4 ((Zf Zo).getD 2 (.Pass ⟨0,0,0,0⟩))).getD 0 (.Pass ⟨0,0,0,0⟩))).drop 0) (Zj (e_ fE rfl (iU (wq gq (Z6 (pv 0) rfl) (ZJ ZD (pv 2) Zh (λ_ _=>rfl)) (Z1 Ze) ⟨rfl,rfl,rfl,rfl⟩)) (Zq (i:=3) zP.nd rfl (Or.inl rfl))
   XM)) (λZrq EU Ep=>?_)
 refine Zt ((Z4 ((Zf Zo).getD 2 (.Pass ⟨0,0,0,0⟩))).drop 0) (Zd (c5 (fb gM (ZJ ZD (pv 2) Zh (λ_ _=>rfl)) (ZJ ZD (pv 1) Zh (λ_ _=>rfl)) (dI _))
   EU
   ZQ) XQ) (λHj xr xk=>?_)
 refine Zt ((Zf Zo).drop 2) (Zd (e_ fE rfl (lI (Z6 (pv 0) rfl)) (Zq (i:=2) zP.nd rfl (Or.inl rfl))
   xr) h3) (λu2 h2 e2=>?_)
 refine Zt ((Zf Zo).drop 1) (Zd (wj cN (Z6 (pv 0) rfl) (pv 1) (TU cN (Z6 (pv 0) rfl) (pv 1) ⟨rfl,rfl,rfl,rfl⟩) rfl) h2) (λu1 h1 e1=>?_);refine Zt ((Zf Zo).drop 0) (Zd (c5 (fb gM (Zx Sq rfl (B "len" (by decide)) fV (Zb (Z6 (pv 0) rfl) Ze)) (tX (v:=.int 64) rfl WD ⟨_,rfl⟩) (dI _))
   (Zj z8)
   ZQ) h1) (λu0 h0 e0=>?_)
 refine⟨u0,h0,?_⟩;have cT:∀(d2:Gd)(H3:Hp),aM P w C CM H0 H3 d2 qs fm (ix g p wp)->(∀b xs,H b=some (.tup xs)->H3 b=some (.tup xs))->d2.a=d.a->d2.dt=d.dt->u2 { nx:=λ_ H'=>Q .aG H',rt:=Q } [some (.ref d.a),some (.ref b),none,none,none] H3:=by
  intro d2 H3 fk N6 ky uF;have gQ:=hb.mono N6;rw[<- ky];refine Zr e2 ?_;have si0:SI ts qs fm (ix g p wp) p wp (ix g p wp):=SI.start ah hp rV;have zr3:=fk.old _ _ fk.n9;have rq3:=fk.mq.keep (H':=H3) λb' xs e=>fk.old _ _ e;have dQ:=fk.mq.length;refine⟨_,rfl,d2.a,C,d2.dx,_,_,rfl,fk.ins,aD.cls,aD.n1,rfl,d2.r,rfl,⟨_,ar.of zr3⟩,wy (K:=K) (a:=d2.r) (xs:=d2.zr) (λj σ H1=>∃(y2 y3 y4:Option V)(g1:Gs),σ =[some (.ref d2.a),some (.ref b),y2,y3,y4]/\aM P w C CM H0 H1 d2 qs fm g1/\SI ts qs fm (ix g p wp) p wp g1/\Eb fm g1 (g.sl ++ [(p,wp)]) p wp (qs.take j)/\g1.st.length=cnt (g.sl ++ [(p,wp)]) (qs.take j)+cnt g.sl (qs.drop j)/\cK d2 H3 H1)
   ⟨none,none,none,_,rfl,fk,si0,λq h=>(nomatch h),by rw[List.drop_zero,List.take_zero];show g.st.length=0+_;rw[ah.cnt];lia,cK.of λ_ _ h=>h⟩ ?_ ?_ ?_⟩
  ·rintro j σ H1 _ ⟨_,_,_,_,_,hw,_⟩;exact ar.of (hw.old _ _ hw.n9)
  ·rintro j x σ H1 hx ⟨y2,y3,y4,g1,rfl,eI,sG,AE,xf,Bv⟩;obtain⟨rq,q,kC,rfl,Zpp⟩:=fk.mq.get j x hx;have nN:q∈qs:=bU kC;have sy:∀{H':Hp}{g':Gs},aM P w C CM H0 H' d2 qs fm g'->H' rq=some (tq q):=λhw=>hw.old _ _ Zpp;have bH:∀{H':Hp},cK d2 H3 H'->aN H' b (pk p):=λkp=>gQ.mono (fk.nS kp);have self:(p,wp)∈g.sl ++ [(p,wp)]:=bO _ (az.mpr rfl);have sL:∀(g1:Gs)(H1:Hp)(n:Nat)(a b':Pk)(wa wb:Wd)(ba bb:Addr)(Q':VK)(E':XK),jw P w C CM H0 H3 d2 ts qs fm g p wp j n g1 H1->n+1<=nK (g.sl ++ [(p,wp)]) q.2.2.1*nK (g.sl ++ [(p,wp)]) q.2.2.2->(a,wa)∈g.sl ++ [(p,wp)]->(b',wb)∈g.sl ++ [(p,wp)]->a.1=q.2.2.1->b'.1=q.2.2.2->(wa=wp\/wb=wp)->aN H1 ba (pk a)->aN H1 bb (pk b') ->
     (∀H',jw P w C CM H0 H3 d2 ts qs fm g p wp j (n+1) (cy fm q a b' wa wb g1) H'->eO fm (cy fm q a b' wa wb g1) q a wa b' wb->(∀q' a' jZ b2 j5,eO fm g1 q' a' jZ b2 j5->eO fm (cy fm q a b' wa wb g1) q' a' jZ b2 j5)->cK d2 H1 H'->Q' .aG H')->Al P w C CM [.ref d2.a,.ref rq,.ref ba,.ref bb] H1 Q' E':=by
    intro g1 H1 n a b' wa wb ba bb Q' E' md hn ha aB hX cP hww pa pb k;have jQ:=(ZX md.si.gi.nd).1;have eS:g1.sl=g.sl ++ [(p,wp)]:=md.si.sl;have ga:aY g1.sl a=some wa:=Z0 jQ (by rw[eS];exact ha);have gb:aY g1.sl b'=some wb:=Z0 jQ (by rw[eS];exact aB);have ma:(a,wa)∈g1.sl++g1.tl:=dy _ (by rw[eS];exact ha);have mb:(b',wb)∈g1.sl++g1.tl:=dy _ (by rw[eS];exact aB);obtain⟨oa,yd,kI⟩:=md.si.ok _ ma;obtain⟨ob,kb1,kb2⟩:=md.si.ok _ mb;have bY:g1.st.length<4000:=by
     have h1:=SD (g.sl ++ [(p,wp)]) qs j;have h2:=J_ (S:=g.sl ++ [(p,wp)]) kC;have h3:=Dz g.sl p wp (qs.drop (j+1));have:=md.ct;lia
    have Bl:=md.si.gi.u_;obtain⟨Pz,cv,mono⟩:=md.si.step nN (nO q nN) ha aB hX cP hww;refine⟨rq,ba,bb,H0,d2,qs,fm,g1,q,a,b',wa,wb,rfl,md.gw,sy md.gw,pa,pb,ga,gb,hL,kI,kb2,yd,kb1,md.si.gi.len _ ma,md.si.gi.len _ mb,KH (nO q nN) oa ob,λe he=>(md.si.ok e (bO _ he)).1,bY,by lia,by lia,λH' mQ HD=>k H' ⟨mQ,Pz,λq' cg a' jZ b2 j5 h1 h2 h3 h4 h5=>mono _ _ _ _ _ (md.dn q' cg a' jZ b2 j5 h1 h2 h3 h4 h5),?_,md.kp.trans HD⟩ cv mono HD⟩;rw[vZ,bL,fS,md.ct];lia
   have rZ:=λk=>Kv g.sl p wp k;have xn:∀(k:Int)(H':Hp)(g':Gs)(l0:Addr),aM P w C CM H0 H' d2 qs fm g'->g'.ak=(ix g p wp).ak->H' l0=some (.lst [])->l0≠d2.ls->∃l zs,(aQ d2.mm (Sum.inl k)).getD (.ref l0)=.ref l/\H' l=some (.lst zs)/\l≠d2.ls/\bG H' zs ((g.sl.map (·.1)).filter λx=>decide (x.1=k)):=by
    intro k H' g' l0 hw E9 bp nV;rw[<- ah.ak];have E9:g'.ak=g.ak:=E9;have h:=hw.gO.1 k;rw[E9] at h;rcases h with⟨h1,h2⟩|⟨l,zs,h1,h2,h3,h4,h5⟩
    ·exact⟨l0,[],by rw[h1];rfl,bp,nV,by rw[h2];exact .nil⟩
    ·exact⟨l,zs,by rw[h1];rfl,h2,h5,h3⟩
   have Zrb:∀(D:Ends)(g1:Gs)(H1:Hp)(y3 y4:Option V),jw P w C CM H0 H3 d2 ts qs fm g p wp j (nK g.sl q.2.2.1*nK g.sl q.2.2.2+(if q.2.2.1=p.1 then nK g.sl q.2.2.2 else 0)+(if q.2.2.2=p.1 then nK g.sl q.2.2.1 else 0)) g1 H1->C1 fm g.sl p wp q g1->C2 fm g.sl p wp q g1->(∀y3 y4 g' H',jw P w C CM H0 H3 d2 ts qs fm g p wp j (nK (g.sl ++ [(p,wp)]) q.2.2.1*nK (g.sl ++ [(p,wp)]) q.2.2.2) g' H'->C1 fm g.sl p wp q g'->C2 fm g.sl p wp q g'->C3 fm p wp q g'->D.nx [some (.ref d2.a),some (.ref b),some (.ref rq),y3,y4] H')->O1 D [some (.ref d2.a),some (.ref b),some (.ref rq),y3,y4] H1:=by
    intro D g1 H1 y3 y4 md xu MU KK;refine Zr W8 ?_;have cj:=bH md.kp;obtain⟨cb,uD,Nc⟩:=id cj;have no : ¬ (q.2.2.1=p.1/\q.2.2.2=p.1)->D.nx [some (.ref d2.a),some (.ref b),some (.ref rq),y3,y4] H1:=λgT=>by
     refine KK _ _ g1 H1 ?_ xu MU λhX cP=>absurd ⟨hX,cP⟩ gT;have hn:nK (g.sl ++ [(p,wp)]) q.2.2.1*nK (g.sl ++ [(p,wp)]) q.2.2.2=nK g.sl q.2.2.1*nK g.sl q.2.2.2+(if q.2.2.1=p.1 then nK g.sl q.2.2.2 else 0)+(if q.2.2.2=p.1 then nK g.sl q.2.2.1 else 0):=by
      rw[rZ,rZ];by_cases z1:q.2.2.1=p.1
      ·have z2 : ¬ q.2.2.2=p.1:=λz2=>gT ⟨z1,z2⟩;simp only[ai z1.symm,ag (λz:p.1=q.2.2.2=>z2 z.symm),ai z1,ag z2,yY,Nat.add_mul,Nat.one_mul]
      ·rw[ag (λz=>z1 z.symm),ag z1,yY,yY];by_cases z2:q.2.2.2=p.1
       ·rw[ai z2.symm,ai z2,Nat.mul_add,Nat.mul_one]
       ·rw[ag (λz=>z2 z.symm),ag z2];rfl
     rw[hn];exact md
    refine⟨_,rfl,rq,_,2,_,rfl,rfl,ar.of (sy md.gw),rfl,_,rfl,b,_,0,_,rfl,rfl,ar.of uD,rfl,rfl,_,rfl,cz (λc1=>?_) (λc1=>jE (no λz=>Ac c1 z.1))⟩;have c1:=Ak c1;refine⟨_,rfl,rq,_,3,_,rfl,rfl,ar.of (sy md.gw),rfl,_,rfl,b,_,0,_,rfl,rfl,ar.of uD,rfl,rfl,_,rfl,cz (λc2=>?_) (λc2=>no λz=>Ac c2 z.2)⟩;have c2:=Ak c2;refine⟨_,rfl,d2.a,d2.dx,_,rfl,md.gw.ins,rfl,_,rfl,_,rfl,_,rfl,?_⟩;unfold gf;dsimp only[List.cons_append,List.nil_append];have hn:nK (g.sl ++ [(p,wp)]) q.2.2.1*nK (g.sl ++ [(p,wp)]) q.2.2.2=nK g.sl q.2.2.1*nK g.sl q.2.2.2+(if q.2.2.1=p.1 then nK g.sl q.2.2.2 else 0)+(if q.2.2.2=p.1 then nK g.sl q.2.2.1 else 0)+1:=by
     rw[rZ,rZ,ai c1.symm,ai c2.symm,ai c1,ai c2,Nat.add_mul,Nat.mul_add,Nat.mul_one,Nat.one_mul];lia
    refine sL g1 H1 _ p p wp wp b b _ _ md (by rw[hn];exact aq _) self self c1.symm c2.symm (.inl rfl) cj cj λH5 md5 xg su Bw=>?_;rw[<- hn] at md5;exact KK _ _ _ H5 md5 (λhX e he cP=>su _ _ _ _ _ (xu hX e he cP)) (λhX e he cP=>su _ _ _ _ _ (MU hX e he cP)) λ_ _=>xg
   have Zra:∀(D:Ends)(g1:Gs)(H1:Hp)(y3 y4:Option V),jw P w C CM H0 H3 d2 ts qs fm g p wp j (nK g.sl q.2.2.1*nK g.sl q.2.2.2+(if q.2.2.1=p.1 then nK g.sl q.2.2.2 else 0)) g1 H1->C1 fm g.sl p wp q g1->(∀y3 y4 g' H',jw P w C CM H0 H3 d2 ts qs fm g p wp j (nK g.sl q.2.2.1*nK g.sl q.2.2.2+(if q.2.2.1=p.1 then nK g.sl q.2.2.2 else 0)+(if q.2.2.2=p.1 then nK g.sl q.2.2.1 else 0)) g' H'->C1 fm g.sl p wp q g'->C2 fm g.sl p wp q g'->O1 D [some (.ref d2.a),some (.ref b),some (.ref rq),y3,y4] H')->O0 D [some (.ref d2.a),some (.ref b),some (.ref rq),y3,y4] H1:=by
    intro D g1 H1 y3 y4 md xu KK;refine Zr W5 ?_;have cj:=bH md.kp;obtain⟨cb,uD,Nc⟩:=id cj;refine⟨_,rfl,rq,_,3,_,rfl,rfl,ar.of (sy md.gw),rfl,_,rfl,b,_,0,_,rfl,rfl,ar.of uD,rfl,rfl,_,rfl,cz (λc1=>?_) (λc1=>?_)⟩
    ·have c1:=Ak c1;refine Zr W6 ?_;refine⟨_,rfl,d2.a,C,d2.dx,_,_,rfl,md.gw.ins,aD.cls,aD.n4,rfl,d2.da,rfl,.inl ⟨d2.mm,.inl md.gw.d_⟩,_,rfl,rq,_,2,_,rfl,rfl,ar.of (sy md.gw),rfl,by decide,λl0 bp=>?_⟩;have s1:Zi H1 (upd H1 l0 (.lst [])):=Zi.new bp;have uu:(upd H1 l0 (.lst [])) l0=some (.lst []):=Za;have nV:l0≠d2.ls:=λz=>by
      obtain⟨xs,hx⟩:=md.gw.jP _ md.gw.iJ;rw[<- z,bp] at hx;cases hx
     have gY:jw P w C CM H0 H3 d2 ts qs fm g p wp j (nK g.sl q.2.2.1*nK g.sl q.2.2.2+(if q.2.2.1=p.1 then nK g.sl q.2.2.2 else 0)) g1 (upd H1 l0 (.lst [])):=⟨md.gw.same s1,md.si,md.dn,md.ct,md.kp.trans (cK.of s1)⟩
     obtain⟨l,zs,xp,lX,ux,rF⟩:=xn q.2.2.1 _ g1 l0 gY.gw gY.si.ak uu nV;generalize upd H1 l0 (.lst [])=H2 at gY lX rF ⊢;refine⟨_,iX.k (k:=Sum.inl q.2.2.1) gY.gw.d_,?_⟩;rw[xp];have Bo:zs.length=nK g.sl q.2.2.1:=by
      rw[rF.length,List.filter_map,ay];rfl
     refine⟨l,rfl,⟨_,aj.of lX⟩,mX (K:=K) (a:=l) (xs:=zs) (λi σ H1=>∃(y4:Option V)(g1:Gs),σ =[some (.ref d2.a),some (.ref b),some (.ref rq),y3,y4]/\jw P w C CM H0 H3 d2 ts qs fm g p wp j (nK g.sl q.2.2.1*nK g.sl q.2.2.2+(if q.2.2.1=p.1 then nK g.sl q.2.2.2 else 0)+i) g1 H1/\(∀e∈(g.sl.filter λe=>decide (e.1.1=q.2.2.1)).take i,eO fm g1 q e.1 e.2 p wp)/\cK d2 H2 H1/\C1 fm g.sl p wp q g1)
      ⟨_,g1,rfl,gY,λe he=>(nomatch he),cK.of λ_ _ h=>h,xu⟩ ?_ ?_ ?_⟩
     ·rintro i σ H4 _ ⟨_,_,_,_,_,kJ,_⟩;exact aj.of (gY.gw.yf kJ _ _ ux lX)
     ·rintro i x σ H4 hx ⟨yy,g4,rfl,jf,nk,kJ,Fd⟩;obtain⟨bb,pr,gx,rfl,GW⟩:=rF.get i x hx;obtain⟨wr,f1,f2,f3⟩:=J6 gx;have il:=(dc.mp hx).1;refine Zr W7 ?_;refine⟨_,rfl,d2.a,d2.dx,_,rfl,jf.gw.ins,rfl,_,rfl,_,rfl,_,rfl,?_⟩;unfold gf;dsimp only[List.cons_append,List.nil_append];have hle:nK g.sl q.2.2.1*nK g.sl q.2.2.2+(if q.2.2.1=p.1 then nK g.sl q.2.2.2 else 0)+i+1<=nK (g.sl ++ [(p,wp)]) q.2.2.1*nK (g.sl ++ [(p,wp)]) q.2.2.2:=by
       have h0:nK g.sl q.2.2.1*nK g.sl q.2.2.2+(if q.2.2.1=p.1 then nK g.sl q.2.2.2 else 0)=nK (g.sl ++ [(p,wp)]) q.2.2.1*nK g.sl q.2.2.2:=by
        rw[rZ];by_cases z1:q.2.2.1=p.1
        ·rw[ai z1,ai z1.symm,Nat.add_mul,Nat.one_mul]
        ·rw[ag z1,ag (λz=>z1 z.symm)];rfl
       have h2:=Ag g.sl p wp q.2.2.1;rw[h0,rZ q.2.2.2,ai c1.symm,Nat.mul_add,Nat.mul_one];lia
      refine sL g4 H4 _ pr p wr wp bb b _ _ jf hle (dy _ f2) self f3 c1.symm (.inr rfl) (GW.mono (gY.gw.nS kJ)) (bH jf.kp) λH5 md5 xg su Bw=>⟨_,_,rfl,md5,λe he=>?_,kJ.trans Bw,λz1 e he z2=>su _ _ _ _ _ (Fd z1 e he z2)⟩;rw[Zk f1] at he;rcases bc.mp he with he|he
      ·exact su _ _ _ _ _ (nk e he)
      ·rw[az.mp he];exact xg
     ·rintro σ H4 ⟨yy,g4,rfl,jf,nk,kJ,Fd⟩;rw[Bo] at jf nk;have ce:∀e∈g.sl,e.1.1=q.2.2.1->eO fm g4 q e.1 e.2 p wp:=λe he cP=>nk e (by
       unfold nK;rw[cH];exact dz.mpr ⟨he,aF cP⟩)
      exact KK _ _ g4 H4 (by simp only[ai c1];exact jf) Fd (λ_ e he cP=>ce e he cP)
    ·have c1:=Ac c1;exact KK _ _ g1 H1 (by simp only[ag c1];exact md) xu λz=>absurd z c1
   have Zq9:∀(D:Ends)(g1:Gs)(H1:Hp)(y3 y4:Option V),jw P w C CM H0 H3 d2 ts qs fm g p wp j (nK g.sl q.2.2.1*nK g.sl q.2.2.2) g1 H1->(∀y3 y4 g' H',jw P w C CM H0 H3 d2 ts qs fm g p wp j (nK g.sl q.2.2.1*nK g.sl q.2.2.2+(if q.2.2.1=p.1 then nK g.sl q.2.2.2 else 0)) g' H'->C1 fm g.sl p wp q g'->O0 D [some (.ref d2.a),some (.ref b),some (.ref rq),y3,y4] H')->Hj D [some (.ref d2.a),some (.ref b),some (.ref rq),y3,y4] H1:=by
    intro D g1 H1 y3 y4 md KK;refine Zr xk ?_;have cj:=bH md.kp;obtain⟨cb,uD,Nc⟩:=id cj;refine⟨_,rfl,rq,_,2,_,rfl,rfl,ar.of (sy md.gw),rfl,_,rfl,b,_,0,_,rfl,rfl,ar.of uD,rfl,rfl,_,rfl,cz (λc1=>?_) (λc1=>?_)⟩
    ·have c1:=Ak c1;refine Zr Ep ?_;refine⟨_,rfl,d2.a,C,d2.dx,_,_,rfl,md.gw.ins,aD.cls,aD.n4,rfl,d2.da,rfl,.inl ⟨d2.mm,.inl md.gw.d_⟩,_,rfl,rq,_,3,_,rfl,rfl,ar.of (sy md.gw),rfl,by decide,λl0 bp=>?_⟩;have s1:Zi H1 (upd H1 l0 (.lst [])):=Zi.new bp;have uu:(upd H1 l0 (.lst [])) l0=some (.lst []):=Za;have nV:l0≠d2.ls:=λz=>by
      obtain⟨xs,hx⟩:=md.gw.jP _ md.gw.iJ;rw[<- z,bp] at hx;cases hx
     have gY:jw P w C CM H0 H3 d2 ts qs fm g p wp j (nK g.sl q.2.2.1*nK g.sl q.2.2.2) g1 (upd H1 l0 (.lst [])):=⟨md.gw.same s1,md.si,md.dn,md.ct,md.kp.trans (cK.of s1)⟩;obtain⟨l,zs,xp,lX,ux,rF⟩:=xn q.2.2.2 _ g1 l0 gY.gw gY.si.ak uu nV;generalize upd H1 l0 (.lst [])=H2 at gY lX rF ⊢;refine⟨_,iX.k (k:=Sum.inl q.2.2.2) gY.gw.d_,?_⟩;rw[xp];have Bo:zs.length=nK g.sl q.2.2.2:=by
      rw[rF.length,List.filter_map,ay];rfl
     refine⟨l,rfl,⟨_,aj.of lX⟩,mX (K:=K) (a:=l) (xs:=zs) (λi σ H1=>∃(y3:Option V)(g1:Gs),σ =[some (.ref d2.a),some (.ref b),some (.ref rq),y3,y4]/\jw P w C CM H0 H3 d2 ts qs fm g p wp j (nK g.sl q.2.2.1*nK g.sl q.2.2.2+i) g1 H1/\(∀e∈(g.sl.filter λe=>decide (e.1.1=q.2.2.2)).take i,eO fm g1 q p wp e.1 e.2)/\cK d2 H2 H1)
      ⟨_,g1,rfl,gY,λe he=>(nomatch he),cK.of λ_ _ h=>h⟩ ?_ ?_ ?_⟩
     ·rintro i σ H4 _ ⟨_,_,_,_,_,kJ⟩;exact aj.of (gY.gw.yf kJ _ _ ux lX)
     ·rintro i x σ H4 hx ⟨yy,g4,rfl,jf,nk,kJ⟩;obtain⟨bb,pr,gx,rfl,GW⟩:=rF.get i x hx;obtain⟨wr,f1,f2,f3⟩:=J6 gx;have il:=(dc.mp hx).1;refine Zr W3 ?_;refine⟨_,rfl,d2.a,d2.dx,_,rfl,jf.gw.ins,rfl,_,rfl,_,rfl,_,rfl,?_⟩;unfold gf;dsimp only[List.cons_append,List.nil_append];have hle:nK g.sl q.2.2.1*nK g.sl q.2.2.2+i+1<=nK (g.sl ++ [(p,wp)]) q.2.2.1*nK (g.sl ++ [(p,wp)]) q.2.2.2:=by
       have h1:(nK g.sl q.2.2.1+1)*nK g.sl q.2.2.2<=nK (g.sl ++ [(p,wp)]) q.2.2.1*nK (g.sl ++ [(p,wp)]) q.2.2.2:=Nat.mul_le_mul (by rw[rZ,ai c1.symm];exact aq _) (Ag ..);rw[Nat.add_mul,Nat.one_mul] at h1;lia
      refine sL g4 H4 _ p pr wp wr b bb _ _ jf hle self (dy _ f2) c1.symm f3 (.inl rfl) (bH jf.kp) (GW.mono (gY.gw.nS kJ)) λH5 md5 xg su Bw=>⟨_,_,rfl,md5,λe he=>?_,kJ.trans Bw⟩;rw[Zk f1] at he;rcases bc.mp he with he|he
      ·exact su _ _ _ _ _ (nk e he)
      ·rw[az.mp he];exact xg
     ·rintro σ H4 ⟨yy,g4,rfl,jf,nk,kJ⟩;rw[Bo] at jf nk;have ce:∀e∈g.sl,e.1.1=q.2.2.2->eO fm g4 q p wp e.1 e.2:=λe he cP=>nk e (by
       unfold nK;rw[cH];exact dz.mpr ⟨he,aF cP⟩)
      exact KK _ _ g4 H4 (by rw[ai c1];exact jf) (λ_ e he cP=>ce e he cP)
    ·have c1:=Ac c1;exact KK _ _ g1 H1 (by rw[ag c1];exact md) λz=>absurd z c1
   refine Zq9 _ g1 H1 y3 y4 ⟨eI,sG,AE,by rw[xf,J_ kC];lia,Bv⟩ λy3 y4 g5 H5 md5 fq=>?_;refine Zra _ g5 H5 y3 y4 md5 fq λy3 y4 g6 H6 md6 fq fQ=>?_;refine Zrb _ g6 H6 y3 y4 md6 fq fQ λy3 y4 g7 H7 yj fq fQ xB=>⟨_,_,_,g7,rfl,yj.gw,yj.si,λq' cg a wa b' wb ha aB hX cP ND=>?_,?_,yj.kp⟩
   ·rw[Zk kC] at cg;rcases bc.mp cg with cg|cg
    ·exact yj.dn q' cg a wa b' wb ha aB hX cP ND
    ·rw[az.mp cg] at hX cP ⊢;rcases ND with ho|ho
     ·injection ho with dm bX;subst dm bX;rcases bc.mp aB with aB|aB
      ·exact fq hX.symm _ aB cP
      ·injection az.mp aB with cj cX;subst cj cX;exact xB hX.symm cP.symm
     ·injection ho with dm bX;subst dm bX;rcases bc.mp ha with ha|ha
      ·exact fQ cP.symm _ ha hX
      ·injection az.mp ha with cj cX;subst cj cX;exact xB hX.symm cP.symm
   ·rw[yj.ct,Zk kC,SX];lia
  ·rintro σ H1 ⟨y2,y3,y4,g1,rfl,eI,sG,AE,xf,Bv⟩;rw[dQ,cH] at AE xf;rw[List.drop_length] at xf;have fin:=SI.fin ah hp sG AE xf;have Fb:aN H1 b (pk p):=gQ.mono (fk.nS Bv);have Gz:∀b' xs,H b'=some (.tup xs)->H1 b'=some (.tup xs):=λb' xs e=>fk.nS Bv _ _ (N6 _ _ e);have mmn:d2.mm.length<=64:=by
    have h1:=eI.pX;have h2:g1.ak=g.ak:=sG.ak;rw[h2,ah.ak,ay] at h1;lia
   obtain⟨cb,Yn,Zr7⟩:=id Fb;show u3 _ _ _;refine Zr e3 ?_;refine⟨_,rfl,d2.a,C,d2.dx,_,_,rfl,eI.ins,aD.cls,aD.n4,rfl,d2.da,rfl,.inl ⟨d2.mm,.inl eI.d_⟩,_,rfl,b,_,0,_,rfl,rfl,ar.of Yn,rfl,by decide,λl0 bp=>?_⟩;have sm:Zi H1 (upd H1 l0 (.lst [])):=Zi.new bp;refine⟨d2.mm,Sum.inl p.1,sm _ _ eI.d_,rfl,by rw[aT];lia,λv hv=>?_,λhn=>?_⟩
   ·have iH:=eI.same sm;rcases iH.gO.1 p.1 with⟨h1,_⟩|⟨l,zs,h1,h2,h3,h4,h5⟩
    ·rw[h1] at hv;cases hv
    ·rw[h1] at hv;injection hv with hv;subst hv;have Bp:zs.length<=64:=by
      have h6:g1.ak=g.ak:=sG.ak;rw[h3.length,h6,ah.ak];refine bD (qt ..) ?_;rw[ay];lia
     refine⟨.inl ⟨rfl,_,aj.of h2⟩,_,rfl,l,_,_,rfl,rfl,h2,by rw[aT];lia,?_⟩;exact Q1 d2 _ { g1 with ak:=g1.ak ++ [p] } (iH.Wx (Fb.mono λb' xs e=>sm _ _ e) h1 h2) fin sG.sl ky uF λb' xs e=>by
      rw[Zc (λz=>by rw[z] at e;have:=sm _ _ (Gz _ _ e);rw[h2] at this;cases this)];exact sm _ _ (Gz _ _ e)
   ·have ym:l0≠d2.da:=λz=>by rw[z,eI.d_] at bp;cases bp
    have e9:(upd (upd H1 l0 (.lst [])) d2.da (.dK (putK d2.mm (Sum.inl p.1) (.ref l0)))) l0=some (.lst []):=by
     rw[Zc ym];exact Za
    refine⟨.inl ⟨rfl,_,aj.of e9⟩,_,rfl,l0,_,_,rfl,rfl,e9,by decide,?_⟩;exact Q1 { d2 with mm:=putK d2.mm (Sum.inl p.1) (.ref l0),ml:=l0::d2.ml } _ { g1 with ak:=g1.ak ++ [p] } (aM.Ww eI Fb hn bp rfl) fin sG.sl ky uF λb' xs e=>by
     have e1:=Gz _ _ e;rw[Zc (Zg e1 bp),Zc (λz=>by rw[z,eI.d_] at e1;cases e1),Zc (Zg e1 bp)];exact e1
 refine Zr e0 ?_;refine⟨_,rfl,d.a,C,d.dx,_,_,rfl,hG.ins,aD.cls,aD.n3,rfl,d.dw,d.kw,rfl,hG.cU.r,rfl,_,rfl,?_⟩;refine cz (λc=>absurd (bh c) (by intro z;injection z with z;lia)) (λ_=>?_);refine Zr e1 ?_;refine⟨_,rfl,d.a,C,d.dx,_,_,rfl,hG.ins,aD.cls,aD.n6,rfl,d.dt,rfl,⟨_,t1.r⟩,_,rfl,b,kt,pk p,_,rfl,t1,hb,v1,?_⟩;have fk:=hG.pop t1 t2 hb x1 m1 sf;have nDA:d.a≠d.dt:=λz=>by have:=hG.ins;rw[z,t1.1] at this;cases this
 have wr2:bF P w (upd H d.dt (Zm P w d.dt (ir kt (pk p)))) d.dw d.kw:=ZF hG.cU (Zc hG.n1) λb' xs e=>by
  rw[Zc (λz=>by rw[z,t1.1] at e;cases e)];exact e
 have cX:aN (upd H d.dt (Zm P w d.dt (ir kt (pk p)))) b (pk p):=hb.mono λb' xs e=>by
  rw[Zc (λz=>by rw[z,t1.1] at e;cases e)];exact e
 refine⟨_,rfl,d.a,C,d.dx,_,_,rfl,by rw[Zc nDA];exact hG.ins,aD.cls,aD.n3,rfl,_,rfl,d.dw,b,d.kw,_,rfl,rfl,wr2,cX,by rw[aT];lia,?_⟩;exact cT { d with kw:=putN d.kw (pk p) b (.ref c) } _ fk (λb' xs e=>by
  rw[Zc (λz=>by rw[z,hG.cU.1] at e;cases e),Zc (λz=>by rw[z,t1.1] at e;cases e)];exact e) rfl rfl
theorem Ij:∀{aa m:List (ZG×Addr×V)},((m++aa).map (·.1)).Nodup->aa.foldl (λm kv=>putN m kv.1 kv.2.1 kv.2.2) m=m++aa
 | [],m,_=>(gE m).symm
 | x::aa,m,h=>by
  have e:putN m x.1 x.2.1 x.2.2=m ++ [x]:=by
   unfold putN;rw[ag];intro z;obtain⟨y,h1,h2⟩:=vn.mp z;rw[cZ,yW] at h;exact h.2.2 _ (aS.mpr ⟨y,h1,rfl⟩) x.1 (aS.mpr ⟨x,aU ..,rfl⟩) (bh h2)
  rw[vp,e,Ij (by rw[sS];exact h),sS];rfl
theorem UO(h:(aa.map (·.1)).Nodup):Ae aa=aa:=Ij (m:=[]) h
def wJ(one fm:FQ):Gs:=⟨[],one.ts.map λk=>((k,fm.ts),[]),[],[],[]⟩
theorem QW(one fm:FQ)(h:one.ts.Nodup):((one.ts.map λk=>(((k,fm.ts):Pk),([]:Wd))).map (·.1)).Nodup:=by
 rw[gF];exact jk.mpr (List.Pairwise.imp (λaO e=>aO (congrArg Prod.fst e)) h)
variable{fm:FQ}
theorem qZ{one:FQ}(h:one.ts.Nodup)(hf:fm.ts.Nodup/\fm.ts.length<=63):iQ one.ts one.qs fm (wJ one fm):=by
 have hm:∀e∈(wJ one fm).sl++(wJ one fm).tl,∃k∈one.ts,e=((k,fm.ts),[]):=λe he=>by
  obtain⟨k,hk,rfl⟩:=aS.mp (show e∈one.ts.map _ from he);exact⟨k,hk,rfl⟩
 refine⟨⟨QW one fm h,λe he=>?_,λi e he=>(nomatch he),λe he=>.inl (hm e he),λk hk=>aS.mpr ⟨k,hk,rfl⟩,λp hp=>(nomatch hp),?_,λx hx=>(nomatch hx)⟩,λq _ a wa b wb ha=>(nomatch ha),λe he=>(nomatch he),?_,rfl,λe he=>?_⟩
 ·obtain⟨k,_,rfl⟩:=hm e he;exact bE _
 ·show(one.ts.map _).length+0<=0+one.ts.length;rw[ay];lia
 ·show 0=cnt [] one.qs;have:∀qs,cnt [] qs=0:=λqs=>by
   have:=D3 (S:=[]) (n:=0) (λk=>aq _) qs
   simpa using this
  rw[this]
 ·obtain⟨k,_,rfl⟩:=hm e he;exact⟨λx hx=>(nomatch hx),hf⟩
def ig(H:Hp)(us:List V)(kt:List (ZG×Addr×V)):Prop:=Paired (λ(y:V)(kv:ZG×Addr×V)=>∃t,y=.ref t/\H t=some (.tup [.ref kv.2.1,kv.2.2])/\aN H kv.2.1 kv.1) us kt
theorem ig.keep{H H':Hp}(k:∀b xs,H b=some (.tup xs)->H' b=some (.tup xs)):∀{us:List V}{kt:List (ZG×Addr×V)},ig H us kt->ig H' us kt
 | _,_,.nil=>.nil
 | _,_,.cons ⟨t,h1,h2,h3⟩ r=>.cons ⟨t,h1,k _ _ h2,h3.mono k⟩ (ig.keep k r)
theorem ig.snoc{H:Hp}{t b:Addr}{key:ZG}{v:V}(h2:H t=some (.tup [.ref b,v]))(h3:aN H b key):∀{us:List V}{kt:List (ZG×Addr×V)},ig H us kt->ig H (us ++ [.ref t]) (kt ++ [(key,b,v)])
 | _,_,.nil=>.cons ⟨t,rfl,h2,h3⟩ .nil
 | _,_,.cons r s=>.cons r (ig.snoc h2 h3 s)
theorem ig.at{H:Hp}:∀{us:List V}{kt:List (ZG×Addr×V)},ig H us kt->∀x∈kt,aN H x.2.1 x.1
 | _,_,.nil,_,h=>nomatch h
 | _,_,.cons ⟨t,h1,h2,h3⟩ r,x,hx=>by
  rcases aJ.mp hx with rfl|hx
  ·exact h3
  ·exact ig.at r x hx
def D0(P:Program)(w:World)(C CM:Addr):Sp:=λvs H Q _=>∃(a p m dx:Addr)(H0:Hp)(one fm:FQ),vs=[.ref a,.ref p,.ref m]/\H a=some (.ins C dx [])/\Zi H0 H/\H0 a=none/\dE H0 p one/\iw CM H0 m fm/\one.ts.length<=63/\one.ts.Nodup /\
 ∀d H',aM P w C CM H0 H' d one.qs fm (wJ one fm)->d.a=a->Q .aG H'
set_option maxHeartbeats 4000000 in
theorem P2(B:∀x∈dM,mg x=none)(aD:tH K C)(uq:fJ K CM)(EC:ic P w K mg base CM "nothing" ["self"] 1 (wc CM)) (F:bR K "__init__" "Growth.__init__" Zw f fd):aX P w K mg base cx 2 f fd ["self","form","measure"] (D0 P w C CM):=by
 refine F.ok Ib (λvs H Q E h=>?_) (λaP A outer s H vs Q E hr h=>?_)
 ·obtain⟨a,p,m,dx,H0,one,fm,rfl,_⟩:=h;rfl
 obtain⟨a,p,m,dx,H0,one,fm,rfl,hA,s0,AQ,hF,hK,gW,jO,Q1⟩:=h;have NX:=Ja hr;obtain⟨f1,f2,f3,zf,a1,a2,a3,a4,a5⟩:=hF;obtain⟨ur,Og,Oh,Oe,Oi,uS,_⟩:=id hK;have nA:∀b o,H0 b=some o->b≠a:=λb o e z=>by rw[z,AQ] at e;cases e
 refine Zt ((Zf Zw).drop 7) (Zj (lF (pv 0) z6 rfl)) (λu7 h7 e7=>?_);refine Zt ((Zf Zw).drop 6) (Zd (lF (pv 0) (ZV (Qa rfl NX) rfl (B "dict" (by decide)) DM (Zb (oX (cl:=_) ["end"] [("nothing",3)] (lI (ZJ ZD (pv 1) Zh (λ_ _=>rfl))) (λ_ _ _ _=>(Zq (i:=0) (show List.Nodup (["end","nothing"]:List Str) by decide) rfl (Or.inl rfl))) (λ_ _ _ _=>(c7 (Zb (c7 (Zb (pv 0) (Zb (pv 1) Ze))) (Zb (Z1 Ze) Ze)))) rfl rfl (by decide) rfl (by decide) (jD (by(repeat' first|exact bx _|refine bw.mpr ⟨?_,?_⟩) <;> rfl)) (ke (by(repeat' first|exact bx _|refine bw.mpr ⟨?_,?_⟩) <;> first|(intro h;exact⟨_,rfl⟩)|(intro h;exact absurd h (by decide)))) (λ_=>by(repeat' first|exact bx _|refine bw.mpr ⟨?_,?_⟩) <;> exact⟨rfl,rfl,Or.inl rfl⟩) (λ_=>rfl)) Ze)) rfl) h7) (λu6 h6 e6=>?_)
 refine Zt ((Zf Zw).drop 5) (Zd (Zz (i:=3) Ib.nd rfl (Or.inr rfl) (Ki EC hr (pv 2) uq)) h6) (λu5 h5 e5=>?_);refine Zt ((Zf Zw).drop 4) (Zd (lF (pv 0) (Z1 Ze) rfl) h5) (λu4 h4 e4=>?_);refine Zt ((Zf Zw).drop 3) (Zd (lF (pv 0) zY rfl) h4) (λu3 h3 e3=>?_);refine Zt ((Zf Zw).drop 2) (Zd (lF (pv 0) z6 rfl) h3) (λu2 h2 e2=>?_);refine Zt ((Zf Zw).drop 1) (Zd (lF (pv 0) (pv 2) rfl) h2) (λu1 h1 e1=>?_);refine Zt ((Zf Zw).drop 0) (Zd (lF (pv 0) (ZJ ZD (pv 1) Zh (λ_ _=>rfl)) rfl) h1) (λu0 h0 e0=>?_);refine⟨u0,h0,?_⟩;have kU:∀(r dw da ls dt:Addr)(kt:List (ZG×Addr×V))(H7:Hp)(y3:Option V),H7 a=some (.ins C dx [("rules",.ref f3),("measure",.ref m),("words",.ref dw),("at_kind",.ref da),("steps",.ref ls),("waiting",.ref dt)])->Zi H0 H7->bF P w H7 dw []->H7 da=some (.dK [])->H7 ls=some (.lst [])->bF P w H7 dt kt->aW H7 [ls] kt (one.ts.map λk=>((k,fm.ts),[]))->dw≠dt->(∀b ∈ [a,dw,da,ls,dt],H0 b=none)->u7 { nx:=λ_ H'=>Q .aG H',rt:=Q } [some (.ref a),some (.ref p),some (.ref m),y3] H7:=by
  intro r dw da ls dt kt H7 y3 eA sm eW eD eL eT Xj nwt fr;refine Zr e7 ?_;refine λdb du=>?_;have fw:∀b o,H7 b=some o->b≠db:=λb o e z=>by rw[z,du] at e;cases e
  refine⟨_,rfl,a,C,dx,_,rfl,(by rw[Zc (fw _ _ eA)];exact eA),aD.cls,aD.n7,(by show 6<1000;decide),?_⟩;have kb:∀b o,b≠a->H7 b=some o->(upd (upd H7 db (Zm P w db [])) a (.ins C dx (dr "beyond" (.ref db) [("rules",.ref f3),("measure",.ref m),("words",.ref dw),("at_kind",.ref da),("steps",.ref ls),("waiting",.ref dt)]))) b=some o:=λb o n e=>by
   rw[Zc n,Zc (fw _ _ e)];exact e
  have nn:∀b o,H7 b=some o->(∀c dx fs,o ≠ .ins c dx fs)->b≠a:=λb o e n z=>by
   rw[z,eA] at e;injection e with e;exact n _ _ _ e.symm
  have kT:∀b xs,H7 b=some (.tup xs)->(upd (upd H7 db (Zm P w db [])) a (.ins C dx (dr "beyond" (.ref db) [("rules",.ref f3),("measure",.ref m),("words",.ref dw),("at_kind",.ref da),("steps",.ref ls),("waiting",.ref dt)]))) b=some (.tup xs):=λb xs e=>kb b _ (nn _ _ e λ_ _ _ z=>nomatch z) e
  have nx:∀b aa,H7 b=some (Zm P w b aa)->b≠a:=λb aa e=>nn _ _ e λ_ _ _ z=>nomatch z
  refine Q1 ⟨a,dx,f3,m,dw,da,ls,dt,db,zf,[],[],[ls]⟩ _ ?_ rfl;have Zqq:db≠a:=λz=>fw _ _ eA z.symm;refine⟨Za,a4,a5,hK,ZF eW (by rw[Zc (nx _ _ eW.1),Zc (fw _ _ eW.1)]) kT,.nil,kb _ _ (nn _ _ eD λ_ _ _ z=>nomatch z) eD,⟨λk=>.inl ⟨rfl,rfl⟩,λk k' l h=>(nomatch h)⟩,⟨kt,ZF eT (by rw[Zc (nx _ _ eT.1),Zc (fw _ _ eT.1)]) kT,Xj.keep λc ws hc e=>⟨kb c _ (nn _ _ e λ_ _ _ z=>nomatch z) e,hc⟩⟩,⟨[],⟨by rw[Zc Zqq];exact Za,λx hx=>(nomatch hx)⟩,rfl⟩,⟨[],kb _ _ (nn _ _ eL λ_ _ _ z=>nomatch z) eL,.nil⟩,aU ..,nwt,λz=>fw _ _ eW.1 z,λz=>fw _ _ eT.1 z,λb o e=>kb b o (nA b o e) (sm b o e),λb hb=>?_,aq _,λb hb=>?_⟩
  ·rw[az.mp hb];exact⟨_,kb ls _ (nn _ _ eL λ_ _ _ z=>nomatch z) eL⟩
  ·simp only[aJ,k_,lr] at hb;rcases hb with rfl|rfl|rfl|rfl|rfl|rfl
   ·exact fr _ (by simp)
   ·exact fr _ (by simp)
   ·exact fr _ (by simp)
   ·exact fr _ (by simp)
   ·cases z:H0 b with
    | none=>rfl
    | some o=>exact absurd rfl (fw _ _ (sm _ _ z))
   ·exact fr _ (by simp)
 have iI:∀{Hn:Hp}{fs tw:List (Str×V)},Hn a=some (.ins C dx fs)->∀b o,Hn b=some o->(∀c dx fs,o ≠ .ins c dx fs)->(upd Hn a (.ins C dx tw)) b=some o:=λ{Hn fs tw} eA b o e n=>by
  rw[Zc]
  ·exact e
  ·intro z;rw[z,eA] at e;injection e with e;exact n _ _ _ e.symm
 have uR:∀{Hn:Hp}{tw:List (Str×V)},Zi H0 Hn->Zi H0 (upd Hn a (.ins C dx tw)):=λsm b o e=>by
  rw[Zc (nA b o e)];exact sm b o e
 have fresh:∀{Hn:Hp}{b:Addr},Zi H0 Hn->Hn b=none->H0 b=none:=λ{Hn b} sm e=>by
  cases z:H0 b with
  | none=>rfl
  | some o =>
   have:=sm _ _ z;rw[e] at this;cases this
 have Hb:∀(dw da ls rn:Addr)(H6:Hp),H6 a=some (.ins C dx [("rules",.ref f3),("measure",.ref m),("words",.ref dw),("at_kind",.ref da),("steps",.ref ls)])->Zi H0 H6->bF P w H6 dw []->H6 da=some (.dK [])->H6 ls=some (.lst [])->H6 rn=some (.tup (fm.ts.map V.int))->(∀b ∈ [a,dw,da,ls],H0 b=none)->u6 { nx:=λ_ H'=>Q .aG H',rt:=Q } [some (.ref a),some (.ref p),some (.ref m),some (.ref rn)] H6:=by
  intro dw da ls rn H6 eA sm eW eD eL eR fr;refine Zr e6 ?_;have z2:=sm _ _ a1;have z3:=sm _ _ a3;refine⟨_,rfl,p,_,2,_,rfl,rfl,ar.of z2,rfl,f2,rfl,⟨_,ar.of z3⟩,λpm c_=>z_ (K:=K) (a:=f2) (p:=pm) (xs:=one.ts.map V.int) (λj us σ H1=>∃v0:Option V,σ =[v0,some (.ref rn)]/\Zi H6 H1/\H1 pm=some (.lst us)/\us.length=j/\∃kt:List (ZG×Addr×V),ig H1 us kt/\aW H1 [ls,pm] kt ((one.ts.take j).map λk=>(((k,fm.ts):Pk),([]:Wd))))
   ⟨none,rfl,Zi.new c_,Za,rfl,[],.nil,.nil⟩ ?_ ?_ ?_⟩
  ·rintro j us σ H1 _ ⟨_,_,b_,h,_⟩;exact⟨ar.of (b_ _ _ z3),h⟩
  ·rintro j us x σ H1 hj hx ⟨v0,rfl,b_,h,hl,kt,hP,hW⟩;rw[cp] at hx;obtain⟨y,hy,rfl⟩:=gG.mp hx;have Fw:j<one.ts.length:=(dc.mp hy).1;refine⟨_,rfl,_,rfl,by show(2:Nat)<=sizeLine;decide,λt1 gn=>?_⟩;have q1:Zi H1 (upd H1 t1 (.tup [.int y,.ref rn])):=Zi.new gn;have Mu:(upd H1 t1 (.tup [.int y,.ref rn])) t1=some (.tup [.int y,.ref rn]):=Za;generalize upd H1 t1 (.tup [.int y,.ref rn])=H2 at q1 Mu ⊢;refine⟨by decide,λl1 bW=>?_⟩;have q2:Zi H2 (upd H2 l1 (.lst [])):=Zi.new bW;have xl:(upd H2 l1 (.lst [])) l1=some (.lst []):=Za;have yn:∀b o,H2 b=some o->l1≠b:=λb o e z=>by rw[z,e] at bW;cases bW
   generalize upd H2 l1 (.lst [])=H3 at q2 xl ⊢;refine⟨by show(2:Nat)<=sizeLine;decide,λt2 pQ=>?_⟩;have q3:Zi H3 (upd H3 t2 (.tup [.ref t1,.ref l1])):=Zi.new pQ;have AJ:(upd H3 t2 (.tup [.ref t1,.ref l1])) t2=some (.tup [.ref t1,.ref l1]):=Za;generalize upd H3 t2 (.tup [.ref t1,.ref l1])=H4 at q3 AJ ⊢;have yw:=(q1.trans q2).trans q3;have NL:=yw _ _ h;have kT:∀b xs,H4 b=some (.tup xs)->(upd H4 pm (.lst (us ++ [.ref t2]))) b=some (.tup xs):=λb xs e=>by
    rw[Zc (λz=>by rw[z,NL] at e;cases e)];exact e
   have Fz:=b_ _ _ eL;have Nv:l1 ∉ [ls,pm]:=by
    intro z;simp only[aJ,k_,lr] at z;rcases z with z|z
    ·exact yn _ _ (q1 _ _ Fz) z
    ·exact yn _ _ (q1 _ _ h) z
   refine⟨NL,by rw[aT];lia,CW.next hj ⟨_,rfl,(b_.trans yw).cC c_,Za,by simp[hl],kt ++ [(pk (y,fm.ts),t1,.ref l1)],?_,?_⟩⟩
   ·exact ig.snoc (key:=pk (y,fm.ts)) (kT _ _ AJ) ⟨rn,kT _ _ (q3 _ _ (q2 _ _ Mu)),by rw[fZ];exact kT _ _ (yw _ _ (b_ _ _ eR))⟩ (hP.keep λb xs e=>kT _ _ (yw _ _ e))
   ·rw[Zk hy,cZ];refine aW.snoc (p:=(y,fm.ts)) (w:=[]) (by rw[Zc (λz=>Nv (by rw[z];simp))];exact q3 _ _ xl) Nv (hW.keep λc ws hc e=>⟨?_,hc⟩);rw[Zc (λz=>hc (by rw[z];simp))];exact yw _ _ e
  rintro us σ H1 ⟨v0,rfl,b_,h,hl,kt,hP,hW⟩;rw[ay,cH] at hW;rw[ay] at hl;have dO:(kt.map (·.1)).Nodup:=by
   rw[hW.keys,gF];exact jk.mpr (List.Pairwise.imp (λaO e=>aO (congrArg Prod.fst (rh e))) jO)
  refine⟨pm,us,kt,rfl,aj.of h,by lia,hP,λdt uF=>?_⟩;rw[UO dO];have s7:Zi H1 (upd H1 dt (Zm P w dt kt)):=Zi.new uF;have qa:=b_.trans s7;have dX:=qa _ _ eA;have nU:∀b o,H6 b=some o->b≠dt:=λb o e z=>by
   have:=b_ _ _ e;rw[z,uF] at this;cases this
  refine⟨_,rfl,a,C,dx,_,rfl,dX,aD.cls,aD.n6,(by show 5<1000;decide),?_⟩;have N7:∀b xs,H1 b=some (.tup xs)->(upd (upd H1 dt (Zm P w dt kt)) a (.ins C dx (dr "waiting" (.ref dt) [("rules",.ref f3),("measure",.ref m),("words",.ref dw),("at_kind",.ref da),("steps",.ref ls)]))) b=some (.tup xs):=λb xs e=>iI dX _ _ (s7 _ _ e) λ_ _ _ z=>nomatch z
  refine kU f3 dw da ls dt kt _ _ Za (uR (sm.trans qa)) (ZF eW ((iI dX _ _ (qa _ _ eW.1) (λ_ _ _ z=>nomatch z)).trans eW.1.symm) λb xs e=>N7 b xs (b_ _ _ e)) (iI dX _ _ (qa _ _ eD) λ_ _ _ z=>nomatch z) (iI dX _ _ (qa _ _ eL) λ_ _ _ z=>nomatch z) ⟨iI dX _ _ Za (λ_ _ _ z=>nomatch z),λx hx=>(ig.at hP x hx).mono N7⟩ (hW.keep λc ws hc e=>⟨iI dX _ _ (s7 _ _ e) (λ_ _ _ z=>nomatch z),λz=>hc (by rw[az.mp z];simp)⟩) (nU _ _ eW.1) λb hb=>by
   simp only[aJ,k_,lr] at hb;rcases hb with rfl|rfl|rfl|rfl|rfl
   ·exact fr _ (by simp)
   ·exact fr _ (by simp)
   ·exact fr _ (by simp)
   ·exact fr _ (by simp)
   ·exact fresh (sm.trans b_) uF
 have kR:∀(dw da ls:Addr)(H6:Hp),H6 a=some (.ins C dx [("rules",.ref f3),("measure",.ref m),("words",.ref dw),("at_kind",.ref da),("steps",.ref ls)])->Zi H0 H6->bF P w H6 dw []->H6 da=some (.dK [])->H6 ls=some (.lst [])->(∀b ∈ [a,dw,da,ls],H0 b=none)->u5 { nx:=λ_ H'=>Q .aG H',rt:=Q } [some (.ref a),some (.ref p),some (.ref m),none] H6:=by
  intro dw da ls H6 eA sm eW eD eL fr;refine Zr e5 ?_;refine⟨_,rfl,m,ur,_,rfl,sm _ _ uS,rfl,m,fm,rfl,hK.same sm,λrn xX=>?_⟩;exact Hb dw da ls rn H6 eA sm eW eD eL xX fr
 have sJ:∀(dw da:Addr)(H4:Hp),H4 a=some (.ins C dx [("rules",.ref f3),("measure",.ref m),("words",.ref dw),("at_kind",.ref da)])->Zi H0 H4->bF P w H4 dw []->H4 da=some (.dK [])->(∀b ∈ [a,dw,da],H0 b=none)->u4 { nx:=λ_ H'=>Q .aG H',rt:=Q } [some (.ref a),some (.ref p),some (.ref m),none] H4:=by
  intro dw da H4 eA sm eW eD fr;refine Zr e4 ?_;refine⟨by decide,λls pG=>?_⟩;have s1:Zi H4 (upd H4 ls (.lst [])):=Zi.new pG;have dX:=s1 _ _ eA;refine⟨_,rfl,a,C,dx,_,rfl,dX,aD.cls,aD.n5,(by show 4<1000;decide),?_⟩;exact kR dw da ls _ Za (uR (sm.trans s1)) (ZF eW (by rw[iI dX _ _ (s1 _ _ eW.1) (λ_ _ _ z=>nomatch z),eW.1]) λb xs e=>iI dX _ _ (s1 _ _ e) λ_ _ _ z=>nomatch z) (iI dX _ _ (s1 _ _ eD) λ_ _ _ z=>nomatch z) (iI dX _ _ Za λ_ _ _ z=>nomatch z) λb hb=>by
   simp only[aJ,k_,lr] at hb;rcases hb with rfl|rfl|rfl|rfl
   ·exact fr _ (by simp)
   ·exact fr _ (by simp)
   ·exact fr _ (by simp)
   ·exact fresh sm pG
 have gB:∀(dw:Addr)(H4:Hp),H4 a=some (.ins C dx [("rules",.ref f3),("measure",.ref m),("words",.ref dw)])->Zi H0 H4->bF P w H4 dw []->H0 dw=none->u3 { nx:=λ_ H'=>Q .aG H',rt:=Q } [some (.ref a),some (.ref p),some (.ref m),none] H4:=by
  intro dw H4 eA sm eW fr;refine Zr e3 ?_;refine λda ky=>?_;have s1:Zi H4 (upd H4 da (.dK [])):=Zi.new ky;have dX:=s1 _ _ eA;refine⟨_,rfl,a,C,dx,_,rfl,dX,aD.cls,aD.n4,(by show 3<1000;decide),?_⟩;exact sJ dw da _ Za (uR (sm.trans s1)) (ZF eW (by rw[iI dX _ _ (s1 _ _ eW.1) (λ_ _ _ z=>nomatch z),eW.1]) λb xs e=>iI dX _ _ (s1 _ _ e) λ_ _ _ z=>nomatch z) (iI dX _ _ Za λ_ _ _ z=>nomatch z) λb hb=>by
   simp only[aJ,k_,lr] at hb;rcases hb with rfl|rfl|rfl
   ·exact AQ
   ·exact fr
   ·exact fresh sm ky
 have cT:∀(H4:Hp),H4 a=some (.ins C dx [("rules",.ref f3),("measure",.ref m)])->Zi H0 H4->u2 { nx:=λ_ H'=>Q .aG H',rt:=Q } [some (.ref a),some (.ref p),some (.ref m),none] H4:=by
  intro H4 eA sm;refine Zr e2 ?_;refine λdw Nh=>?_;have s1:Zi H4 (upd H4 dw (Zm P w dw [])):=Zi.new Nh;have dX:=s1 _ _ eA;refine⟨_,rfl,a,C,dx,_,rfl,dX,aD.cls,aD.n3,(by show 2<1000;decide),?_⟩;exact gB dw _ Za (uR (sm.trans s1)) ⟨iI dX _ _ Za (λ_ _ _ z=>nomatch z),λx hx=>(nomatch hx)⟩ (fresh sm Nh)
 refine Zr e0 ?_;refine⟨_,rfl,p,_,3,_,rfl,rfl,ar.of (s0 _ _ a1),rfl,_,rfl,a,C,dx,_,rfl,hA,aD.cls,aD.n1,by decide,?_⟩;refine Zr e1 ?_;refine⟨_,rfl,_,rfl,a,C,dx,_,rfl,Za,aD.cls,aD.n2,(by show 1<1000;decide),?_⟩;exact cT _ Za (uR (uR s0))
theorem iw.ZqG{p Pt:Addr}{f:FQ}(h:iw C H p f)(hn:∀b o,H b=some o->(∀ps,o ≠ .bC ps)->b≠Pt):iw C (λb=>if b=Pt then none else H b) p f:=by
 obtain⟨dx,h1,h2,d,m,e1,e2,e3,e4,e5⟩:=h;have k:∀b o,H b=some o->(∀ps,o ≠ .bC ps)->(λb=>if b=Pt then none else H b) b=some o:=λb o e n=>by
  show(if b=Pt then none else H b)=_
  rw[ag (hn b o e n)];exact e
 refine⟨dx,h1,h2,d,m,k _ _ e1 (λ_ z=>nomatch z),k _ _ e2 (λ_ z=>nomatch z),k _ _ e3 (λ_ z=>nomatch z),k _ _ e4 (λ_ z=>nomatch z),λt=>?_,e5.2⟩
 rcases e5.1 t with h1|⟨l,zs,g1,g2,g3⟩
 ·exact .inl h1
 ·exact .inr ⟨l,zs,g1,k _ _ g2 (λ_ z=>nomatch z),g3.keep λb xs e=>k b _ e λ_ z=>nomatch z⟩
def Own(d:Gd):List Addr:=d.a::d.dw::d.da::d.dt::d.db::d.ml
def nj(H:Hp)(d:Gd):Hp:=λb=>if b∈Own d then none else H b
section
variable{P:Program}{w:World}{C CM:Addr}{H0 H H':Hp}{d:Gd}{qs:List av.Qd}{f:FQ}{g:Gs}
theorem aM.Zrj(h:aM P w C CM H0 H d qs f g):Zi H0 (nj H d):=λb o e=>by
 unfold nj;rw[ag]
 ·exact h.old b o e
 ·intro hb;rw[h.fr b hb] at e;cases e
theorem aM.reb(h:aM P w C CM H0 H d qs f g):aM P w C CM (nj H d) H d qs f g:=by
 have s:=h.Zrj;refine⟨h.ins,s _ _ h.n9,h.mq.keep λb xs e=>s _ _ e,h.pW.same s,h.cU,h.iL,h.d_,h.gO,h.gZ,h.gP,h.iK,h.iJ,h.n1,h.n2,h.n3,λb o e=>?_,h.jP,h.pX,λb hb=>?_⟩
 ·unfold nj at e
  split at e
  ·cases e
  ·exact e
 ·unfold nj;rw[ai (show b∈Own d from hb)]
theorem aM.own(h:aM P w C CM H0 H d qs f g){b:Addr}{o:HO}(e:H b=some o)(h1:∀c dx fs,o ≠ .ins c dx fs)(h2:∀F,o ≠ .ext F)(h3:∀m,o ≠ .dK m)(h4:∀xs,o ≠ .lst xs):b∉Own d:=by
 obtain⟨kt,t1,_⟩:=h.gZ;obtain⟨kb,b1,_⟩:=h.gP;have no:∀c o',H c=some o'->o≠o'->b≠c:=λc o' e' n z=>by
  rw[z,e'] at e;injection e with e;exact n e.symm
 intro hb;unfold Own at hb;simp only[aJ] at hb;rcases hb with hb|hb|hb|hb|hb|hb
 ·exact no _ _ h.ins (h1 _ _ _) hb
 ·exact no _ _ h.cU.1 (h2 _) hb
 ·exact no _ _ h.d_ (h3 _) hb
 ·exact no _ _ t1.1 (h2 _) hb
 ·exact no _ _ b1.1 (h2 _) hb
 ·obtain⟨xs,hx⟩:=h.jP b hb;exact no _ _ hx (h4 _) rfl
variable{Pt:Addr}{ps:Array Value}
theorem aM.ZqF(h:aM P w C CM H0 H d qs f g)(hP:H Pt=some (.bC ps)):aM P w C CM (λb=>if b=Pt then none else H0 b) H d qs f g:=by
 have hn:∀b o,H0 b=some o->(∀ps,o ≠ .bC ps)->b≠Pt:=λb o e n z=>by
  have:=h.old _ _ e;rw[z,hP] at this;injection this with this;exact n _ this.symm
 have k:∀b xs,H0 b=some (.tup xs)->(λb=>if b=Pt then none else H0 b) b=some (.tup xs):=λb xs e=>by
  show(if b=Pt then none else H0 b)=_
  rw[ag (hn b _ e λ_ z=>nomatch z)]
  exact e
 exact⟨h.ins,k _ _ h.n9,h.mq.keep k,h.pW.ZqG hn,h.cU,h.iL,h.d_,h.gO,h.gZ,h.gP,h.iK,h.iJ,h.n1,h.n2,h.n3,λb o e=>h.old b o (by
  have e:(if b=Pt then none else H0 b)=some o:=e
  split at e
  ·cases e
  ·exact e),h.jP,h.pX,λb hb=>by
  show(if b=Pt then none else H0 b)=none
  split
  ·rfl
  ·exact h.fr b hb⟩
theorem aM.BL(h:aM P w C CM H0 H d qs f g)(hP:H Pt=some (.bC ps))(s:fO Pt H H')(h0:H0 Pt=none):aM P w C CM H0 H' d qs f g:=by
 obtain⟨kt,t1,t2⟩:=h.gZ;obtain⟨kb,b1,b2⟩:=h.gP;obtain⟨zs,s1,s2⟩:=h.iK;have k:∀b o,H b=some o->(∀ps,o ≠ .bC ps)->H' b=some o:=λb o e n=>s b o (λz=>by
  rw[z,hP] at e;injection e with e;exact n _ e.symm) e
 have kT:∀b xs,H b=some (.tup xs)->H' b=some (.tup xs):=λb xs e=>k b _ e λ_ z=>nomatch z
 have kN:∀b aa,H b=some (Zm P w b aa)->H' b=H b:=λb aa e=>(k b _ e λ_ z=>nomatch z).trans e.symm
 have kL:∀b xs,H b=some (.lst xs)->H' b=some (.lst xs):=λb xs e=>k b _ e λ_ z=>nomatch z
 exact⟨k _ _ h.ins (λ_ z=>nomatch z),h.n9,h.mq,h.pW,ZF h.cU (kN _ _ h.cU.1) kT,h.iL.keep λc ws hc e=>⟨kL _ _ e,hc⟩,k _ _ h.d_ (λ_ z=>nomatch z),h.gO.keep kT λb xs _ e=>kL b xs e,⟨kt,ZF t1 (kN _ _ t1.1) kT,t2.keep λc ws hc e=>⟨kL _ _ e,hc⟩⟩,⟨kb,ZF b1 (kN _ _ b1.1) kT,b2⟩,⟨zs,kL _ _ s1,s2.keep kT⟩,h.iJ,h.n1,h.n2,h.n3,λb o e=>s b o (λz=>by rw[z,h0] at e;cases e) (h.old b o e),λb hb=>by
  obtain⟨xs,hx⟩:=h.jP b hb;exact⟨xs,kL _ _ hx⟩,h.pX,h.fr⟩
end
theorem VN{x y:Wd}(h:a_ x y=false):y.length<=x.length:=by
 by_cases z:x.length<y.length
 ·unfold a_ at h;rw[ag (by lia),aF z] at h;cases h
 ·lia
theorem fold_min(ws:Nat->Wd):∀n j,j<=n->a_ (ws j) (ws (c6 (λi j=>a_ (ws i) (ws j)) n))=false
 | 0,j,h=>by
  obtain rfl:j=0:=by lia
  exact qS _
 | n+1,j,h=>by
  have e:c6 (λi j=>a_ (ws i) (ws j)) (n+1)=if a_ (ws (n+1)) (ws (c6 (λi j=>a_ (ws i) (ws j)) n))=true then n+1 else c6 (λi j=>a_ (ws i) (ws j)) n:=rfl
  rw[e]
  split
  ·rename_i hb
   by_cases hj:j=n+1
   ·rw[hj];exact qS _
   ·have h1:=fold_min ws n j (by lia);refine Kl h1 ?_;by_cases z:ws (c6 (λi j=>a_ (ws i) (ws j)) n)=ws (n+1)
    ·rw[z];exact qS _
    ·rw[Di z,hb];rfl
  ·rename_i hb
   by_cases hj:j=n+1
   ·rw[hj];exact Bool.eq_false_iff.mpr hb
   ·exact fold_min ws n j (by lia)
def Wo(P:Program)(w:World)(C:Addr)(H:Hp)(d:Gd)(g:Gs):Prop:=H d.a=some (.ins C d.dx (ER d))/\bF P w H d.dw d.kw/\aW H d.ml d.kw g.sl/\∃zs,H d.ls=some (.lst zs)/\iR H zs g.st
def zJ(ts:List Int)(qs:List av.Qd)(f:FQ):Prop := ∀g,GI ts qs f g->g.sl.length<=63/\cnt g.sl qs<=4000
def DN(P:Program)(w:World)(C CM XB Pt:Addr):Sp:=λvs H Q E=>∃(p m:Addr)(one fm:FQ),vs=[.ref p,.ref m]/\dE H p one/\iw CM H m fm/\lN fm/\one.ts.length<=63/\one.ts.Nodup/\(∀q∈one.qs,PyData.strOk q.2.1=true)/\zJ one.ts one.qs fm/\cL H Pt io /\
 (∀d g H',iQ one.ts one.qs fm g->g.tl=[]->(∀b∈g.bl,∃w,(b,w)∈g.sl)->fO Pt H H'->cL H' Pt io->Wo P w C H' d g->(∀b∈Own d,H b=none)->Q (.ref d.a) H') /\
 (∀g H',iQ one.ts one.qs fm g->g.tl=[]->(∃b∈g.bl,∀w,(b,w)∉g.sl)->fO Pt H H'->cL H' Pt io->E (.ref XB) none H')
theorem making{x dx:Addr}(hx:H x=none)(Fh:H dx=none)(aO:dx≠x):Zi H (upd (upd H dx (.own x)) x (.ins C dx [])):=(Zi.new Fh).trans (Zi.new (by
 rw[Zc aO.symm];exact hx))
theorem Lw:∀{aa:List (ZG×Addr×V)}{k:ZG}{b:Addr}{v:V},(aa.map (·.1)).Nodup->(k,b,v)∈aa->valN aa k=some v
 | x::aa,k,b,v,gS,hm=>by
  rw[cu,fD] at gS;unfold valN;rcases aJ.mp hm with e|e
  ·rw[<- e,qp (by simp)];rfl
  ·have aO:x.1≠k:=λz=>gS.1 (by rw[z];exact aS.mpr ⟨_,e,rfl⟩);rw[qo (by simpa using aO)];exact Lw gS.2 e
set_option maxHeartbeats 4000000 in
theorem Tj(B:∀x∈dM,mg x=none)(bm:o6 base mg)(eF:fd.code=.ref cc)(hw:PySem.W.codeHdIn K cc Pt=true)(xc:XC K mg iT dG)(aD:tH K C)(Ez:oJ P w K mg base C "Growth" ["self","form","measure"] 2 (D0 P w C CM)) (EA:ic P w K mg base C "settle" ["self","pair"] 4 (Dx P w C CM)) (uw:dY P w K mg base "rank_of_words" ["words"] 1 DP) (F:bR K "grown" "grown" oW f fd):aX P w K mg base (j6 P w) 5 f fd ["form","measure"] (DN P w C CM dG Pt):=by
 refine F.ZqI eF Kd (λvs H Q E h=>?_) (λA outer s H vs Q E hr h=>?_)
 ·obtain⟨p,m,one,fm,rfl,_⟩:=h;rfl
 obtain⟨p,m,one,fm,rfl,hF,hK,hL,gW,jO,nO,fh,T0,Q1,Q2⟩:=h;have cN:=lE hr;obtain⟨OZ,hP0,_⟩:=id T0;refine Zt ((Zf oW).drop 3) (Zj (Z3 (pv 2))) (λu3 h3 e3=>?_);refine Zt ((Zf oW).drop 2) (Zd (c5 (kj (Zx (Dy rfl) rfl (B "any" (by decide)) D8 (Zb (oX (cl:=_) ["pair"] [("growth",2)] (Df (Z6 (pv 2) rfl)) (λ_ _ _ _=>(Zq (i:=0) (show List.Nodup (["pair","growth"]:List Str) by decide) rfl (Or.inl rfl))) (λ_ _ _ _=>(D4 (CN (P:=P) (w:=w) rfl rfl cN (pv 0) (Kx (K:=K) rfl (pv 1) rfl)))) rfl rfl (by decide) rfl (by decide) (jD (by(repeat' first|exact bx _|refine bw.mpr ⟨?_,?_⟩) <;> rfl)) (ke (by(repeat' first|exact bx _|refine bw.mpr ⟨?_,?_⟩) <;> first|(intro h;exact⟨_,rfl⟩)|(intro h;exact absurd h (by decide)))) (λ_=>by(repeat' first|exact bx _|refine bw.mpr ⟨?_,?_⟩) <;> exact⟨rfl,rfl,Or.inl rfl⟩) (λ_=>rfl)) Ze)) (λ_=>rfl))
   (Zj (Sw xc.Zrk xc.ZpZ xc.Oq JR hr rfl (Zb wH Ze)))
   ZQ) h3) (λu2 h2 e2=>?_)
 refine Zt ((Z4 ((Zf oW).getD 1 (.Pass ⟨0,0,0,0⟩))).drop 0) (Zj (ij (tS EA hr (pv 2) aD.cls (Zb (QX (show HN _ _ io _ _ _ _ _ "pair" [("growth",2)] 1 _ from⟨bm,⟨_,rfl,hw⟩,(by first|exact .head _|exact .tail _ (.head _)|exact .tail _ (.tail _ (.head _))),λq hq _ _=>(show ∀q∈io,q.2=_ from by(repeat' first|exact bx _|refine bw.mpr ⟨?_,?_⟩) <;> rfl) q hq,rfl,rfl,⟨rfl,rfl,rfl,by decide,rfl,jD (by(repeat' first|exact bx _|refine bw.mpr ⟨?_,?_⟩) <;> rfl),U2 (by(repeat' first|exact bx _|refine bw.mpr ⟨?_,?_⟩) <;> first|(intro h;exact⟨_,rfl⟩)|(intro h;exact absurd h (by decide))),by(repeat' first|exact bx _|refine bw.mpr ⟨?_,?_⟩) <;> exact⟨rfl,rfl,rfl⟩⟩,λ_ _ _ _=>rfl,λ_ _ _ _ _ hr=>(d5 uw hr rfl (Zb (Jz (P:=P) (w:=w) rfl rfl (lE hr) (Kx (K:=K) rfl (pv 1) rfl) (pv 0) (λ_ _=>rfl)) Ze))⟩) rfl hr rfl (B "min" (by decide)) (Zb (Z6 (pv 2) rfl) Ze)) Ze)))) (λZrn ET Eo=>?_)
 refine Zt ((Zf oW).drop 1) (Zd (SO PassesOwn.leaving (RT (Z6 (pv 2) rfl) (λ_=>rfl))
   ET) h2) (λu1 h1 e1=>?_)
 refine Zt ((Zf oW).drop 0) (Zd (Zz (i:=2) Kd.nd rfl (Or.inr rfl) (tU Ez hr rfl (Zb (pv 0) (Zb (pv 1) Ze)))) h1) (λu0 h0 e0=>?_);refine⟨u0,h0,?_⟩;have cT:∀(H0:Hp)(d:Gd)(g:Gs)(H1:Hp),aM P w C CM H0 H1 d one.qs fm g->iQ one.ts one.qs fm g->g.tl=[]->cL H1 Pt io->fO Pt H H1->(∀b∈Own d,H b=none)->u2 { nx:=λ_ H'=>Q .aG H',rt:=Q } [some (.ref p),some (.ref m),some (.ref d.a)] H1:=by
  intro H0 d g H1 hG ah gX T1 sT own;refine Zr e2 ?_;obtain⟨kb,b1,b2⟩:=id hG.gP;have Nr:kb.length=g.bl.length:=by have:=congrArg List.length b2;simpa using this
  have hsz:=ah.gi.u_;have bY:=(fh g ah.gi).2;rw[<- ah.cnt] at bY;refine⟨_,rfl,d.a,C,d.dx,_,_,rfl,hG.ins,aD.cls,aD.n7,rfl,d.db,kb,rfl,b1.1,λob pl aA=>Ro (ob:=ob) (λj us σ H2=>∃v0:Option V,σ =[v0,some (.ref d.a)]/\Zi (upd H1 d.db (.aI ob (Zm P w d.db kb))) H2/\H2 pl=some (.lst us)/\us=((g.bl.take j).map λb=>!(aY g.sl b).isSome).map V.bl)
   ⟨none,rfl,Zi.new aA,Za,rfl⟩ ?_ ?_ ?_⟩
  ·rintro j us σ H2 _ ⟨v0,_,sm,h,_⟩;exact⟨sm _ _ Za,h⟩
  ·rintro j us k b v σ H2 hj eV ⟨v0,rfl,sm,h,rfl⟩;obtain⟨pr,iE,ek⟩:∃pr,g.bl[j]?= some pr/\k=pk pr:=by
    have h1:(kb.map (·.1))[j]?= some k:=by rw[cp,eV];rfl
    rw[b2,cp] at h1;obtain⟨pr,h2,h3⟩:=gG.mp h1;exact⟨pr,h2,h3.symm⟩
   subst ek;have pb:aN H2 b (pk pr):=(b1.2 _ (bU eV)).mono λc xs e=>sm _ _ (by
    rw[Zc (λz=>by rw[z,b1.1] at e;cases e)];exact e)
   have eA:H2 d.a=some (.ins C d.dx (ER d)):=sm _ _ (by
    rw[Zc (λz=>by have:=hG.ins;rw[z,b1.1] at this;cases this)];exact hG.ins)
   have eW:eM P w H2 d.dw d.kw:=⟨.inl (sm _ _ (by rw[Zc hG.n2];exact hG.cU.1)),λx hx=>(hG.cU.2 x hx).mono λc xs e=>sm _ _ (by
    rw[Zc (λz=>by rw[z,b1.1] at e;cases e)];exact e)⟩
   have hv:(valN d.kw (pk pr)).isSome=(aY g.sl pr).isSome:=by
    rcases hG.iL.val pr with⟨h1,h2⟩|⟨_,_,h1,h2,_⟩
    ·rw[h1,h2];rfl
    ·rw[h1,h2];rfl
   refine⟨_,rfl,_,rfl,d.a,C,d.dx,_,_,rfl,eA,aD.cls,aD.n3,rfl,d.dw,b,d.kw,_,rfl,rfl,eW,pb,h,?_,CW.next hj ⟨_,rfl,sm.cC aA,Za,?_⟩⟩
   ·rw[aT,ay,ay,cY];lia
   ·rw[Zk iE,cZ,cZ,hv];rfl
  rintro us σ H2 ⟨v0,rfl,sm,h,rfl⟩;rw[Nr,cH] at h;have pV:∀b o,H1 b=some o->b≠d.db->H2 b=some o:=λb o e n=>sm _ _ (by rw[Zc n];exact e);have fw:∀b o,H1 b=some o->(∀F,o ≠ .ext F)->b≠d.db:=λb o e n z=>by
   rw[z,b1.1] at e;injection e with e;exact n _ e.symm
  have kT:∀b xs,H1 b=some (.tup xs)->H2 b=some (.tup xs):=λb xs e=>pV _ _ e (fw _ _ e λ_ z=>nomatch z)
  have T2:cL H2 Pt io:=T1.keep (λps e=>pV _ _ e (fw _ _ e λ_ z=>nomatch z)) λb o u e=>pV _ _ e (fw _ _ e λ_ z=>nomatch z)
  have du:H d.db=none:=own _ (by simp[Own]);have mr:fO Pt H H2:=λb o hb e=>pV _ _ (sT b o hb e) (λz=>by rw[z,du] at e;cases e);refine⟨pl,_,rfl,aj.of h,_,rfl,cz (λc=>?_) (λc=>?_)⟩
  ·have hx:∃b∈g.bl,∀w,(b,w)∉g.sl:=by
    obtain⟨y,hy,h2⟩:=k9.mp c;obtain⟨b,hb,rfl⟩:=aS.mp hy;refine⟨b,hb,λw hw=>?_⟩;rw[Z0 (ZX ah.gi.nd).1 hw] at h2;cases h2
   exact⟨by decide,λy hy=>Q2 g _ ah gX hx (λb o hb e=>(Zi.new hy) _ _ (mr b o hb e)) (T2.same (Zi.new hy))⟩
  ·refine Zr e3 ?_;refine⟨_,rfl,Q1 d g H2 ah gX (λb hb=>?_) mr T2 ⟨pV _ _ hG.ins (fw _ _ hG.ins λ_ z=>nomatch z),ZF hG.cU ((pV _ _ hG.cU.1 hG.n2).trans hG.cU.1.symm) kT,hG.iL.keep λc ws hc e=>⟨pV _ _ e (fw _ _ e λ_ z=>nomatch z),hc⟩,?_⟩ own⟩
   ·cases e:aY g.sl b with
    | some w=>exact⟨w,oU e⟩
    | none =>
     refine absurd (k9.mpr ⟨!(aY g.sl b).isSome,aS.mpr ⟨b,hb,rfl⟩,?_⟩) c;rw[e];rfl
   ·obtain⟨zs,z1,z2⟩:=hG.iK;exact⟨zs,pV _ _ z1 (fw _ _ z1 λ_ z=>nomatch z),z2.keep kT⟩
 have sI:∀(H0:Hp)(d:Gd)(H1:Hp),aM P w C CM H0 H1 d one.qs fm (wJ one fm)->cL H1 Pt io->fO Pt H H1->(∀b∈Own d,H b=none)->u1 { nx:=λ_ H'=>Q .aG H',rt:=Q } [some (.ref p),some (.ref m),some (.ref d.a)] H1:=by
  intro H0 d H1 hG T1 sT own;refine Zr e1 ?_;refine⟨λn σ H2=>∃(vD:Hp)(d':Gd)(g':Gs),σ =[some (.ref p),some (.ref m),some (.ref d'.a)]/\aM P w C CM vD H2 d' one.qs fm g'/\iQ one.ts one.qs fm g'/\cL H2 Pt io/\fO Pt H H2/\(∀b∈Own d',H b=none)/\n=64-g'.sl.length,⟨_,H0,d,_,rfl,hG,qZ jO ⟨tL hL.2.2.2,by have:=hL.2.1;lia⟩,T1,sT,own,rfl⟩,?_⟩;rintro n σ H2 ⟨vD,d',g',rfl,oF,ah,T2,mr,BE,rfl⟩;obtain⟨kt,t1,t2⟩:=id oF.gZ;have Nt:kt.length=g'.tl.length:=t2.length;refine⟨_,rfl,d'.a,C,d'.dx,_,_,rfl,oF.ins,aD.cls,aD.n6,rfl,d'.dt,kt,rfl,t1.r,?_⟩;refine cz (λc=>?_) (λc=>?_)
  ·have aO:kt ≠ []:=λz=>by rw[z] at c;cases c
   have Zsm:=(fh g' ah.gi).1;refine⟨λσ H3=>∃(vD:Hp)(qD:Gd)(oE:Gs),σ =[some (.ref p),some (.ref m),some (.ref qD.a)]/\aM P w C CM vD H3 qD one.qs fm oE/\iQ one.ts one.qs fm oE/\cL H3 Pt io/\fO Pt H H3/\(∀b∈Own qD,H b=none)/\oE.sl.length=g'.sl.length+1,λao H3 ⟨O5,qD,oE,a1,a2,a3,a4,a5,a6,a7⟩=>⟨_,?_,O5,qD,oE,a1,a2,a3,a4,a5,a6,rfl⟩,?_⟩
   ·have:=(fh oE a3.gi).1;lia
   refine Zr Eo ?_;refine⟨_,rfl,d'.a,d'.dx,_,rfl,oF.ins,rfl,_,rfl,d'.a,C,d'.dx,_,_,rfl,oF.ins,aD.cls,aD.n6,rfl,?_⟩;obtain⟨tp2,uz,_⟩:=id T2;have nP:∀b o,H2 b=some o->(∀ps,o ≠ .bC ps)->b≠Pt:=λb o e n z=>by
    rw[z,uz] at e;injection e with e;exact n _ e.symm
   have uV:d'.dt≠Pt:=nP _ _ t1.1 λ_ z=>nomatch z
   have nf:∀o u,H d'.dt≠some (.aI o u):=λo u z=>by
    rw[BE d'.dt (by simp[Own])] at z;cases z
   have X7:=oF.ZqF uz;refine⟨T2,d'.dt,kt,λi j=>a_ (((g'.tl[i]?).map (·.2)).getD []) (((g'.tl[j]?).map (·.2)).getD []),rfl,t1.1,aO,nf,λlf H3 ob hlf OP T3=>⟨λpm c_=>⟨λi k H=>∃r c,k=.ref r/\ug H r c (((g'.tl[i]?).map (·.2)).getD [])/\r≠pm/\c≠pm/\jx (((g'.tl[i]?).map (·.2)).getD []),?_,?_,?_⟩,λb k v H4 hk BK T4 gk=>?_⟩⟩
   ·rintro i k H H' ⟨r,c,rfl,h,n1,n2,ok⟩ kp;exact⟨r,c,rfl,⟨kp _ _ n2 h.1,kp _ _ n1 h.2⟩,n1,n2,ok⟩
   ·rintro i j k k' H ⟨r,c,rfl,h,n1,n2,ok⟩ ⟨r',c',rfl,h',Pp,Ci,Ck⟩;exact K9 h h' ok Ck
   ·intro i x H5 hx sm Bg;rw[cp] at hx;obtain⟨⟨key,b,v⟩,eV,rfl⟩:=gG.mp hx;obtain⟨e,he,ek,c,ec,hc,xD⟩:=t2.get i _ eV;have ek:key=pk e.1:=ek;have ec:v=.ref c:=ec;subst ek ec;have Gq:∀b o,H2 b=some o->(∀ps,o ≠ .bC ps)->b≠d'.dt->H5 b=some o:=λb o e n n2=>sm _ _ (by
     rw[Zc n2];exact OP _ _ (nP _ _ e n) e)
    have nU:∀b o,H2 b=some o->(∀F,o ≠ .ext F)->b≠d'.dt:=λb o e n z=>by
     rw[z,t1.1] at e;injection e with e;exact n _ e.symm
    have Gy:∀b xs,H2 b=some (.tup xs)->H5 b=some (.tup xs):=λb xs e=>Gq b _ e (λ_ z=>nomatch z) (nU _ _ e λ_ z=>nomatch z)
    have Nf:H5 c=some (.lst (e.2.map V.str)):=Gq _ _ hc (λ_ z=>nomatch z) (nU _ _ hc λ_ z=>nomatch z)
    have Ew:((g'.tl[i]?).map (·.2)).getD []=e.2:=by rw[he];rfl
    rw[Ew];have hv:valN kt (pk e.1)=some (.ref c):=by
     have pY:=(ZX ah.gi.nd).2.1;rcases t2.val e.1 with⟨h1,_⟩|⟨w',c',h1,h2,_⟩
     ·rw[Z0 pY (show(e.1,e.2)∈g'.tl from bU he)] at h1;cases h1
     ·rw[h2];have gS:(kt.map (·.1)).Nodup:=by
       rw[t2.keys];have:=pY;rw[show g'.tl.map (λe=>pk e.1)=(g'.tl.map (·.1)).map pk by rw[gF];rfl];exact jk.mpr (this.imp λaO z=>aO (rh z))
      have hf:valN kt (pk e.1)=some (.ref c):=Lw gS (bU eV);rw[hf] at h2;exact h2.symm
    refine⟨_,rfl,d'.a,C,d'.dx,_,_,rfl,Gq _ _ oF.ins (λ_ z=>nomatch z) (nU _ _ oF.ins λ_ z=>nomatch z),aD.cls,aD.n6,rfl,_,rfl,d'.dt,b,kt,pk e.1,_,rfl,rfl,⟨.inr ⟨ob,sm _ _ Za⟩,λx hx=>(t1.2 x hx).mono Gy⟩,(t1.2 _ (bU eV)).mono Gy,hv,c,e.2,rfl,Nf,λr hr=>⟨Zi.new hr,r,c,rfl,⟨(Zi.new hr) _ _ Nf,Za⟩,λz=>Bg (z ▸ hr),λz=>?_,(ah.ok e (bO _ (bU he))).1⟩⟩
    have:(upd H3 d'.dt (.aI ob (Zm P w d'.dt kt))) c=some (.lst (e.2.map V.str)):=by
     rw[Zc (nU _ _ hc λ_ z=>nomatch z)]
     exact OP _ _ (nP _ _ hc λ_ z=>nomatch z) hc
    rw[z] at this;exact absurd (this.symm.trans c_) (λz=>nomatch z)
   ·have htm:kt.length-1<kt.length:=by
     have:=B1.mpr aO;lia
    obtain⟨e,he,ek,c,ec,hc,xD⟩:=t2.get _ _ hk;have ek:k=pk e.1:=ek;have pY:=(ZX ah.gi.nd).2.1;have bB:=bU he;have gw:aY g'.tl e.1=some e.2:=Z0 pY (show(e.1,e.2)∈g'.tl from bB);have Ew:((g'.tl[c6 (λi j=>a_ (((g'.tl[i]?).map (·.2)).getD []) (((g'.tl[j]?).map (·.2)).getD [])) (kt.length-1)]?).map (·.2)).getD []=e.2:=by rw[he];rfl
    have rV:∀t∈g'.tl,e.2.length<=t.2.length:=λt ht=>by
     obtain⟨j,hj⟩:=iM.mp ht;have Fw:=(dc.mp hj).1;have h1:=fold_min (λi=>((g'.tl[i]?).map (·.2)).getD []) (kt.length-1) j (by lia);rw[Ew,hj] at h1;exact VN h1
    have dN:=(X7.BL uz BK (by show(if Pt=Pt then none else _)=none;rw[ai rfl])).reb
    have pop:=fh _ (KI ah.gi gw);have bW:g'.sl.length+1<=63:=by
     have:=pop.1;show _;have e:(ix g' e.1 e.2).sl.length=g'.sl.length+1:=by
      show(g'.sl ++ [(e.1,e.2)]).length=_;rw[bL];rfl
     lia
    have pb4:aN H4 b (pk e.1):=by
     have:=t1.2 _ (bU hk);rw[ek] at this;exact this.mono λb xs e=>BK b _ (nP _ _ e λ_ z=>nomatch z) e
    unfold gf;dsimp only[List.cons_append,List.nil_append];refine⟨b,nj H4 d',d',one.ts,one.qs,fm,g',e.1,e.2,rfl,dN,pb4,gw,ah,rV,by lia,hL,nO,pop.2,gW,λqD H5 oE uy Zo5 eS ea edt Gy=>?_⟩;rw[<- ea];obtain⟨tp4,X9,_⟩:=id T4;have Gv:∀b o,H4 b=some o->b∉Own d'->H5 b=some o:=λb o e n=>uy.old b o (by
     unfold nj;rw[ag n];exact e)
    refine⟨_,qD,oE,rfl,uy,Zo5,T4.keep (λps e=>Gv _ _ e (dN.own e (λ_ _ _ z=>nomatch z) (λ_ z=>nomatch z) (λ_ z=>nomatch z) λ_ z=>nomatch z)) (λb o u e=>Gv _ _ e (dN.own e (λ_ _ _ z=>nomatch z) (λ_ z=>nomatch z) (λ_ z=>nomatch z) λ_ z=>nomatch z)),λb o hb e=>Gv b o (BK b o hb (mr b o hb e)) (λz=>by rw[BE b z] at e;cases e),λb hb=>?_,by rw[eS,bL];rfl⟩
    have h1:nj H4 d' b=none:=uy.fr b hb;unfold nj at h1
    split at h1
    ·rename_i h2
     exact BE b h2
    ·cases z:H b with
     | none=>rfl
     | some o =>
      by_cases rJ:b=Pt
      ·rw[rJ,X9] at h1;cases h1
      ·rw[BK b o rJ (mr b o rJ z)] at h1;cases h1
  ·have gX:g'.tl=[]:=by
    have:kt=[]:=by
     cases kt with
     | nil=>rfl
     | cons x xs=>exact absurd rfl c
    rw[this] at Nt;exact om Nt.symm
   exact cT vD d' g' H2 oF ah gX T2 mr BE
 refine Zr e0 ?_;refine⟨_,rfl,_,rfl,λx4 d4 kH gk rW=>?_⟩;refine⟨x4,p,m,d4,H,one,fm,rfl,Za,making kH gk rW,kH,hF,hK,gW,jO,λd H' hG ha=>⟨rfl,?_⟩⟩;show u1 _ _ _;have:=sI H d H' hG (T0.same hG.old) (λb o _ e=>hG.old b o e) λb hb=>hG.fr b hb;rw[ha] at this;exact this
theorem US(hq:q.2.1≠SL)(ha:fI SL 0 wa)(hb:fI SL 0 wb):fI SL 0 (br q wa wb):=by
 unfold br;rw[Ah hq];have key:∀(n:Nat)(as:Wd),fI SL n as->∀m,fI SL (n+(m+1)) (as++SL::wb)↔fI SL m wb:=by
  intro n as
  induction as generalizing n with
  | nil =>
   intro h m;have h:n=0:=h;subst h;rw[List.nil_append,Af];constructor
   ·rintro⟨_,h⟩;rw[show 0+(m+1)-1=m by lia] at h;exact h
   ·intro h;exact⟨by lia,by rw[show 0+(m+1)-1=m by lia];exact h⟩
  | cons a as ih =>
   intro h m;rw[vi];by_cases e:a=SL
   ·subst e;obtain⟨h1,h2⟩:=Af.mp h;rw[Af,show n+(m+1)-1=(n-1)+(m+1) by lia];constructor
    ·rintro⟨_,h⟩;exact(ih _ h2 m).mp h
    ·intro h;exact⟨by lia,(ih _ h2 m).mpr h⟩
   ·rw[Ah e];rw[show n+(m+1)+1=(n+1)+(m+1) by lia];exact ih _ ((Ah e).mp h) m
 exact(key 0 wa ha 0).mpr hb
theorem T9{f:FQ}(h:GI ts qs f g)(hq:∀q∈qs,km q.2.1/\q.2.1.length<=8):∀(i:Nat)(e:Pk×Wd),g.sl[i]?= some e->fI SL 0 e.2/\L5 e.2:=by
 intro i
 induction i using Nat.strongRecOn with
 | ind i ih =>
  intro e he;rcases h.sr i e he with⟨k,_,rfl⟩|⟨q,nN,a,wa,b,wb,ha,hb,_,_,rfl⟩
  ·exact⟨rfl,λw hw=>(nomatch hw)⟩
  ·obtain⟨ja,rO⟩:=iM.mp ha;obtain⟨jb,rP⟩:=iM.mp hb;have la:=(dc.mp rO).1;have lb:=(dc.mp rP).1;rw[cY] at la lb;rw[B0 (by lia)] at rO rP;obtain⟨c1,l1⟩:=ih ja (by lia) _ rO;obtain⟨c2,l2⟩:=ih jb (by lia) _ rP;obtain⟨q1,q2⟩:=hq q nN;refine⟨US q1.ne c1 c2,λw hw=>?_⟩;have hw:w∈q.2.1::(wa++SL::wb):=hw;rcases aJ.mp hw with rfl|hw
   ·exact .inr ⟨q1,q2⟩
   ·rcases bc.mp hw with hw|hw
    ·exact l1 w hw
    ·rcases aJ.mp hw with rfl|hw
     ·exact .inl rfl
     ·exact l2 w hw
def dZ(H:Hp)(zs:List V)(ms:List Pk):Prop:=Paired (λz m=>∃t c r xs g,z=V.ref t/\H t=some (.tup [.int m.1,.ref c,.ref r])/\H c=some (.tup (m.2.map V.int))/\H r=some (.tup xs)/\eN H xs g) zs ms
theorem dZ.keep{H H':Hp}(s:Zi H H'):∀{zs:List V}{ms:List Pk},dZ H zs ms->dZ H' zs ms
 | _,_,.nil=>.nil
 | _,_,.cons ⟨t,c,r,xs,g,h1,h2,h3,h4,h5⟩ k=>.cons ⟨t,c,r,xs,g,h1,s _ _ h2,s _ _ h3,s _ _ h4,h5.mono s.tk⟩ (dZ.keep s k)
theorem dZ.N_{H H':Hp}(s:TK H H'):∀{zs:List V}{ms:List Pk},dZ H zs ms->dZ H' zs ms
 | _,_,.nil=>.nil
 | _,_,.cons ⟨t,c,r,xs,g,h1,h2,h3,h4,h5⟩ k=>.cons ⟨t,c,r,xs,g,h1,s _ _ h2,s _ _ h3,s _ _ h4,h5.mono s⟩ (dZ.N_ s k)
theorem dZ.length{H:Hp}{zs:List V}{ms:List Pk}(h:dZ H zs ms):zs.length=ms.length:=de h
theorem dZ.snoc{H:Hp}{t c r:Addr}{xs:List V}{g:Gr Str}{m:Pk}(h2:H t=some (.tup [.int m.1,.ref c,.ref r]))(h3:H c=some (.tup (m.2.map V.int)))(h4:H r=some (.tup xs))(h5:eN H xs g):∀{zs:List V}{ms:List Pk},dZ H zs ms->dZ H (zs ++ [.ref t]) (ms ++ [m])
 | _,_,.nil=>.cons ⟨t,c,r,xs,g,rfl,h2,h3,h4,h5⟩ .nil
 | _,_,.cons a b=>.cons a (dZ.snoc h2 h3 h4 h5 b)
def DG(P:Program)(w:World)(CM XB Pt:Addr):Sp:=λvs H Q E=>∃(p m:Addr)(one fm:FQ),vs=[.ref p,.ref m]/\dE H p one/\iw CM H m fm/\lN fm/\one.ts.length<=63/\one.ts.Nodup/\(∀q∈one.qs,km q.2.1/\q.2.1.length<=8)/\zJ one.ts one.qs fm/\cL H Pt io /\
 (∀r zs ms g H',iQ one.ts one.qs fm g->g.tl=[]->(∀b∈g.bl,∃w,(b,w)∈g.sl)->fO Pt H H'->cL H' Pt io->H r=none->H' r=some (.lst zs)->dZ H' zs ms->ms.Perm (g.sl.map (·.1))->ms.Pairwise (λa b=>av.ni b a=false)->Q (.ref r) H') /\
 (∀H',fO Pt H H'->cL H' Pt io->E (.ref XB) none H')
set_option maxHeartbeats 4000000 in
theorem SR(B:∀x∈dM,mg x=none)(aD:tH K C)(EF:vL P w K mg base "grown" ["form","measure"] 5 (DN P w C CM XB Pt)) (EE:dY P w K mg base "grove_of" ["words"] 2 (JG K)) (F:bR K "table" "table" wz f fd):aX P w K mg base (j6 P w) 6 f fd ["form","measure"] (DG P w CM XB Pt):=by
 refine F.okX Kh (λvs H Q E h=>?_) (λaP A outer s H vs Q E hr h=>?_)
 ·obtain⟨p,m,one,fm,rfl,_⟩:=h;rfl
 obtain⟨p,m,one,fm,rfl,hF,hK,hL,gW,jO,nO,fh,T0,Q1,Q2⟩:=h;have cN:=lE hr;refine Zt ((Zf wz).drop 1) (Zj (Z3 (oX (cl:=_) ["kind","value"] [("words",2)] (iU (Zx (P6 (P:=P) (w:=w) rfl rfl rfl cN) rfl (B "sorted" (by decide)) JC (Zb (pv 2) Ze))) (λ_ _ _ _=>(Uh (K:=K) (n:=2) rfl rfl (Z2 (Zq (i:=0) (show List.Nodup (["kind","value","words"]:List Str) by decide) rfl (Or.inl rfl)) (Z2 (Zq (i:=1) (show List.Nodup (["kind","value","words"]:List Str) by decide) rfl (Or.inl rfl)) wF)))) (λ_ _ _ _=>(c7 (Zb (pv 0) (Zb (pv 1) (Zb (d5 EE hr rfl (Zb (Jz (P:=P) (w:=w) rfl rfl cN (pv 2) (c7 (Zb (pv 0) (Zb (pv 1) Ze))) (λ_ _=>rfl)) Ze)) Ze))))) rfl rfl (by decide) rfl (by decide) (jD (by(repeat' first|exact bx _|refine bw.mpr ⟨?_,?_⟩) <;> rfl)) (ke (by(repeat' first|exact bx _|refine bw.mpr ⟨?_,?_⟩) <;> first|(intro h;exact⟨_,rfl⟩)|(intro h;exact absurd h (by decide)))) (λ_=>by(repeat' first|exact bx _|refine bw.mpr ⟨?_,?_⟩) <;> exact⟨rfl,rfl,Or.inl rfl⟩) (λ_=>rfl)))) (λu1 h1 e1=>?_)
 refine Zt ((Zf wz).drop 0) (Zd (Zz (i:=2) Kh.nd rfl (Or.inr rfl) (Z6 (KN EF JR hr rfl (Zb (pv 0) (Zb (pv 1) Ze))) rfl)) h1) (λu0 h0 e0=>?_);refine⟨u0,h0,?_⟩;refine Zr e0 ?_;refine⟨_,rfl,_,rfl,p,m,one,fm,rfl,hF,hK,hL,gW,jO,λq hq=>o5.ok (nO q hq).1.Oc,fh,T0,λd g H1 ah gX iB sT T1 ⟨i1,i2,i3,i4⟩ own=>?_,λg H1 ah gX iB sT T1=>Q2 H1 sT T1⟩;refine⟨d.a,C,d.dx,_,_,rfl,i1,aD.cls,aD.n3,rfl,?_⟩;show u1 _ _ _;refine Zr e1 ?_;have l64:=(fh g ah.gi).1;have A9:d.kw.length=g.sl.length:=i3.length;refine⟨_,rfl,d.dw,d.kw,g.sl.map (·.1),rfl,i2.r,by lia,by rw[i3.keys,gF];rfl,λrs zs ms hrs c_ hpw Bp=>?_⟩;have s2:Zi H1 (upd H1 rs (.lst zs)):=Zi.new hrs;have e2:(upd H1 rs (.lst zs)) rs=some (.lst zs):=Za;have k2:∀b o,H1 b=some o->(upd H1 rs (.lst zs)) b=some o:=s2;have Gh:=Bp.keep (H':=upd H1 rs (.lst zs)) λb xs e=>s2 _ _ e;have T2:=T1.same s2;have mr:fO Pt H (upd H1 rs (.lst zs)):=λb o hb e=>s2 _ _ (sT b o hb e);have Gm:eM P w (upd H1 rs (.lst zs)) d.dw d.kw:=⟨.inl (s2 _ _ i2.1),λx hx=>(i2.2 x hx).mono λb xs e=>s2 _ _ e⟩;have N4:=i3.keep (H':=upd H1 rs (.lst zs)) (ml':=d.ml) λc ws hc e=>⟨s2 _ _ e,hc⟩;clear k2;generalize upd H1 rs (.lst zs)=H2 at e2 Gh T2 mr Gm N4 ⊢;have good:=T9 ah.gi nO;have jQ:=(ZX ah.gi.nd).1;have eG:ms.length=zs.length:=Gh.length.symm;refine⟨rs,rfl,⟨_,aj.of e2⟩,λpl aA=>Aa (K:=K) (a:=rs) (p:=pl) (xs:=zs) (λj us σ H3=>∃v0 v1:Option V,σ =[v0,v1,some (.ref d.dw)]/\Zi H2 H3/\H3 pl=some (.lst us)/\dZ H3 us (ms.take j))
  ⟨none,none,rfl,Zi.new aA,Za,.nil⟩ ?_ ?_ ?_⟩
 ·rintro j us σ H3 _ ⟨_,_,_,sm,h,_⟩;exact⟨aj.of (sm _ _ e2),h⟩
 ·rintro j us x σ H3 hj hx ⟨v0,v1,rfl,sm,h,hR⟩;obtain⟨b,mm,hm,rfl,pb⟩:=Gh.get j x hx;obtain⟨cb,BF,uY⟩:=id pb;rw[fZ] at uY;have bB:mm∈g.sl.map (·.1):=c_.mem_iff.mp (bU hm);obtain⟨⟨iP,ws⟩,Bd,rfl⟩:=aS.mp bB;obtain⟨ie,pD⟩:=iM.mp Bd;obtain⟨gc,gl⟩:=good ie _ pD;obtain⟨lw,v3,x3,m3⟩:∃lw,valN d.kw (pk iP)=some (.ref lw)/\H2 lw=some (.lst (ws.map V.str))/\lw∉d.ml:=by
   rcases N4.val iP with⟨h1,_⟩|⟨w',c',h1,h2,h3,h4⟩
   ·rw[Z0 jQ Bd] at h1;cases h1
   ·rw[Z0 jQ Bd] at h1;injection h1 with h1;subst h1;exact⟨c',h2,h3,h4⟩
  have wl:ws.length<=600:=ah.gi.len _ (dy _ Bd);refine⟨b,_,rfl,ar.of (sm _ _ BF),rfl,_,_,rfl,_,_,rfl,rfl,?_⟩;refine⟨_,rfl,_,rfl,_,rfl,_,rfl,_,rfl,by show(2:Nat)<=sizeLine;decide,λt ht=>?_⟩;have s4:Zi H3 (upd H3 t (.tup [.int iP.1,.ref cb])):=Zi.new ht;have et:(upd H3 t (.tup [.int iP.1,.ref cb])) t=some (.tup [.int iP.1,.ref cb]):=Za;refine⟨d.dw,t,d.kw,pk iP,_,rfl,rfl,?_,⟨cb,et,by rw[fZ];exact s4 _ _ (sm _ _ uY)⟩,v3,lw,ws,rfl,aj.of (s4 _ _ (sm _ _ x3)),by lia,gc,gl,λr xs gr H5 s5 NP er Zpm _ _=>?_⟩
  ·refine⟨?_,λx hx=>(Gm.2 x hx).mono λb xs e=>s4 _ _ (sm _ _ e)⟩;rcases Gm.1 with h|⟨o,h⟩
   ·exact .inl (s4 _ _ (sm _ _ h))
   ·exact .inr ⟨o,s4 _ _ (sm _ _ h)⟩
  refine⟨by show(3:Nat)<=sizeLine;decide,λt2 pQ=>?_⟩;have s6:Zi H5 (upd H5 t2 (.tup [.int iP.1,.ref cb,.ref r])):=Zi.new pQ;have AJ:(upd H5 t2 (.tup [.int iP.1,.ref cb,.ref r])) t2=some (.tup [.int iP.1,.ref cb,.ref r]):=Za;have yD:=(s4.trans s5).trans s6;have FP:=hR.length;rw[cY] at FP;refine⟨yD _ _ h,?_,CW.next hj ⟨_,_,rfl,(sm.trans yD).cC aA,Za,?_⟩⟩
  ·rw[aT];have:ms.length=g.sl.length:=by have:=c_.length_eq;rwa [ay] at this
   lia
  ·rw[Zk hm];have kp:∀b o,(upd H5 t2 (.tup [.int iP.1,.ref cb,.ref r])) b=some o->(∀l,o ≠ .lst l)->(upd (upd H5 t2 (.tup [.int iP.1,.ref cb,.ref r])) pl (.lst (us ++ [.ref t2]))) b=some o:=λb o e n=>by
    rw[Zc]
    ·exact e
    ·intro z;rw[z,yD _ _ h] at e;injection e with e;exact n _ e.symm
   have kT:TK (upd H5 t2 (.tup [.int iP.1,.ref cb,.ref r])) (upd (upd H5 t2 (.tup [.int iP.1,.ref cb,.ref r])) pl (.lst (us ++ [.ref t2]))):=λb xs e=>kp b _ e λ_ z=>nomatch z
   refine dZ.snoc (kT _ _ AJ) (kT _ _ (yD _ _ (sm _ _ uY))) (kT _ _ (s6 _ _ er)) ((Zpm.mono s6.tk).mono kT) (dZ.N_ kT (hR.keep yD))
 rintro us σ H3 ⟨v0,v1,rfl,sm,h,hR⟩;rw[<- eG,cH] at hR;have Zpd:H pl=none:=by
  cases z:H pl with
  | none=>rfl
  | some o =>
   by_cases hb:pl=Pt
   ·obtain⟨tp,hP,_⟩:=T2;rw[hb,hP] at aA;cases aA
   ·rw[mr _ _ hb z] at aA;cases aA
 exact Q1 pl us ms g H3 ah gX iB (λb o hb e=>sm _ _ (mr b o hb e)) (T2.same sm) Zpd h hR c_ hpw
def bI(H:Hp)(zs:List V)(ms:List Pk):Prop:=Paired (λz m=>∃t c rest,z=V.ref t/\H t=some (.tup (.int m.1 :: .ref c::rest))/\H c=some (.tup (m.2.map V.int))) zs ms
theorem bI.keep{H H':Hp}(s:TK H H'):∀{zs:List V}{ms:List Pk},bI H zs ms->bI H' zs ms
 | _,_,.nil=>.nil
 | _,_,.cons ⟨t,c,r,h1,h2,h3⟩ k=>.cons ⟨t,c,r,h1,s _ _ h2,s _ _ h3⟩ (bI.keep s k)
theorem bI.length{H:Hp}{zs:List V}{ms:List Pk}(h:bI H zs ms):zs.length=ms.length:=de h
theorem bI.get{H:Hp}:∀{zs:List V}{ms:List Pk},bI H zs ms->∀(i:Nat) z,zs[i]?= some z->∃m t c rest,ms[i]?= some m/\z=V.ref t/\H t=some (.tup (.int m.1 :: .ref c::rest))/\H c=some (.tup (m.2.map V.int))
 | _,_,.cons ⟨t,c,r,h1,h2,h3⟩ k,i,z,hz=>by
  cases i with
  | zero =>
   injection hz with hz;subst hz;exact⟨_,t,c,r,rfl,h1,h2,h3⟩
  | succ i=>exact bI.get k i z hz
def fY(H:Hp)(zs:List V)(ms:List Pk):Prop:=Paired (λz m=>∃c,z=V.ref c/\H c=some (.tup (m.2.map V.int))) zs ms
theorem fY.keep{H H':Hp}(s:TK H H'):∀{zs:List V}{ms:List Pk},fY H zs ms->fY H' zs ms
 | _,_,.nil=>.nil
 | _,_,.cons ⟨c,h1,h2⟩ k=>.cons ⟨c,h1,s _ _ h2⟩ (fY.keep s k)
theorem fY.length{H:Hp}{zs:List V}{ms:List Pk}(h:fY H zs ms):zs.length=ms.length:=de h
theorem fY.get{H:Hp}:∀{zs:List V}{ms:List Pk},fY H zs ms->∀(i:Nat) z,zs[i]?= some z->∃m c,ms[i]?= some m/\z=V.ref c/\H c=some (.tup (m.2.map V.int))
 | _,_,.cons ⟨c,h1,h2⟩ k,i,z,hz=>by
  cases i with
  | zero =>
   injection hz with hz;subst hz;exact⟨_,c,rfl,h1,h2⟩
  | succ i=>exact fY.get k i z hz
theorem fY.snoc{H:Hp}{c:Addr}{m:Pk}(h:H c=some (.tup (m.2.map V.int))):∀{zs:List V}{ms:List Pk},fY H zs ms->fY H (zs ++ [.ref c]) (ms ++ [m])
 | _,_,.nil=>.cons ⟨c,rfl,h⟩ .nil
 | _,_,.cons a b=>.cons a (fY.snoc h b)
def eJ(H0 H:Hp)(m:List (Key×V))(ps:List Pk):Prop:=(∀k:Int,(aQ m (Sum.inl k)=none/\(ps.filter λx=>decide (x.1=k))=[])\/∃l zs,aQ m (Sum.inl k)=some (.ref l)/\H l=some (.lst zs)/\fY H zs (ps.filter λx=>decide (x.1=k))/\H0 l=none)/\∀k k' l,aQ m (Sum.inl k)=some (.ref l)->aQ m (Sum.inl k')=some (.ref l)->k=k'
theorem eJ.keep{H0 H H':Hp}{m:List (Key×V)}{ps:List Pk}(h:eJ H0 H m ps)(k1:TK H H')(k2:∀b xs,H b=some (.lst xs)->H' b=some (.lst xs)):eJ H0 H' m ps:=⟨λk=>by
 rcases h.1 k with h1|⟨l,zs,h1,h2,h3,h4⟩
 ·exact .inl h1
 ·exact .inr ⟨l,zs,h1,k2 _ _ h2,h3.keep k1,h4⟩,h.2⟩
variable{l:Addr}{H0:Hp}{m:List (Key×V)}{ps:List Pk}
theorem eJ.old(h:eJ H0 H m ps)(hc:H c=some (.tup (p.2.map V.int)))(v:aQ m (Sum.inl p.1)=some (.ref l))(e:H l=some (.lst zs)):eJ H0 (upd H l (.lst (zs ++ [.ref c]))) m (ps ++ [p]):=by
 have kT:TK H (upd H l (.lst (zs ++ [.ref c]))):=λb xs e'=>by
  rw[Zc (λz=>by rw[z,e] at e';cases e')];exact e'
 refine⟨λk=>?_,h.2⟩;rw[zV];by_cases hk:p.1=k
 ·subst hk;rw[ai rfl];rcases h.1 p.1 with⟨h1,_⟩|⟨l',dD,h1,h2,h3,h4⟩
  ·rw[h1] at v;cases v
  ·rw[h1] at v;injection v with v;injection v with v;subst v;rw[h2] at e;injection e with e;injection e with e;subst e;exact .inr ⟨l',_,h1,Za,fY.snoc (kT _ _ hc) (h3.keep kT),h4⟩
 ·rw[ag hk,gE];rcases h.1 k with h1|⟨l',dD,h1,h2,h3,h4⟩
  ·exact .inl h1
  ·exact .inr ⟨l',dD,h1,by rw[Zc (λz=>hk (h.2 p.1 k l v (by rw[<- z];exact h1)))];exact h2,h3.keep kT,h4⟩
theorem eJ.new(h:eJ H0 H m ps)(hc:H c=some (.tup (p.2.map V.int)))(v:aQ m (Sum.inl p.1)=none)(hl:H l=none)(h0:H0 l=none)(kT:TK H H')(kL:∀b xs,H b=some (.lst xs)->H' b=some (.lst xs))(e:H' l=some (.lst [.ref c])):eJ H0 H' (putK m (Sum.inl p.1) (.ref l)) (ps ++ [p]):=by
 have vk:∀k,aQ (putK m (Sum.inl p.1) (.ref l)) (Sum.inl k)=if p.1=k then some (.ref l) else aQ m (Sum.inl k):=λk=>by
  by_cases hk:p.1=k
  ·rw[ai hk,hk,q5,ai rfl]
  ·rw[ag hk,q5,ag (λz=>hk (by injection z with z;exact z.symm))]
 have gT:∀k,aQ m (Sum.inl k)≠some (.ref l):=λk hk=>by
  rcases h.1 k with⟨h1,_⟩|⟨l',dD,h1,h2,_⟩
  ·rw[h1] at hk;cases hk
  ·rw[h1] at hk;injection hk with hk;injection hk with hk;rw[<- hk,h2] at hl;cases hl
 refine⟨λk=>?_,λk k' l' h1 h2=>?_⟩
 ·rw[zV,vk];by_cases hk:p.1=k
  ·subst hk;have hf:(ps.filter λx=>decide (x.1=p.1))=[]:=by
    rcases h.1 p.1 with⟨_,h2⟩|⟨l',dD,h1,_⟩
    ·exact h2
    ·rw[v] at h1;cases h1
   rw[ai rfl,ai rfl,hf];exact .inr ⟨l,_,rfl,e,.cons ⟨c,rfl,kT _ _ hc⟩ .nil,h0⟩
  ·rw[ag hk,ag hk,gE];rcases h.1 k with h1|⟨l',dD,h1,h2,h3,h4⟩
   ·exact .inl h1
   ·exact .inr ⟨l',dD,h1,kL _ _ h2,h3.keep kT,h4⟩
 ·rw[vk] at h1 h2
  split at h1
  ·rename_i c1
   split at h2
   ·rename_i c2
    exact c1.symm.trans c2
   ·injection h1 with h1;injection h1 with h1;exact absurd h2 (h1 ▸ gT _)
  ·split at h2
   ·injection h2 with h2;injection h2 with h2;exact absurd h1 (h2 ▸ gT _)
   ·exact h.2 _ _ l' h1 h2
def gJ(H:Hp)(zs:List V)(vs:List (List Int)):Prop:=Paired (λz v=>∃c,z=V.ref c/\H c=some (.tup (v.map V.int))) zs vs
theorem gJ.keep{H H':Hp}(s:TK H H'):∀{zs:List V}{vs:List (List Int)},gJ H zs vs->gJ H' zs vs
 | _,_,.nil=>.nil
 | _,_,.cons ⟨c,h1,h2⟩ k=>.cons ⟨c,h1,s _ _ h2⟩ (gJ.keep s k)
theorem gJ.length{H:Hp}{zs:List V}{vs:List (List Int)}(h:gJ H zs vs):zs.length=vs.length:=de h
theorem gJ.get{H:Hp}:∀{zs:List V}{vs:List (List Int)},gJ H zs vs->∀(i:Nat) z,zs[i]?= some z->∃v c,vs[i]?= some v/\z=V.ref c/\H c=some (.tup (v.map V.int))
 | _,_,.cons ⟨c,h1,h2⟩ k,i,z,hz=>by
  cases i with
  | zero =>
   injection hz with hz;subst hz;exact⟨_,c,rfl,h1,h2⟩
  | succ i=>exact gJ.get k i z hz
theorem gJ.snoc{H:Hp}{c:Addr}{v:List Int}(h:H c=some (.tup (v.map V.int))):∀{zs:List V}{vs:List (List Int)},gJ H zs vs->gJ H (zs ++ [.ref c]) (vs ++ [v])
 | _,_,.nil=>.cons ⟨c,rfl,h⟩ .nil
 | _,_,.cons a b=>.cons a (gJ.snoc h b)
theorem eJ.xn{l0:Addr}(h:eJ H0 H m ps)(k:Int)(e:H l0=some (.lst [])):∃l zs,(aQ m (Sum.inl k)).getD (.ref l0)=.ref l/\H l=some (.lst zs)/\fY H zs (ps.filter λx=>decide (x.1=k)):=by
 rcases h.1 k with⟨h1,h2⟩|⟨l,zs,h1,h2,h3,h4⟩
 ·exact⟨l0,[],by rw[h1];rfl,e,by rw[h2];exact .nil⟩
 ·exact⟨l,zs,by rw[h1];rfl,h2,h3⟩
def fL(one fm:FQ)(S:List Pk):Prop:=(∀k∈one.ts,((k,fm.ts):Pk)∈S)/\∀q∈one.qs,∀a∈S,∀b∈S,a.1=q.2.2.1->b.1=q.2.2.2->aZ fm q a b∈S
theorem fL.iff{one:FQ}{S T:List Pk}(h:∀x,x∈S↔x∈T):fL one fm S↔fL one fm T:=by
 unfold fL;simp only[h]
theorem lK{kp:List (ZG×Addr×V)}(h:kp.map (·.1)=ps.map pk)(p:Pk):(valN kp (pk p)).isSome=true↔p∈ps:=by
 unfold valN;rw[qw,vn];constructor
 ·rintro⟨x,h1,h2⟩;have h3:x.1∈ps.map pk:=by rw[<- h];exact aS.mpr ⟨x,h1,rfl⟩
  rw[bh h2] at h3;obtain⟨y,h4,h5⟩:=aS.mp h3;rw[<- rh h5];exact h4
 ·intro hp;have h3:pk p∈kp.map (·.1):=by rw[h];exact aS.mpr ⟨p,hp,rfl⟩
  obtain⟨x,h1,h2⟩:=aS.mp h3;exact⟨x,h1,aF h2⟩
theorem lP{F:Hp}{o1 o2:HO}(e1:F a=some o1)(e2:F b=some o2)(h:o1≠o2):a≠b:=λz=>h (cE (e1.symm.trans ((congrArg F z).trans e2)))
variable{xs:List V}
theorem w6{a:V}:iy (a::xs) 0=some a:=wg (j:=0) rfl
theorem ro{a b:V}:iy (a::b::xs) 1=some b:=wg (j:=1) rfl
def qX(K:PySem.W.Frag)(CM:Addr):Sp:=λvs H Q _=>∃(p m r:Addr)(one fm:FQ)(zs:List V)(ms:List Pk),vs=[.ref p,.ref m,.ref r]/\dE H p one/\iw CM H m fm/\lN fm/\one.ts.length<=63/\one.qs.length<=63/\aj K H r zs/\bI H zs ms/\ms.length<=500/\(∀x∈ms,qM x) /\
 ∀(b:Bool) H',(b=true↔fL one fm ms)->Zi H H'->Q (.bl b) H'
set_option maxHeartbeats 4000000 in
theorem J5(B:∀x∈dM,mg x=none)(uq:fJ K CM)(EC:ic P w K mg base CM "nothing" ["self"] 1 (wc CM)) (EB:ic P w K mg base CM "above" ["self","tag","inner","rest"] 2 (vX CM)) (F:bR K "holds" "holds" fN f fd):aX P w K mg base cx 3 f fd ["form","measure","rows"] (qX K CM):=by
 refine F.ok ki (λvs H Q E h=>?_) (λaP A outer s H vs Q E hr h=>?_)
 ·obtain⟨p,m,r,one,fm,zs,ms,rfl,_⟩:=h;rfl
 obtain⟨p,m,r,one,fm,zs,ms,rfl,hF,hK,hL,gW,sh,hS,hR,eG,ah,Q1⟩:=h;have cN:=lE hr;have gq:(A.deeper (PyProof.Rows.envOfC (Str.ofString "holds") (Zn fN) s.heap.objs.size f aP)).units+1<cLine:=by have:=hr.un;lia
 obtain⟨f1,f2,f3,zf,a1,a2,a3,a4,a5⟩:=id hF;have dQ:=hR.length;refine Zt ((Zf fN).drop 6) (Zj (Z3 f')) (λu6 h6 e6=>?_);refine Zt ((Z4 ((Z4 ((Zf fN).getD 5 (.Pass ⟨0,0,0,0⟩))).getD 0 (.Pass ⟨0,0,0,0⟩))).drop 1) (Zj (c5 (kj (Zx (Dy rfl) rfl (B "any" (by decide)) D8 (Zb (oX (cl:=_) ["value"] [("pairs",3),("kind",7)] (iU (pv 12)) (λ_ _ _ _=>(Zq (i:=0) (show List.Nodup (["value","pairs","kind"]:List Str) by decide) rfl (Or.inl rfl))) (λ_ _ _ _=>(D4 (CN (P:=P) (w:=w) rfl rfl cN (c7 (Zb (pv 2) (Zb (pv 0) Ze))) (pv 1)))) rfl rfl (by decide) rfl (by decide) (jD (by(repeat' first|exact bx _|refine bw.mpr ⟨?_,?_⟩) <;> rfl)) (ke (by(repeat' first|exact bx _|refine bw.mpr ⟨?_,?_⟩) <;> first|(intro h;exact⟨_,rfl⟩)|(intro h;exact absurd h (by decide)))) (λ_=>by(repeat' first|exact bx _|refine bw.mpr ⟨?_,?_⟩) <;> exact⟨rfl,rfl,Or.inl rfl⟩) (λ_=>rfl)) Ze)) (λ_=>rfl))
   (Zj (Z3 f'))
   ZQ)) (λZrv X4 Xf=>?_)
 refine Zt ((Z4 ((Z4 ((Zf fN).getD 5 (.Pass ⟨0,0,0,0⟩))).getD 0 (.Pass ⟨0,0,0,0⟩))).drop 0) (Zd (zX (cl:=_) (n0:=12) ki.nd rfl (Or.inl rfl) ["behind"] [("measure",1),("tag",8),("within",11)] (iU (wq gq (pv 4) (pv 10) (Z1 Ze) ⟨rfl,rfl,rfl,rfl⟩)) (λ_ _ _ _=>(Zq (i:=0) (show List.Nodup (["behind","measure","tag","within"]:List Str) by decide) rfl (Or.inl rfl))) (λ_ _ _ _=>(tS EB hr (pv 1) uq (Zb (pv 2) (Zb (pv 3) (Zb (pv 0) Ze))))) rfl rfl (by decide) rfl (by decide) (jD (by(repeat' first|exact bx _|refine bw.mpr ⟨?_,?_⟩) <;> rfl)) (ke (by(repeat' first|exact bx _|refine bw.mpr ⟨?_,?_⟩) <;> first|(intro h;exact⟨_,rfl⟩)|(intro h;exact absurd h (by decide)))) (λ_=>by(repeat' first|exact bx _|refine bw.mpr ⟨?_,?_⟩) <;> exact⟨rfl,rfl,Or.inl rfl⟩) (λ_=>rfl) rfl) X4) (λZtc X3 Xe=>?_)
 refine Zt ((Z4 ((Zf fN).getD 5 (.Pass ⟨0,0,0,0⟩))).drop 0) (Zj (e_ fE rfl (iU (wq gq (pv 4) (pv 9) (Z1 Ze) ⟨rfl,rfl,rfl,rfl⟩)) (Zq (i:=11) ki.nd rfl (Or.inr rfl))
   X3)) (λZru EV Er=>?_)
 refine Zt ((Zf fN).drop 5) (Zd (e_ fE rfl (lI (ZJ ZD (pv 0) Zh (λ_ _=>rfl))) (wM rfl (Z2 (Zq (i:=7) ki.nd rfl (Or.inr rfl)) (Z2 (Zq (i:=8) ki.nd rfl (Or.inr rfl)) (Z2 (Zq (i:=9) ki.nd rfl (Or.inl rfl)) (Z2 (Zq (i:=10) ki.nd rfl (Or.inl rfl)) wF)))))
   EV) h6) (λu5 h5 e5=>?_)
 refine Zt ((Zf fN).drop 4) (Zd (c5 (kj (Zx (Dy rfl) rfl (B "any" (by decide)) D8 (Zb (oX (cl:=_) ["end"] [("pairs",3),("nothing",6)] (lI (ZJ ZD (pv 0) Zh (λ_ _=>rfl))) (λ_ _ _ _=>(Zq (i:=0) (show List.Nodup (["end","pairs","nothing"]:List Str) by decide) rfl (Or.inl rfl))) (λ_ _ _ _=>(D4 (CN (P:=P) (w:=w) rfl rfl cN (c7 (Zb (pv 0) (Zb (pv 2) Ze))) (pv 1)))) rfl rfl (by decide) rfl (by decide) (jD (by(repeat' first|exact bx _|refine bw.mpr ⟨?_,?_⟩) <;> rfl)) (ke (by(repeat' first|exact bx _|refine bw.mpr ⟨?_,?_⟩) <;> first|(intro h;exact⟨_,rfl⟩)|(intro h;exact absurd h (by decide)))) (λ_=>by(repeat' first|exact bx _|refine bw.mpr ⟨?_,?_⟩) <;> exact⟨rfl,rfl,Or.inl rfl⟩) (λ_=>rfl)) Ze)) (λ_=>rfl))
   (Zj (Z3 f'))
   ZQ) h5) (λu4 h4 e4=>?_)
 refine Zt ((Zf fN).drop 3) (Zd (Zz (i:=6) ki.nd rfl (Or.inr rfl) (Ki EC hr (pv 1) uq)) h4) (λu3 h3 e3=>?_);refine Zt ((Z4 ((Z4 ((Zf fN).getD 2 (.Pass ⟨0,0,0,0⟩))).getD 0 (.Pass ⟨0,0,0,0⟩))).drop 1) (Zj (ij (lO jX mF mG jA (Dw (pv 4) (ZJ ZD (pv 5) Zh (λ_ _=>rfl)) (Z1 Ze) ⟨rfl,rfl,rfl,rfl⟩) (Zb (ZJ ZD (pv 5) Zh (λ_ _=>rfl)) Ze)))) (λZs5 XN W4=>?_);refine Zt ((Z4 ((Z4 ((Zf fN).getD 2 (.Pass ⟨0,0,0,0⟩))).getD 0 (.Pass ⟨0,0,0,0⟩))).drop 0) (Zd (wj cN (pv 3) (c7 (Zb (ZJ ZD (pv 5) Zh (λ_ _=>rfl)) (Zb (ZJ ZD (pv 5) Zh (λ_ _=>rfl)) Ze))) f' rfl) XN) (λZrq EU Ep=>?_);refine Zt ((Z4 ((Zf fN).getD 2 (.Pass ⟨0,0,0,0⟩))).drop 0) (Zj (c5 (ue (zT cN (c7 (Zb (ZJ ZD (pv 5) Zh (λ_ _=>rfl)) (Zb (ZJ ZD (pv 5) Zh (λ_ _=>rfl)) Ze))) (pv 3)))
   EU
   ZQ)) (λHj xr xk=>?_)
 refine Zt ((Zf fN).drop 2) (Zd (e_ fE rfl (iU (pv 2)) (Zq (i:=5) ki.nd rfl (Or.inl rfl))
   xr) h3) (λu2 h2 e2=>?_)
 refine Zt ((Zf fN).drop 1) (Zd (Zz (i:=4) ki.nd rfl (Or.inl rfl) zY) h2) (λu1 h1 e1=>?_);refine Zt ((Zf fN).drop 0) (Zd (Zz (i:=3) ki.nd rfl (Or.inr rfl) z6) h1) (λu0 h0 e0=>?_);refine⟨u0,h0,?_⟩;have gB:∀(dp da:Addr)(kp:List (ZG×Addr×V))(mm:List (Key×V))(ps:List Pk)(H1:Hp)(y5:Option V),Zi H H1->bF P w H1 dp kp->kp.map (·.1)=ps.map pk->H1 da=some (.dK mm)->eJ H H1 mm ps->ps.length<=500->(∀x,x∈ps↔x∈ms)->u3 { nx:=λ_ H'=>Q .aG H',rt:=Q } [some (.ref p),some (.ref m),some (.ref r),some (.ref dp),some (.ref da),y5,none,none,none,none,none,none,none] H1:=by
  intro dp da kp mm ps H1 y5 sm eP cW eD hA xV bB;have cl:fL one fm ps↔fL one fm ms:=fL.iff bB;obtain⟨ur,Og,Oh,Oe,Oi,uS,_⟩:=id hK;have NC:∀x∈ps,qM x:=λx hx=>ah x ((bB x).mp hx);refine Zr e3 ?_;refine⟨_,rfl,m,ur,_,rfl,sm _ _ uS,rfl,m,fm,rfl,hK.same sm,λrn xX=>?_⟩;show u4 _ _ _;refine Zr e4 ?_;have z1:=sm _ _ a1;have z3:=sm _ _ a3;refine⟨_,rfl,p,_,2,_,rfl,rfl,ar.of z1,rfl,f2,rfl,⟨_,ar.of z3⟩,λpl aA=>z_ (K:=K) (a:=f2) (p:=pl) (xs:=one.ts.map V.int) (λj us σ H2=>∃v0:Option V,σ =[v0,some (.ref dp),some (.ref rn)]/\Zi H1 H2/\H2 pl=some (.lst us)/\us=((one.ts.take j).map λk=>!(valN kp (pk (k,fm.ts))).isSome).map V.bl)
   ⟨none,rfl,Zi.new aA,Za,rfl⟩ ?_ ?_ ?_⟩
  ·rintro j us σ H2 _ ⟨_,_,b_,h,_⟩;exact⟨ar.of (b_ _ _ z3),h⟩
  ·rintro j us x σ H2 hj hx ⟨v0,rfl,b_,h,rfl⟩;rw[cp] at hx;obtain⟨y,hy,rfl⟩:=gG.mp hx;refine⟨_,rfl,_,rfl,by show(2:Nat)<=sizeLine;decide,λt ht=>?_⟩;have q1:Zi H2 (upd H2 t (.tup [.int y,.ref rn])):=Zi.new ht;have q2:=b_.trans q1;refine⟨_,rfl,dp,t,kp,pk (y,fm.ts),rfl,rfl,(ZF eP ((q2 _ _ eP.1).trans eP.1.symm) λb xs e=>q2 _ _ e).r,⟨rn,Za,by rw[fZ];exact q2 _ _ xX⟩,q1 _ _ h,?_,CW.next hj ⟨_,rfl,q2.cC aA,Za,?_⟩⟩
   ·have:=hj;rw[ay] at this;rw[aT,ay,ay,cY];lia
   ·rw[Zk hy,cZ,cZ];rfl
  rintro us σ H2 ⟨v0,rfl,b_,h,rfl⟩;rw[ay,cH] at h;refine⟨pl,_,rfl,aj.of h,_,rfl,cz (λc=>?_) (λc=>?_)⟩
  ·refine Q1 false H2 ⟨λz=>(nomatch z),λz=>?_⟩ (sm.trans b_)
   obtain⟨y,hy,h2⟩:=k9.mp c;obtain⟨k,hk,rfl⟩:=aS.mp hy;rw[(lK cW _).mpr ((cl.mpr z).1 k hk)] at h2;cases h2
  have Fj:∀k∈one.ts,((k,fm.ts):Pk)∈ps:=λk hk=>(lK cW _).mp (by
   cases z:(valN kp (pk (k,fm.ts))).isSome with
   | true=>rfl
   | false =>
    refine absurd (k9.mpr ⟨!(valN kp (pk (k,fm.ts))).isSome,aS.mpr ⟨k,hk,rfl⟩,?_⟩) c;rw[z];rfl)
  have cG:=sm.trans b_;have lV:bF P w H2 dp kp:=ZF eP ((b_ _ _ eP.1).trans eP.1.symm) λb xs e=>b_ _ _ e;have AH:=b_ _ _ eD;have MT:eJ H H2 mm ps:=hA.keep (λb xs e=>b_ _ _ e) λb xs e=>b_ _ _ e;have Zsv:=b_ _ _ xX;clear aA h c eP eD hA xX z1 z3 b_ sm;show u5 _ _ _;refine Zr e5 ?_;have z1:=cG _ _ a1;have z4:=cG _ _ a4;have z5:=a5.keep (H':=H2) λb xs e=>cG _ _ e;have Gf:=z5.length;refine⟨_,rfl,p,_,3,_,rfl,rfl,ar.of z1,rfl,f3,rfl,⟨_,ar.of z4⟩,wy (K:=K) (a:=f3) (xs:=zf) (λj σ H3=>∃(y7 y8 y9 ck sN sO:Option V),σ =[some (.ref p),some (.ref m),some (.ref r),some (.ref dp),some (.ref da),y5,some (.ref rn),y7,y8,y9,ck,sN,sO]/\Zi H2 H3/\∀q∈one.qs.take j,∀a∈ps,∀b∈ps,a.1=q.2.2.1->b.1=q.2.2.2->aZ fm q a b∈ps)
   ⟨none,none,none,none,none,none,rfl,λ_ _ h=>h,λq h=>(nomatch h)⟩ ?_ ?_ ?_⟩
  ·rintro j σ H3 _ ⟨_,_,_,_,_,_,_,sm,_⟩;exact ar.of (sm _ _ z4)
  ·rintro j x σ H3 hx ⟨y7,y8,y9,ck,sN,sO,rfl,sm,hd⟩;obtain⟨rq,q,kC,rfl,FR⟩:=z5.get j x hx;refine⟨rq,_,rfl,ar.of (sm _ _ FR),rfl,_,_,rfl,_,_,rfl,_,_,rfl,_,_,rfl,rfl,?_⟩;refine Zr Er ?_;have iA:=sm _ _ AH;refine⟨_,rfl,da,rfl,.inl ⟨mm,.inl iA⟩,_,rfl,by decide,λl0 bp=>?_⟩;have q4:Zi H3 (upd H3 l0 (.lst [])):=Zi.new bp;have uu:(upd H3 l0 (.lst [])) l0=some (.lst []):=Za;generalize upd H3 l0 (.lst [])=H4 at q4 uu ⊢;have yA:=sm.trans q4;have X5:eJ H H4 mm ps:=MT.keep (λb xs e=>yA _ _ e) λb xs e=>yA _ _ e;obtain⟨l,zl,xp,lX,ux⟩:=X5.xn q.2.2.1 uu;refine⟨_,iX.k (k:=Sum.inl q.2.2.1) (yA _ _ AH),?_⟩;rw[xp];refine⟨l,rfl,⟨_,aj.of lX⟩,mX (K:=K) (a:=l) (xs:=zl) (λi σ H5=>∃(sN sO:Option V),σ =[some (.ref p),some (.ref m),some (.ref r),some (.ref dp),some (.ref da),y5,some (.ref rn),some (.int q.1),some (.str q.2.1),some (.int q.2.2.1),some (.int q.2.2.2),sN,sO]/\Zi H4 H5/\∀a∈(ps.filter λx=>decide (x.1=q.2.2.1)).take i,∀b∈ps,b.1=q.2.2.2->aZ fm q a b∈ps)
    ⟨_,_,rfl,λ_ _ h=>h,λq h=>(nomatch h)⟩ ?_ ?_ ?_⟩
   ·rintro i σ H5 _ ⟨_,_,_,sH,_⟩;exact aj.of (sH _ _ lX)
   ·rintro i x σ H5 hx ⟨sN,sO,rfl,sH,nB⟩;obtain⟨pa,ca,xU,rfl,YC⟩:=ux.get i x hx;have uO:=dz.mp (bU xU);have Zo9:pa.1=q.2.2.1:=bh uO.2;have OL:=yA.trans sH;refine Zr Xe ?_;refine⟨_,rfl,da,rfl,.inl ⟨mm,.inl (OL _ _ AH)⟩,_,rfl,by decide,λl1 bW=>?_⟩;have q6:Zi H5 (upd H5 l1 (.lst [])):=Zi.new bW;have xl:(upd H5 l1 (.lst [])) l1=some (.lst []):=Za;generalize upd H5 l1 (.lst [])=H6 at q6 xl ⊢;have jg:=OL.trans q6;have X6:eJ H H6 mm ps:=MT.keep (λb xs e=>jg _ _ e) λb xs e=>jg _ _ e;obtain⟨l2,O3,Xx,MO,Ey⟩:=X6.xn q.2.2.2 xl;refine⟨_,iX.k (k:=Sum.inl q.2.2.2) (jg _ _ AH),?_⟩;rw[Xx];have N3:O3.length<=500:=by
     rw[Ey.length];have:=qt (λx:Pk=>decide (x.1=q.2.2.2)) ps;lia
    have YD:=q6 _ _ (sH _ _ YC);refine⟨l2,rfl,⟨_,aj.of MO⟩,λpl aA=>Aa (K:=K) (a:=l2) (p:=pl) (xs:=O3) (λj us σ H7=>∃v0:Option V,σ =[v0,some (.ref m),some (.str q.2.1),some (.ref ca)]/\Zi H6 H7/\H7 pl=some (.lst us)/\gJ H7 us (((ps.filter λx=>decide (x.1=q.2.2.2)).take j).map λb=>ji fm q.2.1 pa.2 b.2))
     ⟨none,rfl,Zi.new aA,Za,.nil⟩ ?_ ?_ ?_⟩
    ·rintro j us σ H7 _ ⟨_,_,og,h,_⟩;exact⟨aj.of (og _ _ MO),h⟩
    ·rintro j us x σ H7 hj hx ⟨v0,rfl,og,h,hV⟩;obtain⟨pb,cb,i_,rfl,YF⟩:=Ey.get j x hx;have r_:=dz.mp (bU i_);obtain⟨yd,kI⟩:=NC _ uO.1;obtain⟨kb1,kb2⟩:=NC _ r_.1;have yB:=jg.trans og;have hvl:=hV.length;rw[ay,cY] at hvl;refine⟨_,rfl,m,ur,_,rfl,yB _ _ (cG _ _ uS),rfl,_,rfl,_,rfl,_,rfl,m,ca,cb,q.2.1,fm,pa.2,pb.2,rfl,hK.same (cG.trans yB),hL,og _ _ YD,og _ _ YF,kI,kb2,yd,kb1,λrr ks H8 s8 er uQ=>⟨s8 _ _ h,by rw[aT];lia,CW.next hj ⟨_,rfl,(og.trans s8).cC aA,Za,?_⟩⟩⟩
     rw[Zk i_,cZ,cu,List.map_nil,t9 uQ];have kT:TK H8 (upd H8 pl (.lst (us ++ [.ref rr]))):=gL (s8 _ _ h);exact gJ.snoc (kT _ _ er) ((hV.keep λb xs e=>s8 _ _ e).keep kT)
    rintro us σ H7 ⟨v0,rfl,og,h,hV⟩;have ZpR:=Ey.length;rw[ZpR,cH] at hV;show Zrv _ _ _;refine Zr Xf ?_;have yB:=jg.trans og;have xZ:=hV.length;rw[ay] at xZ;refine⟨_,rfl,pl,rfl,⟨_,aj.of h⟩,λsv NI=>Aa (K:=K) (a:=pl) (p:=sv) (xs:=us) (λj vs σ H8=>∃v0:Option V,σ =[v0,some (.ref dp),some (.int q.1)]/\Zi H7 H8/\H8 sv=some (.lst vs)/\vs=((((ps.filter λx=>decide (x.1=q.2.2.2)).map λb=>ji fm q.2.1 pa.2 b.2).take j).map λv=>!(valN kp (pk (q.1,v))).isSome).map V.bl)
     ⟨none,rfl,Zi.new NI,Za,rfl⟩ ?_ ?_ ?_⟩
    ·rintro j vs σ H8 _ ⟨_,_,qc,h8,_⟩;exact⟨aj.of (qc _ _ h),h8⟩
    ·rintro j vs x σ H8 hj hx ⟨v0,rfl,qc,h8,rfl⟩;obtain⟨vv,cv,hvv,rfl,rK⟩:=hV.get j x hx;refine⟨_,rfl,_,rfl,by show(2:Nat)<=sizeLine;decide,λt ht=>?_⟩;have q9:Zi H8 (upd H8 t (.tup [.int q.1,.ref cv])):=Zi.new ht;have OM:=(yB.trans qc).trans q9;refine⟨_,rfl,dp,t,kp,pk (q.1,vv),rfl,rfl,(ZF lV ((OM _ _ lV.1).trans lV.1.symm) λb xs e=>OM _ _ e).r,⟨cv,Za,by rw[fZ];exact q9 _ _ (qc _ _ rK)⟩,q9 _ _ h8,?_,CW.next hj ⟨_,rfl,(qc.trans q9).cC NI,Za,?_⟩⟩
     ·rw[aT,ay,ay,cY,ay];lia
     ·rw[Zk hvv,cZ,cZ];rfl
    rintro vs σ H8 ⟨v0,rfl,qc,h8,rfl⟩;rw[xZ,yX (by rw[ay];exact aq _)] at h8;have s28:=yB.trans qc;refine⟨sv,_,rfl,aj.of h8,_,rfl,cz (λc=>?_) (λc=>?_)⟩
    ·refine Q1 false H8 ⟨λz=>(nomatch z),λz=>?_⟩ (cG.trans s28)
     obtain⟨y,hy,h2⟩:=k9.mp c;obtain⟨v,hv,rfl⟩:=aS.mp hy;obtain⟨pb,i_,rfl⟩:=aS.mp hv;have r_:=dz.mp i_;have hm:=(cl.mpr z).2 q (bU kC) pa uO.1 pb r_.1 Zo9 (bh r_.2);rw[(lK cW _).mpr (show((q.1,ji fm q.2.1 pa.2 pb.2):Pk)∈ps from hm)] at h2;cases h2
    ·refine⟨_,_,rfl,(((sH.trans q6).trans og).trans qc),λa ha b hb cX=>?_⟩;rw[Zk xU] at ha;rcases bc.mp ha with ha|ha
     ·exact nB a ha b hb cX
     ·rw[az.mp ha];refine(lK cW _).mp ?_;cases z:(valN kp (pk (aZ fm q pa b))).isSome with
      | true=>rfl
      | false =>
       refine absurd (k9.mpr ⟨!(valN kp (pk (q.1,ji fm q.2.1 pa.2 b.2))).isSome,aS.mpr ⟨_,aS.mpr ⟨b,dz.mpr ⟨hb,aF cX⟩,rfl⟩,rfl⟩,?_⟩) c;have z:(valN kp (pk (q.1,ji fm q.2.1 pa.2 b.2))).isSome=false:=z;rw[z];rfl
   ·rintro σ H5 ⟨sN,sO,rfl,sH,nB⟩;rw[ux.length,cH] at nB;refine⟨_,_,_,_,_,_,rfl,yA.trans sH,λq' cg a ha b hb h1 h2=>?_⟩;rw[Zk kC] at cg;rcases bc.mp cg with cg|cg
    ·exact hd q' cg a ha b hb h1 h2
    ·rw[az.mp cg] at h1 h2 ⊢;exact nB a (dz.mpr ⟨ha,aF h1⟩) b hb h2
  ·rintro σ H3 ⟨y7,y8,y9,ck,sN,sO,rfl,sm,hd⟩;rw[Gf,cH] at hd;show u6 _ _ _;refine Zr e6 ?_;exact Q1 true H3 ⟨λ_=>cl.mp ⟨Fj,hd⟩,λ_=>rfl⟩ (cG.trans sm)
 refine Zr e0 ?_;refine λdp pA=>?_;have s1:Zi H (upd H dp (Zm P w dp [])):=Zi.new pA;refine Zr e1 ?_;refine λda ky=>?_;have s2:Zi (upd H dp (Zm P w dp [])) (upd (upd H dp (Zm P w dp [])) da (.dK [])):=Zi.new ky;have gy:=s1.trans s2;have Xi:(upd (upd H dp (Zm P w dp [])) da (.dK [])) dp=some (Zm P w dp []):=s2 _ _ Za;have Xh:(upd (upd H dp (Zm P w dp [])) da (.dK [])) da=some (.dK []):=Za;have YM:H da=none:=by
  cases z:H da with
  | none=>rfl
  | some o =>
   exact absurd ((s1 _ _ z).symm.trans ky) (λy=>nomatch y)
 refine Zr e2 ?_;refine⟨_,rfl,r,rfl,⟨_,gy.seq hS⟩,mX (K:=K) (a:=r) (xs:=zs) (λi σ H1=>∃(y5:Option V)(kp:List (ZG×Addr×V))(mm:List (Key×V))(ps:List Pk),σ =[some (.ref p),some (.ref m),some (.ref r),some (.ref dp),some (.ref da),y5,none,none,none,none,none,none,none]/\Zi H H1/\bF P w H1 dp kp/\kp.map (·.1)=ps.map pk/\H1 da=some (.dK mm)/\mm.length<=ps.length/\eJ H H1 mm ps/\ps.length<=i/\∀x,x∈ps↔x∈ms.take i)
  ⟨none,[],[],[],rfl,gy,⟨Xi,λx hx=>(nomatch hx)⟩,rfl,Xh,aq _,⟨λk=>.inl ⟨rfl,rfl⟩,λk k' l h=>(nomatch h)⟩,aq _,λx=>⟨λh=>(nomatch h),λh=>(nomatch h)⟩⟩ ?_ ?_ ?_⟩
 ·rintro i σ H1 _ ⟨_,_,_,_,_,sm,_⟩;exact sm.seq hS
 ·rintro i x σ H1 hx ⟨y5,kp,mm,ps,rfl,sm,eP,cW,eD,Bf,hA,aA,bB⟩;obtain⟨mi,t,c,rest,pH,rfl,ht,hc⟩:=hR.get i x hx;have hi:=(dc.mp hx).1;have gn:=sm _ _ ht;have fq:=sm _ _ hc;refine Zr xk ?_;refine⟨_,rfl,t,_,0,_,rfl,rfl,ar.of gn,w6,_,rfl,t,_,1,_,rfl,rfl,ar.of gn,ro,by show(2:Nat)<=sizeLine;decide,λp1 eX=>?_⟩;have q1:Zi H1 (upd H1 p1 (.tup [.int mi.1,.ref c])):=Zi.new eX;have Xl:(upd H1 p1 (.tup [.int mi.1,.ref c])) p1=some (.tup [.int mi.1,.ref c]):=Za;have pk1:aN (upd H1 p1 (.tup [.int mi.1,.ref c])) p1 (pk mi):=⟨c,Xl,by rw[fZ];exact q1 _ _ fq⟩;have Mn:bF P w (upd H1 p1 (.tup [.int mi.1,.ref c])) dp kp:=ZF eP ((q1 _ _ eP.1).trans eP.1.symm) λb xs e=>q1 _ _ e;refine⟨_,rfl,dp,p1,kp,_,rfl,rfl,Mn.r,pk1,_,rfl,?_⟩;have ZsA:zs.length<=500:=by lia
  have A_:kp.length=ps.length:=by have:=congrArg List.length cW;simpa using this
  refine cz (λc1=>?_) (λc1=>?_)
  ·have gT:mi∉ps:=λhm=>by
    rw[(lK cW mi).mpr hm] at c1;cases c1
   have Hz:∀x,x∈ps ++ [mi]↔x∈ms.take (i+1):=λx=>by
    rw[Zk pH,bc,bc,bB]
   refine Zr Ep ?_;have pQ:=q1 _ _ gn;refine⟨_,rfl,_,rfl,t,_,0,_,rfl,rfl,ar.of pQ,w6,_,rfl,t,_,1,_,rfl,rfl,ar.of pQ,ro,by show(2:Nat)<=sizeLine;decide,λp2 dP=>?_⟩;have q2:Zi (upd H1 p1 (.tup [.int mi.1,.ref c])) (upd (upd H1 p1 (.tup [.int mi.1,.ref c])) p2 (.tup [.int mi.1,.ref c])):=Zi.new dP;have kM:=q1.trans q2;have pZ:aN (upd (upd H1 p1 (.tup [.int mi.1,.ref c])) p2 (.tup [.int mi.1,.ref c])) p2 (pk mi):=⟨c,Za,by rw[fZ];exact kM _ _ fq⟩;have lV:bF P w (upd (upd H1 p1 (.tup [.int mi.1,.ref c])) p2 (.tup [.int mi.1,.ref c])) dp kp:=ZF eP ((kM _ _ eP.1).trans eP.1.symm) λb xs e=>kM _ _ e;generalize upd (upd H1 p1 (.tup [.int mi.1,.ref c])) p2 (.tup [.int mi.1,.ref c])=H2 at kM pZ lV ⊢;clear q2;refine⟨dp,p2,kp,_,rfl,rfl,lV,pZ,by rw[aT];lia,?_⟩;have rC:=lV.put pZ (.bl true);have Mp:(putN kp (pk mi) p2 (.bl true)).map (·.1)=(ps ++ [mi]).map pk:=by
    rw[C_ cW];unfold iu;rw[ag gT]
   have cG:=sm.trans kM;have nP:∀b o,H2 b=some o->(∀F,o ≠ .ext F)->b≠dp:=λb o e n z=>by
    rw[z,lV.1] at e;injection e with e;exact n _ e.symm
   have k3:∀b o,H2 b=some o->(∀F,o ≠ .ext F)->(upd H2 dp (Zm P w dp (putN kp (pk mi) p2 (.bl true)))) b=some o:=λb o e n=>by
    rw[Zc (nP b o e n)];exact e
   have gA:Zi H (upd H2 dp (Zm P w dp (putN kp (pk mi) p2 (.bl true)))):=λb o e=>by
    rw[Zc (λz=>by rw[z,pA] at e;cases e)];exact cG b o e
   have iA:=k3 _ _ (kM _ _ eD) λ_ z=>nomatch z
   have EW:eJ H (upd H2 dp (Zm P w dp (putN kp (pk mi) p2 (.bl true)))) mm ps:=hA.keep (λb xs e=>k3 _ _ (kM _ _ e) λ_ z=>nomatch z) λb xs e=>k3 _ _ (kM _ _ e) λ_ z=>nomatch z
   have xY:=k3 _ _ (kM _ _ gn) λ_ z=>nomatch z
   have xB:=k3 _ _ (kM _ _ fq) λ_ z=>nomatch z
   have ym:da≠dp:=nP _ _ (kM _ _ eD) λ_ z=>nomatch z
   refine Zr W4 ?_;refine⟨_,rfl,da,rfl,.inl ⟨mm,.inl iA⟩,_,rfl,t,_,0,_,rfl,rfl,ar.of xY,w6,by decide,λl0 bp=>?_⟩;have q4:Zi (upd H2 dp (Zm P w dp (putN kp (pk mi) p2 (.bl true)))) (upd (upd H2 dp (Zm P w dp (putN kp (pk mi) p2 (.bl true)))) l0 (.lst [])):=Zi.new bp;have Y':H l0=none:=by
    cases z:H l0 with
    | none=>rfl
    | some o=>exact absurd ((gA _ _ z).symm.trans bp) (λy=>nomatch y)
   refine⟨mm,Sum.inl mi.1,q4 _ _ iA,rfl,by rw[aT];lia,λv hv=>?_,λhn=>?_⟩
   ·rcases EW.1 mi.1 with⟨h1,_⟩|⟨l,zl,h1,h2,h3,h4⟩
    ·rw[h1] at hv;cases hv
    ·rw[h1] at hv;injection hv with hv;subst hv;have h_:=q4 _ _ h2;have ZsB:zl.length<=500:=by
      rw[h3.length];have:=qt (λx:Pk=>decide (x.1=mi.1)) ps;lia
     refine⟨.inl ⟨rfl,_,aj.of h_⟩,_,rfl,t,_,1,_,rfl,rfl,ar.of (q4 _ _ xY),ro,l,_,_,rfl,rfl,h_,by rw[aT];lia,?_⟩;have kx:∀b o,(upd (upd H2 dp (Zm P w dp (putN kp (pk mi) p2 (.bl true)))) l0 (.lst [])) b=some o->b≠l->(upd (upd (upd H2 dp (Zm P w dp (putN kp (pk mi) p2 (.bl true)))) l0 (.lst [])) l (.lst (zl ++ [.ref c]))) b=some o:=λb o e n=>by
      rw[Zc n];exact e
     have ndp:dp≠l:=lP (q4 _ _ rC.1) h_ λz=>nomatch z
     refine⟨_,putN kp (pk mi) p2 (.bl true),mm,ps ++ [mi],rfl,λb o e=>kx b o (q4 _ _ (gA b o e)) (λz=>by rw[z,h4] at e;cases e),ZF rC ((kx _ _ (q4 _ _ rC.1) ndp).trans rC.1.symm) (λb xs e=>kx _ _ (q4 _ _ e) (lP (q4 _ _ e) h_ λz=>nomatch z)),Mp,kx _ _ (q4 _ _ iA) (lP (q4 _ _ iA) h_ λz=>nomatch z),by rw[bL];lia,eJ.old (EW.keep (λb xs e=>q4 _ _ e) λb xs e=>q4 _ _ e) (q4 _ _ xB) h1 h_,by rw[bL,fS];lia,Hz⟩
   ·have nl:l0≠da:=(Zg iA bp).symm;have e9:(upd (upd (upd H2 dp (Zm P w dp (putN kp (pk mi) p2 (.bl true)))) l0 (.lst [])) da (.dK (putK mm (Sum.inl mi.1) (.ref l0)))) l0=some (.lst []):=by
     rw[Zc nl];exact Za
    have kx:∀b o,(upd H2 dp (Zm P w dp (putN kp (pk mi) p2 (.bl true)))) b=some o->b≠da->(upd (upd (upd (upd H2 dp (Zm P w dp (putN kp (pk mi) p2 (.bl true)))) l0 (.lst [])) da (.dK (putK mm (Sum.inl mi.1) (.ref l0)))) l0 (.lst ([] ++ [.ref c]))) b=some o:=λb o e n=>by
     have n0:b≠l0:=Zg e bp;rw[Zc n0,Zc n,Zc n0];exact e
    have kT:TK (upd H2 dp (Zm P w dp (putN kp (pk mi) p2 (.bl true)))) (upd (upd (upd (upd H2 dp (Zm P w dp (putN kp (pk mi) p2 (.bl true)))) l0 (.lst [])) da (.dK (putK mm (Sum.inl mi.1) (.ref l0)))) l0 (.lst ([] ++ [.ref c]))):=λb xs e=>kx _ _ e λz=>by rw[z,iA] at e;cases e
    have gW:(upd (upd (upd H2 dp (Zm P w dp (putN kp (pk mi) p2 (.bl true)))) l0 (.lst [])) da (.dK (putK mm (Sum.inl mi.1) (.ref l0)))) t=some (.tup (.int mi.1 :: .ref c::rest)):=by
     rw[Zc (λz=>by rw[z,iA] at xY;cases xY)];exact q4 _ _ xY
    refine⟨.inl ⟨rfl,_,aj.of e9⟩,_,rfl,t,_,1,_,rfl,rfl,ar.of gW,ro,l0,_,_,rfl,rfl,e9,by decide,?_⟩;have:=qV mm (Sum.inl mi.1) (V.ref l0);refine⟨_,putN kp (pk mi) p2 (.bl true),_,ps ++ [mi],rfl,λb o e=>kx b o (gA b o e) (λz=>by rw[z,YM] at e;cases e),ZF rC ((kx _ _ rC.1 ym.symm).trans rC.1.symm) kT,Mp,by rw[Zc nl.symm];exact Za,by rw[bL,fS];lia,eJ.new EW xB hn bp Y' kT (λb xs e=>kx _ _ e λz=>by rw[z,iA] at e;cases e) Za,by rw[bL,fS];lia,Hz⟩
  ·have Y2:mi∈ps:=(lK cW mi).mp (by
    cases z:(valN kp (pk mi)).isSome with
    | true=>rfl
    | false=>exact absurd (by rw[z];rfl) c1)
   refine⟨_,kp,mm,ps,rfl,sm.trans q1,Mn,cW,q1 _ _ eD,Bf,hA.keep (λb xs e=>q1 _ _ e) (λb xs e=>q1 _ _ e),by lia,λx=>?_⟩;rw[Zk pH,bc,az,<- bB];exact⟨.inl,λz=>z.elim id λe=>e ▸ Y2⟩
 ·rintro σ H1 ⟨y5,kp,mm,ps,rfl,sm,eP,cW,eD,Bf,hA,aA,bB⟩;rw[dQ,cH] at bB;exact gB dp da kp mm ps H1 y5 sm eP cW eD hA (by lia) bB
def Az(m:Int)(q:av.Qd):Prop:=0<=q.1/\q.1<m/\0<=q.2.2.1/\q.2.2.1<m/\0<=q.2.2.2/\q.2.2.2<m/\km q.2.1/\q.2.1.length<=8
structure qP(f:FQ):Prop where
 len:lN f
 n0:0<=f.n
 n3:f.n<=3
 ts:∀k∈f.ts,0<=k/\k<f.n
 qs:∀q∈f.qs,Az f.n q
 BG:f.qs.length<=16
def JE(K:PySem.W.Frag):Sp:=λvs H Q _=>∃(a:Addr)(ns:List Int)(sd:Int),vs=[.ref a,.int sd]/\aj K H a (ns.map V.int)/\ns.length<=63/\0<=sd/\sd<=1/\∀(r:Addr)(f:FQ)(H':Hp),Zi H H'->dE H' r f->qP f->Q (.ref r) H'
set_option maxHeartbeats 2000000 in
theorem Q8(B:∀x∈dM,mg x=none)(jJ:dY P w K mg base "_law_cell" ["_law_script","_law_k"] 1 (zZ K)) (EM:dY P w K mg base "_law_tag" ["_law_seed","_law_v"] 1 LL) (F:bR K "_law_shape" "_law_shape" C5 f fd):aX P w K mg base cx 2 f fd ["_law_script","_law_side"] (JE K):=by
 refine F.ok lD (λvs H Q E h=>?_) (λaP A outer s H vs Q E hr h=>?_)
 ·obtain⟨a,ns,sd,rfl,_⟩:=h;rfl
 obtain⟨a,ns,sd,rfl,hS,i5,sd0,sd1,q⟩:=h;have hu:=wA hr;have Zqz:∀D:Ends,D.rt=Q->∀ σ : St,L3 (wW (lL (tC (.int 0)) (lL (wW gf) (lL (wW gf) (lL (wW gf) gf))))) D σ H:=by
  intro D hD σ;refine⟨by show(0:Nat)<=sizeLine;decide,λt1 h1=>⟨by show(0:Nat)<=sizeLine;decide,λt2 h2=>⟨by show(0:Nat)<=sizeLine;decide,λt3 h3=>⟨by show(4:Nat)<=sizeLine;decide,λr hr=>?_⟩⟩⟩⟩;have k1:Zi H (upd H t1 (.tup [])):=Zi.new h1;have d1:(upd H t1 (.tup [])) t1=some (.tup []):=Za;have k2:=Zi.new (o:=.tup []) h2;have d2:(upd (upd H t1 (.tup [])) t2 (.tup [])) t2=some (.tup []):=Za;have k3:=Zi.new (o:=.tup []) h3;have d3:(upd (upd (upd H t1 (.tup [])) t2 (.tup [])) t3 (.tup [])) t3=some (.tup []):=Za;have k4:=Zi.new (o:=.tup [.int 0,.ref t1,.ref t2,.ref t3]) hr;rw[hD];refine q r ⟨0,[],[],[]⟩ _ (((k1.trans k2).trans k3).trans k4) ⟨t1,t2,t3,[],Za,k4 _ _ (k3 _ _ (k2 _ _ d1)),k4 _ _ (k3 _ _ d2),k4 _ _ d3,.nil⟩ ⟨⟨by decide,by decide,by decide,.nil⟩,by decide,by decide,λk h=>(nomatch h),λq h=>(nomatch h),by decide⟩
 refine cut 4 (λao H'=>∃(ch m tu:Int),ao=[some (.ref a),some (.int sd),some (.int ch),some (.int m),some (.int tu),none,none,none,none,none,none]/\H'=H/\1<=m/\m<=3)
  ?_ (λu FY hR=>⟨_,(Zd (Zz (i:=2) lD.nd rfl (Or.inl rfl) (d5 jJ hr rfl (Zb (pv 0) (Zb (pv 1) Ze))))
  (Zd (Zz (i:=3) lD.nd rfl (Or.inr rfl) (Zv d9 Zh (Zv Z7 (pv 2) Zh)))
  (Zd (c5 (fb gM (Zv Z7 (Zv fM (pv 2) Zh) Zh) Zh (dI _))
   (Zj (Z3 (c7 (Zb Zh (Zb (c7 Ze) (Zb (c7 Ze) (Zb (c7 Ze) Ze)))))))
   ZQ)
  (Zd (Zz (i:=4) lD.nd rfl (Or.inr rfl) (d5 jJ hr rfl (Zb (pv 0) (Zb (Zv d9 Zh (pv 1)) Ze))))
  FY)))),?_⟩)
 rotate_left
 ·refine⟨_,rfl,_,rfl,a,ns,sd,rfl,hS,i5,sd0,by omega,λch c0 c1=>?_⟩;refine⟨_,rfl,_,_,rfl,rfl,(by show(0:Int)<3;decide),_,_,rfl,rfl,?_⟩;have hm:=wY ch (n:=3) (by decide);refine⟨_,rfl,_,_,rfl,rfl,⟨by decide,by decide⟩,_,_,rfl,rfl,(by show(0:Int)<8;decide),rfl,_,rfl,cz (λ_=>Zqz _ rfl _) (λ_=>?_)⟩;refine⟨_,rfl,_,rfl,_,_,rfl,rfl,a,ns,2+sd,rfl,hS,i5,by omega,by omega,λtu t0 _=>?_⟩;exact hR _ _ ⟨ch,1+ch % 3,tu,rfl,rfl,by omega,by omega⟩
 refine V5 _ 4 (λao H'=>∃(ch m tu:Int)(pt ph pr:Addr)(v8 v9 v10:Option V)(ts hs:List Int)(zs:List V)(qs:List av.Qd),ao=[some (.ref a),some (.int sd),some (.int ch),some (.int m),some (.int tu),some (.ref pt),some (.ref ph),some (.ref pr),v8,v9,v10]/\1<=m/\m<=3/\Zi H H'/\H' pt=some (.lst (ts.map V.int))/\H' ph=some (.lst (hs.map V.int))/\H' pr=some (.lst zs)/\QL H' zs qs/\(ts.length<=7/\∀x∈ts,0<=x/\x<m)/\hs.length<=4/\(qs.length<=16/\∀q∈qs,Az m q))
  ?_ (λu hu5 hR=>⟨_,(Zd (zX (cl:=_) (n0:=5) lD.nd rfl (Or.inl rfl) ["_law_k"] [("_law_many",3),("_law_turn",4)] (zR rfl (B "range" (by decide)) (Zb (Zx (CT rfl) rfl (B "min" (by decide)) wI (Zb (Zv Z7 (pv 4) Zh) (Zb (Zv d9 Zh (Zv Z7 (pv 4) Zh)) Ze))) Ze)) (λ_ _ _ _=>(Zq (i:=0) (show List.Nodup (["_law_k","_law_many","_law_turn"]:List Str) by decide) rfl (Or.inl rfl))) (λ_ _ _ _=>(Zv Z7 (Zv fM (pv 2) (Zv d9 (pv 0) Zh)) (pv 1))) rfl rfl (by decide) rfl (by decide) (jD (by(repeat' first|exact bx _|refine bw.mpr ⟨?_,?_⟩) <;> rfl)) (ke (by(repeat' first|exact bx _|refine bw.mpr ⟨?_,?_⟩) <;> first|(intro h;exact⟨_,rfl⟩)|(intro h;exact absurd h (by decide)))) (λ_=>by(repeat' first|exact bx _|refine bw.mpr ⟨?_,?_⟩) <;> exact⟨rfl,rfl,Or.inl rfl⟩) (λ_=>rfl) rfl)
  (Zd (zX (cl:=_) (n0:=6) lD.nd rfl (Or.inl rfl) ["_law_k"] [("_law_many",3),("_law_turn",4)] (zR rfl (B "range" (by decide)) (Zb (Zv d9 (ZV Jd rfl (B "int" (by decide)) Ly (Zb (tW D_ (Zv Z7 (Zv fM (pv 4) Zh) Zh) Zh (dI _)) Ze)) (Zv Z7 (Zv fM (pv 4) Zh) Zh)) Ze)) (λ_ _ _ _=>(Zq (i:=0) (show List.Nodup (["_law_k","_law_many","_law_turn"]:List Str) by decide) rfl (Or.inl rfl))) (λ_ _ _ _=>(Zv Z7 (Zv fM (pv 2) (Zv d9 (pv 0) Zh)) (pv 1))) rfl rfl (by decide) rfl (by decide) (jD (by(repeat' first|exact bx _|refine bw.mpr ⟨?_,?_⟩) <;> rfl)) (ke (by(repeat' first|exact bx _|refine bw.mpr ⟨?_,?_⟩) <;> first|(intro h;exact⟨_,rfl⟩)|(intro h;exact absurd h (by decide)))) (λ_=>by(repeat' first|exact bx _|refine bw.mpr ⟨?_,?_⟩) <;> exact⟨rfl,rfl,Or.inl rfl⟩) (λ_=>rfl) rfl)
  (Zd (Zz (i:=7) lD.nd rfl (Or.inl rfl) (Z1 Ze))
  (Zd (e_ fE rfl (RM rfl (B "range" (by decide)) (Zb (Zv d9 Zh (pv 1)) (Zb (Zx (CT rfl) rfl (B "min" (by decide)) wI (Zb (Zx Zy rfl (B "len" (by decide)) fV (Zb (pv 0) Ze)) (Zb Zh Ze))) (Zb Zh Ze)))) (Zq (i:=8) lD.nd rfl (Or.inl rfl))
   (Zd (Zz (i:=9) lD.nd rfl (Or.inl rfl) (d5 jJ hr rfl (Zb (pv 0) (Zb (pv 8) Ze))))
    (Zd (Zz (i:=10) lD.nd rfl (Or.inl rfl) (d5 EM hr rfl (Zb (d5 jJ hr rfl (Zb (pv 0) (Zb Zh Ze))) (Zb (Zv Z7 (Zv fM (pv 9) Zh) (Zv d9 Zh (Zv Z7 (Zv fM (pv 2) Zh) Zh))) Ze))))
    (Zj (ij (lO jX mF mG jA (pv 7) (Zb (c7 (Zb (Zv Z7 (pv 9) (pv 3)) (Zb (pv 10) (Zb (Zv Z7 (Zv fM (pv 9) Zh) (pv 3)) (Zb (Zv Z7 (Zv fM (pv 9) Zh) (pv 3)) Ze))))) Ze)))))))
  hu5)))),?_⟩)
 rotate_left
 ·rintro dS H0 ⟨ch,m,tu,rfl,rfl,m1,m8⟩;have nH:(0:Int)<m:=by omega
  have h8:=wY tu (n:=8) (by decide);have h3:=wY tu (n:=3) (by decide);have h2:=wY (tu / 24) (n:=2) (by decide);obtain⟨j1,Fv,Zsf,Zsg⟩:∃j:Int,(if 1+tu % 3<tu % 8 then 1+tu % 3 else tu % 8)=j/\0<=j/\j<=7:=by
   by_cases c:1+tu % 3<tu % 8
   ·exact⟨_,ai c,by omega,by omega⟩
   ·exact⟨_,ag c,by omega,by omega⟩
  refine⟨_,rfl,_,_,rfl,rfl,(by show(0:Int)<8;decide),_,rfl,_,_,rfl,rfl,(by show(0:Int)<3;decide),_,_,rfl,rfl,_,_,rfl,j1,(by rw[Fv]),by omega,by omega,λpt NN=>?_⟩;refine Jj (lo:=0) (n:=j1.toNat) (p:=pt) (λi ys σ H2=>∃(v0:Option V)(ts:List Int),σ =[v0,some (.int m),some (.int tu)]/\Zi H0 H2/\H2 pt=some (.lst ys)/\ys=ts.map V.int/\ts.length=i/\∀x∈ts,0<=x/\x<m)
   ⟨none,[],rfl,Zi.new NN,Za,rfl,rfl,λx h=>(nomatch h)⟩ ?_ ?_ ?_
  ·rintro i ys σ H2 _ ⟨v0,ts,_,_,h,_⟩;exact h
  ·rintro i ys σ H2 hi ⟨v0,ts,rfl,sm,hp,rfl,hl,hb⟩;refine⟨_,rfl,_,rfl,_,_,rfl,rfl,_,_,rfl,rfl,⟨by omega,by omega⟩,_,rfl,_,_,rfl,rfl,nH,hp,?_,CW.next hi ⟨_,ts ++ [tu / (0+(i:Int)+7) % m],rfl,sm.cC NN,Za,?_,?_,λx hx=>?_⟩⟩
   ·rw[ay];exact jC (by omega)
   ·rw[cZ];rfl
   ·rw[bL,hl];rfl
   ·rcases bc.mp hx with hx|hx
    ·exact hb x hx
    ·rw[az.mp hx];exact⟨jW _ (by omega),jV _ nH⟩
  rintro ys σ H2 ⟨v0,ts,rfl,sm,hp,rfl,hl,hb⟩;refine⟨_,rfl,_,_,rfl,rfl,⟨by decide,by decide⟩,_,_,rfl,rfl,(by show(0:Int)<8;decide),_,_,rfl,rfl,_,rfl,_,rfl,_,_,rfl,rfl,⟨by decide,by decide⟩,_,_,rfl,rfl,(by show(0:Int)<2;decide),_,_,rfl,rfl,?_⟩;obtain⟨j2,Np,Zsh,Zsi⟩:∃j:Int,(if(decide (tu / 3 % 8 > 0))=true then(1:Int) else 0)+tu / 24 % 2=j/\0<=j/\j<=4:=by
   by_cases c:(decide (tu / 3 % 8 > 0))=true
   ·exact⟨_,by rw[ai c],by omega,by omega⟩
   ·exact⟨_,by rw[ag c],by omega,by omega⟩
  refine⟨j2,(by rw[<- Np]),by omega,by omega,λph NH=>?_⟩;refine Jj (lo:=0) (n:=j2.toNat) (p:=ph) (λi ys σ H3=>∃(v0:Option V)(hs:List Int),σ =[v0,some (.int m),some (.int tu)]/\Zi H2 H3/\H3 ph=some (.lst ys)/\ys=hs.map V.int/\hs.length=i)
   ⟨none,[],rfl,Zi.new NH,Za,rfl,rfl⟩ ?_ ?_ ?_
  ·rintro i ys σ H3 _ ⟨v0,hs,_,_,h,_⟩;exact h
  ·rintro i ys σ H3 hi ⟨v0,hs,rfl,gA,nM,rfl,Ba⟩;refine⟨_,rfl,_,rfl,_,_,rfl,rfl,_,_,rfl,rfl,⟨by omega,by omega⟩,_,rfl,_,_,rfl,rfl,nH,nM,?_,CW.next hi ⟨_,hs ++ [tu / (0+(i:Int)+11) % m],rfl,gA.cC NH,Za,?_,?_⟩⟩
   ·rw[ay];exact jC (by omega)
   ·rw[cZ];rfl
   ·rw[bL,Ba];rfl
  rintro ys σ H3 ⟨v0',hs,rfl,gA,nM,rfl,Ba⟩;refine⟨by decide,λpr iE=>?_⟩;have s3:=sm.trans gA;have s4:Zi H3 (upd H3 pr (.lst [])):=Zi.new iE;have Zpg:=s3.free iE;have e4:(upd H3 pr (.lst [])) pr=some (.lst []):=Za;have t4:=s4 _ _ (gA _ _ hp);have vE:=s4 _ _ nM;have npt:pt≠pr:=Zg (gA _ _ hp) iE;have nph:ph≠pr:=Zg nM iE;generalize upd H3 pr (.lst [])=H4 at s4 e4 t4 vE ⊢;have yz:=s3.trans s4;obtain⟨j,hj,Y5,Fv,Np⟩:∃j:Int,(if(36:Int)<((ns.map V.int).length:Nat) then(36:Int) else((ns.map V.int).length:Nat))=j/\0<=j/\j<=36/\j<=63:=by
   by_cases c:(36:Int)<((ns.map V.int).length:Nat)
   ·exact⟨_,ai c,by omega,by omega,by omega⟩
   ·exact⟨_,ag c,by omega,by omega,by rw[ay];omega⟩
  have hsz:(Builtin.Range.rangeSize (4+sd) j 2).toNat<=16:=by
   unfold Builtin.Range.rangeSize;rw[ai (by decide)]
   split <;> omega
  refine⟨_,rfl,_,_,rfl,rfl,_,rfl,a,_,rfl,.inl (yz.seq hS),_,_,rfl,_,j,_,(by rw[hj]),⟨by omega,by omega,by omega,by omega⟩,rfl,Sf (λi σ H1=>∃(v9 v10 v11:Option V)(zs:List V)(qs:List av.Qd),σ =[some (.ref a),some (.int sd),some (.int ch),some (.int m),some (.int tu),some (.ref pt),some (.ref ph),some (.ref pr),v9,v10,v11]/\Zi H0 H1/\H1 pt=some (.lst (ts.map V.int))/\H1 ph=some (.lst (hs.map V.int))/\H1 pr=some (.lst zs)/\QL H1 zs qs/\(qs.length<=i/\∀q∈qs,Az m q))
   ⟨none,none,none,[],[],rfl,yz,t4,vE,e4,.nil,aq _,λq h=>(nomatch h)⟩ ?_ ?_⟩
  ·rintro i σ H1 hi ⟨v9,v10,v11,zs,qs,rfl,s1,k1,k2,k3,hQ,pN,FL⟩;have Zse:i<16:=cf hi hsz;refine⟨_,rfl,_,rfl,a,ns,4+sd+(i:Int)*2,rfl,s1.seq hS,i5,by omega,by omega,λd d0 d1=>?_⟩;have h33:=wY (ch / 3) (n:=3) (by decide);refine⟨_,rfl,a,ns,0,rfl,s1.seq hS,i5,by decide,by decide,λse _ _=>⟨_,rfl,_,_,rfl,rfl,⟨by decide,by decide⟩,_,rfl,_,_,rfl,rfl,⟨by decide,by decide⟩,_,_,rfl,rfl,(by show(0:Int)<3;decide),_,_,rfl,rfl,_,_,rfl,rfl,(by show(0:Int)<1+ch / 3 % 3;omega),_,_,rfl,λt gn pQ=>?_⟩⟩;refine⟨_,rfl,.inl ⟨rfl,_,aj.of k3⟩,_,rfl,_,rfl,_,_,rfl,rfl,nH,_,rfl,_,rfl,_,_,rfl,rfl,⟨by decide,by decide⟩,_,rfl,_,_,rfl,rfl,nH,_,rfl,_,_,rfl,rfl,⟨by decide,by decide⟩,_,rfl,_,_,rfl,rfl,nH,by show(4:Nat)<=sizeLine;decide,λp hp=>?_⟩;have s5:Zi H1 (upd H1 p (tq (d % m,t,d / 64 % m,d / 4096 % m))):=Zi.new hp;have e5:(upd H1 p (tq (d % m,t,d / 64 % m,d / 4096 % m))) p=some (tq (d % m,t,d / 64 % m,d / 4096 % m)):=Za;have dQ:=hQ.length;refine⟨pr,_,_,rfl,rfl,s5 _ _ k3,jC (by omega),?_⟩;refine⟨_,_,_,_,qs ++ [(d % m,t,d / 64 % m,d / 4096 % m)],rfl,(s1.trans s5).cC Zpg,?_,?_,Za,?_,?_,λq hq=>?_⟩
   ·rw[Zc npt];exact s5 _ _ k1
   ·rw[Zc nph];exact s5 _ _ k2
   ·exact(QL.snoc e5 (hQ.keep λb xs e=>s5 _ _ e)).keep (gL (s5 _ _ k3))
   ·rw[bL,fS];omega
   ·rcases bc.mp hq with hq|hq
    ·exact FL q hq
    ·rw[az.mp hq];exact⟨jW _ (by omega),jV _ nH,jW _ (by omega),jV _ nH,jW _ (by omega),jV _ nH,gn,pQ⟩
  ·rintro σ H1 ⟨v9,v10,v11,zs,qs,rfl,s1,k1,k2,k3,hQ,pN,FL⟩;exact hR _ _ ⟨ch,m,tu,pt,ph,pr,v9,v10,v11,ts,hs,zs,qs,rfl,m1,m8,s1,k1,k2,k3,hQ,⟨by omega,hb⟩,by omega,by omega,FL⟩
 refine⟨_,(Zj (Z3 (c7 (Zb (pv 3) (Zb (ZV Z9 rfl (B "tuple" (by decide)) q_ (Zb (zU rfl hu rfl (B "sorted" (by decide)) rfl (B "set" (by decide)) (Zb (pv 6) Ze)) Ze)) (Zb (ZV Z9 rfl (B "tuple" (by decide)) q_ (Zb (zU rfl hu rfl (B "sorted" (by decide)) rfl (B "set" (by decide)) (Zb (pv 5) Ze)) Ze)) (Zb (ZV Z9 rfl (B "tuple" (by decide)) q_ (Zb (zU rfl hu rfl (B "sorted" (by decide)) rfl (B "set" (by decide)) (Zb (pv 7) Ze)) Ze)) Ze))))))),?_⟩;rintro dS H0 ⟨ch,m,tu,pt,ph,pr,v9,v10,v11,ts,hs,zs,qs,rfl,m1,m8,s0,k1,k2,k3,hQ,⟨gX,FX⟩,hhl,pN,hqb⟩;refine⟨_,rfl,_,rfl,.inr ⟨ph,hs,rfl,aj.of k2,by omega,λr1 x1 jc Bi Be=>⟨r1,_,rfl,.inl ⟨aj.of Za,λu1 gq=>?_⟩⟩⟩⟩;have s4:Zi H0 (upd (upd H0 r1 (.lst (x1.map V.int))) u1 (.tup (x1.map V.int))):=(Zi.new jc).trans (Zi.new gq);have e4:(upd (upd H0 r1 (.lst (x1.map V.int))) u1 (.tup (x1.map V.int))) u1=some (.tup (x1.map V.int)):=Za;generalize upd (upd H0 r1 (.lst (x1.map V.int))) u1 (.tup (x1.map V.int))=H4 at s4 e4 ⊢;refine⟨_,rfl,.inr ⟨pt,ts,rfl,aj.of (s4 _ _ k1),by omega,λr2 x2 nQ NQ Nx=>⟨r2,_,rfl,.inl ⟨aj.of Za,λu2 hu2=>?_⟩⟩⟩⟩;have s5:Zi H4 (upd (upd H4 r2 (.lst (x2.map V.int))) u2 (.tup (x2.map V.int))):=(Zi.new nQ).trans (Zi.new hu2);have e5:(upd (upd H4 r2 (.lst (x2.map V.int))) u2 (.tup (x2.map V.int))) u2=some (.tup (x2.map V.int)):=Za;generalize upd (upd H4 r2 (.lst (x2.map V.int))) u2 (.tup (x2.map V.int))=H5 at s5 e5 ⊢;have G_:=s4.trans s5;have dQ:=hQ.length;refine⟨_,rfl,.inl ⟨pr,zs,qs,rfl,aj.of (G_ _ _ k3),by omega,hQ.keep λb xs e=>G_ _ _ e,λr3 z3 x3 l9 NS FC X_=>⟨r3,_,rfl,.inl ⟨aj.of Za,λu3 hu3=>?_⟩⟩⟩⟩;have s6:Zi H5 (upd (upd H5 r3 (.lst z3)) u3 (.tup z3)):=(Zi.new l9).trans (Zi.new hu3);have e6:(upd (upd H5 r3 (.lst z3)) u3 (.tup z3)) u3=some (.tup z3):=Za;generalize upd (upd H5 r3 (.lst z3)) u3 (.tup z3)=H6 at s6 e6 ⊢;refine⟨by show(4:Nat)<=sizeLine;decide,λr hr=>?_⟩;have s7:Zi H6 (upd H6 r (.tup [.int m,.ref u1,.ref u2,.ref u3])):=Zi.new hr;refine q r ⟨m,x1,x2,x3⟩ _ (((s0.trans G_).trans s6).trans s7) ⟨u1,u2,u3,z3,Za,s7 _ _ (s6 _ _ (s5 _ _ e4)),s7 _ _ (s6 _ _ e5),s7 _ _ e6,X_.keep λb xs e=>s7 _ _ (s6 _ _ e)⟩
  ⟨⟨?_,?_,?_,NQ⟩,by show 0<=m;omega,m8,λk hk=>FX k ((Nx k).mp hk),λq hq=>hqb q ((FC q).mp hq),?_⟩
 ·exact bD (qY (tL Bi) λx hx=>(Be x).mp hx) (by omega)
 ·exact bD (qY (tL NQ) λx hx=>(Nx x).mp hx) (by omega)
 ·exact bD (qY (IS NS) λx hx=>(FC x).mp hx) (by omega)
 ·exact bD (qY (IS NS) λx hx=>(FC x).mp hx) pN
def wN:List (List Int):=[[],[0],[1],[2],[0,1],[0,2],[1,2],[0,1,2]]
theorem K0{l:List Int}(hl:o4 l)(h:∀x∈l,0<=x/\x<3):l∈wN:=by
 have e:l=([0,1,2]:List Int).filter λx=>decide (x∈l):=by
  refine J9 hl ?_ λx=>?_
  ·exact List.Pairwise.filter _ (show o4 [0,1,2] by unfold o4;decide)
  ·rw[dz];constructor
   ·intro hx;obtain⟨h1,h2⟩:=h x hx;refine⟨?_,aF hx⟩;have:x=0\/x=1\/x=2:=by lia
    rcases this with rfl|rfl|rfl <;> decide
   ·exact λ⟨_,h2⟩=>bh h2
 rw[e];generalize (λx:Int=>decide (x∈l))=p;unfold wN;cases h0:p 0 <;> cases h1:p 1 <;> cases h2:p 2 <;> simp[List.filter,h0,h1,h2]
theorem UA(s:qP fm){w:Str}{a b:List Int}:ji fm w a b∈wN:=by
 by_cases h:∃ks,lB fm w a b ks
 ·obtain⟨ks,hk⟩:=h;rw[t9 hk];refine K0 hk.1 λx hx=>?_;obtain⟨q,hq,rfl,_⟩:=(hk.2.2 x).mp hx;obtain⟨r1,r2,_⟩:=s.qs q hq;exact⟨r1,BW r2 s.n3⟩
 ·unfold ji;rw[dif_neg h]
  decide
theorem UT{one:FQ}(s1:qP one)(s2:qP fm){g:Gs}(h:GI one.ts one.qs fm g):∀e∈g.sl,(0<=e.1.1/\e.1.1<3)/\e.1.2∈wN:=by
 intro e he;obtain⟨i,hi⟩:=iM.mp he;rcases h.sr i e hi with⟨k,hk,rfl⟩|⟨q,hq,a,wa,b,wb,_,_,_,_,rfl⟩
 ·obtain⟨r1,r2⟩:=s1.ts k hk;refine⟨⟨r1,BW r2 s1.n3⟩,K0 s2.len.2.2.2 λx hx=>?_⟩;obtain⟨r3,r4⟩:=s2.ts x hx;exact⟨r3,BW r4 s2.n3⟩
 ·obtain⟨r1,r2,_⟩:=s1.qs q hq;exact⟨⟨r1,BW r2 s1.n3⟩,UA s2⟩
theorem fh{one:FQ}(s1:qP one)(s2:qP fm):zJ one.ts one.qs fm:=by
 intro g h;have nd:=(ZX h.nd).1;have ks:=UT s1 s2 h;have n8:∀k,nK g.sl k<=8:=λk=>by
  unfold nK;have h1:((g.sl.filter λx=>decide (x.1.1=k)).map λx=>x.1.2).Nodup:=by
   rw[List.Nodup,jk];have h2:(g.sl.filter λx=>decide (x.1.1=k)).Pairwise λx y=>x.1≠y.1:=(jk.mp nd).filter _;refine BX (λ{x y} hx hy aO e=>aO ?_) h2;have e1:x.1.1=k:=bh (dz.mp hx).2;have e2:y.1.1=k:=bh (dz.mp hy).2;exact Prod.ext (e1.trans e2.symm) e
  have:=qY h1 (m:=wN) λv hv=>by
   obtain⟨x,hx,rfl⟩:=aS.mp hv;exact(ks x (dz.mp hx).1).2
  rw[ay] at this;exact this
 refine⟨?_,?_⟩
 ·have h0:∀x∈g.sl,x.1.1=0\/x.1.1=1\/x.1.1=2:=λx hx=>by
   have:=(ks x hx).1;lia
  have split:∀l:List (Pk×Wd),(∀x∈l,x.1.1=0\/x.1.1=1\/x.1.1=2)->l.length=nK l 0+nK l 1+nK l 2:=by
   intro l
   induction l with
   | nil=>intro _;rfl
   | cons x xs ih =>
    intro hx;have:=ih λy hy=>hx y (aR _ hy);have e:∀k,nK (x::xs) k=nK xs k+if x.1.1=k then 1 else 0:=λk=>by
     unfold nK
     split
     ·rename_i h
      rw[yT (by simpa using h)];rfl
     ·rename_i h
      rw[yS (by simpa using h)];rfl
    rw[e,e,e,bM];rcases hx x (aU ..) with z|z|z <;> rw[z] <;> simp <;> lia
  have:=split g.sl h0;have:=n8 0;have:=n8 1;have:=n8 2;lia
 ·have:=D3 n8 one.qs;have:=s1.BG;have:one.qs.length*(8*8)<=16*64:=Nat.mul_le_mul this (by decide);lia
def J4(K:PySem.W.Frag):Sp:=λvs H Q _=>∃(a p1 p2:Addr)(w:Str)(f:FQ)(n1 n2:List Int),vs=[.ref a,.str w,.ref p1,.ref p2]/\dE H a f/\lN f/\H p1=some (.tup (n1.map V.int))/\H p2=some (.tup (n2.map V.int))/\∀(r:Addr)(ks:List Int)(H':Hp),Zi H H'->H' r=some (.tup (ks.map V.int))->lB f w n1 n2 ks->Q (.ref r) H'
def lM(w:Str)(n1 n2:List Int)(qs:List av.Qd):List Int:=(qs.filter λq=>decide (V.str q.2.1=V.str w)&&(decide (q.2.2.1∈n1)&&decide (q.2.2.2∈n2))).map (·.1)
theorem Ss{w:Str}:x∈lM w n1 n2 qs↔∃q∈qs,q.1=x/\q.2.1=w/\q.2.2.1∈n1/\q.2.2.2∈n2:=by
 unfold lM;rw[aS];constructor
 ·rintro⟨q,hm,rfl⟩;obtain⟨h1,h2⟩:=dz.mp hm;rw[eY,eY,jl,jl,jl] at h2;obtain⟨e,hp,hr⟩:=h2;exact⟨q,h1,rfl,by injection e,hp,hr⟩
 ·rintro⟨q,h1,rfl,rfl,hp,hr⟩;refine⟨q,dz.mpr ⟨h1,?_⟩,rfl⟩;rw[eY,eY,jl,jl,jl];exact⟨rfl,hp,hr⟩
theorem Jn{w:Str}(h:qs[i]?= some q):lM w n1 n2 (qs.take (i+1))=lM w n1 n2 (qs.take i)++if(decide (V.str q.2.1=V.str w)&&(decide (q.2.2.1∈n1)&&decide (q.2.2.2∈n2)))=true then [q.1] else []:=by
 unfold lM;rw[Zk h,qm,cZ]
 congr 1
 by_cases e:(decide (V.str q.2.1=V.str w)&&(decide (q.2.2.1∈n1)&&decide (q.2.2.2∈n2)))=true
 ·rw[ai e,List.filter_cons,ai e];rfl
 ·rw[ag e,List.filter_cons,ag e];rfl
theorem Jc{w:Str}:(lM w n1 n2 qs).length<=qs.length:=by
 unfold lM;rw[ay];exact qt ..
set_option maxHeartbeats 2000000 in
theorem QU(B:∀x∈dM,mg x=none)(F:bR K "_law_above" "_law_above" De f fd):aX P w K mg base cx 1 f fd ["_law_other","_law_word","_law_inner","_law_rest"] (J4 K):=by
 refine F.ok IQ (λvs H Q E h=>?_) (λaP A outer s H vs Q E hr h=>?_)
 ·obtain⟨a,p1,p2,w,fm,n1,n2,rfl,_⟩:=h;rfl
 obtain⟨a,p1,p2,wd,fm,n1,n2,rfl,⟨f1,f2,f3,zf,a1,a2,a3,a4,a5⟩,⟨l1,l2,l3,l4⟩,h1,h2,q⟩:=h;have hu:=wA hr;have dQ:=a5.length;refine⟨_,(Zd (CQ (cl:=_) (n0:=4) IQ.nd rfl (Or.inl rfl) ["_law_rule"] [("_law_word",1),("_law_inner",2),("_law_rest",3)] (lI (ZJ ZD (pv 0) Zh (λ_ _=>rfl))) (λ_ _ _ _=>(Zq (i:=0) (show List.Nodup (["_law_rule","_law_word","_law_inner","_law_rest"]:List Str) by decide) rfl (Or.inl rfl))) (λ_ _ _ _=>(PW.pt (wL (fb gM (ZJ (oV (K:=K) rfl) (pv 0) Zh (λ_ _=>rfl)) (pv 1) (dI _)) (wL (fb (Jk (K:=K) rfl) (ZJ (oV (K:=K) rfl) (pv 0) Zh (λ_ _=>rfl)) (pv 2) (by with_unfolding_all rfl)) (Ad (fb (Jk (K:=K) rfl) (ZJ (oV (K:=K) rfl) (pv 0) Zh (λ_ _=>rfl)) (pv 3) (by with_unfolding_all rfl))))))) (λ_ _ _ _=>(ZJ (oV (K:=K) rfl) (pv 0) Zh (λ_ _=>rfl))) rfl rfl (by decide) rfl (by decide) (jD (by(repeat' first|exact bx _|refine bw.mpr ⟨?_,?_⟩) <;> rfl)) (ke (by(repeat' first|exact bx _|refine bw.mpr ⟨?_,?_⟩) <;> first|(intro h;exact⟨_,rfl⟩)|(intro h;exact absurd h (by decide)))) (λ_=>by(repeat' first|exact bx _|refine bw.mpr ⟨?_,?_⟩) <;> exact⟨rfl,rfl,Or.inl rfl⟩) (λ_=>rfl) rfl)
  (Zj (Z3 (ZV Z9 rfl (B "tuple" (by decide)) q_ (Zb (zU rfl hu rfl (B "sorted" (by decide)) rfl (B "set" (by decide)) (Zb (pv 4) Ze)) Ze))))),?_⟩
 refine⟨_,rfl,a,_,3,_,rfl,rfl,ar.of a1,rfl,f3,rfl,⟨_,ar.of a4⟩,λpl aA=>RE (K:=K) (a:=f3) (p:=pl) (xs:=zf) (λj us σ H1=>∃v0:Option V,σ =[v0,some (.str wd),some (.ref p1),some (.ref p2)]/\Zi H H1/\H1 pl=some (.lst us)/\us=(lM wd n1 n2 (fm.qs.take j)).map V.int)
  ⟨none,rfl,Zi.new aA,Za,rfl⟩ ?_ ?_ ?_⟩
 ·rintro j us σ H1 _ ⟨_,_,sm,h,_⟩;exact⟨ar.of (sm _ _ a4),h⟩
 ·rintro j us x σ H1 hj hx ⟨v0,rfl,sm,h,rfl⟩;obtain⟨p,q1,e1,rfl,e2⟩:=a5.get j x hx;have cP:=ar.of (K:=K) (sm _ _ e2);have hlen:=Jc (w:=wd) (n1:=n1) (n2:=n2) (qs:=fm.qs.take j);rw[cY] at hlen;have skip : ¬ (decide (V.str q1.2.1=V.str wd)&&(decide (q1.2.2.1∈n1)&&decide (q1.2.2.2∈n2)))=true->∃m',m'<zf.length-j/\CW zf.length (λj us σ H1=>∃v0:Option V,σ =[v0,some (.str wd),some (.ref p1),some (.ref p2)]/\Zi H H1/\H1 pl=some (.lst us)/\us=(lM wd n1 n2 (fm.qs.take j)).map V.int) (j+1) m' ((lM wd n1 n2 (fm.qs.take j)).map V.int) [some (.ref p),some (.str wd),some (.ref p1),some (.ref p2)] H1:=λgT =>
   CW.next hj ⟨_,rfl,sm,h,by rw[Jn e1,ag gT,gE]⟩
  refine⟨_,rfl,p,_,1,_,rfl,rfl,cP,rfl,_,rfl,rfl,_,rfl,cz (λc1=>?_) (λc1=>jE (skip λz=>c1 ?_))⟩
  ·refine⟨_,rfl,p,_,2,_,rfl,rfl,cP,rfl,_,rfl,p1,_,rfl,.inr (ar.of (sm _ _ h1)),rfl,Jt _,?_⟩;rw[ag (by decide),Kr];refine⟨_,rfl,cz (λc2=>?_) (λc2=>jE (skip λz=>c2 ?_))⟩
   ·refine⟨_,rfl,p,_,3,_,rfl,rfl,cP,rfl,_,rfl,p2,_,rfl,.inr (ar.of (sm _ _ h2)),rfl,Jt _,?_⟩;rw[ag (by decide),Kr];refine⟨_,rfl,cz (λc3=>?_) (λc3=>skip λz=>c3 ?_)⟩
    ·refine⟨_,rfl,p,_,0,_,rfl,rfl,cP,rfl,h,jC (by rw[ay];lia),CW.next hj ⟨_,rfl,sm.cC aA,Za,?_⟩⟩
     rw[Jn e1,ai (by rw[c1,c2,c3];rfl),cZ];rfl
    ·rw[eY,eY] at z;exact z.2.2
   ·rw[eY,eY] at z;exact z.2.1
  ·rw[eY] at z;exact z.1
 rintro us σ H1 ⟨v0,rfl,sm,h,rfl⟩;rw[dQ,cH] at h;have hlen:=Jc (w:=wd) (n1:=n1) (n2:=n2) (qs:=fm.qs);refine⟨_,rfl,.inr ⟨pl,_,rfl,aj.of h,by lia,λr1 x1 jc Bi Be=>⟨r1,_,rfl,.inl ⟨aj.of Za,λu1 gq=>?_⟩⟩⟩⟩;refine q u1 x1 _ (sm.trans ((Zi.new jc).trans (Zi.new gq))) Za ⟨Bi,?_,λx=>(Be x).trans Ss⟩;exact bD (qY (tL Bi) λx hx=>(Be x).mp hx) (by lia)
def JY(P:Program)(w:World):Sp:=λvs H Q _=>∃(p o dp:Addr)(one fm:FQ)(kp:List (ZG×Addr×V))(ps:List Pk),vs=[.ref p,.ref o,.ref dp]/\dE H p one/\dE H o fm/\lN fm/\bF P w H dp kp/\kp.map (·.1)=ps.map pk/\ps.length<=500 /\
 ∀(b:Bool) H',(b=true↔fL one fm ps)->Zi H H'->Q (.bl b) H'
set_option maxHeartbeats 4000000 in
theorem QH(B:∀x∈dM,mg x=none)(EH:dY P w K mg base "_law_above" ["_law_other","_law_word","_law_inner","_law_rest"] 1 (J4 K)) (F:bR K "_law_closed" "_law_closed" ZR f fd):aX P w K mg base cx 2 f fd ["_law_one","_law_other","_law_pairs"] (JY P w):=by
 refine F.ok ZZ (λvs H Q E h=>?_) (λaP A outer s H vs Q E hr h=>?_)
 ·obtain⟨p,o,dp,one,fm,kp,ps,rfl,_⟩:=h;rfl
 obtain⟨p,o,dp,one,fm,kp,ps,rfl,hF,hO,hL,eP,cW,xV,Q1⟩:=h;have cN:=lE hr;obtain⟨f1,f2,f3,zf,a1,a2,a3,a4,a5⟩:=id hF;obtain⟨g1,g2,g3,zg,b1,b2,b3,b4,b5⟩:=id hO;have A_:kp.length=ps.length:=by have:=congrArg List.length cW;simpa using this
 have Gf:=a5.length;have nf:∀ob u,H dp≠some (.aI ob u):=λob u z=>by
  rw[eP.1] at z;cases z
 have at_:∀{i:Nat}{k:ZG}{b:Addr}{v:V},kp[i]?= some (k,b,v)->∃pr,ps[i]?= some pr/\k=pk pr:=λ{i k b v} h=>by
  have h1:(kp.map (·.1))[i]?= some k:=by rw[cp,h];rfl
  rw[cW,cp] at h1;obtain⟨pr,h2,h3⟩:=gG.mp h1;exact⟨pr,h2,h3.symm⟩
 refine Zt ((Zf ZR).drop 2) (Zj (Z3 f')) (λu2 h2 e2=>?_);refine Zt ((Z4 ((Z4 ((Z4 ((Zf ZR).getD 1 (.Pass ⟨0,0,0,0⟩))).getD 2 (.Pass ⟨0,0,0,0⟩))).getD 0 (.Pass ⟨0,0,0,0⟩))).drop 0) (Zj (c5 (ue (zT cN (c7 (Zb (pv 3) (Zb (d5 EH hr rfl (Zb (pv 1) (Zb (pv 4) (Zb (ZJ ZD (pv 9) Zh (λ_ _=>rfl)) (Zb (ZJ ZD (pv 10) Zh (λ_ _=>rfl)) Ze))))) Ze))) (pv 2)))
   (Zj (Z3 f'))
   ZQ)) (λZs3 XJ W2=>?_)
 refine Zt ((Z4 ((Z4 ((Zf ZR).getD 1 (.Pass ⟨0,0,0,0⟩))).getD 2 (.Pass ⟨0,0,0,0⟩))).drop 0) (Zj (e_ fE rfl (iU (pv 8)) (Zq (i:=10) ZZ.nd rfl (Or.inl rfl))
   XJ)) (λZs2 XI W0=>?_)
 refine Zt ((Z4 ((Zf ZR).getD 1 (.Pass ⟨0,0,0,0⟩))).drop 2) (Zj (e_ fE rfl (iU (pv 7)) (Zq (i:=9) ZZ.nd rfl (Or.inl rfl))
   XI)) (λZrp XH WZ=>?_)
 refine Zt ((Z4 ((Zf ZR).getD 1 (.Pass ⟨0,0,0,0⟩))).drop 1) (Zd (Kk (CQ (cl:=_) (n0:=8) ZZ.nd rfl (Or.inl rfl) ["_law_pair"] [("_law_rest",6)] (Df (pv 2)) (λ_ _ _ _=>(Zq (i:=0) (show List.Nodup (["_law_pair","_law_rest"]:List Str) by decide) rfl (Or.inl rfl))) (λ_ _ _ _=>(fb gM (ZJ (oV (K:=K) rfl) (pv 0) Zh (λ_ _=>rfl)) (pv 1) (dI _))) (λ_ _ _ _=>(pv 0)) rfl rfl (by decide) rfl (by decide) (jD (by(repeat' first|exact bx _|refine bw.mpr ⟨?_,?_⟩) <;> rfl)) (ke (by(repeat' first|exact bx _|refine bw.mpr ⟨?_,?_⟩) <;> first|(intro h;exact⟨_,rfl⟩)|(intro h;exact absurd h (by decide)))) (λ_=>by(repeat' first|exact bx _|refine bw.mpr ⟨?_,?_⟩) <;> exact⟨rfl,rfl,Or.inl rfl⟩) (λ_=>rfl) rfl)) XH) (λZro XG WY=>?_)
 refine Zt ((Z4 ((Zf ZR).getD 1 (.Pass ⟨0,0,0,0⟩))).drop 0) (Zd (Kk (CQ (cl:=_) (n0:=7) ZZ.nd rfl (Or.inl rfl) ["_law_pair"] [("_law_inner",5)] (Df (pv 2)) (λ_ _ _ _=>(Zq (i:=0) (show List.Nodup (["_law_pair","_law_inner"]:List Str) by decide) rfl (Or.inl rfl))) (λ_ _ _ _=>(fb gM (ZJ (oV (K:=K) rfl) (pv 0) Zh (λ_ _=>rfl)) (pv 1) (dI _))) (λ_ _ _ _=>(pv 0)) rfl rfl (by decide) rfl (by decide) (jD (by(repeat' first|exact bx _|refine bw.mpr ⟨?_,?_⟩) <;> rfl)) (ke (by(repeat' first|exact bx _|refine bw.mpr ⟨?_,?_⟩) <;> first|(intro h;exact⟨_,rfl⟩)|(intro h;exact absurd h (by decide)))) (λ_=>by(repeat' first|exact bx _|refine bw.mpr ⟨?_,?_⟩) <;> exact⟨rfl,rfl,Or.inl rfl⟩) (λ_=>rfl) rfl)) XG) (λZrn ET Eo=>?_)
 refine Zt ((Zf ZR).drop 1) (Zd (e_ fE rfl (lI (ZJ ZD (pv 0) Zh (λ_ _=>rfl))) (wM rfl (Z2 (Zq (i:=3) ZZ.nd rfl (Or.inl rfl)) (Z2 (Zq (i:=4) ZZ.nd rfl (Or.inl rfl)) (Z2 (Zq (i:=5) ZZ.nd rfl (Or.inr rfl)) (Z2 (Zq (i:=6) ZZ.nd rfl (Or.inr rfl)) wF)))))
   ET) h2) (λu1 h1 e1=>?_)
 refine Zt ((Z4 ((Zf ZR).getD 0 (.Pass ⟨0,0,0,0⟩))).drop 0) (Zj (c5 (ue (zT cN (c7 (Zb (pv 3) (Zb (ZJ ZD (pv 1) Zh (λ_ _=>rfl)) Ze))) (pv 2)))
   (Zj (Z3 f'))
   ZQ)) (λZs1 XD WX=>?_)
 refine Zt ((Zf ZR).drop 0) (Zd (e_ fE rfl (lI (ZJ ZD (pv 0) Zh (λ_ _=>rfl))) (Zq (i:=3) ZZ.nd rfl (Or.inl rfl))
   XD) h1) (λu0 h0 e0=>?_)
 refine⟨u0,h0,?_⟩;have sI:∀(H1:Hp)(y3 y4 y5 y6 y7 y8 y9 ck:Option V),Zi H H1->(∀k∈one.ts,((k,fm.ts):Pk)∈ps)->u1 { nx:=λ_ H'=>Q .aG H',rt:=Q } [some (.ref p),some (.ref o),some (.ref dp),y3,y4,y5,y6,y7,y8,y9,ck] H1:=by
  intro H1 y3 y4 y5 y6 y7 y8 y9 ck sm Fj;refine Zr e1 ?_;refine⟨_,rfl,p,_,3,_,rfl,rfl,ar.of (sm _ _ a1),rfl,f3,rfl,⟨_,ar.of (sm _ _ a4)⟩,wy (K:=K) (a:=f3) (xs:=zf) (λj σ H2=>∃(y3 y4 y5 y6 y7 y8 y9 ck:Option V),σ =[some (.ref p),some (.ref o),some (.ref dp),y3,y4,y5,y6,y7,y8,y9,ck]/\Zi H H2/\∀q∈one.qs.take j,∀a∈ps,∀b∈ps,a.1=q.2.2.1->b.1=q.2.2.2->aZ fm q a b∈ps)
   ⟨_,_,_,_,_,_,_,_,rfl,sm,λq h=>(nomatch h)⟩ ?_ ?_ ?_⟩
  ·rintro j σ H2 _ ⟨_,_,_,_,_,_,_,_,_,s2,_⟩;exact ar.of (s2 _ _ a4)
  ·rintro j x σ H2 hx ⟨y3,y4,y5,y6,y7,y8,y9,ck,rfl,s2,hd⟩;obtain⟨rq,q,kC,rfl,FR⟩:=a5.get j x hx;refine⟨rq,_,rfl,ar.of (s2 _ _ FR),rfl,_,_,rfl,_,_,rfl,_,_,rfl,_,_,rfl,rfl,?_⟩;have Zq8:∀(H3:Hp)(l7 l8:Addr)(u7 u8:List V)(y9 ck:Option V),Zi H H3->H3 l7=some (.lst u7)->bG H3 u7 (ps.filter λx=>decide (x.1=q.2.2.1))->H3 l8=some (.lst u8)->bG H3 u8 (ps.filter λx=>decide (x.1=q.2.2.2))->Zrp { nx:=λσ H2=>∃(y3 y4 y5 y6 y7 y8 y9 ck:Option V),σ =[some (.ref p),some (.ref o),some (.ref dp),y3,y4,y5,y6,y7,y8,y9,ck]/\Zi H H2/\∀q∈one.qs.take (j+1),∀a∈ps,∀b∈ps,a.1=q.2.2.1->b.1=q.2.2.2->aZ fm q a b∈ps,rt:=Q,bk:=u2 { nx:=λ_ H'=>Q .aG H',rt:=Q },ct:=λσ H2=>∃(y3 y4 y5 y6 y7 y8 y9 ck:Option V),σ =[some (.ref p),some (.ref o),some (.ref dp),y3,y4,y5,y6,y7,y8,y9,ck]/\Zi H H2/\∀q∈one.qs.take (j+1),∀a∈ps,∀b∈ps,a.1=q.2.2.1->b.1=q.2.2.2->aZ fm q a b∈ps } [some (.ref p),some (.ref o),some (.ref dp),some (.int q.1),some (.str q.2.1),some (.int q.2.2.1),some (.int q.2.2.2),some (.ref l7),some (.ref l8),y9,ck] H3:=by
    intro H3 l7 l8 u7 u8 y9 ck s3 e7 p7 e8 p8;refine Zr WZ ?_;refine⟨_,rfl,l7,rfl,⟨_,aj.of e7⟩,mX (K:=K) (a:=l7) (xs:=u7) (λi σ H4=>∃(y9 ck:Option V),σ =[some (.ref p),some (.ref o),some (.ref dp),some (.int q.1),some (.str q.2.1),some (.int q.2.2.1),some (.int q.2.2.2),some (.ref l7),some (.ref l8),y9,ck]/\Zi H3 H4/\∀a∈(ps.filter λx=>decide (x.1=q.2.2.1)).take i,∀b∈ps,b.1=q.2.2.2->aZ fm q a b∈ps)
     ⟨_,_,rfl,λ_ _ h=>h,λa h=>(nomatch h)⟩ ?_ ?_ ?_⟩
    ·rintro i σ H4 _ ⟨_,_,_,s4,_⟩;exact aj.of (s4 _ _ e7)
    ·rintro i x σ H4 hx ⟨y9,ck,rfl,s4,gk⟩;obtain⟨ba,pa,xU,rfl,pka⟩:=p7.get i x hx;have uO:=dz.mp (bU xU);obtain⟨ca,yd,kI⟩:=pka;rw[fZ] at kI;refine Zr W0 ?_;refine⟨_,rfl,l8,rfl,⟨_,aj.of (s4 _ _ e8)⟩,mX (K:=K) (a:=l8) (xs:=u8) (λj σ H5=>∃(ck:Option V),σ =[some (.ref p),some (.ref o),some (.ref dp),some (.int q.1),some (.str q.2.1),some (.int q.2.2.1),some (.int q.2.2.2),some (.ref l7),some (.ref l8),some (.ref ba),ck]/\Zi H4 H5/\∀b∈(ps.filter λx=>decide (x.1=q.2.2.2)).take j,aZ fm q pa b∈ps)
      ⟨_,rfl,λ_ _ h=>h,λa h=>(nomatch h)⟩ ?_ ?_ ?_⟩
     ·rintro j σ H5 _ ⟨_,_,s5,_⟩;exact aj.of (s5 _ _ (s4 _ _ e8))
     ·rintro j x σ H5 hx ⟨ck,rfl,s5,nB⟩;obtain⟨bb,pb,i_,rfl,pkb⟩:=p8.get j x hx;have r_:=dz.mp (bU i_);obtain⟨cb,kb1,kb2⟩:=pkb;rw[fZ] at kb2;have yC:=s4.trans s5;have OI:=s3.trans yC;refine Zr W2 ?_;refine⟨_,rfl,_,rfl,_,rfl,_,rfl,ba,_,1,_,rfl,rfl,ar.of (yC _ _ yd),rfl,_,rfl,bb,_,1,_,rfl,rfl,ar.of (yC _ _ kb1),rfl,o,ca,cb,q.2.1,fm,pa.2,pb.2,rfl,hO.same OI,hL,yC _ _ kI,yC _ _ kb2,λrr ks H6 s6 er uQ=>?_⟩;refine⟨by show(2:Nat)<=sizeLine;decide,λt ht=>?_⟩;have q7:Zi H6 (upd H6 t (.tup [.int q.1,.ref rr])):=Zi.new ht;have G0:=(OI.trans s6).trans q7;refine⟨_,rfl,dp,t,kp,pk (q.1,ks),rfl,rfl,(ZF eP ((G0 _ _ eP.1).trans eP.1.symm) λb xs e=>G0 _ _ e).r,⟨rr,Za,by rw[fZ];exact q7 _ _ er⟩,_,rfl,cz (λc=>?_) (λc=>?_)⟩
      ·refine Q1 false _ ⟨λz=>(nomatch z),λz=>?_⟩ G0
       have hm:=z.2 q (bU kC) pa uO.1 pb r_.1 (bh uO.2) (bh r_.2);unfold aZ at hm;rw[t9 uQ] at hm;rw[(lK cW _).mpr hm] at c;cases c
      ·refine⟨_,rfl,(s5.trans s6).trans q7,λb hb=>?_⟩;rw[Zk i_] at hb;rcases bc.mp hb with hb|hb
       ·exact nB b hb
       ·rw[az.mp hb];unfold aZ;rw[t9 uQ];refine(lK cW _).mp ?_;cases z:(valN kp (pk (q.1,ks))).isSome with
        | true=>rfl
        | false=>exact absurd (by rw[z];rfl) c
     ·rintro σ H5 ⟨ck,rfl,s5,nB⟩;rw[p8.length,cH] at nB;refine⟨_,_,rfl,s4.trans s5,λa ha b hb cX=>?_⟩;rw[Zk xU] at ha;rcases bc.mp ha with ha|ha
      ·exact gk a ha b hb cX
      ·rw[az.mp ha];exact nB b (dz.mpr ⟨hb,aF cX⟩)
    ·rintro σ H4 ⟨y9,ck,rfl,s4,gk⟩;rw[p7.length,cH] at gk;refine⟨_,_,_,_,_,_,_,_,rfl,s3.trans s4,λq' cg a ha b hb h1 h2=>?_⟩;rw[Zk kC] at cg;rcases bc.mp cg with cg|cg
     ·exact hd q' cg a ha b hb h1 h2
     ·rw[az.mp cg] at h1 h2 ⊢;exact gk a (dz.mpr ⟨ha,aF h1⟩) b hb h2
   have Zq7:∀(H5:Hp)(nY:Addr)(qf:List V)(y8 y9 ck:Option V),Zi H H5->H5 nY=some (.lst qf)->bG H5 qf (ps.filter λx=>decide (x.1=q.2.2.1))->Zro { nx:=λσ H2=>∃(y3 y4 y5 y6 y7 y8 y9 ck:Option V),σ =[some (.ref p),some (.ref o),some (.ref dp),y3,y4,y5,y6,y7,y8,y9,ck]/\Zi H H2/\∀q∈one.qs.take (j+1),∀a∈ps,∀b∈ps,a.1=q.2.2.1->b.1=q.2.2.2->aZ fm q a b∈ps,rt:=Q,bk:=u2 { nx:=λ_ H'=>Q .aG H',rt:=Q },ct:=λσ H2=>∃(y3 y4 y5 y6 y7 y8 y9 ck:Option V),σ =[some (.ref p),some (.ref o),some (.ref dp),y3,y4,y5,y6,y7,y8,y9,ck]/\Zi H H2/\∀q∈one.qs.take (j+1),∀a∈ps,∀b∈ps,a.1=q.2.2.1->b.1=q.2.2.2->aZ fm q a b∈ps } [some (.ref p),some (.ref o),some (.ref dp),some (.int q.1),some (.str q.2.1),some (.int q.2.2.1),some (.int q.2.2.2),some (.ref nY),y8,y9,ck] H5:=by
    intro H5 nY qf y8 y9 ck sD AG GS;refine Zr WY ?_;refine⟨_,rfl,dp,kp,rfl,sD _ _ eP.1,λGO GX NK=>IT (ob:=GO) (λi us σ H4=>∃v0:Option V,σ =[v0,some (.int q.2.2.2)]/\Zi (upd H5 dp (.aI GO (Zm P w dp kp))) H4/\H4 GX=some (.lst us)/\bG H4 us ((ps.take i).filter λx=>decide (x.1=q.2.2.2)))
     ⟨none,rfl,Zi.new NK,Za,.nil⟩ ?_ ?_ ?_⟩
    ·rintro i us σ H4 _ ⟨_,_,s4,h,_⟩;exact⟨s4 _ _ Za,h⟩
    ·rintro i us k b v σ H4 hi eV ⟨v0,rfl,s4,h,hp⟩;obtain⟨pr,iE,rfl⟩:=at_ eV;have kf:∀b xs,H5 b=some (.tup xs)->H4 b=some (.tup xs):=λb xs e=>s4 _ _ (by rw[Zc (lP e (sD _ _ eP.1) λz=>nomatch z)];exact e)
     have pb:=((eP.2 _ (bU eV)).mono λb xs e=>sD _ _ e).mono kf;obtain⟨cb,k1,k2⟩:=id pb;refine⟨_,rfl,b,_,0,_,rfl,rfl,ar.of k1,rfl,_,rfl,rfl,_,rfl,cz (λc=>?_) (λc=>?_)⟩
     ·have e1:pr.1=q.2.2.2:=by
       have h1:V.int pr.1=V.int q.2.2.2:=bh c;injection h1
      have hlen:us.length<=500:=by
       rw[hp.length];exact bD (qt ..) (bD (by rw[cY];exact Nat.min_le_right ..) xV)
      refine⟨_,rfl,h,by rw[aT];lia,CW.next hi ⟨_,rfl,s4.cC NK,Za,?_⟩⟩
      rw[Zk iE,qm,yT (by simpa using e1)];exact bG.snoc (pb.mono (gL h)) (hp.keep (gL h))
     ·have e1 : ¬ pr.1=q.2.2.2:=λz=>c (aF (by rw[<- z];rfl));refine CW.next hi ⟨_,rfl,s4,h,?_⟩
      rw[Zk iE,qm,yS (by simpa using e1),List.filter_nil,gE];exact hp
    rintro us8 σ HL ⟨v0,rfl,kQ,h8,NF⟩;rw[A_,cH] at NF;refine⟨dp,GO,kp,kQ _ _ Za,nf,?_⟩;have Gw:∀b o,b≠dp->H5 b=some o->(upd HL dp (Zm P w dp kp)) b=some o:=λb o n e=>by
     rw[Zc n];exact kQ _ _ (by rw[Zc n];exact e)
    have s68:Zi H (upd HL dp (Zm P w dp kp)):=λb o e=>by
     by_cases n:b=dp
     ·subst n;rw[eP.1] at e;rw[Za];exact e
     ·exact Gw b o n (sD _ _ e)
    have n8:GX≠dp:=lP h8 (kQ _ _ Za) λz=>nomatch z
    have Ot:∀b o,H5 b=some o->(∀F,o ≠ .ext F)->b≠dp:=λb o e n=>lP e (sD _ _ eP.1) (n _);exact Zq8 _ nY GX qf us8 _ _ s68 (Gw _ _ (Ot _ _ AG λ_ z=>nomatch z) AG) (GS.keep λb xs e=>Gw _ _ (Ot _ _ e λ_ z=>nomatch z) e) (by rw[Zc n8];exact h8) (NF.keep λb xs e=>by
     rw[Zc (lP e (kQ _ _ Za) λz=>nomatch z)]
     exact e)
   refine Zr Eo ?_;refine⟨_,rfl,dp,kp,rfl,s2 _ _ eP.1,λob nY NJ=>IT (ob:=ob) (λi us σ H4=>∃v0:Option V,σ =[v0,some (.int q.2.2.1)]/\Zi (upd H2 dp (.aI ob (Zm P w dp kp))) H4/\H4 nY=some (.lst us)/\bG H4 us ((ps.take i).filter λx=>decide (x.1=q.2.2.1)))
    ⟨none,rfl,Zi.new NJ,Za,.nil⟩ ?_ ?_ ?_⟩
   ·rintro i us σ H4 _ ⟨_,_,s4,h,_⟩;exact⟨s4 _ _ Za,h⟩
   ·rintro i us k b v σ H4 hi eV ⟨v0,rfl,s4,h,hp⟩;obtain⟨pr,iE,rfl⟩:=at_ eV;have kf:∀b xs,H2 b=some (.tup xs)->H4 b=some (.tup xs):=λb xs e=>s4 _ _ (by rw[Zc (lP e (s2 _ _ eP.1) λz=>nomatch z)];exact e)
    have pb:=((eP.2 _ (bU eV)).mono λb xs e=>s2 _ _ e).mono kf;obtain⟨cb,k1,k2⟩:=id pb;refine⟨_,rfl,b,_,0,_,rfl,rfl,ar.of k1,rfl,_,rfl,rfl,_,rfl,cz (λc=>?_) (λc=>?_)⟩
    ·have e1:pr.1=q.2.2.1:=by
      have h1:V.int pr.1=V.int q.2.2.1:=bh c;injection h1
     have hlen:us.length<=500:=by
      rw[hp.length];exact bD (qt ..) (bD (by rw[cY];exact Nat.min_le_right ..) xV)
     refine⟨_,rfl,h,by rw[aT];lia,CW.next hi ⟨_,rfl,s4.cC NJ,Za,?_⟩⟩
     rw[Zk iE,qm,yT (by simpa using e1)];exact bG.snoc (pb.mono (gL h)) (hp.keep (gL h))
    ·have e1 : ¬ pr.1=q.2.2.1:=λz=>c (aF (by rw[<- z];rfl));refine CW.next hi ⟨_,rfl,s4,h,?_⟩
     rw[Zk iE,qm,yS (by simpa using e1),List.filter_nil,gE];exact hp
   rintro qf σ zK ⟨v0,rfl,p_,h7,NE⟩;rw[A_,cH] at NE;refine⟨dp,ob,kp,p_ _ _ Za,nf,?_⟩;have k57:∀b o,b≠dp->H2 b=some o->(upd zK dp (Zm P w dp kp)) b=some o:=λb o n e=>by
    rw[Zc n];exact p_ _ _ (by rw[Zc n];exact e)
   have sD:Zi H (upd zK dp (Zm P w dp kp)):=λb o e=>by
    by_cases n:b=dp
    ·subst n;rw[eP.1] at e;rw[Za];exact e
    ·exact k57 b o n (s2 _ _ e)
   have n7:nY≠dp:=lP h7 (p_ _ _ Za) λz=>nomatch z
   have AG:(upd zK dp (Zm P w dp kp)) nY=some (.lst qf):=by rw[Zc n7];exact h7
   have GS:bG (upd zK dp (Zm P w dp kp)) qf (ps.filter λx=>decide (x.1=q.2.2.1)):=NE.keep λb xs e=>by
    rw[Zc (lP e (p_ _ _ Za) λz=>nomatch z)]
    exact e
   exact Zq7 _ nY qf _ _ _ sD AG GS
  ·rintro σ H2 ⟨y3,y4,y5,y6,y7,y8,y9,ck,rfl,s2,hd⟩;rw[Gf,cH] at hd;show u2 _ _ _;refine Zr e2 ?_;exact Q1 true H2 ⟨λ_=>⟨Fj,hd⟩,λ_=>rfl⟩ s2
 refine Zr e0 ?_;refine⟨_,rfl,p,_,2,_,rfl,rfl,ar.of a1,rfl,f2,rfl,⟨_,ar.of a3⟩,wy (K:=K) (a:=f2) (xs:=one.ts.map V.int) (λj σ H1=>∃y3:Option V,σ =[some (.ref p),some (.ref o),some (.ref dp),y3,none,none,none,none,none,none,none]/\Zi H H1/\∀k∈one.ts.take j,((k,fm.ts):Pk)∈ps)
  ⟨none,rfl,λ_ _ h=>h,λk h=>(nomatch h)⟩ ?_ ?_ ?_⟩
 ·rintro j σ H1 _ ⟨_,_,sm,_⟩;exact ar.of (sm _ _ a3)
 ·rintro j x σ H1 hx ⟨y3,rfl,sm,hd⟩;rw[cp] at hx;obtain⟨y,hy,rfl⟩:=gG.mp hx;refine Zr WX ?_;refine⟨_,rfl,_,rfl,o,_,2,_,rfl,rfl,ar.of (sm _ _ b1),rfl,by show(2:Nat)<=sizeLine;decide,λt ht=>?_⟩;have q1:Zi H1 (upd H1 t (.tup [.int y,.ref g2])):=Zi.new ht;have q2:=sm.trans q1;refine⟨_,rfl,dp,t,kp,pk (y,fm.ts),rfl,rfl,(ZF eP ((q2 _ _ eP.1).trans eP.1.symm) λb xs e=>q2 _ _ e).r,⟨g2,Za,by rw[fZ];exact q2 _ _ b3⟩,_,rfl,cz (λc=>?_) (λc=>?_)⟩
  ·refine Q1 false _ ⟨λz=>(nomatch z),λz=>?_⟩ q2
   rw[(lK cW _).mpr (z.1 y (bU hy))] at c;cases c
  ·refine⟨_,rfl,q2,λk hk=>?_⟩;rw[Zk hy] at hk;rcases bc.mp hk with hk|hk
   ·exact hd k hk
   ·rw[az.mp hk];refine(lK cW _).mp ?_;cases z:(valN kp (pk (y,fm.ts))).isSome with
    | true=>rfl
    | false=>exact absurd (by rw[z];rfl) c
 ·rintro σ H1 ⟨y3,rfl,sm,hd⟩;rw[ay,cH] at hd;exact sI _ _ _ _ _ _ _ _ _ sm hd
theorem bI.refs{H:Hp}:∀{zs:List V}{ms:List Pk},bI H zs ms->∀z∈zs,∃c,z=V.ref c
 | _,_,.nil,_,h=>(nomatch h)
 | _,_,.cons ⟨t,_,_,h1,_⟩ k,z,h=>(aJ.mp h).elim (λe=>⟨t,e.trans h1⟩) λh=>bI.refs k z h
def C7(K:PySem.W.Frag):Sp:=λvs H Q _=>∃(p o r:Addr)(one fm:FQ)(zs:List V)(ms:List Pk),vs=[.ref p,.ref o,.ref r]/\dE H p one/\dE H o fm/\lN fm/\fm.qs.length<=63/\one.ts.length<=63/\one.qs.length<=63/\aj K H r zs/\bI H zs ms/\ms.length<=500/\(∀x∈ms,qM x)/\∀H',Zi H H'->Q (.bl true) H'
variable{cJ eB:Addr}
set_option maxHeartbeats 4000000 in
theorem Rm(B:∀x∈dM,mg x=none)(lT:mV K cJ)(o9:mV K eB)(o_:oJ P w K mg base cJ "Kinds" ["self","form"] 1 (tP K cJ)) (ED:oJ P w K mg base eB "Others" ["self","form"] 1 (tP K eB)) (pd:dY P w K mg base "holds" ["form","measure","rows"] 3 (Sp.or (qX K cJ) (qX K eB))) (EJ:dY P w K mg base "_law_closed" ["_law_one","_law_other","_law_pairs"] 2 (JY P w)) (F:bR K "_law_asked" "_law_asked" jz f fd):aX P w K mg base cx 4 f fd ["_law_one","_law_other","_law_rows"] (C7 K):=by
 refine F.ok qT (λvs H Q E h=>?_) (λaP A outer s H vs Q E hr h=>?_)
 ·obtain⟨p,o,r,one,fm,zs,ms,rfl,_⟩:=h;rfl
 obtain⟨p,o,r,one,fm,zs,ms,rfl,hF,hO,hL,hfq,gW,sh,hS,hR,eG,ah,Q1⟩:=h;have cN:=lE hr;have hu:=wA hr;obtain⟨f1,f2,f3,zf,a1,a2,a3,a4,a5⟩:=id hF;have dQ:=hR.length;refine Zt ((Zf jz).drop 7) (Zj (Z3 (DY (tW gM (pv 6) (pv 8) (dI _)) (DY (tW gM (pv 7) (pv 8) (dI _)) (Lr (tW (Lj hu (K:=K) rfl) (pv 3) (pv 2) (dI _))))))) (λu7 h7 e7=>?_);refine Zt ((Zf jz).drop 6) (Zd (c5 (PW.pt (LX (Ao (kj (Zx IZ rfl (B "isinstance" (by decide)) Iv (Zb (pv 6) (Zb (LP rfl (B "bool" (by decide)) KL) Ze))) (λ_=>rfl))) (LB (Ao (kj (Zx IZ rfl (B "isinstance" (by decide)) Iv (Zb (pv 7) (Zb (LP rfl (B "bool" (by decide)) KL) Ze))) (λ_=>rfl))))))
   (Zj (Z3 f'))
   ZQ) h7) (λu6 h6 e6=>?_)
 refine Zt ((Zf jz).drop 5) (Zd (Zz (i:=8) qT.nd rfl (Or.inl rfl) (d5 EJ hr rfl (Zb (pv 0) (Zb (pv 1) (Zb (pv 4) Ze))))) h6) (λu5 h5 e5=>?_);refine Zt ((Zf jz).drop 4) (Zd (Zz (i:=7) qT.nd rfl (Or.inl rfl) (d5 pd hr rfl (Zb (pv 0) (Zb (tU ED hr rfl (Zb (pv 1) Ze)) (Zb (pv 3) Ze))))) h5) (λu4 h4 e4=>?_);refine Zt ((Zf jz).drop 3) (Zd (Zz (i:=6) qT.nd rfl (Or.inl rfl) (d5 pd hr rfl (Zb (pv 0) (Zb (tU o_ hr rfl (Zb (pv 1) Ze)) (Zb (pv 3) Ze))))) h4) (λu3 h3 e3=>?_);refine Zt ((Z4 ((Zf jz).getD 2 (.Pass ⟨0,0,0,0⟩))).drop 0) (Zj (wj cN (pv 4) (c7 (Zb (ZJ ZD (pv 5) Zh (λ_ _=>rfl)) (Zb (ZJ ZD (pv 5) Zh (λ_ _=>rfl)) Ze))) f' rfl)) (λHj xr xk=>?_);refine Zt ((Zf jz).drop 2) (Zd (e_ fE rfl (iU (pv 2)) (Zq (i:=5) qT.nd rfl (Or.inl rfl))
   xr) h3) (λu2 h2 e2=>?_)
 refine Zt ((Zf jz).drop 1) (Zd (Zz (i:=4) qT.nd rfl (Or.inl rfl) z6) h2) (λu1 h1 e1=>?_);refine Zt ((Zf jz).drop 0) (Zd (Zz (i:=3) qT.nd rfl (Or.inl rfl) (ZV Io rfl (B "list" (by decide)) KU (Zb (pv 2) Ze))) h1) (λu0 h0 e0=>?_);refine⟨u0,h0,?_⟩;refine Zr e0 ?_;refine⟨_,rfl,r,_,rfl,.inl hS,λhd uI=>?_⟩;have s0:Zi H (upd H hd (.lst zs)):=Zi.new uI;have AF:(upd H hd (.lst zs)) hd=some (.lst zs):=Za;have Q1:∀H',Zi (upd H hd (.lst zs)) H'->Q (.bl true) H':=λH' s=>Q1 H' (s0.trans s);have hS:=s0.seq hS;have hF:=hF.same s0;have hO:=hO.same s0;have hR:=hR.keep λb xs e=>s0 _ _ e;clear a1 a2 a3 a4 a5;generalize upd H hd (.lst zs)=H0 at AF Q1 hS hF hO hR ⊢;clear s0 uI;have gB:∀(dp:Addr)(kp:List (ZG×Addr×V))(ps:List Pk)(H1:Hp)(y5:Option V),Zi H0 H1->bF P w H1 dp kp->kp.map (·.1)=ps.map pk->ps.length<=500->(∀x,x∈ps↔x∈ms)->u3 { nx:=λ_ H'=>Q .aG H',rt:=Q } [some (.ref p),some (.ref o),some (.ref r),some (.ref hd),some (.ref dp),y5,none,none,none] H1:=by
  intro dp kp ps H1 y5 sm eP cW xV bB;have cl:fL one fm ps↔fL one fm ms:=fL.iff bB;refine Zr e3 ?_;refine⟨_,rfl,_,rfl,λx4 d4 kH gk rW=>⟨x4,o,d4,fm,rfl,Za,(hO.same sm).same (making kH gk rW),by lia,λH4 GA K4=>⟨rfl,?_⟩⟩⟩;have t4:=made kH gk GA;have s4:=sm.trans t4;refine⟨_,rfl,.inl ⟨p,x4,hd,one,fm,zs,ms,rfl,hF.same s4,K4,hL,gW,sh,aj.of (s4 _ _ AF),hR.keep λb xs e=>s4 _ _ e,eG,ah,λb1 H5 cj s5=>?_⟩⟩;show u4 _ _ _;refine Zr e4 ?_;have Px:=s5;have s5:=s4.trans s5;refine⟨_,rfl,_,rfl,λx6 d6 x8 xE FD=>⟨x6,o,d6,fm,rfl,Za,(hO.same s5).same (making x8 xE FD),by lia,λH6 kb6 K6=>⟨rfl,?_⟩⟩⟩;have t6:=made x8 xE kb6;have s6:=s5.trans t6;refine⟨_,rfl,.inr ⟨p,x6,hd,one,fm,zs,ms,rfl,hF.same s6,K6,hL,gW,sh,aj.of (s6 _ _ AF),hR.keep λb xs e=>s6 _ _ e,eG,ah,λb2 H7 cX s7=>?_⟩⟩;have OJ:=(t4.trans Px).trans (t6.trans s7);have s7:=s6.trans s7;show u5 _ _ _;refine Zr e5 ?_;refine⟨_,rfl,_,rfl,_,rfl,p,o,dp,one,fm,kp,ps,rfl,hF.same s7,hO.same s7,hL,ZF eP ((OJ _ _ eP.1).trans eP.1.symm) (λb xs e=>OJ _ _ e),cW,xV,λb3 H8 gQ s8=>?_⟩;have s8:=s7.trans s8;have e1:b1=b3:=mB.mpr (cj.trans (cl.symm.trans gQ.symm));have e2:b2=b3:=mB.mpr (cX.trans (cl.symm.trans gQ.symm));subst e1 e2;show u6 _ _ _;refine Zr e6 ?_;refine⟨_,rfl,.bl _,"bool",.type "bool",true,rfl,.bl _,rfl,true,rfl,jE ?_⟩;refine⟨_,rfl,.bl _,"bool",.type "bool",true,rfl,.bl _,rfl,true,rfl,jE ?_⟩;show u7 _ _ _;refine Zr e7 ?_;refine⟨_,rfl,_,rfl,rfl,?_⟩;rw[aF rfl];refine⟨true,rfl,AA ?_⟩;refine⟨_,rfl,_,rfl,rfl,?_⟩;rw[aF rfl];refine⟨true,rfl,AA ?_⟩;exact⟨_,rfl,_,rfl,hd,r,zs,rfl,rfl,aj.of (s8 _ _ AF),s8.seq hS,λz hz=>hR.refs z hz,Q1 _ s8⟩
 show u1 _ _ _;refine Zr e1 ?_;refine λdp pA=>?_;have s1:Zi H0 (upd H0 dp (Zm P w dp [])):=Zi.new pA;show u2 _ _ _;refine Zr e2 ?_;refine⟨_,rfl,r,rfl,⟨_,s1.seq hS⟩,mX (K:=K) (a:=r) (xs:=zs) (λi σ H1=>∃(y5:Option V)(kp:List (ZG×Addr×V))(ps:List Pk),σ =[some (.ref p),some (.ref o),some (.ref r),some (.ref hd),some (.ref dp),y5,none,none,none]/\Zi H0 H1/\bF P w H1 dp kp/\kp.map (·.1)=ps.map pk/\ps.length<=i/\∀x,x∈ps↔x∈ms.take i)
  ⟨none,[],[],rfl,s1,⟨Za,λx hx=>(nomatch hx)⟩,rfl,aq _,λx=>⟨λh=>(nomatch h),λh=>(nomatch h)⟩⟩ ?_ ?_ ?_⟩
 ·rintro i σ H1 _ ⟨_,_,_,_,sm,_⟩;exact sm.seq hS
 ·rintro i x σ H1 hx ⟨y5,Bu,ps,rfl,sm,eP,cW,aA,bB⟩;obtain⟨mi,t,c,rest,pH,rfl,ht,hc⟩:=hR.get i x hx;have hi:=(dc.mp hx).1;have gn:=sm _ _ ht;have fq:=sm _ _ hc;have A_:Bu.length=ps.length:=by have:=congrArg List.length cW;simpa using this
  refine Zr xk ?_;have st:∀(p2:Addr)(H2:Hp),Zi H1 H2->aN H2 p2 (pk mi)->∃(y5:Option V)(kp:List (ZG×Addr×V))(ps:List Pk),[some (V.ref p),some (.ref o),some (.ref r),some (.ref hd),some (.ref dp),some (.ref t),none,none,none] =[some (.ref p),some (.ref o),some (.ref r),some (.ref hd),some (.ref dp),y5,none,none,none]/\Zi H0 (upd H2 dp (Zm P w dp (putN Bu (pk mi) p2 (.bl true))))/\bF P w (upd H2 dp (Zm P w dp (putN Bu (pk mi) p2 (.bl true)))) dp kp/\kp.map (·.1)=ps.map pk/\ps.length<=i+1/\∀x,x∈ps↔x∈ms.take (i+1):=by
   intro p2 H2 q2 pZ;have lV:=ZF eP ((q2 _ _ eP.1).trans eP.1.symm) λb xs e=>q2 _ _ e;refine⟨some (.ref t),_,iu ps mi,rfl,λb o e=>?_,lV.put pZ (.bl true),C_ cW,bD (Dh _ _) (by lia),λx=>?_⟩
   ·rw[Zc (λz=>by rw[z,pA] at e;cases e)];exact q2 _ _ (sm _ _ e)
   ·rw[ww,Zk pH,bc,az,bB]
  refine⟨_,rfl,_,rfl,t,_,0,_,rfl,rfl,ar.of gn,w6,_,rfl,t,_,1,_,rfl,rfl,ar.of gn,ro,by show(2:Nat)<=sizeLine;decide,λp2 dP=>?_⟩;have q2:Zi H1 (upd H1 p2 (.tup [.int mi.1,.ref c])):=Zi.new dP;have pZ:aN (upd H1 p2 (.tup [.int mi.1,.ref c])) p2 (pk mi):=⟨c,Za,by rw[fZ];exact q2 _ _ fq⟩;exact⟨dp,p2,Bu,_,rfl,rfl,ZF eP ((q2 _ _ eP.1).trans eP.1.symm) (λb xs e=>q2 _ _ e),pZ,by rw[aT];lia,st p2 _ q2 pZ⟩
 ·rintro σ H1 ⟨y5,kp,ps,rfl,sm,eP,cW,aA,bB⟩;rw[dQ,cH] at bB;exact gB dp kp ps H1 y5 sm eP cW (by lia) bB
theorem bI.append{H:Hp}:∀{a b:List V}{x y:List Pk},bI H a x->bI H b y->bI H (a++b) (x++y)
 | _,_,_,_,.nil,h=>h
 | _,_,_,_,.cons e t,h=>.cons e (bI.append t h)
theorem bI.take{H:Hp}:∀{a:List V}{x:List Pk},bI H a x->∀n,bI H (a.take n) (x.take n)
 | _,_,.nil,n=>by rw[List.take_nil,List.take_nil];exact .nil
 | _,_,.cons e t,0=>.nil
 | _,_,.cons e t,n+1=>.cons e (bI.take t n)
theorem bI.drop{H:Hp}:∀{a:List V}{x:List Pk},bI H a x->∀n,bI H (a.drop n) (x.drop n)
 | _,_,.nil,n=>by rw[List.drop_nil,List.drop_nil];exact .nil
 | _,_,.cons e t,0=>.cons e t
 | _,_,.cons e t,n+1=>bI.drop t n
theorem bI.rev{H:Hp}:∀{a:List V}{x:List Pk},bI H a x->bI H a.reverse x.reverse
 | _,_,.nil=>.nil
 | _,_,.cons e t=>by
  rw[sW,sW];exact bI.append (bI.rev t) (.cons e .nil)
def Rz(n:Nat)(H:Hp)(zs:List V):Prop := ∃ms,bI H zs ms/\ms.length<=n/\∀x∈ms,qM x
theorem Rz.keep{n:Nat}{H H':Hp}{zs:List V}(h:Rz n H zs)(s:TK H H'):Rz n H' zs:=by
 obtain⟨ms,h1,h2,h3⟩:=h;exact⟨ms,h1.keep s,h2,h3⟩
variable{n:Nat}
theorem Rz.len(h:Rz n H zs):zs.length<=n:=by
 obtain⟨ms,h1,h2,h3⟩:=h;rw[h1.length];exact h2
variable{m:Nat}
theorem Rz.app{k:Nat}{a b:List V}(h1:Rz n H a)(h2:Rz m H b)(hk:n+m<=k):Rz k H (a++b):=by
 obtain⟨x,a1,a2,a3⟩:=h1;obtain⟨y,b1,b2,b3⟩:=h2;refine⟨x++y,a1.append b1,by rw[bL];lia,λz hz=>?_⟩;rcases bc.mp hz with hz|hz
 ·exact a3 z hz
 ·exact b3 z hz
theorem Rz.cut(h:Rz n H zs)(lo hi:Option Int):Rz n H (bV zs lo hi):=by
 obtain⟨ms,h1,h2,h3⟩:=h;unfold bV;exact⟨_,(h1.drop _).take _,by rw[cY,oo];lia,λx hx=>h3 x (List.mem_of_mem_drop (List.mem_of_mem_take hx))⟩
theorem Rz.rev{n:Nat}{H:Hp}{zs:List V}(h:Rz n H zs):Rz n H zs.reverse:=by
 obtain⟨ms,h1,h2,h3⟩:=h;exact⟨_,h1.rev,by rw[B2];exact h2,λx hx=>h3 x (List.mem_reverse.mp hx)⟩
theorem Rz.le(h:Rz n H zs)(hm:n<=m):Rz m H zs:=by
 obtain⟨ms,h1,h2,h3⟩:=h;exact⟨ms,h1,bD h2 hm,h3⟩
theorem Rz.nil{n:Nat}{H:Hp}:Rz n H []:=⟨[],.nil,bE _,λx h=>(nomatch h)⟩
theorem Rz.one{n:Nat}{H:Hp}{zs:List V}(h:Rz n H zs){i:Nat}{z:V}(hz:zs[i]?= some z):Rz 1 H [z]:=by
 obtain⟨ms,h1,h2,h3⟩:=h;obtain⟨m,t,c,rest,hm,rfl,e1,e2⟩:=h1.get i z hz;exact⟨[m],.cons ⟨t,c,rest,rfl,e1,e2⟩ .nil,aq _,λx hx=>by rw[az.mp hx];exact h3 m (bU hm)⟩
def El(l:Addr)(H:Hp)(z:V):Prop := ∃a zs,z=V.ref a/\a≠l/\H a=some (.lst zs)/\Rz 500 H zs
theorem El.same{z:V}(h:El l H z)(s:Zi H H'):El l H' z:=by
 obtain⟨a,zs,e,n,h1,h2⟩:=h;exact⟨a,zs,e,n,s _ _ h1,h2.keep λb xs e=>s _ _ e⟩
theorem El.upd{l:Addr}{H:Hp}{z:V}{us qI:List V}(h:El l H z)(hl:H l=some (.lst us)):El l (L2.upd H l (.lst qI)) z:=by
 obtain⟨a,zs,e,n,h1,h2⟩:=h;exact⟨a,zs,e,n,by rw[Zc n];exact h1,h2.keep (gL hl)⟩
theorem El.to{l':Addr}{z:V}(h:El l H z)(s:Zi H H')(hn:H l'=none):El l' H' z:=by
 obtain⟨a,zs,e,n,h1,h2⟩:=h;exact⟨a,zs,e,Zg h1 hn,s _ _ h1,h2.keep λb xs e=>s _ _ e⟩
theorem LG(h:0<zs.length)(c:Int):∃(k:Nat)(z:V),zs[k]?= some z/\iy zs (c % (zs.length:Nat))=some z:=by
 have h1:0<=c % (zs.length:Int):=jW _ (by lia);have h2:c % (zs.length:Int)<zs.length:=jV _ (by lia);have h3:(c % (zs.length:Int)).toNat<zs.length:=by lia
 refine⟨(c % (zs.length:Int)).toNat,zs[(c % (zs.length:Int)).toNat],bT h3,?_⟩;have e:c % (zs.length:Int)=(((c % (zs.length:Int)).toNat:Nat):Int):=by lia
 have:=wg (bT h3);rw[<- e] at this;exact this
def JS(K:PySem.W.Frag):Sp:=λvs H Q _=>∃(a p r:Addr)(ns:List Int)(one:FQ)(zs:List V),vs=[.ref a,.ref p,.ref r]/\aj K H a (ns.map V.int)/\ns.length<=63/\dE H p one/\H r=some (.lst zs)/\Rz 64 H zs/\(zs ≠ []->1<=one.n) /\
 ∀l us H',Zi H H'->H' l=some (.lst us)->us.length<=100->(∀z∈us,El l H' z)->Q (.ref l) H'
set_option maxHeartbeats 4000000 in
theorem Rl(B:∀x∈dM,mg x=none)(jJ:dY P w K mg base "_law_cell" ["_law_script","_law_k"] 1 (zZ K)) (F:bR K "_law_lists" "_law_lists" ZS f fd):aX P w K mg base cx 2 f fd ["_law_script","_law_one","_law_rows"] (JS K):=by
 refine F.ok oQ (λvs H Q E h=>?_) (λaP A outer s H vs Q E hr h=>?_)
 ·obtain⟨a,p,r,ns,one,zs,rfl,_⟩:=h;rfl
 obtain⟨a,p,r,ns,one,zs,rfl,hS,i5,hF,kD,hZ,hn,Q1⟩:=h;have cN:=lE hr;have hu:=wA hr;obtain⟨f1,f2,f3,zf,a1,a2,a3,a4,a5⟩:=id hF;have dQ:=hZ.len;refine Zt ((Zf ZS).drop 5) (Zj (Z3 (pv 5))) (λu5 h5 e5=>?_);refine Zt ((Z4 ((Zf ZS).getD 4 (.Pass ⟨0,0,0,0⟩))).drop 1) (Zj (ij (lO jX mF mG jA (pv 5) (Zb (Zv lG (tO tV (pv 2) tT (tY (pv 8))) (tO tV (pv 2) (tY (Zv d9 (pv 8) Zh)) tT)) Ze)))) (λZrt XZ Xb=>?_);refine Zt ((Z4 ((Zf ZS).getD 4 (.Pass ⟨0,0,0,0⟩))).drop 0) (Zd (Zz (i:=8) oQ.nd rfl (Or.inl rfl) (Zv Z7 (Zv d9 (pv 7) (pv 3)) (Zx Zy rfl (B "len" (by decide)) fV (Zb (pv 2) Ze)))) XZ) (λZs9 XY Xa=>?_);refine Zt ((Zf ZS).drop 4) (Zd (e_ fE rfl (zR rfl (B "range" (by decide)) (Zb (Zx (CT rfl) rfl (B "min" (by decide)) wI (Zb (Zx Zy rfl (B "len" (by decide)) fV (Zb (pv 2) Ze)) (Zb Zh Ze))) Ze)) (Zq (i:=7) oQ.nd rfl (Or.inl rfl))
   XY) h5) (λu4 h4 e4=>?_)
 refine Zt ((Z4 ((Zf ZS).getD 3 (.Pass ⟨0,0,0,0⟩))).drop 2) (Zj (Zz (i:=5) oQ.nd rfl (Or.inl rfl) (Zv lG (pv 5) (Z1 (Zb (Zv lG (pv 2) (Z1 (Zb (pv 6) Ze))) (Zb (Zv lG (Z1 (Zb (pv 6) Ze)) (tO tV (pv 2) (tY (Zv Z7 (Zv fM (pv 3) Zh) (Zx Zy rfl (B "len" (by decide)) fV (Zb (pv 2) Ze)))) tT)) (Zb (Zv lG (pv 4) (Z1 (Zb (pv 6) Ze))) Ze))))))) (λZrs XX W_=>?_);refine Zt ((Z4 ((Zf ZS).getD 3 (.Pass ⟨0,0,0,0⟩))).drop 1) (Zd (Zz (i:=6) oQ.nd rfl (Or.inl rfl) (c7 (Zb (Zv Z7 (pv 3) (ZJ ZD (pv 1) Zh (λ_ _=>rfl))) (Zb (ZJ ZD (ZJ wB (pv 2) (Zv Z7 (Zv fM (pv 3) Zh) (Zx Zy rfl (B "len" (by decide)) fV (Zb (pv 2) Ze))) (λ_ _=>rfl)) Zh (λ_ _=>rfl)) Ze)))) XX) (λZrr XW W'=>?_);refine Zt ((Z4 ((Zf ZS).getD 3 (.Pass ⟨0,0,0,0⟩))).drop 0) (Zd (ij (lO jX mF mG jA (pv 5) (Zb (Zv lG (pv 2) (Z1 (Zb (ZJ wB (pv 2) (Zv Z7 (pv 3) (Zx Zy rfl (B "len" (by decide)) fV (Zb (pv 2) Ze))) (λ_ _=>rfl)) Ze))) Ze))) XW) (λZs8 XU W9=>?_);refine Zt ((Zf ZS).drop 3) (Zd (c5 (fb D_ (Zx Zy rfl (B "len" (by decide)) fV (Zb (pv 2) Ze)) Zh (dI _))
   XU
   ZQ) h4) (λu3 h3 e3=>?_)
 refine Zt ((Zf ZS).drop 2) (Zd (Zz (i:=5) oQ.nd rfl (Or.inl rfl) (Z1 (Zb (pv 2) (Zb (oX (cl:=[]) ["_law_row"] [] (Uo rfl (B "reversed" (by decide)) (Zb (pv 2) Ze)) (λ_ _ _ _=>(Zq (i:=0) jQ rfl (Or.inl rfl))) (λ_ _ _ _=>(pv 0)) rfl rfl (by decide) rfl (by decide) (λ_ _ h=>nomatch h) (t7 (by decide)) (λ_ _ h=>nomatch h) (λ_=>rfl)) (Zb (pv 4) (Zb (tO tV (pv 2) tT (tY (Zv fM (Zx Zy rfl (B "len" (by decide)) fV (Zb (pv 2) Ze)) Zh))) (Zb (Z1 Ze) Ze))))))) h3) (λu2 h2 e2=>?_)
 refine Zt ((Zf ZS).drop 1) (Zd (zX (cl:=[]) (n0:=4) oQ.nd rfl (Or.inl rfl) ["_law_row"] [] (iU (pv 2)) (λ_ _ _ _=>(Zq (i:=0) jQ rfl (Or.inl rfl))) (λ_ _ _ _=>(c7 (Zb (ZJ (oV (K:=K) rfl) (pv 0) Zh (λ_ _=>rfl)) (Zb (ZJ (oV (K:=K) rfl) (pv 0) Zh (λ_ _=>rfl)) Ze)))) rfl rfl (by decide) rfl (by decide) (λ_ _ h=>nomatch h) (t7 (by decide)) (λ_ _ h=>nomatch h) (λ_=>rfl) rfl) h2) (λu1 h1 e1=>?_)
 refine Zt ((Zf ZS).drop 0) (Zd (Zz (i:=3) oQ.nd rfl (Or.inl rfl) (d5 jJ hr rfl (Zb (pv 0) (Zb Zh Ze)))) h1) (λu0 h0 e0=>?_);refine⟨u0,h0,?_⟩;have sJ:∀(c:Int)(H3:Hp)(l:Addr)(y4 y6:Option V)(us:List V),0<=c->Zi H H3->H l=none->H3 l=some (.lst us)->us.length<=10->(∀z∈us,El l H3 z)->u4 { nx:=λ_ H'=>Q .aG H',rt:=Q } [some (.ref a),some (.ref p),some (.ref r),some (.int c),y4,some (.ref l),y6,none,none] H3:=by
  intro c H3 l y4 y6 us hc s3 bp hl xZ jL;refine Zr e4 ?_;have M':∀H',Zi H H'->Rz 64 H' zs:=λH' s=>hZ.keep λb xs e=>s _ _ e;obtain⟨j,hj,Y5,Fv,hj8⟩:∃j:Int,(if(8:Int)<((zs.length:Nat):Int) then(8:Int) else((zs.length:Nat):Int))=j/\0<=j/\j<=(zs.length:Int)/\j<=8:=by
   by_cases c:(8:Int)<((zs.length:Nat):Int)
   ·exact⟨_,ai c,by lia,by lia,by lia⟩
   ·exact⟨_,ag c,by lia,by lia,by lia⟩
  refine⟨_,rfl,r,zs,rfl,.inl (aj.of (s3 _ _ kD)),_,_,rfl,j,(by rw[hj]),by lia,by lia,JL (lo:=0) (n:=j.toNat) (λi σ H4=>∃(y7 y8:Option V)(us:List V),σ =[some (.ref a),some (.ref p),some (.ref r),some (.int c),y4,some (.ref l),y6,y7,y8]/\Zi H H4/\H4 l=some (.lst us)/\us.length<=10+i/\∀z∈us,El l H4 z)
   ⟨none,none,us,rfl,s3,hl,by lia,jL⟩ ?_ ?_⟩
  ·rintro i σ H4 hi ⟨y7,y8,Hl,rfl,s4,nG,ZpB,xH⟩;have pO:=s4 _ _ kD;refine Zr Xa ?_;refine⟨_,rfl,_,rfl,_,_,rfl,rfl,_,rfl,r,zs,rfl,.inl (aj.of pO),_,_,rfl,rfl,by lia,?_⟩;show Zrt _ _ _;refine Zr Xb ?_;refine⟨_,rfl,.inl ⟨rfl,_,aj.of nG⟩,_,rfl,_,rfl,_,rfl,r,zs,rfl,aj.of pO,λp1 eX=>?_⟩;have e1:=Za (H:=H4) (a:=p1) (o:=.lst (bV zs none (some ((0+(i:Int)+c) % (zs.length:Nat)))));have s1:=Zi.new (o:=.lst (bV zs none (some ((0+(i:Int)+c) % (zs.length:Nat))))) eX;have z1:=(M' _ s4).cut none (some ((0+(i:Int)+c) % (zs.length:Nat)));refine⟨_,rfl,_,rfl,_,_,rfl,rfl,_,rfl,r,zs,rfl,aj.of (s1 _ _ pO),λp2 dP=>?_⟩;have e2:=Za (H:=upd H4 p1 (.lst (bV zs none (some ((0+(i:Int)+c) % (zs.length:Nat)))))) (a:=p2) (o:=.lst (bV zs (some ((0+(i:Int)+c) % (zs.length:Nat)+1)) none));have s2:=Zi.new (o:=.lst (bV zs (some ((0+(i:Int)+c) % (zs.length:Nat)+1)) none)) dP;have z2:=(M' _ s4).cut (some ((0+(i:Int)+c) % (zs.length:Nat)+1)) none;refine⟨p1,p2,_,_,rfl,rfl,s2 _ _ e1,e2,by have:=z1.len;have:=z2.len;rw[aT];lia,λp3 nM=>?_⟩;have z3:=z1.app z2 (k:=500) (by decide);have kP:=(s1.trans s2).trans (Zi.new (o:=.lst (bV zs none (some ((0+(i:Int)+c) % (zs.length:Nat)))++bV zs (some ((0+(i:Int)+c) % (zs.length:Nat)+1)) none)) nM);have e3:=Za (H:=upd (upd H4 p1 (.lst (bV zs none (some ((0+(i:Int)+c) % (zs.length:Nat)))))) p2 (.lst (bV zs (some ((0+(i:Int)+c) % (zs.length:Nat)+1)) none))) (a:=p3) (o:=.lst (bV zs none (some ((0+(i:Int)+c) % (zs.length:Nat)))++bV zs (some ((0+(i:Int)+c) % (zs.length:Nat)+1)) none));have ZU:p3≠l:=(Zg (s2 _ _ (s1 _ _ nG)) nM).symm;exact⟨l,_,_,rfl,rfl,kP _ _ nG,by rw[aT];lia,_,_,Hl ++ [.ref p3],rfl,(s4.trans kP).cC bp,Za,by rw[bL,fS];lia,λz hz=>by
    rcases bc.mp hz with hz|hz
    ·exact((xH z hz).same kP).upd (kP _ _ nG)
    ·rw[az.mp hz];exact El.upd ⟨p3,_,rfl,ZU,e3,z3.keep λb xs e=>kP _ _ e⟩ (kP _ _ nG)⟩
  ·rintro σ H4 ⟨y7,y8,Hl,rfl,s4,nG,ZpB,xH⟩;show u5 _ _ _;refine Zr e5 ?_;exact⟨_,rfl,Q1 l Hl H4 s4 nG (by lia) xH⟩
 refine Zr e0 ?_;refine⟨_,rfl,a,ns,3,rfl,hS,i5,by decide,by decide,λc c0 c1=>?_⟩;have gB:∀(H3:Hp)(l ls:Addr)(us zt:List V),Zi H H3->H l=none->H3 l=some (.lst us)->us.length=5->(∀z∈us,El l H3 z)->ls≠l->H3 ls=some (.lst zt)->Rz 64 H3 zt->u3 { nx:=λ_ H'=>Q .aG H',rt:=Q } [some (.ref a),some (.ref p),some (.ref r),some (.int c),some (.ref ls),some (.ref l),none,none,none] H3:=by
  intro H3 l ls us zt s3 bp hl xZ jL nJ pG Gi;refine Zr e3 ?_;have l9:=s3 _ _ kD;have AY:=hZ.keep λb xs e=>s3 _ _ e;refine⟨_,rfl,r,zs,rfl,.inl (aj.of l9),_,_,rfl,rfl,_,rfl,cz (λcc=>?_) (λcc=>?_)⟩;rotate_left
  ·exact sJ c H3 l _ none us c0 s3 bp hl (by lia) jL
  have sg:0<zs.length:=by have:=bh cc;lia
  have xQ:1<=one.n:=hn λz=>by rw[z] at sg;exact absurd sg (by decide)
  have gX:=Gi.len;obtain⟨k1,z1,N2,O9⟩:=LG sg c;refine Zr W9 ?_;refine⟨_,rfl,.inl ⟨rfl,_,aj.of hl⟩,_,rfl,_,rfl,_,rfl,_,rfl,r,zs,rfl,.inl (aj.of l9),_,_,rfl,rfl,by lia,r,zs,_,z1,rfl,rfl,aj.of l9,O9,by show(1:Nat)<=sizeLine;decide,λb1 cj=>?_⟩;have s1:=Zi.new (o:=.lst [z1]) cj;have e1:=Za (H:=H3) (a:=b1) (o:=.lst [z1]);generalize upd H3 b1 (.lst [z1])=G1 at s1 e1 ⊢;refine⟨r,b1,zs,_,rfl,rfl,s1 _ _ l9,e1,by rw[aT,fS];lia,λb2 cX=>?_⟩;have s2:=Zi.new (o:=.lst (zs ++ [z1])) cX;have e2:=Za (H:=G1) (a:=b2) (o:=.lst (zs ++ [z1]));generalize upd G1 b2 (.lst (zs ++ [z1]))=G2 at s2 e2 ⊢;have n2:b2≠l:=(Zg (s1 _ _ hl) cX).symm;have p9:=s1.trans s2;refine⟨l,_,_,rfl,rfl,p9 _ _ hl,by rw[aT];lia,?_⟩;have w2:Rz 500 H3 (zs ++ [z1]):=AY.app (AY.one N2) (by decide);have Fi:∀z∈us ++ [.ref b2],El l (upd G2 l (.lst (us ++ [.ref b2]))) z:=λz hz=>by
   rcases bc.mp hz with hz|hz
   ·exact((jL z hz).same p9).upd (p9 _ _ hl)
   ·rw[az.mp hz];exact El.upd ⟨b2,_,rfl,n2,e2,w2.keep λb xs e=>p9 _ _ e⟩ (p9 _ _ hl)
  have k2:∀b o,b≠l->H3 b=some o->(upd G2 l (.lst (us ++ [.ref b2]))) b=some o:=λb o n e=>by
   rw[Zc n];exact p9 _ _ e
  have Es:=Za (H:=G2) (a:=l) (o:=.lst (us ++ [.ref b2]));have nlr:r≠l:=Zg kD bp;have Gx:TK H3 (upd G2 l (.lst (us ++ [.ref b2]))):=λb xs e=>k2 b _ (λz=>by rw[z,hl] at e;cases e) e;have oH:Zi H (upd G2 l (.lst (us ++ [.ref b2]))):=(s3.trans p9).cC bp;have nQ:=k2 _ _ nlr l9;have rS:=k2 _ _ nJ pG;have pq:=AY.keep Gx;have Gj:=Gi.keep Gx;generalize upd G2 l (.lst (us ++ [.ref b2]))=G3 at Fi Es oH nQ rS pq Gj ⊢;clear k2 Gx p9 n2 e2 s2 cX e1 s1 cj w2 jL hl l9 AY s3 pG Gi;show Zrr _ _ _;refine Zr W' ?_;obtain⟨k3,z3,hz3,Wy⟩:=LG sg (c / 3);obtain⟨ms,hR,eG,ah⟩:=id pq;obtain⟨mi,t,d,rest,pH,rfl,ht,hd⟩:=hR.get k3 z3 hz3;refine⟨_,rfl,_,rfl,p,_,0,_,rfl,rfl,ar.of (oH _ _ a1),rfl,_,_,rfl,rfl,by lia,_,rfl,_,rfl,_,_,rfl,rfl,⟨by decide,by decide⟩,_,rfl,r,zs,rfl,.inl (aj.of nQ),_,_,rfl,rfl,by lia,r,zs,_,.ref t,rfl,rfl,aj.of nQ,Wy,t,_,1,_,rfl,rfl,ar.of ht,ro,by show(2:Nat)<=sizeLine;decide,λb3 gQ=>?_⟩;have s4:=Zi.new (o:=.tup [.int (c % one.n),.ref d]) gQ;have Ht:=Za (H:=G3) (a:=b3) (o:=.tup [.int (c % one.n),.ref d]);generalize upd G3 b3 (.tup [.int (c % one.n),.ref d])=G4 at s4 Ht ⊢;have w4:Rz 1 G4 [.ref b3]:=⟨[(c % one.n,mi.2)],.cons ⟨b3,d,[],rfl,Ht,s4 _ _ hd⟩ .nil,aq _,λx hx=>by rw[az.mp hx];exact ah mi (bU pH)⟩;have yz:=oH.trans s4;have pO:=s4 _ _ nQ;have ZA:=s4 _ _ rS;have nG:=s4 _ _ Es;have xH:=λz hz=>(Fi z hz).same s4;have M_:=pq.keep λb xs e=>s4 _ _ e;have ZpU:=Gj.keep λb xs e=>s4 _ _ e;clear Fi Es oH nQ rS pq Gj hR ht hd s4;show Zrs _ _ _;refine Zr W_ ?_;refine⟨_,rfl,_,rfl,_,rfl,by show(1:Nat)<=sizeLine;decide,λb5 Yo=>?_⟩;have s5:=Zi.new (o:=.lst [.ref b3]) Yo;have Hu:=Za (H:=G4) (a:=b5) (o:=.lst [.ref b3]);generalize upd G4 b5 (.lst [.ref b3])=G5 at s5 Hu ⊢;refine⟨r,b5,zs,_,rfl,rfl,s5 _ _ pO,Hu,by rw[aT,fS];lia,λb6 Yp=>?_⟩;have s6:=Zi.new (o:=.lst (zs ++ [.ref b3])) Yp;have e6:=Za (H:=G5) (a:=b6) (o:=.lst (zs ++ [.ref b3]));generalize upd G5 b6 (.lst (zs ++ [.ref b3]))=G6 at s6 e6 ⊢;have s46:=s5.trans s6;refine⟨_,rfl,by show(1:Nat)<=sizeLine;decide,λb7 Yq=>?_⟩;have s7:=Zi.new (o:=.lst [.ref b3]) Yq;have e7:=Za (H:=G6) (a:=b7) (o:=.lst [.ref b3]);generalize upd G6 b7 (.lst [.ref b3])=G7 at s7 e7 ⊢;have p_:=s46.trans s7;refine⟨_,rfl,_,rfl,_,_,rfl,rfl,⟨by decide,by decide⟩,_,rfl,r,zs,rfl,.inl (aj.of (p_ _ _ pO)),_,_,rfl,rfl,by lia,_,rfl,r,zs,rfl,aj.of (p_ _ _ pO),λb8 Yr=>?_⟩;have O4:=(M_.cut (some (c / 5 % (zs.length:Nat))) none);have s8:=Zi.new (o:=.lst (bV zs (some (c / 5 % (zs.length:Nat))) none)) Yr;have e8:=Za (H:=G7) (a:=b8) (o:=.lst (bV zs (some (c / 5 % (zs.length:Nat))) none));generalize upd G7 b8 (.lst (bV zs (some (c / 5 % (zs.length:Nat))) none))=G8 at s8 e8 ⊢;have kQ:=p_.trans s8;refine⟨b7,b8,_,_,rfl,rfl,s8 _ _ e7,e8,by have:=O4.len;rw[aT,fS];lia,λb9 Ys=>?_⟩;have s9:=Zi.new (o:=.lst ([.ref b3]++bV zs (some (c / 5 % (zs.length:Nat))) none)) Ys;have e9:=Za (H:=G8) (a:=b9) (o:=.lst ([.ref b3]++bV zs (some (c / 5 % (zs.length:Nat))) none));generalize upd G8 b9 (.lst ([.ref b3]++bV zs (some (c / 5 % (zs.length:Nat))) none))=G9 at s9 e9 ⊢;have yF:=kQ.trans s9;refine⟨_,rfl,_,rfl,by show(1:Nat)<=sizeLine;decide,λEj Yk=>?_⟩;have fA:=Zi.new (o:=.lst [.ref b3]) Yk;have xh:=Za (H:=G9) (a:=Ej) (o:=.lst [.ref b3]);generalize upd G9 Ej (.lst [.ref b3])=HI at fA xh ⊢;have ON:=yF.trans fA;refine⟨ls,Ej,zt,_,rfl,rfl,ON _ _ ZA,xh,by rw[aT,fS];lia,λrp Yl=>?_⟩;have sC:=Zi.new (o:=.lst (zt ++ [.ref b3])) Yl;have xj:=Za (H:=HI) (a:=rp) (o:=.lst (zt ++ [.ref b3]));generalize upd HI rp (.lst (zt ++ [.ref b3]))=HJ at sC xj ⊢;have Zq0:=ON.trans sC;refine⟨by show(3:Nat)<=sizeLine;decide,λEk Ym=>?_⟩;have gy:=Zi.new (o:=.lst [.ref b6,.ref b9,.ref rp]) Ym;have Mj:=Za (H:=HJ) (a:=Ek) (o:=.lst [.ref b6,.ref b9,.ref rp]);generalize upd HJ Ek (.lst [.ref b6,.ref b9,.ref rp])=HK at gy Mj ⊢;have yE:=Zq0.trans gy;refine⟨l,Ek,_,_,rfl,rfl,yE _ _ nG,Mj,by rw[aT,bL,fS];show us.length+1+3<=_;lia,λw8 AZ=>?_⟩;have E_:H w8=none:=by
   cases z:H w8 with
   | none=>rfl
   | some o=>exact absurd ((yE _ _ (yz _ _ z)).symm.trans AZ) (λy=>nomatch y)
  have n_:=Zi.new (o:=.lst ((us ++ [.ref b2]) ++ [.ref b6,.ref b9,.ref rp])) AZ;refine sJ c _ w8 _ _ _ c0 (yz.trans (yE.trans n_)) E_ Za (by rw[bL,bL,fS];show us.length+1+3<=_;lia) λz hz=>?_;have el:∀{b:Addr}{vs:List V}{n:Nat},HK b=some (.lst vs)->Rz n G4 vs->n<=500->El w8 (upd HK w8 (.lst ((us ++ [.ref b2]) ++ [.ref b6,.ref b9,.ref rp]))) (.ref b):=λe h hn=>⟨_,_,rfl,Zg e AZ,n_ _ _ e,(h.le hn).keep λb xs e=>n_ _ _ (yE _ _ e)⟩;rcases bc.mp hz with hz|hz
  ·exact((xH z hz).same yE).to n_ AZ
  ·simp only[aJ,k_,lr] at hz;rcases hz with rfl|rfl|rfl
   ·exact el (gy _ _ (sC _ _ (fA _ _ (s9 _ _ (s8 _ _ (s7 _ _ e6)))))) (M_.app w4 (aq _)) (by decide)
   ·exact el (gy _ _ (sC _ _ (fA _ _ e9))) (w4.app O4 (aq _)) (by decide)
   ·exact el (gy _ _ xj) (ZpU.app w4 (aq _)) (by decide)
 show u1 _ _ _;refine Zr e1 ?_;obtain⟨ms,hR,eG,ah⟩:=id hZ;refine⟨_,rfl,r,rfl,⟨_,aj.of kD⟩,λls pG=>Aa (K:=K) (a:=r) (p:=ls) (xs:=zs) (λj us σ H1=>∃v0:Option V,σ =[v0]/\Zi H H1/\H1 ls=some (.lst us)/\bI H1 us (ms.take j))
  ⟨none,rfl,Zi.new pG,Za,.nil⟩ ?_ ?_ ?_⟩
 ·rintro j us σ H1 _ ⟨_,_,sm,h,_⟩;exact⟨aj.of (sm _ _ kD),h⟩
 ·rintro j us x σ H1 hj hx ⟨v0,rfl,sm,h,jc⟩;obtain⟨mi,t,d,rest,pH,rfl,ht,hd⟩:=hR.get j x hx;have gn:=sm _ _ ht;refine⟨_,rfl,t,_,0,_,rfl,rfl,ar.of gn,w6,_,rfl,t,_,1,_,rfl,rfl,ar.of gn,ro,by show(2:Nat)<=sizeLine;decide,λq hq=>?_⟩;have s2:Zi H1 (upd H1 q (.tup [.int mi.1,.ref d])):=Zi.new hq;have FP:=jc.length;rw[cY] at FP;refine⟨s2 _ _ h,by rw[aT];lia,CW.next hj ⟨_,rfl,(sm.trans s2).cC pG,Za,?_⟩⟩
  rw[Zk pH];exact(jc.keep λb xs e=>gL (s2 _ _ h) b xs (s2 _ _ e)).append (.cons ⟨q,d,[],rfl,gL (s2 _ _ h) _ _ Za,gL (s2 _ _ h) _ _ (s2 _ _ (sm _ _ hd))⟩ .nil)
 rintro us σ H1 ⟨v0,rfl,b_,Fz,jc⟩;rw[hR.length,cH] at jc;have Yg:Rz 64 H1 us:=⟨ms,jc,eG,ah⟩;show u2 _ _ _;refine Zr e2 ?_;have q1:∀H',Zi H1 H'->Zi H H':=λH' s=>b_.trans s;have FN:=b_ _ _ kD;refine⟨_,rfl,_,rfl,r,zs,rfl,aj.of FN,λpn sf=>Tq (K:=K) (a:=r) (p:=pn) (xs:=zs) (λj us σ H2=>∃v0:Option V,σ =[v0]/\Zi H1 H2/\H2 pn=some (.lst us)/\us=zs.reverse.take j)
  ⟨none,rfl,Zi.new sf,Za,rfl⟩ ?_ ?_ ?_⟩
 ·rintro j us σ H2 _ ⟨_,_,sm,h,_⟩;exact⟨aj.of (sm _ _ FN),h⟩
 ·rintro j us x σ H2 hj hx ⟨v0,rfl,sm,h,rfl⟩;refine⟨_,rfl,h,?_,CW.next hj ⟨_,rfl,sm.cC sf,Za,?_⟩⟩
  ·rw[aT,cY];lia
  ·rw[Zk (show zs.reverse[j]?= some x by rw[List.getElem?_reverse hj];exact hx)]
 rintro yK σ H2 ⟨v0,rfl,cG,NM,rfl⟩;rw[yX (by rw[B2];exact aq _)] at NM;have FO:=cG _ _ FN;have rS:=cG _ _ Fz;have pq:=(hZ.keep λb xs e=>b_ _ _ e).keep λb xs e=>cG _ _ e;have Na:=Yg.keep λb xs e=>cG _ _ e;refine⟨_,rfl,_,rfl,_,rfl,r,zs,rfl,.inl (aj.of FO),_,_,rfl,rfl,⟨by decide,by decide⟩,_,rfl,r,zs,rfl,aj.of FO,λp5 Bg=>⟨by show(0:Nat)<=sizeLine;decide,λp6 FH=>⟨by show(5:Nat)<=sizeLine;decide,λl hl=>?_⟩⟩⟩;have bp:H l=none:=by
  cases z:H l with
  | none=>rfl
  | some o=>exact absurd ((Zi.new FH _ _ (Zi.new Bg _ _ (cG _ _ (b_ _ _ z)))).symm.trans hl) (λy=>nomatch y)
 have e5:(upd H2 p5 (.lst (bV zs none (some ((zs.length:Int) / 2))))) p5=some (.lst (bV zs none (some ((zs.length:Int) / 2)))):=Za;have s5:Zi H2 (upd H2 p5 (.lst (bV zs none (some ((zs.length:Int) / 2))))):=Zi.new Bg;generalize upd H2 p5 (.lst (bV zs none (some ((zs.length:Int) / 2))))=H5 at e5 s5 FH hl ⊢;have e6:(upd H5 p6 (.lst [])) p6=some (.lst []):=Za;have s6:Zi H5 (upd H5 p6 (.lst [])):=Zi.new FH;generalize upd H5 p6 (.lst [])=H6 at e6 s6 hl ⊢;have jg:=s5.trans s6;have s7:Zi H6 (upd H6 l (.lst [.ref r,.ref pn,.ref ls,.ref p5,.ref p6])):=Zi.new hl;have t:∀{n:Nat}{us:List V},Rz n H2 us->Rz n H6 us:=λh=>h.keep λb xs e=>jg _ _ e;refine gB _ l ls _ us ((b_.trans cG).trans (jg.trans s7)) bp Za rfl (λz hz=>?_) (Zg (jg _ _ rS) hl) (s7 _ _ (jg _ _ rS)) ((t Na).keep λb xs e=>s7 _ _ e);have el:∀{b:Addr}{us:List V},H6 b=some (.lst us)->Rz 64 H6 us->El l (upd H6 l (.lst [.ref r,.ref pn,.ref ls,.ref p5,.ref p6])) (.ref b):=λe h=>⟨_,_,rfl,Zg e hl,s7 _ _ e,(h.le (by decide)).keep λb xs e=>s7 _ _ e⟩;simp only[aJ,k_,lr] at hz;rcases hz with rfl|rfl|rfl|rfl|rfl
 ·exact el (jg _ _ FO) (t pq)
 ·exact el (jg _ _ NM) (t pq.rev)
 ·exact el (jg _ _ rS) (t Na)
 ·exact el (s6 _ _ e5) (t (pq.cut _ _))
 ·exact el e6 .nil
theorem uc{f:FQ}(h:dE H a f)(s:TK H H'):dE H' a f:=by
 obtain⟨h1,h2,h3,zs,a1,a2,a3,a4,a5⟩:=h;exact⟨h1,h2,h3,zs,s _ _ a1,s _ _ a2,s _ _ a3,s _ _ a4,a5.keep s⟩
theorem dZ.row{H:Hp}:∀{zs:List V}{ms:List Pk},dZ H zs ms->bI H zs ms
 | _,_,.nil=>.nil
 | _,_,.cons ⟨t,c,r,_,_,h1,h2,h3,_⟩ k=>.cons ⟨t,c,[.ref r],h1,h2,h3⟩ (dZ.row k)
theorem Ua{K:PySem.W.Frag}{e:Addr}{o:HO}(h:aj K H a xs)(he:∀l,H e≠some (.lst l))(kz:∀o l,H e≠some (.aI o (.lst l))):aj K (upd H e o) a xs:=by
 rcases h with(h|⟨o',h⟩)|h
 ·exact .inl (.inl (by rw[Zc (λz=>he xs (by rw[<- z];exact h))];exact h))
 ·exact .inl (.inr ⟨o',by rw[Zc (λz=>kz o' xs (by rw[<- z];exact h))];exact h⟩)
 ·exact .inr h
theorem SE{one:FQ}{ms:List Pk}(s1:qP one)(h:iQ one.ts one.qs fm g)(gX:g.tl=[])(iB:∀b∈g.bl,∃w,(b,w)∈g.sl)(fh:zJ one.ts one.qs fm)(hp:ms.Perm (g.sl.map (·.1))) :
  (ms ≠ []->1<=one.n)/\fL one fm ms/\(∀i,i<ms.length -> ¬ fL one fm (ms.take i++ms.drop (i+1)))/\ms.length<=63/\∀x∈ms,qM x:=by
 have mem:∀x,x∈ms↔∃w,(x,w)∈g.sl:=λx=>by
  rw[hp.mem_iff,aS];constructor
  ·rintro⟨e,h1,rfl⟩;exact⟨e.2,h1⟩
  ·rintro⟨w,h1⟩;exact⟨_,h1,rfl⟩
 have nd:ms.Nodup:=(hp.nodup_iff).mpr (ZX h.gi.nd).1;have all:∀S,fL one fm S->∀(j:Nat)(e:Pk×Wd),g.sl[j]?= some e->e.1∈S:=by
  intro S hS j
  induction j using Nat.strongRecOn with
  | ind j ih =>
   intro e he;rcases h.gi.sr j e he with⟨k,hk,rfl⟩|⟨q,nN,a,wa,b,wb,ha,hb,e1,e2,rfl⟩
   ·exact hS.1 k hk
   ·obtain⟨ja,rO⟩:=iM.mp ha;obtain⟨jb,rP⟩:=iM.mp hb;have la:=(dc.mp rO).1;have lb:=(dc.mp rP).1;rw[cY] at la lb;rw[B0 (by lia)] at rO rP;exact hS.2 q nN a (ih ja (by lia) _ rO) b (ih jb (by lia) _ rP) e1 e2
 refine⟨λaO=>?_,⟨λk hk=>(mem _).mpr ⟨[],?_⟩,λq hq a ha b hb e1 e2=>(mem _).mpr ?_⟩,λi hi hc=>?_,?_,λx hx=>?_⟩
 ·obtain⟨x,hx⟩:=List.exists_mem_of_ne_nil _ aO;obtain⟨w,hw⟩:=(mem x).mp hx;obtain⟨j,hj⟩:=iM.mp hw;rcases h.gi.sr j _ hj with⟨k,hk,_⟩|⟨q,nN,_⟩
  ·have:=s1.ts k hk;lia
  ·have:=s1.qs q nN;unfold Az at this;lia
 ·have:=h.gi.fin k hk;rw[gX,gE] at this;exact this
 ·obtain⟨wa,hwa⟩:=(mem _).mp ha;obtain⟨wb,hwb⟩:=(mem _).mp hb;rcases(h.Mg q hq a wa b wb hwa hwb e1 e2).1 with⟨v,h1,_⟩|⟨v,h1,_⟩|⟨_,h1⟩
  ·exact⟨v,h1⟩
  ·rw[gX] at h1;cases h1
  ·exact iB _ h1
 ·have hx:ms[i]∈ms:=vq hi;obtain⟨w,hw⟩:=(mem _).mp hx;obtain⟨j,hj⟩:=iM.mp hw;have h1:ms[i]∈ms.take i++ms.drop (i+1):=all _ hc j _ hj;have e:ms=ms.take i++ms[i]::ms.drop (i+1):=by
   rw[<- yR hi,List.take_append_drop]
  rw[e] at nd;have pY:=(List.perm_middle.nodup_iff).mp nd;exact(fD.mp pY).1 h1
 ·rw[hp.length_eq,ay];exact(fh g h.gi).1
 ·obtain⟨w,hw⟩:=(mem _).mp hx;exact(h.ok _ (dy _ hw)).2
set_option maxHeartbeats 4000000 in
theorem Uq(B:∀x∈dM,mg x=none)(xc:XC K mg iT dG)(lT:mV K cJ)(o9:mV K eB)(AO:dY P w K mg base "_law_shape" ["_law_script","_law_side"] 2 (JE K)) (jJ:dY P w K mg base "_law_cell" ["_law_script","_law_k"] 1 (zZ K)) (o_:oJ P w K mg base cJ "Kinds" ["self","form"] 1 (tP K cJ)) (EN:vL P w K mg base "table" ["form","measure"] 6 (DG P w cJ dG Pt)) (EL:dY P w K mg base "_law_lists" ["_law_script","_law_one","_law_rows"] 2 (JS K)) (EI:dY P w K mg base "_law_asked" ["_law_one","_law_other","_law_rows"] 4 (C7 K)) (pd:dY P w K mg base "holds" ["form","measure","rows"] 3 (Sp.or (qX K cJ) (qX K eB))) (F:bR K "law" "law" iq f fd):aX P w K mg base cx 7 f fd ["_law_script"] (Aj K [Pt]):=by
 refine F.ok mY (λvs H Q E h=>?_) (λaP A outer s H vs Q E hr h=>?_)
 ·obtain⟨a,ns,rfl,_⟩:=h;rfl
 obtain⟨a,ns,rfl,hS,i5,hP,q⟩:=h;have cN:=lE hr;have hu:=wA hr;refine Zt ((Zf iq).drop 9) (Zj (Z3 (tW (Lj hu (K:=K) rfl) (pv 3) (pv 4) (dI _)))) (λu9 h9 e9=>?_);refine Zt ((Zf iq).drop 8) (Zd (c5 (PW.pt (LX (kj (d5 pd hr rfl (Zb (pv 1) (Zb (tU o_ hr rfl (Zb (pv 2) Ze)) (Zb (Zv lG (tO tV (pv 3) tT (tY (pv 6))) (tO tV (pv 3) (tY (Zv d9 (pv 6) Zh)) tT)) Ze)))) (λ_=>rfl)) (LB (Ao (kj (d5 pd hr rfl (Zb (pv 1) (Zb (tU o_ hr rfl (Zb (pv 2) Ze)) (Zb (pv 3) Ze)))) (λ_=>rfl))))))
   (Zj (Z3 f'))
   ZQ) h9) (λu8 h8 e8=>?_)
 refine Zt ((Zf iq).drop 7) (Zd (Zz (i:=6) mY.nd rfl (Or.inl rfl) (Zv Z7 (d5 jJ hr rfl (Zb (pv 0) (Zb Zh Ze))) (Zx Zy rfl (B "len" (by decide)) fV (Zb (pv 3) Ze)))) h8) (λu7 h7 e7=>?_);refine Zt ((Zf iq).drop 6) (Zd (c5 (fb (Sk hu) (pv 3) (Z1 Ze) (dI _))
   (Zj (Z3 f'))
   ZQ) h7) (λu6 h6 e6=>?_)
 refine Zt ((Z4 ((Zf iq).getD 5 (.Pass ⟨0,0,0,0⟩))).drop 0) (Zj (c5 (Ao (kj (d5 EI hr rfl (Zb (pv 1) (Zb (pv 2) (Zb (pv 5) Ze)))) (λ_=>rfl)))
   (Zj (Z3 f'))
   ZQ)) (λZru EV Er=>?_)
 refine Zt ((Zf iq).drop 5) (Zd (e_ fE rfl (iU (d5 EL hr rfl (Zb (pv 0) (Zb (pv 1) (Zb (pv 3) Ze))))) (Zq (i:=5) mY.nd rfl (Or.inl rfl))
   EV) h6) (λu5 h5 e5=>?_)
 refine Zt ((Zf iq).drop 4) (Zd (Zz (i:=4) mY.nd rfl (Or.inl rfl) (ZV Io rfl (B "list" (by decide)) KU (Zb (pv 3) Ze))) h5) (λu4 h4 e4=>?_);refine Zt ((Zf iq).drop 3) (Zd (UG rfl rfl (λE pins zF hT hp=>(Zj (Zz (i:=3) mY.nd rfl (Or.inl rfl) (KN EN hT hr rfl (Zb (pv 1) (Zb (tU o_ hr rfl (Zb (pv 2) Ze)) Ze))))))
   (VL (rest:=[]) (λe=>(tX (v:=.ref dG) rfl xc.Oq rfl)) (λe=>(Zj (Zz (i:=3) mY.nd rfl (Or.inl rfl) (Z1 Ze)))))) h4) (λu3 h3 e3=>?_)
 refine Zt ((Zf iq).drop 2) (Zd (Zz (i:=3) mY.nd rfl (Or.inl rfl) (Z1 Ze)) h3) (λu2 h2 e2=>?_);refine Zt ((Zf iq).drop 1) (Zd (Zz (i:=2) mY.nd rfl (Or.inl rfl) (d5 AO hr rfl (Zb (pv 0) (Zb Zh Ze)))) h2) (λu1 h1 e1=>?_);refine Zt ((Zf iq).drop 0) (Zd (Zz (i:=1) mY.nd rfl (Or.inl rfl) (d5 AO hr rfl (Zb (pv 0) (Zb Zh Ze)))) h1) (λu0 h0 e0=>?_);refine⟨u0,h0,?_⟩;refine Zr e0 ?_;refine⟨_,rfl,a,ns,0,rfl,hS,i5,by decide,by decide,λr1 f1 H1 s1 F1 L1=>?_⟩;show u1 _ _ _;refine Zr e1 ?_;refine⟨_,rfl,a,ns,1,rfl,s1.seq hS,i5,by decide,by decide,λr2 f2 H2 s2 F2 oC=>?_⟩;have gy:=s1.trans s2;have F1:=F1.same s2;have uz:=gy _ _ (hP Pt (az.mpr rfl));have pj:=gy.seq hS;clear gy hS s1 s2;show u2 _ _ _;refine Zr e2 ?_;refine⟨by decide,λr0 kD=>?_⟩;have s3:Zi H2 (upd H2 r0 (.lst [])):=Zi.new kD;have F1:=F1.same s3;have F2:=F2.same s3;have E2:=s3 _ _ uz;have lY:=s3.seq pj;clear s3;generalize upd H2 r0 (.lst [])=H3 at F1 F2 E2 lY ⊢;clear pj uz;have sJ:∀(r:Addr)(zs:List V)(ms:List Pk)(H4:Hp),dE H4 r1 f1->dE H4 r2 f2->aj K H4 a (ns.map V.int)->H4 r=some (.lst zs)->bI H4 zs ms->ms.length<=63->(∀x∈ms,qM x)->(ms ≠ []->1<=f1.n/\fL f1 f2 ms/\∀i,i<ms.length -> ¬ fL f1 f2 (ms.take i++ms.drop (i+1)))->u4 { nx:=λ_ H'=>Q .aG H',rt:=Q } [some (.ref a),some (.ref r1),some (.ref r2),some (.ref r),none,none,none] H4:=by
  clear F1 F2 E2 lY;intro r zs ms H4 F1 F2 hS er hR eG ah bu;have dQ:=hR.length;have gW:f1.ts.length<=63:=by have:=L1.len.2.1;lia
  have sh:f1.qs.length<=63:=by have:=L1.BG;lia
  have Zpi:f2.qs.length<=63:=by have:=oC.BG;lia
  refine Zr e4 ?_;refine⟨_,rfl,r,_,rfl,.inl (aj.of er),λkp ef=>?_⟩;have s5:Zi H4 (upd H4 kp (.lst zs)):=Zi.new ef;have ek:(upd H4 kp (.lst zs)) kp=some (.lst zs):=Za;have F1:=F1.same s5;have F2:=F2.same s5;have hS:=s5.seq hS;have er:=s5 _ _ er;have hR:=hR.keep λb xs e=>s5 _ _ e;clear s5;generalize upd H4 kp (.lst zs)=H5 at ek F1 F2 hS er hR ⊢;clear ef;have Hb:∀(H6:Hp)(y5:Option V),Zi H5 H6->u6 { nx:=λ_ H'=>Q .aG H',rt:=Q } [some (.ref a),some (.ref r1),some (.ref r2),some (.ref r),some (.ref kp),y5,none] H6:=by
   intro H6 y5 s6;refine Zr e6 ?_;have Ms:=s6 _ _ er;refine⟨_,rfl,by decide,λnl nJ=>⟨r,nl,_,rfl,rfl,aj.of ((Zi.new nJ) _ _ Ms),aj.of Za,?_⟩⟩;have s7:Zi H5 (upd H6 nl (.lst [])):=s6.trans (Zi.new nJ);generalize upd H6 nl (.lst [])=H7 at s7 ⊢;clear s6 Ms nJ;by_cases hz:zs=[]
   ·subst hz;exact⟨_,rfl,AA (q _)⟩
   have sg:0<zs.length:=B1.mpr hz;have hze:zs.isEmpty=false:=by
    cases zs with
    | nil=>exact absurd rfl hz
    | cons=>rfl
   obtain⟨_,fq,fQ⟩:=bu λz=>hz (om (by rw[dQ,z];rfl));rw[hze];refine⟨_,rfl,jE ?_⟩;show u7 _ _ _;refine Zr e7 ?_;refine⟨_,rfl,a,ns,3,rfl,s7.seq hS,i5,by decide,by decide,λc c0 c1=>⟨_,rfl,r,zs,rfl,.inl (aj.of (s7 _ _ er)),_,_,rfl,rfl,by lia,?_⟩⟩;have m0:0<=c % (zs.length:Int):=jW _ (by lia);have m1:c % (zs.length:Int)<zs.length:=jV _ (by lia);obtain⟨k,hk⟩:∃k:Nat,c % (zs.length:Int)=(k:Int):=⟨(c % (zs.length:Int)).toNat,by lia⟩;have A9:k<zs.length:=by lia
   show u8 _ ([some (.ref a),some (.ref r1),some (.ref r2),some (.ref r),some (.ref kp),y5,some (.int (c % (zs.length:Int)))]:St) _;rw[hk];refine Zr e8 ?_;refine⟨_,rfl,_,rfl,λx4 d4 kH gk rW=>⟨x4,r2,d4,f2,rfl,Za,(F2.same s7).same (making kH gk rW),by lia,λH8 kb8 K8=>⟨rfl,?_⟩⟩⟩;have s8:=s7.trans (made kH gk kb8);refine⟨_,rfl,_,rfl,_,rfl,r,zs,rfl,aj.of (s8 _ _ er),λp1 eX=>?_⟩;have hU:bV zs none (some (k:Int))=zs.take k:=SJ zs k;rw[hU];have s9:Zi H8 (upd H8 p1 (.lst (zs.take k))):=Zi.new eX;have Hv:(upd H8 p1 (.lst (zs.take k))) p1=some (.lst (zs.take k)):=Za;generalize upd H8 p1 (.lst (zs.take k))=H9 at s9 Hv ⊢;refine⟨_,rfl,_,rfl,_,_,rfl,rfl,_,rfl,r,zs,rfl,aj.of (s9 _ _ (s8 _ _ er)),λp2 dP=>?_⟩;have jo:bV zs (some ((k:Int)+1)) none=zs.drop (k+1):=S0 zs (k+1);rw[jo];have fA:Zi H9 (upd H9 p2 (.lst (zs.drop (k+1)))):=Zi.new dP;have xh:(upd H9 p2 (.lst (zs.drop (k+1)))) p2=some (.lst (zs.drop (k+1))):=Za;generalize upd H9 p2 (.lst (zs.drop (k+1)))=oI at fA xh ⊢;have A1:(zs.take k).length+(zs.drop (k+1)).length<=63:=by
    rw[cY,oo];lia
   refine⟨p1,p2,_,_,rfl,rfl,fA _ _ Hv,xh,by rw[aT];lia,λp3 nM=>?_⟩;have sC:Zi oI (upd oI p3 (.lst (zs.take k++zs.drop (k+1)))):=Zi.new nM;have xj:(upd oI p3 (.lst (zs.take k++zs.drop (k+1)))) p3=some (.lst (zs.take k++zs.drop (k+1))):=Za;generalize upd oI p3 (.lst (zs.take k++zs.drop (k+1)))=H11 at sC xj ⊢;have OO:=(s9.trans fA).trans sC;have gy:=s8.trans OO;refine .inl ⟨r1,x4,p3,f1,f2,zs.take k++zs.drop (k+1),ms.take k++ms.drop (k+1),rfl,F1.same gy,K8.same OO,oC.len,gW,sh,aj.of xj,((hR.take k).append (hR.drop (k+1))).keep λb xs e=>gy _ _ e,by rw[bL,cY,oo];lia,λx hx=>?_,λb H12 hb n_=>?_⟩
   ·rcases bc.mp hx with hx|hx
    ·exact ah x (List.mem_of_mem_take hx)
    ·exact ah x (List.mem_of_mem_drop hx)
   have Yw:b=false:=by
    cases b with
    | false=>rfl
    | true=>exact absurd (hb.mp rfl) (fQ k (by lia))
   subst Yw;have n_:=gy.trans n_;refine⟨false,rfl,jE ?_⟩;refine⟨_,rfl,_,rfl,λx6 d6 x8 xE FD=>⟨x6,r2,d6,f2,rfl,Za,(F2.same n_).same (making x8 xE FD),by lia,λH14 Zp3 PJ=>⟨rfl,?_⟩⟩⟩;have kP:=n_.trans (made x8 xE Zp3);refine⟨_,rfl,.inl ⟨r1,x6,r,f1,f2,zs,ms,rfl,F1.same kP,PJ,oC.len,gW,sh,aj.of (kP _ _ er),hR.keep λb xs e=>kP _ _ e,by lia,ah,λb H15 hb BJ=>?_⟩⟩;have i7:b=true:=hb.mpr fq;subst i7;have BJ:=kP.trans BJ;refine⟨true,rfl,jE ?_⟩;show u9 _ _ _;refine Zr e9 ?_;exact⟨_,rfl,_,rfl,r,kp,zs,rfl,rfl,aj.of (BJ _ _ er),aj.of (BJ _ _ ek),λz hz=>hR.refs z hz,q _⟩
  show u5 _ _ _;refine Zr e5 ?_;refine⟨_,rfl,_,rfl,_,rfl,a,r1,r,ns,f1,zs,rfl,hS,i5,F1,er,⟨ms,hR,by lia,ah⟩,λaO=>(bu λz=>aO (om (by rw[dQ,z];rfl))).1,λl us H6 s6 el xZ jL=>?_⟩;refine⟨l,rfl,⟨_,aj.of el⟩,mX (K:=K) (a:=l) (xs:=us) (λi σ H7=>∃y5:Option V,σ =[some (.ref a),some (.ref r1),some (.ref r2),some (.ref r),some (.ref kp),y5,none]/\Zi H6 H7)
   ⟨none,rfl,λ_ _ h=>h⟩ ?_ ?_ ?_⟩
  ·rintro i σ H7 _ ⟨_,_,s7⟩;exact aj.of (s7 _ _ el)
  ·rintro i x σ H7 hx ⟨y5,rfl,s7⟩;obtain⟨b,zb,rfl,_,eb,mb,cj,cX,gQ⟩:=(jL x (bU hx)).same s7;have qa:=s6.trans s7;refine Zr Er ?_;refine⟨_,rfl,_,rfl,_,rfl,r1,r2,b,f1,f2,zb,mb,rfl,F1.same qa,F2.same qa,oC.len,Zpi,gW,sh,aj.of eb,cj,cX,gQ,λH8 s8=>⟨true,rfl,jE ?_⟩⟩;exact⟨_,rfl,s7.trans s8⟩
  ·rintro σ H7 ⟨y5,rfl,s7⟩;exact Hb H7 y5 (s6.trans s7)
 show u3 _ _ _;refine Zr e3 ?_;refine⟨λao C d H'=>ao=[some (.ref a),some (.ref r1),some (.ref r2),some (.ref r0),none,none,none]/\C=.ref dG/\d=none/\dE H' r1 f1/\dE H' r2 f2/\aj K H' a (ns.map V.int),?_,?_⟩
 ·refine⟨_,rfl,_,rfl,λx4 d4 kH gk rW=>⟨x4,r2,d4,f2,rfl,Za,F2.same (making kH gk rW),by have:=oC.BG;lia,λH4 GA K4=>⟨rfl,?_⟩⟩⟩;have t4:=made kH gk GA;have T4:cL H4 Pt io:=cL.new _ (t4 _ _ E2);have kT:∀H',fO Pt H4 H'->TK H4 H':=λH' s b xs e=>s b _ (λz=>by
   obtain⟨_,h,_⟩:=T4;rw[z,h] at e;cases e) e
  refine⟨r1,x4,f1,f2,rfl,F1.same t4,K4,oC.len,by have:=L1.len.2.1;lia,tL L1.len.2.2.2,λq hq=>(L1.qs q hq).2.2.2.2.2.2,fh L1 oC,T4,λr zs ms g H' ah gX iB sT T' pO er hrw c_ _=>?_,λH' sT T'=>⟨rfl,rfl,rfl,uc (F1.same t4) (kT _ sT),uc (F2.same t4) (kT _ sT),(t4.seq lY).BL T4 sT⟩⟩;obtain⟨k1,k2,k3,k4,k5⟩:=SE L1 ah gX iB (fh L1 oC) c_;exact sJ r zs ms H' (uc (F1.same t4) (kT _ sT)) (uc (F2.same t4) (kT _ sT)) ((t4.seq lY).BL T4 sT) er hrw.row k4 k5 λaO=>⟨k1 aO,k2,k3⟩
 ·rintro ao C d H' e oe ⟨rfl,rfl,rfl,zi,zj,jq⟩ he hc hd hf;have kT:TK H' (upd H' e (Known e oe)):=λb xs h=>by
   rw[Zc (λz=>by rw[z,he] at h;cases h)];exact h
  have e3:(upd H' e (Known e oe)) e=some (Known e oe):=Za;have zi:=uc zi kT;have zj:=uc zj kT;have jq:aj K (upd H' e (Known e oe)) a (ns.map V.int):=Ua jq (λl z=>by rw[he] at z;cases z) λo l z=>by rw[he] at z;cases z
  clear kT;generalize upd H' e (Known e oe)=H5 at e3 zi zj jq ⊢;refine⟨[dG],dG,λ_=>true,.one xc.WE,hc,?_,rfl,e3,?_⟩
  ·intro D hD;obtain rfl:=az.mp hD;exact xc.Zqe
  refine⟨by decide,λr5 NP=>?_⟩;have s5:Zi H5 (upd H5 r5 (.lst [])):=Zi.new NP;exact sJ r5 [] [] _ (zi.same s5) (zj.same s5) (s5.seq jq) Za .nil (by decide) (λx h=>(nomatch h)) λaO=>absurd rfl aO
end
theorem Vy{P:Program}{w:World}{K:PySem.W.Frag}{mg:Str->Option Value}{fa f1 f2 f3 f4 f6 f7 f8 Xn MC MD ME Xo Xp MF AL Xq MG Xr Xs MH Xt:Addr}{d1 d2 d3 d4 d6 d7 d8 WI WJ WK Mh WL WM WN WQ WR WS WT WU WV Mi:FuncData}(Ni:mg "law" = some (.ref fa))
  {iT dG:Addr} (xc:XC K mg iT dG)
  {cJ eB ju:Addr}
  (m1:Cs K mg "Kinds" cJ) (lT:dF.mV K cJ)
  (m2:Cs K mg "Others" eB) (o9:dF.mV K eB)
  (m3:Cs K mg "Growth" ju) (aD:dF.tH K ju)
  (F1:fX K mg "_law_cell" Dl f1 d1)
  (F2:fX K mg "_law_tag" DW f2 d2)
  (F3:fX K mg "_law_shape" C5 f3 d3)
  (F4:tI K cJ "nothing" "Kinds.nothing" CL f4 d4)
  (M5:Meth K eB "nothing" f4)
  (F6:tI K ju "__init__" "Growth.__init__" Zw f6 d6)
  (F7:fX K mg "kinds_above" zM f7 d7)
  (F8:tI K cJ "above" "Kinds.above" zN f8 d8)
  (M9:Meth K eB "above" f8)
  (Ct:fX K mg "rank_of_words" CK Xn WI)
  (Cu:tI K ju "step" "Growth.step" ZK MC WJ)
  (Cv:tI K ju "settle" "Growth.settle" Zo MD WK)
  (zG:fX K mg "grown" oW ME Mh)
  {WG yv:Addr} (zL:PM K Mh WG yv)
  (Cw:fX K mg "is_tag" Dt Xo WL)
  (Cy:fX K mg "grove_of" CV Xp WM)
  (zH:fX K mg "table" wz MF WN)
  (tG:tI K cJ "__init__" "Kinds.__init__" zO AL WQ)
  (Cz:fX K mg "_law_lists" ZS Xq WR)
  (vK:fX K mg "holds" fN MG WS)
  (HP:Meth K eB "__init__" AL)
  (CA:fX K mg "_law_above" De Xr WT)
  (CB:fX K mg "_law_closed" ZR Xs WU)
  (zI:fX K mg "_law_asked" jz MH WV)
  (CC:fX K mg "law" iq Xt Mi)
  (PF:∃t:Tok,mg "LONGEST_TAG" = some (.int 8 t))
  (Cp:∃t:Tok,mg "MOST_STEPS" = some (.int 4000 t))
  (Cq:∃t:Tok,mg "MOST_TAGS" = some (.int 300 t))
  (Cr:∃t:Tok,mg "MOST_TUPLES" = some (.int 64 t))
  (B:∀x∈dM,mg x=none) :
  ∃fd:FuncData,(∀(s:Shared)(v:Value),BindsTo s fd ⟨[v],[]⟩ [("_law_script",v)])/\(∀p ∈ [yv],K.lookup p=none/\∃c,PySem.W.codeHdIn K c p=true)/\∀base:Heap,K.In base->base.Ns mainGlobals mg->o6 base mg->aX P w K mg base cx 7 fa fd ["_law_script"] (Fg.Aj K [yv]):=by
 have e:=Ni.symm.trans CC.1;cases e;refine⟨Mi,?_,bw.mpr ⟨⟨zL.2.2.2,_,zL.2.2.1⟩,bx _⟩,λbase _ _ bm=>?_⟩
 ·obtain⟨_,_,_,_,_,_,_,_,_,rfl,_⟩:=CC.2.ex;exact λs v=>.of_eq rfl
 have jJ:=lJ P w base F1 (RH B  F1.2) F1.2.bn;have EM:=lJ P w base F2 (TH B  F2.2) F2.2.bn;have AO:=lJ P w base F3 (Q8 B jJ EM F3.2) F3.2.bn;have MQ:ic P w K mg base cJ "nothing" ["self"] 1 (dF.wc cJ):=⟨⟨f4,_,Ih B lT  F4.2,F4.2.bn,F4.1⟩⟩;have Xz:ic P w K mg base eB "nothing" ["self"] 1 (dF.wc eB):=⟨⟨f4,_,Ih B o9  F4.2,F4.2.bn,M5⟩⟩;have Ez:oJ P w K mg base ju "Growth" ["self","form","measure"] _ (dF.D0 P w ju cJ):=⟨⟨f6,_,P2 B aD lT.cls MQ F6.2,F6.2.bn,⟨m3.2.1,F6.1.at_,F6.1.fn,m3.2.2⟩,m3.1⟩⟩;have AN:=lJ P w base F7 (P4 B  F7.2) F7.2.bn;have MP:ic P w K mg base cJ "above" ["self","tag","inner","rest"] 2 (dF.vX cJ):=⟨⟨f8,_,HY B lT AN F8.2,F8.2.bn,F8.1⟩⟩;have Xy:ic P w K mg base eB "above" ["self","tag","inner","rest"] 2 (dF.vX eB):=⟨⟨f8,_,HY B o9 AN F8.2,F8.2.bn,M9⟩⟩;have uw:=lJ P w base Ct (P0 B  Ct.2) Ct.2.bn;have xm:ic P w K mg base ju "step" ["self","rule","within","behind"] _ (dF.Al P w ju cJ):=⟨⟨MC,_,P5 B Cp Cq aD lT.cls MP uw Cu.2,Cu.2.bn,Cu.1⟩⟩;have EA:ic P w K mg base ju "settle" ["self","pair"] _ (dF.Dx P w ju cJ):=⟨⟨MD,_,P1 B Cr aD xm Cv.2,Cv.2.bn,Cv.1⟩⟩;have EF:vL P w K mg base "grown" ["form","measure"] _ (dF.DN P w ju cJ dG yv):=⟨⟨ME,_,Tj B bm zL.1 zL.2.2.1 xc aD Ez EA uw zG.2,zG.2.bn,zG.2.kp,zG.1⟩⟩;have EG:=lJ P w base Cw (RO B PF  Cw.2) Cw.2.bn;have EE:=lJ P w base Cy (QJ B EG Cy.2) Cy.2.bn;have EN:vL P w K mg base "table" ["form","measure"] _ (dF.DG P w cJ dG yv):=⟨⟨MF,_,SR B aD EF EE zH.2,zH.2.bn,zH.2.kp,zH.1⟩⟩;have o_:oJ P w K mg base cJ "Kinds" ["self","form"] 1 (dF.tP K cJ):=⟨⟨AL,_,Ie B lT  tG.2,tG.2.bn,⟨m1.2.1,tG.1.at_,tG.1.fn,m1.2.2⟩,m1.1⟩⟩;have EL:=lJ P w base Cz (Rl B jJ Cz.2) Cz.2.bn;have pd:dY P w K mg base "holds" ["form","measure","rows"] _ (Sp.or (dF.qX K cJ) (dF.qX K eB)):=⟨⟨MG,_,aX.or (J5 B lT.cls MQ MP vK.2) (J5 B o9.cls Xz Xy vK.2),vK.2.bn,vK.2.kp,vK.1⟩⟩;have ED:oJ P w K mg base eB "Others" ["self","form"] 1 (dF.tP K eB):=⟨⟨AL,_,Ie B o9  tG.2,tG.2.bn,⟨m2.2.1,HP.at_,HP.fn,m2.2.2⟩,m2.1⟩⟩;have EH:=lJ P w base CA (QU B  CA.2) CA.2.bn;have EJ:=lJ P w base CB (QH B EH CB.2) CB.2.bn;have EI:dY P w K mg base "_law_asked" ["_law_one","_law_other","_law_rows"] _ (dF.C7 K):=⟨⟨MH,_,Rm B lT o9 o_ ED pd EJ zI.2,zI.2.bn,zI.2.kp,zI.1⟩⟩;exact Uq B xc lT o9 AO jJ o_ EN EL EI pd CC.2
theorem walk{l:PySem.W.OpenLaw}{q:Program}{loose:List Str}{XP:(Str->Option Value)->Heap->Prop}{YP:World->Heap->Prop}{d:DefRec}{K:Params->PySem.W.Frag}{ts:List Addr}(hn:l.most=some 63)(xG:d.params.defaults=[])
  (hY:∀(w:World)(h:Heap),YP w h->(K w.params).In h/\∀p∈ts,h.get? p=some (PySem.W.tabObj #[]))
  (F:∀(w:World)(mg:Str->Option Value)(fa:Addr)(h:Heap),(K w.params).In h->h.Ns mainGlobals mg->mg d.name=some (.ref fa) ->
   ∃fd:FuncData,(∀(s:Shared)(u:Value),BindsTo s fd ⟨[u],[]⟩ [("_law_script",u)])/\(∀p∈ts,(K w.params).lookup p=none/\∃c,PySem.W.codeHdIn (K w.params) c p=true)/\∀base:Heap,(K w.params).In base->base.Ns mainGlobals mg->o6 base mg->aX l.prog w (K w.params) mg base cx 7 fa fd ["_law_script"] (Fg.Aj (K w.params) ts)) :
  PySem.W.WalkO q loose XP YP l.row.toRowW d [] (λf vs=>PySem.call f vs) :=
 L2.Te (n:=63) (k:=7) (x := "_law_script") (sp:=λw=>Fg.Aj (K w.params) ts) hn (by decide) xG ⟨rfl,by decide,by decide,rfl⟩ hY F λ_ _ a ns hl ht hS=>⟨a,ns,rfl,hS,hl,ht,λ_=>rfl⟩
end dF
namespace PySem.W.Fast
def tw15067117821762314064:=0
def tw12744446761292334571:=0
def tw11807779545247424691:=0
def tw10817355984561536132:=0
def tw1275651645812700480:=0
def tw15253827855748812015:=0
def tw1262469555956234004:=0
def tw2049601818436652011:=0
def tw28222572241240007:=0
def tw2673546586316426845:=0
def tw8832455322754113699:=0
def tw12219456635201498502:=0
def tw15195816464284666647:=0
def tw7501564048351614920:=0
def tw16376872905235433219:=0
def tw5248802038224567060:=0
def tw10057629751175820190:=0
def tw14004950823621762923:=0
def tw13234540360237475310:=0
def tw1408467530338313880:=0
def tw18012879627823094315:=0
def tw9724161813799734841:=0
def tw14709227428873727153:=0
def tw4290736125129126344:=0
def tw12663487519898476874:=0
def tw3324951051098829574:=0
def tw17002005460587318583:=0
def tw18346237310490293829:=0
def tw16895077107647467573:=0
def tw7267296369213116191:=0
def tw10371891943825840982:=0
def tw17535969006992260388:=0
def tw2550503480351716313:=0
def tw6054719959836381566:=0
def tw6588598656941560648:=0
def tw10443873128088442290:=0
def tw7360451659588370365:=0
def tw472522512120654443:=0
def tw11651441353642522184:=0
def tw15447028770888895791:=0
def tw7429341780403814346:=0
def tw6957508388432788792:=0
def tw13422593564833065661:=0
def tw5597902682908725635:=0
def tw4798614985872114354:=0
def tw6357447052918205143:=0
def tw11435104548070484798:=0
def tw10058879403509857302:=0
def tw4497756121512957960:=0
def tw18352509206551198575:=0
def tw7802622632731331119:=0
def tw6193010057447453709:=0
def tw9273868622020336055:=0
def tw4541196672635371822:=0
def tw9127650896821647752:=0
def tw10131415116239163354:=0
def tw2541717864190905118:=0
def tw17098854773892882615:=0
def tw7348144647819347899:=0
def tw262591545558172066:=0
def tw921929385533830277:=0
def tw7630886576011307727:=0
def tw14638054384605026016:=0
def tw4223191682363802409:=0
def tw2917485978097964296:=0
def tw17029236093831878171:=0
def tw15244510555627137919:=0
def tw15111346665135914550:=0
def tw14766311714878204980:=0
def tw17912393811808947551:=0
def tw3197456847408088653:=0
def tw7769881618148694128:=0
def tw4380711157156185495:=0
def tw16381133514278578599:=0
def tw483236534076913787:=0
def tw12667615284059981524:=0
def tw17985305209356633445:=0
def tw12193770885839206659:=0
def tw6688562054740812814:=0
def tw9404634705517931567:=0
def tw1883934076407665590:=0
def tw17353729381019131902:=0
def tw3677233431848766456:=0
def tw306033458840237918:=0
def tw12121782062728913619:=0
def tw14254643337593196616:=0
def tw15147994114567479662:=0
def tw12504375987992128825:=0
def tw8868858080754796973:=0
def tw11975803899754588918:=0
def tw359077243909501348:=0
def tw11932348606555052443:=0
def tw1125298236616687813:=0
def tw16783179143448032558:=0
def tw2812060233621173499:=0
def tw13930913449388765558:=0
def tw8281940686091563821:=0
def tw17133752752453513641:=0
def tw12314047961977343545:=0
def tw3450884276144297038:=0
def tw13140986095746386140:=0
def tw6590968738894270019:=0
def tw455808900918848124:=0
def tw2908387301600873812:=0
def tw15433034862612637819:=0
def tw10091837800421663395:=0
def tw10707061224429646291:=0
def tw17636019426147664799:=0
def tw5477454269009485875:=0
def tw6140810508792124022:=0
def tw3574373356280919398:=0
def tw3529745978906783283:=0
def tw4231466426987263470:=0
def tw13634890364249831897:=0
def tw3062157476153637357:=0
def tw11691772092605205438:=0
def tw6800724882638646362:=0
def tw11739611411184620189:=0
def tw554360759366868990:=0
def tw18398916737559543587:=0
def tw10404270633680944943:=0
def tw15542846423725343032:=0
def tw17890428049528657245:=0
def tw206958025069581466:=0
def tw17121723400111258833:=0
def tw10982016423488892326:=0
def tw2712557395840321008:=0
def tw9682233801333808138:=0
def tw4676381355026582452:=0
def tw7740793755888607273:=0
def tw2675322911687584088:=0
def tw14401825317407786693:=0
def tw11635769417397811424:=0
def tw2246208860130114588:=0
def tw782018044221708584:=0
def tw17888738467454817394:=0
def tw4023753378076841595:=0
def tw12538939077766961856:=0
def tw14315204132890786402:=0
def tw9822772763092915561:=0
def tw2417166683708530053:=0
def tw7339746913233970569:=0
def tw220893848978665490:=0
def tw11404887005346267778:=0
def tw16880863025889278207:=0
def tw8552241867585397505:=0
def tw1832721608328449474:=0
def tw10138627276767553103:=0
def tw13428293148467971768:=0
def tw7243268704525140268:=0
def tw6311020422882401837:=0
def tw7877959230264444845:=0
def tw1393630075875069680:=0
def tw749462053016014923:=0
def tw12144083929842668220:=0
def tw6501463632547391032:=0
def tw7133127484151014771:=0
def tw10479454975285299424:=0
def tw12597886272320737891:=0
def tw13396325293761956770:=0
def tw8250414827537392222:=0
def tw6052466563507910306:=0
def tw4733763679808129100:=0
def tw5600938939382674564:=0
def tw12868423408397102477:=0
def tw253522753534176773:=0
def tw10867336795980549965:=0
def tw1629533662686731728:=0
def tw11116714868975495879:=0
def tw15598069681239725006:=0
def tw2128001807601538891:=0
def tw13875626452020680330:=0
def tw9813471146534832868:=0
def tw9213252654408579320:=0
def tw3200239410147136585:=0
def tw9335440448990117377:=0
def tw5075204237446674480:=0
def tw7285451136517565606:=0
def tw18440286096442985048:=0
def tw17964896068880186612:=0
def tw14805441283687848529:=0
def tw8627194363566692174:=0
def tw11038814604458633073:=0
def tw12397522554116035639:=0
def tw15319907468325275297:=0
def tw9866086961166369218:=0
def tw13399002387946267164:=0
def tw16368985559425092852:=0
def tw7486793351709920603:=0
def tw3516847317758950523:=0
def tw13128729797128290189:=0
def tw3428074908594269639:=0
def tw15621323035610475548:=0
def tw3599560754548519141:=0
def tw10959478721214601084:=0
def tw3107878232004640365:=0
def tw6260035456384903858:=0
def tw3333946443347014358:=0
def tw13620578552275352694:=0
def tw109936765430258985:=0
def tw9747467711385295231:=0
def tw1934935941255810164:=0
def tw189641218233913860:=0
def tw6139603206189891447:=0
def tw8500291267517858143:=0
def tw1190376613983149199:=0
def tw15941983002730747753:=0
def tw12146577206529348438:=0
def tw690086591439649809:=0
def tw14392716757236917973:=0
def tw7027824499614563711:=0
def tw9851427999549169269:=0
def tw8964883198667554733:=0
def tw16623035943865401507:=0
def tw13221119116963263414:=0
def tw17014452304394478120:=0
def tw1393153949844154466:=0
def tw17485208046696476246:=0
def tw9842696476908922809:=0
def tw12825572801934270765:=0
def tw15259724379977104438:=0
def tw4450229126796611477:=0
def tw11420035130839588257:=0
def tw3915992552233423409:=0
def tw8714589410978143958:=0
def tw12463057214102596997:=0
def tw10177171343031216980:=0
def tw2294752422687313393:=0
def tw7493685789935651295:=0
def tw3975609470884473207:=0
def tw8632543392274703819:=0
def tw14881866681099169921:=0
def tw10634134474032129423:=0
def tw13250934863757404532:=0
def tw6433639924576111055:=0
def tw7487133284783219620:=0
def tw11118094692174440118:=0
def tw13915145088503823436:=0
def tw15933665833301443240:=0
def tw11084755845988763247:=0
def tw13457443700645669659:=0
def tw15781649521965509698:=0
def tw11502693842327776904:=0
def tw860227591580760071:=0
def tw11194649626793135016:=0
def tw4792556069232227204:=0
def tw13462422550130496770:=0
def tw8362675540525458327:=0
def tw16227323291285742731:=0
def tw176841562941783037:=0
def tw14258892578635512138:=0
def tw5042253393735702368:=0
def tw6090442635804170479:=0
def tw17008978912162179702:=0
def tw14719546519161845420:=0
def tw14531144995013550016:=0
def tw1920675267076927849:=0
def tw7262867699327140737:=0
def tw6533307297959929895:=0
def tw7584007652918790929:=0
def tw10815334134703879164:=0
def tw6947164147201986107:=0
def tw17420939831694045378:=0
def tw17450602101615899557:=0
def tw12668279367398435677:=0
def tw12891570616185682547:=0
def tw11090584038638629759:=0
def tw5190935073887860590:=0
def tw12254060975745287510:=0
def tw18205690004783686230:=0
def tw15637003033654234012:=0
def tw11815365272510509472:=0
def tw11863335220059126112:=0
def tw8514377768165856886:=0
def tw6962407460331219978:=0
def tw17049475093155792208:=0
def tw9440980503087672107:=0
def tw11450928658981633741:=0
def tw7285618550807830015:=0
def tw9367317327485206647:=0
def tw8455918229394080279:=0
def tw7763930864383247944:=0
def tw6901112541857541671:=0
def tw14290910224651673096:=0
def tw6936740816578056716:=0
def tw3643316035407163239:=0
def tw4596137566755997481:=0
def tw3591357419640025534:=0
def tw270944160432464885:=0
def tw8883701553075802715:=0
def tw8152814575937923522:=0
def tw11035326917013884804:=0
def tw4928854501705743159:=0
def tw3682166599919640685:=0
def tw8356275203783265218:=0
def tw3880009149919973668:=0
def tw9282415390667569258:=0
def tw11080499991979859371:=0
def tw11121897558487884907:=0
def tw15935024820749818886:=0
def tw8073850397359861759:=0
def tw7570291391098229972:=0
def tw754956057768446685:=0
def tw586342340351319176:=0
def tw3921171530304489455:=0
def tw7747003881721412871:=0
def tw9081378292794490946:=0
def tw17354031666769506292:=0
def tw5810092466428550402:=0
def tw2653385472799395850:=0
def tw3997143713073831721:=0
def tw12863543316207458862:=0
def tw5364849987092203106:=0
def tw10848875623144322276:=0
def tw13558903117976483073:=0
def tw5873221028300546784:=0
def tw13193732858172489632:=0
def tw11613854520947689825:=0
def tw15792788979698287607:=0
def tw1953314886903720761:=0
def tw7138548495860403220:=0
def tw9172337436295042263:=0
def tw11357832912151691889:=0
def tw9636711326268347986:=0
def tw8142663551002285748:=0
def tw1603660591733370985:=0
def tw5751929620460228433:=0
def tw9747244939782543718:=0
end PySem.W.Fast
open PySem PySem.W PyProof.Rows
open L2 (dJ Lp)
set_option maxRecDepth 100000 in
set_option maxHeartbeats 0 in
theorem PySem.Challenge.cw_formgrove_k53_lists_that_hold_holds : PySem.Challenge.rw_formgrove_k53_lists_that_hold.Holds := by
 w_on;o_law;k_head;(case hw=>w_witness2)
 k_fill
 refine dF.walk (l:=PySem.Challenge.rw_formgrove_k53_lists_that_hold) rfl rfl (λw h Y=>⟨PySem.W.km_in_of Y,PySem.W.km_tabs_of Y⟩) ?F
 case F =>
  intro w mg fa h KX G rT;refine' dF.Vy rT ⟨dg KX G ?_,dg KX G ?_,⟨?_,?_,?_⟩,?_,?_,⟨?_,?_,?_⟩,⟨?_,?_,?_⟩,⟨⟨_,_,_,_,_,_,_,_,_,_,_,_,_,_,_,?_⟩,⟨⟨_,_,_,_,_,_,_,_,_,?_,?_,?_,?_⟩⟩,?_,?_,?_⟩,?_,?_,?_,?_,?_⟩ ⟨dg KX G ?_,?_,?_⟩ ⟨⟨?_,?_,?_,?_⟩,?_,?_,?_⟩ ⟨dg KX G ?_,?_,?_⟩ ⟨⟨?_,?_,?_,?_⟩,?_,?_,?_⟩ ⟨dg KX G ?_,?_,?_⟩ ⟨⟨?_,?_,?_,?_⟩,?_,?_,?_,?_,?_,?_,?_⟩ ⟨dg KX G ?_,dJ ?_ ?_ ?_⟩ ⟨dg KX G ?_,dJ ?_ ?_ ?_⟩ ⟨dg KX G ?_,dJ ?_ ?_ ?_⟩ ⟨⟨?_,?_,?_⟩,dJ ?_ ?_ ?_⟩ ⟨?_,?_,?_⟩ ⟨⟨?_,?_,?_⟩,dJ ?_ ?_ ?_⟩ ⟨dg KX G ?_,dJ ?_ ?_ ?_⟩ ⟨⟨?_,?_,?_⟩,dJ ?_ ?_ ?_⟩ ⟨?_,?_,?_⟩ ⟨dg KX G ?_,dJ ?_ ?_ ?_⟩ ⟨⟨?_,?_,?_⟩,dJ ?_ ?_ ?_⟩ ⟨⟨?_,?_,?_⟩,dJ ?_ ?_ ?_⟩ ⟨dg KX G ?_,dJ ?_ ?_ ?_⟩ ⟨?_,⟨_,_,_,_,?_,?_⟩,?_,?_⟩ ⟨dg KX G ?_,dJ ?_ ?_ ?_⟩ ⟨dg KX G ?_,dJ ?_ ?_ ?_⟩ ⟨dg KX G ?_,dJ ?_ ?_ ?_⟩ ⟨⟨?_,?_,?_⟩,dJ ?_ ?_ ?_⟩ ⟨dg KX G ?_,dJ ?_ ?_ ?_⟩ ⟨dg KX G ?_,dJ ?_ ?_ ?_⟩ ⟨?_,?_,?_⟩ ⟨dg KX G ?_,dJ ?_ ?_ ?_⟩ ⟨dg KX G ?_,dJ ?_ ?_ ?_⟩ ⟨dg KX G ?_,dJ ?_ ?_ ?_⟩ ⟨dg KX G ?_,dJ ?_ ?_ ?_⟩ ⟨_,dg KX G ?_⟩ ⟨_,dg KX G ?_⟩ ⟨_,dg KX G ?_⟩ ⟨_,dg KX G ?_⟩ (Lp KX G ?Z)
  case Z=>(repeat' first|exact bx _|refine bw.mpr ⟨?_,?_⟩) <;> k_is
  any_goals first|k_is|rfl|kernel_rfl|decide|decide +kernel
