import PyProof.Rows.All
import Wide.All
import OpenK.AllK
import Wide.FinOn
import Lean
import PyProof.EqAt
import PyProof.EqKinds
import PyProof.TupleCall
import PySem.Challenge.RW_formgrove_k12_forms_refused
set_option Elab.async false
set_option linter.all false
set_option maxRecDepth 100000
namespace L2
open PySem PySem.Spec PyProof.Rows
abbrev Key := Sum Int Str
def keyIs : Key → Value → Bool
 | .inl k, v => Value.isInt k v
 | .inr x, v => Value.isStrOf x v
def keyH (w : World) : Key → Int
 | .inl k => hashInt k
 | .inr x => hashStr w x
theorem keyIs_shape : ∀ {k : Key} {v : Value}, keyIs k v = true → (∃ i t, k = Sum.inl i ∧ v = Value.int i t) ∨ (∃ x t, k = Sum.inr x ∧ v = Value.str x t)
 | .inl i, v, h => by
  obtain ⟨t, e⟩ := Value.isInt_shape (k := i) (v := v) h
  exact .inl ⟨i, t, rfl, e⟩
 | .inr x, v, h => by
  obtain ⟨t, e⟩ := Value.isStrOf_shape (x := x) (v := v) h
  exact .inr ⟨x, t, rfl, e⟩
theorem keyIs_int (i : Int) (t : Tok) : keyIs (.inl i) (.int i t) = true := by simp [keyIs, Value.isInt]
theorem keyIs_str (x : Str) (t : Tok) : keyIs (.inr x) (.str x t) = true := by simp [keyIs, Value.isStrOf]
theorem key_ll (a b : Int) : decide ((Sum.inl a : Key) = Sum.inl b) = (a == b) := by
 by_cases e : a = b
 ·subst e; simp
 ·have h : ¬ (Sum.inl a : Key) = Sum.inl b := fun q => e (Sum.inl.inj q)
  rw [decide_eq_false h]
  exact (beq_eq_false_iff_ne.mpr e).symm
theorem key_rr (a b : Str) : decide ((Sum.inr a : Key) = Sum.inr b) = decide (a = b) := by
 by_cases e : a = b
 ·subst e; simp
 ·have h : ¬ (Sum.inr a : Key) = Sum.inr b := fun q => e (Sum.inr.inj q)
  rw [decide_eq_false h, decide_eq_false e]
theorem key_lr (a : Int) (b : Str) : decide ((Sum.inl a : Key) = Sum.inr b) = false := decide_eq_false (fun q => nomatch q)
theorem key_rl (a : Str) (b : Int) : decide ((Sum.inr a : Key) = Sum.inl b) = false := decide_eq_false (fun q => nomatch q)
def mixKind (prog : Program) (w : World) : PySem.KeyKind prog w Key where
 is := keyIs
 hash := keyH w
 inj := fun v a b ha hb => by
  rcases keyIs_shape ha with ⟨i, t, rfl, rfl⟩ | ⟨x, t, rfl, rfl⟩
  ·rcases keyIs_shape hb with ⟨j, u, rfl, e⟩ | ⟨y, u, rfl, e⟩
   ·injection e with e1 _; rw [e1]
   ·exact nomatch e
  ·rcases keyIs_shape hb with ⟨j, u, rfl, e⟩ | ⟨y, u, rfl, e⟩
   ·exact nomatch e
   ·injection e with e1 _; rw [e1]
 byValue := fun k v h => by
  rcases keyIs_shape h with ⟨i, t, rfl, rfl⟩ | ⟨x, t, rfl, rfl⟩ <;> rfl
 pyHash := fun hv h => by
  rcases keyIs_shape hv with ⟨i, t, rfl, rfl⟩ | ⟨x, t, rfl, rfl⟩
  ·exact wpAny_pyHash_int h
  ·exact wpAny_pyHash_str h
 eqBool := fun hu hv h => by
  rcases keyIs_shape hu with ⟨i, t, rfl, rfl⟩ | ⟨x, t, rfl, rfl⟩
  ·rcases keyIs_shape hv with ⟨j, u, rfl, rfl⟩ | ⟨y, u, rfl, rfl⟩
   ·rw [key_ll] at h; exact wpAny_eqBool_int h
   ·rw [key_lr] at h; exact SeqAt.EqAt.int_str i t y u _ _ _ _ h
  ·rcases keyIs_shape hv with ⟨j, u, rfl, rfl⟩ | ⟨y, u, rfl, rfl⟩
   ·rw [key_rl] at h; exact SeqAt.EqAt.str_int x t j u _ _ _ _ h
   ·rw [key_rr] at h; exact wpAny_eqBool_str h
 «strs» := fun k x t v h => by
  rcases keyIs_shape h with ⟨i, u, rfl, e⟩ | ⟨y, u, rfl, e⟩
  ·exact nomatch e
  ·injection e with e1 _
   subst e1
   cases v <;> rfl
theorem mixKind_int (prog : Program) (w : World) (i : Int) (t : Tok) : (mixKind prog w).is (.inl i) (.int i t) = true := keyIs_int i t
theorem mixKind_str (prog : Program) (w : World) (x : Str) (t : Tok) : (mixKind prog w).is (.inr x) (.str x t) = true := keyIs_str x t
end L2
namespace L2
open PySem PySem.Spec PyProof.Rows
inductive V where
 | non | bl (b : Bool) | int (i : Int) | str (x : Str) | byt (b : Array UInt8) | flt (b : UInt64) | ref (a : Addr) | ty (n : String)
 deriving DecidableEq
def RelV : V → Value → Prop
 | .non, u => u = Value.none
 | .bl b, u => u = Value.bool b
 | .int i, u => ∃ t, u = Value.int i t
 | .str x, u => ∃ t, u = Value.str x t
 | .byt b, u => ∃ t, u = Value.bytes b t
 | .flt b, u => ∃ t, u = Value.float b t
 | .ref a, u => u = Value.ref a
 | .ty n, u => u = Value.type n
abbrev Vals : List V → List Value → Prop := Paired RelV
theorem Vals.length {xs : List V} {us : List Value} (r : Vals xs us) : xs.length = us.length := Paired.length r
theorem Vals.get : ∀ {xs : List V} {us : List Value} {i : Nat} {x : V}, Vals xs us → xs[i]? = some x → ∃ u, us[i]? = some u ∧ RelV x u
 | _, _, _, _, .nil, e => by simp at e
 | _, _, 0, _, .cons r _, e => by simp at e; subst e; exact ⟨_, rfl, r⟩
 | _, _, i + 1, x, .cons _ t, e => by
  obtain ⟨u, h1, h2⟩ := Vals.get (i := i) (x := x) t (by simpa using e)
  exact ⟨u, by simpa using h1, h2⟩
theorem Vals.set {x : V} {u : Value} (r : RelV x u) : ∀ {xs : List V} {us : List Value} (i : Nat), Vals xs us → Vals (xs.set i x) (us.set i u)
 | _, _, _, .nil => .nil
 | _, _, 0, .cons _ t => .cons r t
 | _, _, i + 1, .cons q t => .cons q (Vals.set r i t)
theorem Vals.append : ∀ {xs ys : List V} {us ws : List Value}, Vals xs us → Vals ys ws → Vals (xs ++ ys) (us ++ ws)
 | _, _, _, _, .nil, s => s
 | _, _, _, _, .cons r t, s => .cons r (Vals.append t s)
theorem Vals.take : ∀ {xs : List V} {us : List Value} (n : Nat), Vals xs us → Vals (xs.take n) (us.take n)
 | _, _, 0, _ => .nil
 | _, _, _ + 1, .nil => .nil
 | _, _, n + 1, .cons r t => .cons r (Vals.take n t)
theorem Vals.drop : ∀ {xs : List V} {us : List Value} (n : Nat), Vals xs us → Vals (xs.drop n) (us.drop n)
 | _, _, 0, r => r
 | _, _, _ + 1, .nil => .nil
 | _, _, n + 1, .cons _ t => Vals.drop n t
def RelO : Option V → Option Value → Prop
 | some v, some u => RelV v u
 | none, none => True
 | _, _ => False
def KV {κ : Type} : List (κ × V) → List (κ × Value) → Prop := Paired fun (p : κ × V) (q : κ × Value) => p.1 = q.1 ∧ RelV p.2 q.2
def kV : Key → V
 | .inl i => .int i
 | .inr x => .str x
inductive HO where
 | lst (xs : List V)
 | tup (xs : List V)
 | dK (kvs : List (Key × V)) | dT (kvs : List (List Key × V))
 | set (S : Int → Bool) (n : Nat)
 | ins (C dx : Addr) (fs : List (Str × V))
 | own (x : Addr)
 | xd (fs : List (Str × V))
 | met (f x : Addr)
 | rng (lo hi : Int)
 | frz (o : Obj) (u : HO)
 | tbl (ps : Array Value)
 | ext (φ : Heap → Prop)
abbrev Hp := Addr → Option HO
def upd (H : Hp) (a : Addr) (o : HO) : Hp := fun b => if b = a then some o else H b
theorem upd_same {H : Hp} {a : Addr} {o : HO} : upd H a o a = some o := by unfold upd; rw [if_pos rfl]
theorem upd_ne {H : Hp} {a b : Addr} {o : HO} (h : b ≠ a) : upd H a o b = H b := by unfold upd; rw [if_neg h]
theorem ne_of_none {H : Hp} {a b : Addr} {o : HO} (h : H a = some o) (h' : H b = none) : a ≠ b := by
 intro e; subst e; rw [h] at h'; cases h'
section
variable (P : Program) (w : World)
def ObjOk (H : Hp) (h : Heap) (a : Addr) : HO → Prop
 | .lst xs => xs.length ≤ sizeLine ∧ ∃ (its : List Value) (n : Nat), Vals xs its ∧ h.get? a = some { cls := .type "list", data := .seq its.toArray n }
 | .tup xs => xs.length ≤ sizeLine ∧ ∃ its : List Value, Vals xs its ∧ IsTup h a its.toArray
 | .dK kvs => kvs.length ≤ sizeLine ∧ (a == sysModules) = false ∧ ∃ vs, KV kvs vs ∧ h.DictOf (mixKind P w) a vs
 | .dT kvs => kvs.length ≤ sizeLine ∧ (a == sysModules) = false ∧ ∃ xs : List (List Key × Addr × Value),
   Paired (fun (p : List Key × V) (q : List Key × Addr × Value) => p.1 = q.1 ∧ H q.2.1 = some (.tup (p.1.map kV)) ∧ RelV p.2 q.2.2) kvs xs ∧
   ∃ o es ep, h.get? a = some o ∧ o.ExactDict ∧ o.data = .dict es ep ∧ es.toList = xs.map (entryOfKey (tupleKind (mixKind P w))) ∧ (xs.map (·.1)).Nodup
 | .set S n => h.SetOf (intKind P w) a S n
 | .ins C dx fs => H dx = some (.own a) ∧ fs.length ≤ 1000 ∧ dx ≠ a ∧ h.get? a = some (PySem.W.instObj C dx) ∧
   ∃ mA, h.Ns1 dx mA ∧ (∀ f, RelO (fs.lookup f) (mA f)) ∧ PySem.Within mA (fs.map (·.1))
 | .own _ => ∃ o, h.get? a = some o
 | .xd fs => ∃ mA, h.Ns1 a mA ∧ ∀ f, RelO (fs.lookup f) (mA f)
 | .rng lo hi => ∃ t u v, h.get? a = some { cls := .type "range", data := .fields #[.int lo t, .int hi u, .int 1 v] }
 | .frz o u => h.get? a = some o ∧ ObjOk H h a u
 | .tbl ps => h.get? a = some { cls := .none, data := .fields ps }
 | .met f x => h.get? a = some (PySem.W.methodObj (.ref f) (.ref x))
 | .ext φ => φ h ∧ (∃ o, h.get? a = some o) ∧ ∀ h1 h2 : Heap, φ h1 → (∀ o, h1.get? a = some o → h2.get? a = some o) → φ h2
def HOk (H : Hp) (h : Heap) : Prop := ∀ a o, H a = some o → ObjOk P w H h a o
end
section
variable {P : Program} {w : World} {H H' : Hp} {h h' : Heap} {a : Addr} {o : HO}
theorem ObjOk.lt (x : ObjOk P w H h a o) : a < h.objs.size := by
 cases o with
 | lst xs => obtain ⟨_, _, _, _, e⟩ := x; exact Heap.lt_size e
 | tup xs => obtain ⟨_, _, _, p⟩ := x; exact p.lt
 | dK kvs => obtain ⟨_, _, _, _, o, _, _, e, _⟩ := x; exact Heap.lt_size e
 | dT kvs => obtain ⟨_, _, _, _, o, _, _, e, _⟩ := x; exact Heap.lt_size e
 | set S n => obtain ⟨o, _, _, _, e, _⟩ := x; exact Heap.lt_size e
 | ins C dx fs => obtain ⟨_, _, _, e, _⟩ := x; exact Heap.lt_size e
 | own y => obtain ⟨_, e⟩ := x; exact Heap.lt_size e
 | xd fs => obtain ⟨_, ⟨_, _, _, e, _⟩, _⟩ := x; exact Heap.lt_size e
 | rng lo hi => obtain ⟨_, _, _, e⟩ := x; exact Heap.lt_size e
 | frz ob u => obtain ⟨e, _⟩ := x; exact Heap.lt_size e
 | tbl ps => exact Heap.lt_size (show h.get? a = some _ from x)
 | met f y => exact Heap.lt_size (show h.get? a = some _ from x)
 | ext φ => obtain ⟨_, ⟨_, e⟩, _⟩ := x; exact Heap.lt_size e
theorem Paired.mapP {α β : Type} {F G : α → β → Prop} : ∀ {l₁ : List α} {l₂ : List β}, Paired F l₁ l₂ → (∀ a b, F a b → G a b) → Paired G l₁ l₂
 | _, _, .nil, _ => .nil
 | _, _, .cons r t, f => .cons (f _ _ r) (Paired.mapP t f)
theorem ObjOk.stay (x : ObjOk P w H h a o) (k : ∀ b u, (b = a ∨ H b = some (.own a)) → h.get? b = some u → h'.get? b = some u)
  (ho : ∀ b, H b = some (.own a) → H' b = some (.own a)) (ht : ∀ b xs, H b = some (.tup xs) → H' b = some (.tup xs)) : ObjOk P w H' h' a o := by
 induction o with
 | lst xs => obtain ⟨z, its, n, r, e⟩ := x; exact ⟨z, its, n, r, k _ _ (.inl rfl) e⟩
 | tup xs => obtain ⟨z, its, r, ob, e, c⟩ := x; exact ⟨z, its, r, ob, k _ _ (.inl rfl) e, c⟩
 | dK kvs => obtain ⟨z, y, vs, r, ob, es, ep, e, c⟩ := x; exact ⟨z, y, vs, r, ob, es, ep, k _ _ (.inl rfl) e, c⟩
 | dT kvs =>
  obtain ⟨z, y, xs, r, ob, es, ep, e, c⟩ := x
  exact ⟨z, y, xs, Paired.mapP r fun p q z => ⟨z.1, ht _ _ z.2.1, z.2.2⟩, ob, es, ep, k _ _ (.inl rfl) e, c⟩
 | set S n => obtain ⟨ob, es, ep, t, e, c⟩ := x; exact ⟨ob, es, ep, t, k _ _ (.inl rfl) e, c⟩
 | ins C dx fs =>
  obtain ⟨d, z, ne, e, mA, ⟨od, es, ep, e2, c⟩, r⟩ := x
  exact ⟨ho _ d, z, ne, k _ _ (.inl rfl) e, mA, ⟨od, es, ep, k _ _ (.inr d) e2, c⟩, r⟩
 | own y => obtain ⟨ob, e⟩ := x; exact ⟨ob, k _ _ (.inl rfl) e⟩
 | xd fs => obtain ⟨mA, ⟨od, es, ep, e, c⟩, r⟩ := x; exact ⟨mA, ⟨od, es, ep, k _ _ (.inl rfl) e, c⟩, r⟩
 | rng lo hi => obtain ⟨t, u, v, e⟩ := x; exact ⟨t, u, v, k _ _ (.inl rfl) e⟩
 | frz ob u ih => obtain ⟨e, q⟩ := x; exact ⟨k _ _ (.inl rfl) e, ih q⟩
 | tbl ps =>
  have e : h.get? a = some { cls := .none, data := .fields ps } := x
  show h'.get? a = some { cls := .none, data := .fields ps }
  exact k a _ (.inl rfl) e
 | met f y =>
  have e : h.get? a = some (PySem.W.methodObj (.ref f) (.ref y)) := x
  show h'.get? a = some (PySem.W.methodObj (.ref f) (.ref y))
  exact k a _ (.inl rfl) e
 | ext φ => obtain ⟨p, ⟨o, e⟩, st⟩ := x; exact ⟨st _ _ p fun o q => k _ _ (.inl rfl) q, ⟨o, k _ _ (.inl rfl) e⟩, st⟩
theorem HOk.lt (x : HOk P w H h) (e : H a = some o) : a < h.objs.size := (x a o e).lt
theorem HOk.fresh (x : HOk P w H h) (e : h.objs.size ≤ a) : H a = none := by
 cases q : H a with
 | none => rfl
 | some u => exact absurd (Nat.lt_of_lt_of_le (x.lt q) e) (Nat.lt_irrefl _)
theorem HOk.kept (x : HOk P w H h) (k : ∀ b u, h.get? b = some u → h'.get? b = some u) : HOk P w H h' := fun a o e =>
 (x a o e).stay (fun b u _ q => k b u q) (fun _ q => q) fun _ _ q => q
theorem HOk.laid (x : HOk P w H h) (k : ∀ b u, h.get? b = some u → h'.get? b = some u) (hp : h.objs.size ≤ a) (new : ObjOk P w (upd H a o) h' a o) : HOk P w (upd H a o) h' := fun b u e => by
 have hn := x.fresh hp
 by_cases hb : b = a
 ·subst hb; rw [upd_same] at e; cases e; exact new
 ·rw [upd_ne hb] at e
  exact (x b u e).stay (fun c v _ q => k c v q) (fun c q => by rw [upd_ne (ne_of_none q hn)]; exact q) fun c xs q => by rw [upd_ne (ne_of_none q hn)]; exact q
end
def Rd (H : Hp) (a : Addr) (u : HO) : Prop := H a = some u ∨ ∃ o, H a = some (.frz o u)
theorem Rd.ok {P : Program} {w : World} {H : Hp} {h : Heap} {a : Addr} {u : HO} (r : Rd H a u) (x : HOk P w H h) : ObjOk P w H h a u := by
 rcases r with r | ⟨o, r⟩
 ·exact x a u r
 ·obtain ⟨_, q⟩ := x a _ r
  exact q
def Mut : Option HO → Prop
 | some (.lst _) => True
 | some (.dK _) => True
 | some (.dT _) => True
 | some (.set _ _) => True
 | some (.ins _ _ _) => True
 | some (.ext _) => True
 | _ => False
section
variable {P : Program} {w : World} {H : Hp} {h h' : Heap} {x e : Addr} {o' : HO}
theorem HOk.write (ok : HOk P w H h) (mu : Mut (H x)) (he : e = x ∨ H e = some (.own x)) (k : ∀ b u, b ≠ e → h.get? b = some u → h'.get? b = some u) (heo : ∃ u, h'.get? e = some u)
  (new : ObjOk P w (upd H x o') h' x o') : HOk P w (upd H x o') h' := fun b u q => by
 have nown : ∀ c y, H c = some (.own y) → c ≠ x := fun c y r z => by subst z; rw [r] at mu; exact mu
 have ntup : ∀ c xs, H c = some (.tup xs) → c ≠ x := fun c xs r z => by subst z; rw [r] at mu; exact mu
 by_cases hb : b = x
 ·subst hb; rw [upd_same] at q; cases q; exact new
 ·rw [upd_ne hb] at q
  by_cases hbe : b = e
  ·have q' : H b = some (.own x) := by
    rcases he with z | z
    ·exact absurd (hbe.trans z) hb
    ·rw [hbe]; exact z
   rw [q] at q'; cases q'
   obtain ⟨v, hv⟩ := heo
   exact ⟨v, by rw [hbe]; exact hv⟩
  ·refine (ok b u q).stay (fun c v hc r => k c v ?_ r) (fun c r => by rw [upd_ne (nown c b r)]; exact r) fun c xs r => by rw [upd_ne (ntup c xs r)]; exact r
   rcases hc with rfl | hc
   ·exact hbe
   ·rintro rfl
    rcases he with z | z
    ·exact nown c b hc z
    ·rw [hc] at z; cases z; exact hb rfl
end
structure Un (fs ex : List Addr) (H H' : Hp) (h h' : Heap) : Prop where
 keep : ∀ b o, h.get? b = some o → H b = none → b ∉ fs → b ∉ ex → h'.get? b = some o
 slot : ∀ b o, h.get? b = some o → H b = none → b ∈ fs → b ∉ ex → ∃ sl, h'.get? b = some { o with slots := sl }
 free : ∀ b o, h.get? b = some o → H b = none → b ∉ ex → H' b = none
 there : ∀ b o, h.get? b = some o → b ∉ ex → ∃ o', h'.get? b = some o'
 tups : ∀ b xs, H b = some (.tup xs) → H' b = some (.tup xs)
 frzs : ∀ b o u, H b = some (.frz o u) → H' b = some (.frz o u)
 tbls : ∀ b ps, H b = some (.tbl ps) → ∃ more, H' b = some (.tbl (ps ++ more))
section
variable {fs fs' ex ex' : List Addr} {H H1 H2 : Hp} {h h1 h2 h' : Heap} {a x e : Addr} {o : HO}
theorem Un.any (u : Un fs ex H H1 h h1) {b : Addr} {ob : Obj} (q : h.get? b = some ob) (n : H b = none) (hx : b ∉ ex) : ∃ sl, h1.get? b = some { ob with slots := sl } := by
 by_cases hb : b ∈ fs
 ·exact u.slot b ob q n hb hx
 ·exact ⟨ob.slots, u.keep b ob q n hb hx⟩
theorem Un.kept (k : ∀ b u, h.get? b = some u → h'.get? b = some u) : Un fs ex H H h h' :=
 ⟨fun b ob q _ _ _ => k b ob q, fun b ob q _ _ _ => ⟨ob.slots, k b ob q⟩, fun _ _ _ n _ => n, fun b ob q _ => ⟨ob, k b ob q⟩, fun _ _ q => q, fun _ _ _ q => q, fun _ ps q => ⟨#[], by rw [q]; simp⟩⟩
theorem Un.refl : Un fs ex H H h h := Un.kept fun _ _ q => q
theorem Un.laid (k : ∀ b u, h.get? b = some u → h'.get? b = some u) (hp : h.objs.size ≤ a) (hn : H a = none) : Un fs ex H (upd H a o) h h' where
 keep := fun b u q _ _ _ => k b u q
 slot := fun b u q _ _ _ => ⟨u.slots, k b u q⟩
 free := fun b u q n _ => by rw [upd_ne (Nat.ne_of_lt (Nat.lt_of_lt_of_le (Heap.lt_size q) hp))]; exact n
 there := fun b u q _ => ⟨u, k b u q⟩
 tups := fun b xs q => by rw [upd_ne (ne_of_none q hn)]; exact q
 frzs := fun b u xs q => by rw [upd_ne (ne_of_none q hn)]; exact q
 tbls := fun b ps q => ⟨#[], by rw [upd_ne (ne_of_none q hn), q]; simp⟩
theorem Un.write (mu : Mut (H x)) (he : e = x ∨ H e = some (.own x)) (k : ∀ b u, b ≠ e → h.get? b = some u → h'.get? b = some u) (heo : ∃ u, h'.get? e = some u) : Un fs ex H (upd H x o) h h' := by
 have hx : ∀ b, H b = none → b ≠ x := fun b n z => by subst z; rw [n] at mu; exact mu
 have hb : ∀ b, H b = none → b ≠ e := fun b n z => by
  subst z
  rcases he with r | r
  ·exact hx b n r
  ·rw [n] at r; cases r
 have hm : ∀ b u, H b = some u → ¬ Mut (some u) → b ≠ x := fun b u q nm z => by subst z; rw [q] at mu; exact nm mu
 refine ⟨fun b u q n _ _ => k b u (hb b n) q, fun b u q n _ _ => ⟨u.slots, k b u (hb b n) q⟩, fun b u q n _ => by rw [upd_ne (hx b n)]; exact n, fun b u q _ => ?_,
  fun b xs q => by rw [upd_ne (hm b _ q fun z => z)]; exact q, fun b u xs q => by rw [upd_ne (hm b _ q fun z => z)]; exact q, fun b ps q => ⟨#[], by rw [upd_ne (hm b _ q fun z => z), q]; simp⟩⟩
 by_cases hbe : b = e
 ·subst hbe; exact heo
 ·exact ⟨u, k b u hbe q⟩
end
def trk (h : Heap) (H : Hp) : List Addr := (List.range h.objs.size).filter fun a => (H a).isSome
def hidT (h : Heap) (H : Hp) : Heap := PySem.W.hideAll h (trk h H)
theorem hidT_size (h : Heap) (H : Hp) : (hidT h H).objs.size = h.objs.size := PySem.W.hideAll_size _ _
theorem hidT_get {h : Heap} {H : Hp} {b : Addr} {o : Obj} (e : h.get? b = some o) (n : H b = none) : (hidT h H).get? b = some o :=
 PySem.W.hideAll_get _ e fun hm => by
  have q : (H b).isSome = true := (List.mem_filter.mp hm).2
  rw [n] at q; simp at q
theorem of_hidT {h : Heap} {H : Hp} {b : Addr} {o : Obj} (e : (hidT h H).get? b = some o) : h.get? b = some o ∧ H b = none := by
 have e' : h.get? b = some o := PySem.W.of_hideAll (trk h H) e
 refine ⟨e', ?_⟩
 cases q : H b with
 | none => rfl
 | some x =>
  have hm : b ∈ trk h H := List.mem_filter.mpr ⟨List.mem_range.mpr (Heap.lt_size e'), by simp [q]⟩
  have z : (hidT h H).get? b = none := PySem.W.hideAll_none (trk h H) hm
  rw [z] at e; cases e
end L2
namespace L2
open PySem PySem.Spec PyProof.Rows
structure Mod (K : PySem.W.Frag) (mg : Str → Option Value) (base : Heap) : Prop where
 kin : K.In base
 glob : base.Ns mainGlobals mg
 blt : ∃ mb, base.Ns builtinsNs mb ∧ ∀ x : Str, x ≠ "__name__" → mb x = bootBuiltins x
 nolimit : base.NoLimit
/-- the context: a def's body (or a comprehension's block) running. base: fixed through the whole law; s₀, H₀: the entry; outer: the frames whose slots others may change (a def's callers); stack: all frames that run;
   ex: iterators that were made ahead of the entry and are walked here (a comprehension's); fn: the names whose cells were made at the entry (a def: all; a comprehension's block: its own); calm: not within an except suite; pn: pins that every state bears; xe: what is wanted of an exception that leaves the code -/
structure Cx where
 prog : Program
 w : World
 K : PySem.W.Frag
 mg : Str → Option Value
 base : Heap
 A : Around
 N : List Str
 s₀ : Shared
 H₀ : Hp
 env : Env
 outer : List Env
 stack : List Env
 ex : List Addr
 fn : Str → Bool
 calm : Bool
 pn : List (Addr × Obj)
 xe : Value → Shared → Prop
def frs (l : List Env) : List Addr := l.filterMap (·.frame)
abbrev Cx.fs (X : Cx) : List Addr := frs X.outer
def Vis (sc : Scope) (x : Str) : Prop := sc.names.lookup x = some .local ∨ sc.names.lookup x = some .cell ∨ sc.names.lookup x = some .free
def Loc (sc : Scope) (x : Str) : Prop := sc.names.lookup x = some .local ∨ sc.names.lookup x = some .cell
def Look (env : Env) (h : Heap) (m : Str → Option Value) (x : Str) (u : Value) : Prop :=
 (env.kindOf x = some .local ∧ m x = some u) ∨ ((env.kindOf x = some .cell ∨ env.kindOf x = some .free) ∧ ∃ c, env.cells.lookup x = some c ∧ h.IsCell c (some u))
structure Cx.Ok (X : Cx) : Prop where
 mod : Mod X.K X.mg X.base
 kind : X.env.scope.kind = .function
 glob : X.env.globals = mainGlobals
 blt : X.env.builtins = builtinsNs
 above : X.s₀.heap.objs.size ≤ X.env.locals
 inj : ∀ x y c, X.env.cells.lookup x = some c → X.env.cells.lookup y = some c → x = y
 has : ∀ x, (X.env.kindOf x = some .cell ∨ X.env.kindOf x = some .free) → ∃ c, X.env.cells.lookup x = some c
 cab : ∀ x c, X.fn x = true → X.env.cells.lookup x = some c → X.s₀.heap.objs.size ≤ c
 hd : X.calm = true → X.A.handled = none
 frames : X.A.frames = some X.stack
 stk : X.stack = X.outer ∨ (X.stack = X.env :: X.outer ∧ X.env.frame = some X.env.locals)
 exf : ∀ b ∈ X.ex, b ≠ X.env.locals ∧ ∀ x c, X.env.cells.lookup x = some c → c ≠ b
 bs : ∀ b o, X.base.get? b = some o → X.s₀.heap.get? b = some o ∧ X.H₀ b = none
 bsz : X.base.objs.size ≤ X.s₀.heap.objs.size
 noex : ∀ b o, X.base.get? b = some o → b ∉ X.ex
 exfs : ∀ b ∈ X.ex, b ∉ X.fs
 funs : X.s₀.heap.FunFrames X.base X.outer
 frf : ∀ b ∈ X.fs, X.H₀ b = none
structure Inv (X : Cx) (pins : List (Addr × Obj)) (σ : List (Option V)) (H : Hp) (s : Shared) : Prop where
 ok : X.Ok
 os : s.os = X.s₀.os
 bare : AllBare s.gens
 base : Un X.fs X.ex X.H₀ H X.s₀.heap s.heap
 loc : ∃ m, s.heap.Ns X.env.locals m ∧ ∀ (i : Nat) (x : Str) (v : V), X.N[i]? = some x → σ[i]? = some (some v) → Vis X.env.scope x → ∃ u, RelV v u ∧ Look X.env s.heap m x u
 cell : ∀ x c, X.env.cells.lookup x = some c → ∃ v, s.heap.IsCell c v
 free : H X.env.locals = none
 freeC : ∀ x c, X.env.cells.lookup x = some c → H c = none
 pin : ∀ p ∈ X.pn ++ pins, s.heap.get? p.1 = some p.2 ∧ H p.1 = none ∧ p.1 ≠ X.env.locals ∧ p.1 ∉ X.fs ∧ ∀ v, p.2.data ≠ .cell v
 hok : HOk X.prog X.w H s.heap
 len : σ.length = X.N.length
section
variable {X : Cx} {pins : List (Addr × Obj)} {σ : List (Option V)} {H H' : Hp} {s : Shared} {h' : Heap}
theorem Cx.Ok.nofr (ok : X.Ok) {b : Addr} {o : Obj} (e : X.base.get? b = some o) : b ∉ X.fs := fun hb => by
 have := (ok.funs.mem hb).1
 rw [e] at this; cases this
theorem Inv.bs (I : Inv X pins σ H s) : ∀ b o, X.base.get? b = some o → s.heap.get? b = some o ∧ H b = none := fun b o e =>
 ⟨I.base.keep b o (I.ok.bs b o e).1 (I.ok.bs b o e).2 (I.ok.nofr e) (I.ok.noex b o e), I.base.free b o (I.ok.bs b o e).1 (I.ok.bs b o e).2 (I.ok.noex b o e)⟩
theorem Inv.bk (I : Inv X pins σ H s) : ∀ b o, X.base.get? b = some o → s.heap.get? b = some o := fun b o e => (I.bs b o e).1
theorem Inv.mod (I : Inv X pins σ H s) : Mod X.K X.mg X.base := I.ok.mod
theorem Inv.kIn (I : Inv X pins σ H s) : X.K.In s.heap := I.ok.mod.kin.keeps I.bk
theorem Inv.lt (I : Inv X pins σ H s) : X.env.locals < s.heap.objs.size := let ⟨_, hn, _⟩ := I.loc; hn.lt
theorem Inv.sz (I : Inv X pins σ H s) : X.s₀.heap.objs.size ≤ s.heap.objs.size := Nat.le_trans I.ok.above (Nat.le_of_lt I.lt)
theorem Inv.nofs (I : Inv X pins σ H s) {a : Addr} (h : s.heap.objs.size ≤ a) : a ∉ X.fs := fun hb => by
 obtain ⟨_, o, ho, _⟩ := I.ok.funs.mem hb
 exact absurd (Nat.lt_of_lt_of_le (Heap.lt_size ho) (Nat.le_trans I.sz h)) (Nat.lt_irrefl _)
theorem Inv.cne (I : Inv X pins σ H s) : ∀ x c, X.env.cells.lookup x = some c → c ≠ X.env.locals := fun x c e z => by
 obtain ⟨v, o, ho, hd⟩ := I.cell x c e
 obtain ⟨m, ⟨o', es, ep, ho', hd', _⟩, _⟩ := I.loc
 rw [z, ho'] at ho; cases ho; rw [hd'] at hd; cases hd
theorem Inv.funs (I : Inv X pins σ H s) : s.heap.FunFrames X.base X.outer := by
 have all : ∀ (l : List Env), (∀ b ∈ frs l, b ∈ X.fs) → X.s₀.heap.FunFrames X.base l → s.heap.FunFrames X.base l := by
  intro l
  induction l with
  | nil => intro _ _; trivial
  | cons env r ih =>
   intro hs hl
   obtain ⟨hk, ⟨L, o, hf, hn, ho, hd⟩, hr⟩ := hl
   have hL : L ∈ X.fs := hs L (by unfold frs; rw [List.filterMap_cons, hf]; exact List.mem_cons_self)
   obtain ⟨sl, e⟩ := I.base.slot L o ho (I.ok.frf L hL) hL fun z => I.ok.exfs L z hL
   exact ⟨hk, ⟨L, _, hf, hn, e, hd⟩, ih (fun b hb => hs b (by unfold frs; rw [List.filterMap_cons, hf]; exact List.mem_cons_of_mem _ hb)) hr⟩
 exact all X.outer (fun _ hb => hb) I.ok.funs
theorem Inv.stack (I : Inv X pins σ H s) : s.heap.FunFrames X.base X.stack := by
 rcases I.ok.stk with e | ⟨e, hf⟩
 ·rw [e]; exact I.funs
 ·rw [e]
  obtain ⟨m, hn, _⟩ := I.loc
  refine .cons (by rw [I.ok.kind]; decide) hf hn ?_ I.funs
  exact Heap.get?_none_of_le (Nat.le_trans I.ok.bsz I.ok.above)
theorem Inv.stkSub (I : Inv X pins σ H s) : ∀ b ∈ frs X.stack, b ∈ X.env.locals :: X.fs := fun b hb => by
 rcases I.ok.stk with e | ⟨e, hf⟩
 ·rw [e] at hb; exact List.mem_cons_of_mem _ hb
 ·rw [e] at hb
  unfold frs at hb
  rw [List.filterMap_cons, hf] at hb
  exact hb
theorem Inv.stkFree (I : Inv X pins σ H s) : ∀ b ∈ frs X.stack, H b = none := fun b hb => by
 rcases List.mem_cons.mp (I.stkSub b hb) with e | hb
 ·rw [e]; exact I.free
 ·obtain ⟨_, o, ho, _⟩ := I.ok.funs.mem hb
  exact I.base.free b o ho (I.ok.frf b hb) fun z => I.ok.exfs b z hb
theorem Inv.step {g' : Array GenState} {t' : Nat} {d' : Drawn} {ch : List Addr} (I : Inv X pins σ H s)
  (hch : ∀ b ∈ ch, (b ∈ X.ex ∨ X.s₀.heap.objs.size ≤ b) ∧ b ≠ X.env.locals ∧ (∀ x c, X.env.cells.lookup x = some c → c ≠ b) ∧ ∀ p ∈ X.pn ++ pins, p.1 ≠ b)
  (keep : ∀ b o, b ≠ X.env.locals → b ∉ X.fs → b ∉ ch → s.heap.get? b = some o → H b = none → h'.get? b = some o)
  (slot : ∀ b o, b ≠ X.env.locals → b ∈ X.fs → b ∉ ch → s.heap.get? b = some o → H b = none → ∃ sl, h'.get? b = some { o with slots := sl }) (free : ∀ b o, b ∉ ch → s.heap.get? b = some o → H b = none → H' b = none)
  (there : ∀ b o, b ∉ ch → s.heap.get? b = some o → ∃ o', h'.get? b = some o')
  (tups : ∀ b xs, H b = some (.tup xs) → H' b = some (.tup xs)) (frzs : ∀ b o u, H b = some (.frz o u) → H' b = some (.frz o u)) (tbls : ∀ b ps, H b = some (.tbl ps) → ∃ more, H' b = some (.tbl (ps ++ more)))
  (ns : ∀ m, s.heap.Ns X.env.locals m → h'.Ns X.env.locals m) (hok : HOk X.prog X.w H' h') (hg : AllBare g') :
  Inv X pins σ H' { s with heap := h', gens := g', drawn := d', toks := t' } := by
 have neL : ∀ b o, X.s₀.heap.get? b = some o → b ≠ X.env.locals := fun b o e => Nat.ne_of_lt (Nat.lt_of_lt_of_le (Heap.lt_size e) I.ok.above)
 have neC : ∀ b o, X.s₀.heap.get? b = some o → b ∉ X.ex → b ∉ ch := fun b o e hx hb => by
  rcases (hch b hb).1 with z | z
  ·exact hx z
  ·exact absurd (Nat.lt_of_lt_of_le (Heap.lt_size e) z) (Nat.lt_irrefl _)
 have cellK : ∀ x c, X.env.cells.lookup x = some c → ∀ v, s.heap.IsCell c v → h'.IsCell c v := fun x c e v ⟨o, ho, hd⟩ => by
  have nch : c ∉ ch := fun z => (hch c z).2.2.1 x c e rfl
  by_cases hc : c ∈ X.fs
  ·obtain ⟨sl, q⟩ := slot c o (I.cne x c e) hc nch ho (I.freeC x c e)
   exact ⟨_, q, hd⟩
  ·exact ⟨o, keep c o (I.cne x c e) hc nch ho (I.freeC x c e), hd⟩
 refine ⟨I.ok, I.os, hg, ⟨fun b o e n hb hx => ?_, fun b o e n hb hx => ?_, fun b o e n hx => ?_, fun b o e hx => ?_, fun b xs e => tups b xs (I.base.tups b xs e), fun b o xs e => frzs b o xs (I.base.frzs b o xs e), fun b ps e => ?_⟩, ?_, fun x c e => ?_, ?_, fun x c e => ?_, fun p hp => ?_, hok, I.len⟩
 ·exact keep b o (neL b o e) hb (neC b o e hx) (I.base.keep b o e n hb hx) (I.base.free b o e n hx)
 ·obtain ⟨sl, e1⟩ := I.base.slot b o e n hb hx
  obtain ⟨sl', e2⟩ := slot b _ (neL b o e) hb (neC b o e hx) e1 (I.base.free b o e n hx)
  exact ⟨sl', e2⟩
 ·obtain ⟨o', e1⟩ := I.base.there b o e hx
  exact free b o' (neC b o e hx) e1 (I.base.free b o e n hx)
 ·obtain ⟨o', e1⟩ := I.base.there b o e hx
  exact there b o' (neC b o e hx) e1
 ·obtain ⟨m1, e1⟩ := I.base.tbls b ps e
  obtain ⟨m2, e2⟩ := tbls b _ e1
  exact ⟨m1 ++ m2, by rw [e2, Array.append_assoc]⟩
 ·obtain ⟨m, hn, hl⟩ := I.loc
  refine ⟨m, ns m hn, fun i x v e1 e2 e3 => ?_⟩
  obtain ⟨u, r, l⟩ := hl i x v e1 e2 e3
  refine ⟨u, r, ?_⟩
  rcases l with l | ⟨k, c, e, z⟩
  ·exact .inl l
  ·exact .inr ⟨k, c, e, cellK x c e _ z⟩
 ·obtain ⟨v, z⟩ := I.cell x c e
  exact ⟨v, cellK x c e v z⟩
 ·obtain ⟨m, ⟨o, _, _, ho, _⟩, _⟩ := I.loc
  exact free _ o (fun z => (hch _ z).2.1 rfl) ho I.free
 ·obtain ⟨v, o, ho, hd⟩ := I.cell x c e
  exact free c o (fun z => (hch c z).2.2.1 x c e rfl) ho (I.freeC x c e)
 ·obtain ⟨e, n, ne, nf, d⟩ := I.pin p hp
  have nch : p.1 ∉ ch := fun z => (hch p.1 z).2.2.2 p hp rfl
  exact ⟨keep p.1 p.2 ne nf nch e n, free p.1 p.2 nch e n, ne, nf, d⟩
theorem Inv.un {t' : Nat} (I : Inv X pins σ H s) (u : Un X.fs [] H H' s.heap h') (hok : HOk X.prog X.w H' h') : Inv X pins σ H' { s with heap := h', toks := t' } := by
 obtain ⟨m, ⟨o, es, ep, ho, r⟩, _⟩ := id I.loc
 obtain ⟨sl, hL⟩ := u.any ho I.free (by simp)
 exact I.step (g' := s.gens) (d' := s.drawn) (ch := []) (fun _ z => nomatch z) (fun b o _ hb _ e n => u.keep b o e n hb (by simp)) (fun b o _ hb _ e n => u.slot b o e n hb (by simp)) (fun b o _ e n => u.free b o e n (by simp)) (fun b o _ e => u.there b o e (by simp)) u.tups u.frzs u.tbls (fun m' hm => by
  obtain ⟨o', es', ep', ho', r'⟩ := hm
  rw [ho] at ho'; cases ho'
  exact ⟨_, es', ep', hL, r'⟩) hok I.bare
theorem Inv.call {g' : Array GenState} {t' : Nat} {d' : Drawn} {ch : List Addr} (I : Inv X pins σ H s) (u : Un (frs X.stack) ch H H' s.heap h') (hok : HOk X.prog X.w H' h') (hg : AllBare g')
  (hch : ∀ b ∈ ch, (b ∈ X.ex ∨ X.s₀.heap.objs.size ≤ b) ∧ b ≠ X.env.locals ∧ (∀ x c, X.env.cells.lookup x = some c → c ≠ b) ∧ ∀ p ∈ X.pn ++ pins, p.1 ≠ b) :
  Inv X pins σ H' { s with heap := h', gens := g', drawn := d', toks := t' } := by
 obtain ⟨m, ⟨o, es, ep, ho, r⟩, _⟩ := id I.loc
 obtain ⟨sl, hL⟩ := u.any ho I.free fun z => (hch _ z).2.1 rfl
 exact I.step (ch := ch) hch (fun b o hL hb hc e n => u.keep b o e n (fun z => (List.mem_cons.mp (I.stkSub b z)).elim hL hb) hc) (fun b o _ _ hc e n => u.any e n hc) (fun b o hc e n => u.free b o e n hc) (fun b o hc e => u.there b o e hc) u.tups u.frzs u.tbls (fun m' hm => by
  obtain ⟨o', es', ep', ho', r'⟩ := hm
  rw [ho] at ho'; cases ho'
  exact ⟨_, es', ep', hL, r'⟩) hok hg
theorem Inv.turned {t' : Nat} {it : Addr} (I : Inv X pins σ H s) (k : ∀ b o, b ≠ it → s.heap.get? b = some o → h'.get? b = some o) (hn : H it = none) (hL : it ≠ X.env.locals)
  (h1 : it ∈ X.ex ∨ X.s₀.heap.objs.size ≤ it) (h2 : ∀ x c, X.env.cells.lookup x = some c → c ≠ it) (h3 : ∀ p ∈ X.pn ++ pins, p.1 ≠ it) : Inv X pins σ H { s with heap := h', toks := t' } := by
 have nit : ∀ b u, H b = some u → b ≠ it := fun b u e z => by rw [z, hn] at e; cases e
 refine I.step (g' := s.gens) (d' := s.drawn) (ch := [it]) (fun b hb => ?_) (fun b o _ _ hc e _ => k b o (fun z => hc (by simp [z])) e) (fun b o _ _ hc e _ => ⟨o.slots, k b o (fun z => hc (by simp [z])) e⟩) (fun _ _ _ _ n => n)
  (fun b o hc e => ⟨o, k b o (fun z => hc (by simp [z])) e⟩) (fun _ _ e => e) (fun _ _ _ e => e) (fun b ps e => ⟨#[], by rw [e]; simp⟩) (fun m hm => ?_) (fun b u e => ?_) I.bare
 ·have e : b = it := by simpa using hb
  subst e
  exact ⟨h1, hL, h2, h3⟩
 ·obtain ⟨o, es, ep, ho, r⟩ := hm
  exact ⟨o, es, ep, k _ o (Ne.symm hL) ho, r⟩
 ·refine (I.hok b u e).stay (fun c v hc q => k c v ?_ q) (fun _ q => q) fun _ _ q => q
  rcases hc with z | z
  ·rw [z]; exact nit b u e
  ·exact nit c _ z
theorem Inv.tok (I : Inv X pins σ H s) (t : Nat) : Inv X pins σ H { s with toks := t } := I.un (h' := s.heap) (t' := t) Un.refl I.hok
theorem Inv.kept {t' : Nat} (I : Inv X pins σ H s) (k : ∀ b u, s.heap.get? b = some u → h'.get? b = some u) : Inv X pins σ H { s with heap := h', toks := t' } := I.un (Un.kept k) (I.hok.kept k)
theorem Inv.laid {a : Addr} {o : HO} {t' : Nat} (I : Inv X pins σ H s) (k : ∀ b u, s.heap.get? b = some u → h'.get? b = some u) (hp : s.heap.objs.size ≤ a) (new : ObjOk X.prog X.w (upd H a o) h' a o) :
  Inv X pins σ (upd H a o) { s with heap := h', toks := t' } := I.un (Un.laid k hp (I.hok.fresh hp)) (I.hok.laid k hp new)
theorem Inv.write {x e : Addr} {o : HO} {t' : Nat} (I : Inv X pins σ H s) (mu : Mut (H x)) (he : e = x ∨ H e = some (.own x)) (k : ∀ b u, b ≠ e → s.heap.get? b = some u → h'.get? b = some u) (heo : ∃ u, h'.get? e = some u)
  (new : ObjOk X.prog X.w (upd H x o) h' x o) : Inv X pins σ (upd H x o) { s with heap := h', toks := t' } := I.un (Un.write mu he k heo) (I.hok.write mu he k heo new)
theorem Inv.pins_of {pins' : List (Addr × Obj)} (I : Inv X pins σ H s) (h : ∀ p ∈ pins', s.heap.get? p.1 = some p.2 ∧ H p.1 = none ∧ p.1 ≠ X.env.locals ∧ p.1 ∉ X.fs ∧ ∀ v, p.2.data ≠ .cell v) : Inv X pins' σ H s :=
 ⟨I.ok, I.os, I.bare, I.base, I.loc, I.cell, I.free, I.freeC, fun p hp => (List.mem_append.mp hp).elim (fun z => I.pin p (List.mem_append_left _ z)) (h p), I.hok, I.len⟩
theorem nodup_ix {N : List Str} (hN : N.Nodup) {i j : Nat} {x : Str} (a : N[i]? = some x) (b : N[j]? = some x) : i = j := by
 obtain ⟨h1, e1⟩ := List.getElem?_eq_some_iff.mp a
 obtain ⟨h2, e2⟩ := List.getElem?_eq_some_iff.mp b
 exact (List.getElem_inj hN).mp (e1.trans e2.symm)
theorem store_ok2 {M : Model} {A : Around} {E : Value → Shared → Prop} {i : Nat} {x : Str} {v : V} {u : Value} {Q : Unit → Shared → Prop} (I : Inv X pins σ H s) (hN : X.N.Nodup) (hi : X.N[i]? = some x) (hx : Loc X.env.scope x) (r : RelV v u)
  (h : ∀ s', Inv X pins (σ.set i (some v)) H s' → (∃ a, Heap.SameBut a s.heap s'.heap ∧ (a = X.env.locals ∨ X.env.cells.lookup x = some a)) → Q () s') (hf : X.fn x = true ∨ X.env.scope.names.lookup x = some .local := by first | exact .inl rfl | exact .inr rfl | assumption) : wpAny M A (storeName X.env x u) Q E s := by
 obtain ⟨m, hn, hl⟩ := id I.loc
 have hcls : (X.env.scope.kind == .class || (X.env.scope.kind == .module && X.env.locals != X.env.globals)) = false := by rw [I.ok.kind]; rfl
 have hiσ : i < σ.length := by rw [I.len]; exact (List.getElem?_eq_some_iff.mp hi).1
 have cne := I.cne
 have tracked : ∀ {a : Addr} {h' : Heap}, (∃ o, s.heap.get? a = some o ∧ H a = none) → Heap.SameBut a s.heap h' → HOk X.prog X.w H h' := fun {a h'} ha hs b ob e => by
  obtain ⟨_, _, hfree⟩ := ha
  refine (I.hok b ob e).stay (fun c w' hc q => (hs.2 c ?_).trans q) (fun _ q => q) fun _ _ q => q
  rintro rfl
  rcases hc with rfl | hc
  ·rw [hfree] at e; cases e
  ·rw [hfree] at hc; cases hc
 rcases hx with hk | hk
 ·refine wpAny_storeName_local hk hn (fun h' hn' hs => ?_) hcls
  obtain ⟨oL, _, _, hoL, _⟩ := id hn
  refine h _ ⟨I.ok, I.os, I.bare, ⟨fun b o e n hb hx => ?_, fun b o e n hb hx => ?_, I.base.free, fun b o e hx => ?_, I.base.tups, I.base.frzs, I.base.tbls⟩, ⟨_, hn', fun j y v' e1 e2 e3 => ?_⟩, fun y c e => ?_, I.free, I.freeC, fun p hp => ?_, tracked ⟨oL, hoL, I.free⟩ hs, by simpa using I.len⟩ ⟨_, hs, .inl rfl⟩
  ·exact (hs.2 b (Nat.ne_of_lt (Nat.lt_of_lt_of_le (Heap.lt_size e) I.ok.above))).trans (I.base.keep b o e n hb hx)
  ·obtain ⟨sl, e1⟩ := I.base.slot b o e n hb hx
   exact ⟨sl, (hs.2 b (Nat.ne_of_lt (Nat.lt_of_lt_of_le (Heap.lt_size e) I.ok.above))).trans e1⟩
  ·obtain ⟨o', e1⟩ := I.base.there b o e hx
   exact ⟨o', (hs.2 b (Nat.ne_of_lt (Nat.lt_of_lt_of_le (Heap.lt_size e) I.ok.above))).trans e1⟩
  ·by_cases hj : j = i
   ·subst hj
    rw [hi] at e1; cases e1
    rw [List.getElem?_set_self hiσ] at e2
    cases e2
    exact ⟨u, r, .inl ⟨hk, by simp⟩⟩
   ·rw [List.getElem?_set_ne (Ne.symm hj)] at e2
    obtain ⟨u', r', q⟩ := hl j y v' e1 e2 e3
    refine ⟨u', r', ?_⟩
    rcases q with ⟨k, e⟩ | ⟨k, c, e, z⟩
    ·refine .inl ⟨k, ?_⟩
     have : y ≠ x := fun e => hj (nodup_ix hN e1 (e ▸ hi))
     simp [this, e]
    ·exact .inr ⟨k, c, e, z.sameBut hs (cne y c e)⟩
  ·obtain ⟨w', z⟩ := I.cell y c e
   exact ⟨w', z.sameBut hs (cne y c e)⟩
  ·obtain ⟨e, n, ne, nf, d⟩ := I.pin p hp
   exact ⟨(hs.2 p.1 ne).trans e, n, ne, nf, d⟩
 ·have hfn : X.fn x = true := by
   rcases hf with z | z
   ·exact z
   ·rw [z] at hk; cases hk
  obtain ⟨c, hc⟩ := I.ok.has x (.inl hk)
  obtain ⟨w', z⟩ := I.cell x c hc
  refine wpAny_storeName_cell I.ok.kind hk hc z (fun h' hc' hs => ?_)
  obtain ⟨oc, hoc, hocd⟩ := id z
  refine h { s with heap := h' } ⟨I.ok, I.os, I.bare, ⟨fun b o e n hb hx => ?_, fun b o e n hb hx => ?_, I.base.free, fun b o e hx => ?_, I.base.tups, I.base.frzs, I.base.tbls⟩, ⟨m, hn.sameBut hs (Ne.symm (cne x c hc)), fun j y v' e1 e2 e3 => ?_⟩, fun y c' e => ?_, I.free, I.freeC, fun p hp => ?_, tracked ⟨oc, hoc, I.freeC x c hc⟩ hs, by simpa using I.len⟩ ⟨c, hs, .inr hc⟩
  ·exact (hs.2 b (Nat.ne_of_lt (Nat.lt_of_lt_of_le (Heap.lt_size e) (I.ok.cab x c hfn hc)))).trans (I.base.keep b o e n hb hx)
  ·obtain ⟨sl, e1⟩ := I.base.slot b o e n hb hx
   exact ⟨sl, (hs.2 b (Nat.ne_of_lt (Nat.lt_of_lt_of_le (Heap.lt_size e) (I.ok.cab x c hfn hc)))).trans e1⟩
  ·obtain ⟨o', e1⟩ := I.base.there b o e hx
   exact ⟨o', (hs.2 b (Nat.ne_of_lt (Nat.lt_of_lt_of_le (Heap.lt_size e) (I.ok.cab x c hfn hc)))).trans e1⟩
  ·by_cases hj : j = i
   ·subst hj
    rw [hi] at e1; cases e1
    rw [List.getElem?_set_self hiσ] at e2
    cases e2
    exact ⟨u, r, .inr ⟨.inl hk, c, hc, hc'⟩⟩
   ·rw [List.getElem?_set_ne (Ne.symm hj)] at e2
    obtain ⟨u', r', q⟩ := hl j y v' e1 e2 e3
    refine ⟨u', r', ?_⟩
    rcases q with q | ⟨k, c', e, z'⟩
    ·exact .inl q
    ·refine .inr ⟨k, c', e, z'.sameBut hs ?_⟩
     rintro rfl
     exact hj (nodup_ix hN e1 (I.ok.inj _ _ _ e hc ▸ hi))
  ·by_cases hcc : c' = c
   ·subst hcc; exact ⟨_, hc'⟩
   ·obtain ⟨w2, z2⟩ := I.cell y c' e
    exact ⟨w2, z2.sameBut hs hcc⟩
  ·obtain ⟨e, n, ne, nf, d⟩ := I.pin p hp
   refine ⟨(hs.2 p.1 ?_).trans e, n, ne, nf, d⟩
   intro q
   rw [q, hoc] at e
   have q' : oc = p.2 := Option.some.inj e
   exact d w' (by rw [← q']; exact hocd)
theorem store_ok {M : Model} {A : Around} {E : Value → Shared → Prop} {i : Nat} {x : Str} {v : V} {u : Value} {Q : Unit → Shared → Prop} (I : Inv X pins σ H s) (hN : X.N.Nodup) (hi : X.N[i]? = some x) (hx : Loc X.env.scope x) (r : RelV v u)
  (h : ∀ s', Inv X pins (σ.set i (some v)) H s' → Q () s') (hf : X.fn x = true ∨ X.env.scope.names.lookup x = some .local := by first | exact .inl rfl | exact .inr rfl | assumption) : wpAny M A (storeName X.env x u) Q E s :=
 store_ok2 I hN hi hx r (fun s' I' _ => h s' I') hf
theorem Inv.call' {s' : Shared} {ch : List Addr} (I : Inv X pins σ H s) (ho : s'.os = s.os) (u : Un (frs X.stack) ch H H' s.heap s'.heap) (hok : HOk X.prog X.w H' s'.heap) (hg : AllBare s'.gens)
  (hch : ∀ b ∈ ch, (b ∈ X.ex ∨ X.s₀.heap.objs.size ≤ b) ∧ b ≠ X.env.locals ∧ (∀ x c, X.env.cells.lookup x = some c → c ≠ b) ∧ ∀ p ∈ X.pn ++ pins, p.1 ≠ b) : Inv X pins σ H' s' := by
 obtain ⟨h', g', d', t', o'⟩ := s'
 have e : o' = s.os := ho
 subst e
 exact I.call (g' := g') (t' := t') (d' := d') u hok hg hch
end
abbrev XK := Value → Option Addr → Hp → Prop
abbrev St := List (Option V)
abbrev VK := V → Hp → Prop
abbrev TE := St → Hp → VK → Prop
abbrev TT := St → Hp → (Bool → Hp → Prop) → Prop
abbrev TA := St → Hp → (List V → Hp → Prop) → Prop
structure Ends where
 nx : St → Hp → Prop
 rt : VK
 bk : St → Hp → Prop := fun _ _ => False
 ct : St → Hp → Prop := fun _ _ => False
abbrev TS := Ends → St → Hp → Prop
def EP (X : Cx) (pins : List (Addr × Obj)) (σ : St) (Q : VK) (u : Value) (s' : Shared) : Prop := ∃ v H', Inv X pins σ H' s' ∧ RelV v u ∧ Q v H'
def TP (X : Cx) (pins : List (Addr × Obj)) (σ : St) (Q : Bool → Hp → Prop) (b : Bool) (s' : Shared) : Prop := ∃ H', Inv X pins σ H' s' ∧ Q b H'
def AP (X : Cx) (pins : List (Addr × Obj)) (σ : St) (Q : List V → Hp → Prop) (us : List Value) (s' : Shared) : Prop := ∃ vs H', Inv X pins σ H' s' ∧ Vals vs us ∧ Q vs H'
def SP (X : Cx) (pins : List (Addr × Obj)) (D : Ends) (f : Flow) (s' : Shared) : Prop :=
 match f with
 | .next => ∃ σ' H', Inv X pins σ' H' s' ∧ D.nx σ' H'
 | .brk => ∃ σ' H', Inv X pins σ' H' s' ∧ D.bk σ' H'
 | .cont => ∃ σ' H', Inv X pins σ' H' s' ∧ D.ct σ' H'
 | .ret u => ∃ v σ' H', Inv X pins σ' H' s' ∧ RelV v u ∧ D.rt v H'
def PE (X : Cx) (e : Expr) (t : TE) : Prop :=
 ∀ (pins : List (Addr × Obj)) (s : Shared) (σ : St) (H : Hp) (Q : VK), Inv X pins σ H s → t σ H Q → wpAny (model X.prog X.w) X.A (eval e X.env) (EP X pins σ Q) X.xe s
def PT (X : Cx) (e : Expr) (t : TT) : Prop :=
 ∀ (pins : List (Addr × Obj)) (s : Shared) (σ : St) (H : Hp) (Q : Bool → Hp → Prop), Inv X pins σ H s → t σ H Q → wpAny (model X.prog X.w) X.A (isTrue e X.env (eval e X.env)) (TP X pins σ Q) X.xe s
def PW (X : Cx) (e : Expr) (t : TT) : Prop :=
 ∀ (whole : Sem Value) (pins : List (Addr × Obj)) (s : Shared) (σ : St) (H : Hp) (Q : Bool → Hp → Prop), Inv X pins σ H s → t σ H Q → wpAny (model X.prog X.w) X.A (isTrue e X.env whole) (TP X pins σ Q) X.xe s
theorem PW.pt {X : Cx} {e : Expr} {t : TT} (h : PW X e t) : PT X e t := h _
def PA (X : Cx) (es : List Expr) (t : TA) : Prop :=
 ∀ (pos : Pos) (pins : List (Addr × Obj)) (s : Shared) (σ : St) (H : Hp) (Q : List V → Hp → Prop), Inv X pins σ H s → t σ H Q → wpAny (model X.prog X.w) X.A (spliced (backTo pos (starEach es X.env))) (AP X pins σ Q) X.xe s
def PS (X : Cx) (st : Stmt) (t : TS) : Prop :=
 ∀ (pins : List (Addr × Obj)) (s : Shared) (σ : St) (H : Hp) (D : Ends), Inv X pins σ H s → t D σ H → wpAny (model X.prog X.w) X.A (exec st X.env) (SP X pins D) X.xe s
def PSs (X : Cx) (st : List Stmt) (t : TS) : Prop :=
 ∀ (pins : List (Addr × Obj)) (s : Shared) (σ : St) (H : Hp) (D : Ends), Inv X pins σ H s → t D σ H → wpAny (model X.prog X.w) X.A (execs st X.env) (SP X pins D) X.xe s
theorem thn {α : Type} {t : Sem α} {Q Q' : α → Shared → Prop} {M : Model} {A : Around} {E : Value → Shared → Prop} {s : Shared} (h : wpAny M A t Q E s) (hQ : ∀ a s, Q a s → Q' a s) : wpAny M A t Q' E s := wpAny_mono h hQ fun _ _ x => x
end L2
namespace L2
open PySem PySem.Spec PyProof.Rows
section
variable {X : Cx}
def tVar (i : Nat) : TE := fun σ H Q => ∃ v, σ[i]? = some (some v) ∧ Q v H
def tC (v : V) : TE := fun _ H Q => Q v H
theorem pe_var {i : Nat} {x : Str} {pos : Pos} (hN : X.N[i]? = some x) (hv : Vis X.env.scope x) (hd : (x == ("__debug__" : Str)) = false := by decide) (hcd : (x == ("__classdict__" : Str)) = false := by decide) : PE X (.Name x pos) (tVar i) := by
 intro pins s σ H Q I h
 obtain ⟨v, e, h⟩ := h
 obtain ⟨m, hn, hl⟩ := I.loc
 obtain ⟨u, r, l⟩ := hl i x v hN e hv
 have fin : EP X pins σ Q u s := ⟨v, H, I, r, h⟩
 rcases l with ⟨hk, hm⟩ | ⟨hk, c, hc, hcell⟩
 ·exact wpAny_Name (wpAny_loadName_local I.ok.kind hk hn hm fin) hd
 ·rcases hk with hk | hk
  ·exact wpAny_Name (wpAny_loadName_cell I.ok.kind hk hc hcell fin) hd
  ·exact wpAny_Name (wpAny_loadName_free I.ok.kind hk hc hcell fin hcd) hd
theorem pe_int {i j pos} : PE X (.Constant (.int i) j pos) (tC (.int i)) := fun _ _ _ H _ I h => wpAny_Constant_int ⟨.int i, H, I.tok _, ⟨_, rfl⟩, h⟩
theorem pe_bl {b j pos} : PE X (.Constant (.bool b) j pos) (tC (.bl b)) := fun _ _ _ H _ I h => Constant_bool ⟨.bl b, H, I, rfl, h⟩
theorem pe_non {j pos} : PE X (.Constant .none j pos) (tC .non) := fun _ _ _ H _ I h => Constant_none ⟨.non, H, I, rfl, h⟩
theorem pe_str {x j pos} : PE X (.Constant (.str x) j pos) (tC (.str x)) := fun _ _ _ H _ I h => Calls.Constant_str ⟨.str x, H, I.tok _, ⟨_, rfl⟩, h⟩
def Gl (X : Cx) (x : Str) : Prop := X.env.kindOf x = some .globalImplicit
theorem ld_glob {E : Value → Shared → Prop} {pins : List (Addr × Obj)} {s : Shared} {σ : St} {H : Hp} {x : Str} {u : Value} {pos : Pos} {Q : Value → Shared → Prop} (I : Inv X pins σ H s) (hg : Gl X x) (hm : X.mg x = some u) (h : Q u s)
  (hd : (x == ("__debug__" : Str)) = false := by decide) : wpAny (model X.prog X.w) X.A (eval (.Name x pos) X.env) Q E s :=
 Calls.Name_function_global I.ok.kind hg (Calls.loadGlobal_global (by rw [I.ok.glob]; exact I.mod.glob.keeps I.bk) hm h) hd
theorem ld_blt {E : Value → Shared → Prop} {pins : List (Addr × Obj)} {s : Shared} {σ : St} {H : Hp} {x : Str} {u : Value} {pos : Pos} {Q : Value → Shared → Prop} (I : Inv X pins σ H s) (hg : Gl X x) (hm : X.mg x = none) (hv : bootBuiltins x = some u) (h : Q u s)
  (hn : x ≠ "__name__" := by decide) (hd : (x == ("__debug__" : Str)) = false := by decide) : wpAny (model X.prog X.w) X.A (eval (.Name x pos) X.env) Q E s := by
 obtain ⟨mb, h1, h2⟩ := I.mod.blt
 exact Calls.Name_function_global I.ok.kind hg (Calls.loadGlobal_builtin (by rw [I.ok.glob]; exact I.mod.glob.keeps I.bk) hm (by rw [I.ok.blt]; exact h1.keeps I.bk) ((h2 x hn).trans hv) h) hd
theorem pe_glob {x : Str} {v : V} {u : Value} {pos : Pos} (hg : Gl X x) (hm : X.mg x = some u) (r : RelV v u) (hd : (x == ("__debug__" : Str)) = false := by decide) : PE X (.Name x pos) (tC v) :=
 fun _ _ _ H _ I h => ld_glob I hg hm ⟨v, H, I, r, h⟩ hd
theorem pe_bltn {x : Str} {v : V} {u : Value} {pos : Pos} (hg : Gl X x) (hm : X.mg x = none) (hv : bootBuiltins x = some u) (r : RelV v u) (hn : x ≠ "__name__" := by decide) (hd : (x == ("__debug__" : Str)) = false := by decide) : PE X (.Name x pos) (tC v) :=
 fun _ _ _ H _ I h => ld_blt I hg hm hv ⟨v, H, I, r, h⟩ hn hd
variable {a b : Expr} {ta tb : TE} {pos : Pos}
variable {tA tB' : TT} {rest : List Expr}
def tAnd (t u : TT) : TT := fun σ H Q => t σ H fun c H1 => if c = true then u σ H1 Q else Q false H1
def tOr (t u : TT) : TT := fun σ H Q => t σ H fun c H1 => if c = true then Q true H1 else u σ H1 Q
def tNot (t : TT) : TT := fun σ H Q => t σ H fun c H1 => Q (!c) H1
theorem pw_and1 (ha : PT X a tA) : PW X (.BoolOp .And [a] pos) tA := by
 intro wh pins s σ H Q I h
 refine isTrue_and (thn (ha pins s σ H Q I h) fun c s1 e => ?_)
 cases c with
 | true => exact isTrue_and_nil e
 | false => exact e
theorem pw_or1 (ha : PT X a tA) : PW X (.BoolOp .Or [a] pos) tA := by
 intro wh pins s σ H Q I h
 refine isTrue_or (thn (ha pins s σ H Q I h) fun c s1 e => ?_)
 cases c with
 | false => exact isTrue_or_nil e
 | true => exact e
theorem pw_and (ha : PT X a tA) (hb : PW X (.BoolOp .And (b :: rest) pos) tB') : PW X (.BoolOp .And (a :: b :: rest) pos) (tAnd tA tB') := by
 intro wh pins s σ H Q I h
 refine isTrue_and (thn (ha pins s σ H _ I h) fun c s1 ⟨H1, I1, q1⟩ => ?_)
 cases c with
 | true => exact hb wh pins s1 σ H1 Q I1 q1
 | false => exact ⟨H1, I1, q1⟩
theorem pw_or (ha : PT X a tA) (hb : PW X (.BoolOp .Or (b :: rest) pos) tB') : PW X (.BoolOp .Or (a :: b :: rest) pos) (tOr tA tB') := by
 intro wh pins s σ H Q I h
 refine isTrue_or (thn (ha pins s σ H _ I h) fun c s1 ⟨H1, I1, q1⟩ => ?_)
 cases c with
 | true => exact ⟨H1, I1, q1⟩
 | false => exact hb wh pins s1 σ H1 Q I1 q1
theorem pt_not (ha : PT X a tA) : PT X (.UnaryOp .Not a pos) (tNot tA) := by
 intro pins s σ H Q I h
 exact isTrue_not (ha pins s σ H (fun c H1 => Q (!c) H1) I h)
def tAndV (ta tb : TE) : TE := fun σ H Q => ta σ H fun x H1 => ∃ c, x = .bl c ∧ if c = true then tb σ H1 Q else Q (.bl false) H1
theorem pe_one {op} {t : TE} (h : PE X a t) : PE X (.BoolOp op [a] pos) t := fun pins s σ H Q I hw => BoolOp_one (h pins s σ H Q I hw)
theorem pe_and (ha : PE X a ta) (hb : PE X (.BoolOp .And (b :: rest) pos) tb) : PE X (.BoolOp .And (a :: b :: rest) pos) (tAndV ta tb) := by
 intro pins s σ H Q I h
 refine BoolOp_and (thn (ha pins s σ H _ I h) fun v s1 ⟨x, H1, I1, r1, q1⟩ => ?_)
 obtain ⟨c, rfl, q1⟩ := q1
 cases r1
 refine wpAny_truthy_bool ?_
 cases c with
 | true => exact hb pins s1 σ H1 Q I1 q1
 | false => exact ⟨.bl false, H1, I1, rfl, q1⟩
end
end L2
namespace L2
open PySem PySem.Spec PyProof.Rows
def SqL (K : PySem.W.Frag) (H : Hp) (a : Addr) (xs : List V) : Prop :=
 Rd H a (.lst xs) ∨
  ∃ (o : Obj) (its : Array Value) (n : Nat), K.lookup a = some o ∧ o.cls = .type "list" ∧ o.dict = none ∧ o.data = .seq its n ∧ its.size ≤ sizeLine ∧ Vals xs its.toList
def SqT (K : PySem.W.Frag) (H : Hp) (a : Addr) (xs : List V) : Prop :=
 Rd H a (.tup xs) ∨
  ∃ (o : Obj) (its : Array Value) (n : Nat), K.lookup a = some o ∧ o.cls = .type "tuple" ∧ o.data = .seq its n ∧ its.size ≤ sizeLine ∧ Vals xs its.toList
def absV : Value → Option V
 | .none => some .non
 | .bool b => some (.bl b)
 | .int i _ => some (.int i)
 | .str x _ => some (.str x)
 | .bytes b _ => some (.byt b)
 | .float b _ => some (.flt b)
 | .ref a => some (.ref a)
 | .type n => some (.ty n)
 | _ => none
theorem RelV.abs {x : V} {u : Value} (r : RelV x u) : absV u = some x := by
 cases x with
 | non => cases r; rfl
 | bl _ => cases r; rfl
 | int _ => obtain ⟨t, rfl⟩ := r; rfl
 | str _ => obtain ⟨t, rfl⟩ := r; rfl
 | byt _ => obtain ⟨t, rfl⟩ := r; rfl
 | flt _ => obtain ⟨t, rfl⟩ := r; rfl
 | ref _ => cases r; rfl
 | ty _ => cases r; rfl
theorem RelV.inj {x y : V} {u : Value} (r : RelV x u) (q : RelV y u) : x = y := Option.some.inj (r.abs.symm.trans q.abs)
theorem Vals.inj : ∀ {xs ys : List V} {us : List Value}, Vals xs us → Vals ys us → xs = ys
 | _, _, _, .nil, .nil => rfl
 | _, _, _, .cons r t, .cons r' t' => by rw [r.inj r', Vals.inj t t']
section
variable {X : Cx} {pins : List (Addr × Obj)} {σ : St} {H : Hp} {s : Shared} {a : Addr} {xs ys : List V}
theorem SqL.of {K : PySem.W.Frag} (h : H a = some (.lst xs)) : SqL K H a xs := .inl (.inl h)
theorem SqT.of {K : PySem.W.Frag} (h : H a = some (.tup xs)) : SqT K H a xs := .inl (.inl h)
theorem Inv.list (I : Inv X pins σ H s) (h : SqL X.K H a xs) : ∃ its : List Value, Vals xs its ∧ PlainL s.heap a its.toArray ∧ xs.length ≤ sizeLine := by
 rcases h with h | ⟨o, its, n, hk, hc, hd, hs, hz, r⟩
 ·obtain ⟨z, its, n, r, e⟩ := h.ok I.hok
  exact ⟨its, r, ⟨_, n, e, rfl, rfl, rfl⟩, z⟩
 ·refine ⟨its.toList, r, ⟨o, n, I.kIn a o hk, hc, hd, by simpa using hs⟩, ?_⟩
  have e := r.length
  simp only [Array.length_toList] at e
  lia
theorem Inv.tuple (I : Inv X pins σ H s) (h : SqT X.K H a xs) : ∃ its : List Value, Vals xs its ∧ IsTup s.heap a its.toArray ∧ xs.length ≤ sizeLine := by
 rcases h with h | ⟨o, its, n, hk, hc, hs, hz, r⟩
 ·obtain ⟨z, its, r, p⟩ := h.ok I.hok
  exact ⟨its, r, p, z⟩
 ·refine ⟨its.toList, r, ⟨o, I.kIn a o hk, hc, n, by simpa using hs⟩, ?_⟩
  have e := r.length
  simp only [Array.length_toList] at e
  lia
theorem Inv.list_inj (I : Inv X pins σ H s) (h : SqL X.K H a xs) (h' : SqL X.K H a ys) : xs = ys := by
 obtain ⟨its, r, ⟨o, n, e, _, _, d⟩, _⟩ := I.list h
 obtain ⟨its', r', ⟨o', n', e', _, _, d'⟩, _⟩ := I.list h'
 rw [e] at e'; cases e'
 rw [d] at d'
 injection d' with d1 _
 have : its = its' := by simpa using congrArg Array.toList d1
 subst this
 exact r.inj r'
end
abbrev Cx.wish (X : Cx) (E : Value → Shared → Prop) : Cx := { X with xe := E }
abbrev Cx.nox (X : Cx) : Cx := X.wish fun _ _ => False
theorem Cx.Ok.wish {X : Cx} (ok : X.Ok) (E : Value → Shared → Prop) : (X.wish E).Ok :=
 ⟨ok.mod, ok.kind, ok.glob, ok.blt, ok.above, ok.inj, ok.has, ok.cab, ok.hd, ok.frames, ok.stk, ok.exf, ok.bs, ok.bsz, ok.noex, ok.exfs, ok.funs, ok.frf⟩
theorem Cx.Ok.unwish {X : Cx} {E : Value → Shared → Prop} (ok : (X.wish E).Ok) : X.Ok :=
 ⟨ok.mod, ok.kind, ok.glob, ok.blt, ok.above, ok.inj, ok.has, ok.cab, ok.hd, ok.frames, ok.stk, ok.exf, ok.bs, ok.bsz, ok.noex, ok.exfs, ok.funs, ok.frf⟩
section
variable {X : Cx} {pins : List (Addr × Obj)} {σ : St} {H : Hp} {s : Shared} {E : Value → Shared → Prop}
theorem Inv.wish (I : Inv X pins σ H s) (E : Value → Shared → Prop) : Inv (X.wish E) pins σ H s := ⟨I.ok.wish E, I.os, I.bare, I.base, I.loc, I.cell, I.free, I.freeC, I.pin, I.hok, I.len⟩
theorem Inv.unwish (I : Inv (X.wish E) pins σ H s) : Inv X pins σ H s := ⟨I.ok.unwish, I.os, I.bare, I.base, I.loc, I.cell, I.free, I.freeC, I.pin, I.hok, I.len⟩
theorem SP.unwish {D : Ends} {f : Flow} {s' : Shared} (h : SP (X.wish E) pins D f s') : SP X pins D f s' := by
 cases f with
 | next => obtain ⟨σ', H', I, q⟩ := h; exact ⟨σ', H', I.unwish, q⟩
 | brk => obtain ⟨σ', H', I, q⟩ := h; exact ⟨σ', H', I.unwish, q⟩
 | cont => obtain ⟨σ', H', I, q⟩ := h; exact ⟨σ', H', I.unwish, q⟩
 | ret u => obtain ⟨v, σ', H', I, r, q⟩ := h; exact ⟨v, σ', H', I.unwish, r, q⟩
theorem PSs.nox {st : List Stmt} {t : TS} (h : PSs X.nox st t) : PSs X st t := fun pins s σ H D I hw =>
 wpAny_mono (h pins s σ H D (I.wish _) hw) (fun _ _ q => q.unwish) fun _ _ z => False.elim z
end
section
variable {X : Cx} {st : Stmt} {rest : List Stmt} {t u : TS} {e : Expr} {te : TE} {pos : Pos}
def tNext : TS := fun D σ H => D.nx σ H
def tSeq (t u : TS) : TS := fun D σ H => t { D with nx := u D } σ H
theorem pss_nil : PSs X [] tNext := fun _ _ σ H _ I h => wpAny_execs_nil ⟨σ, H, I, h⟩
theorem pss_cons (h1 : PS X st t) (h2 : PSs X rest u) : PSs X (st :: rest) (tSeq t u) := by
 intro pins s σ H D I h
 refine wpAny_execs_cons (thn (h1 pins s σ H { D with nx := u D } I h) fun f s1 q => ?_)
 cases f with
 | next =>
  obtain ⟨σ', H', I', q⟩ := q
  exact h2 pins s1 σ' H' D I' q
 | ret v => exact q
 | brk => exact q
 | cont => exact q
theorem pss_one (h1 : PS X st t) : PSs X [st] t := by
 intro pins s σ H D I h
 refine wpAny_execs_cons (thn (h1 pins s σ H D I h) fun f s1 q => ?_)
 cases f with
 | next => exact wpAny_execs_nil q
 | ret v => exact q
 | brk => exact q
 | cont => exact q
theorem Inv.quiet {pins : List (Addr × Obj)} {σ : St} {H : Hp} {s : Shared} (I : Inv X pins σ H s) : interactive X.env = false := by simp [interactive, I.ok.kind]
def tDrop (te : TE) : TS := fun D σ H => te σ H fun _ H1 => D.nx σ H1
theorem ps_expr (he : PE X e te) (hs : swapsWith e none pos.line X.env = pure false := by rfl) : PS X (.Expr e pos) (tDrop te) := by
 intro pins s σ H D I h
 exact wpAny_Expr_any (thn (he pins s σ H _ I h) fun v s1 ⟨x, H1, I1, r1, q1⟩ => ⟨σ, H1, I1, q1⟩) I.quiet hs
def tRet (te : TE) : TS := fun D σ H => te σ H D.rt
theorem ps_ret (he : PE X e te) : PS X (.Return (some e) pos) (tRet te) := by
 intro pins s σ H D I h
 exact wpAny_Return_some (thn (he pins s σ H _ I h) fun v s1 ⟨x, H1, I1, r1, q1⟩ => ⟨x, σ, H1, I1, r1, q1⟩)
def tIfS (c : TT) (t u : TS) : TS := fun D σ H => c σ H fun b H1 => if b = true then t D σ H1 else u D σ H1
theorem ps_if {c : Expr} {a b : List Stmt} {tc : TT} (hc : PT X c tc) (ha : PSs X a t) (hb : PSs X b u) : PS X (.If c a b pos) (tIfS tc t u) := by
 intro pins s σ H D I h
 refine wpAny_If (thn (hc pins s σ H _ I h) fun d s1 ⟨H1, I1, q1⟩ => ?_)
 cases d with
 | true => exact ha pins s1 σ H1 D I1 q1
 | false => exact hb pins s1 σ H1 D I1 q1
end
abbrev TG := V → St → Hp → (St → Hp → Prop) → Prop
abbrev TGs := List V → St → Hp → (St → Hp → Prop) → Prop
def PG (X : Cx) (target : Expr) (t : TG) : Prop :=
 ∀ (pins : List (Addr × Obj)) (s : Shared) (σ : St) (H : Hp) (v : V) (u : Value) (Q : St → Hp → Prop), Inv X pins σ H s → RelV v u → t v σ H Q →
  wpAny (model X.prog X.w) X.A (assign target X.env u) (fun _ s' => ∃ σ' H', Inv X pins σ' H' s' ∧ Q σ' H') X.xe s
def PGs (X : Cx) (ts : List Expr) (t : TGs) : Prop :=
 ∀ (pins : List (Addr × Obj)) (s : Shared) (σ : St) (H : Hp) (vs : List V) (us : List Value) (Q : St → Hp → Prop), Inv X pins σ H s → Vals vs us → t vs σ H Q →
  wpAny (model X.prog X.w) X.A (assignInOrder ((assignEach ts X.env).map (·.2)) us) (fun _ s' => ∃ σ' H', Inv X pins σ' H' s' ∧ Q σ' H') X.xe s
abbrev TSet := V → V → V → Hp → (Hp → Prop) → Prop
def PSet (X : Cx) (t : TSet) : Prop :=
 ∀ (pins : List (Addr × Obj)) (s : Shared) (σ : St) (H : Hp) (o i v : V) (ov iv u : Value) (Q : Hp → Prop), Inv X pins σ H s → RelV o ov → RelV i iv → RelV v u → t o i v H Q →
  wpAny (model X.prog X.w) X.A (setItem ov iv u) (fun _ s' => ∃ H', Inv X pins σ H' s' ∧ Q H') X.xe s
section
variable {X : Cx} {pos : Pos}
def gName (i : Nat) : TG := fun v σ H Q => Q (σ.set i (some v)) H
theorem pg_name {i : Nat} {x : Str} (hN : X.N.Nodup) (hi : X.N[i]? = some x) (hx : Loc X.env.scope x) (hf : X.fn x = true ∨ X.env.scope.names.lookup x = some .local := by first | exact .inl rfl | exact .inr rfl | assumption) : PG X (.Name x pos) (gName i) := by
 intro pins s σ H v u Q I r h
 exact wpAny_assign_Name (store_ok I hN hi hx r (fun s' I' => ⟨_, H, I', h⟩) hf)
def gNil : TGs := fun vs σ H Q => vs = [] ∧ Q σ H
def gCons (t : TG) (u : TGs) : TGs := fun vs σ H Q => ∃ v r, vs = v :: r ∧ t v σ H fun σ' H' => u r σ' H' Q
theorem pgs_nil : PGs X [] gNil := by
 intro pins s σ H vs us Q I r h
 obtain ⟨e, h⟩ := h
 subst e
 cases r
 exact assignInOrder_nil ⟨σ, H, I, h⟩
theorem pgs_cons {e : Expr} {es : List Expr} {t : TG} {u : TGs} (h1 : PG X e t) (h2 : PGs X es u)
  (hs : (assignEach (e :: es) X.env).map (·.2) = assign e X.env :: (assignEach es X.env).map (·.2) := by rfl) : PGs X (e :: es) (gCons t u) := by
 intro pins s σ H vs us Q I r h
 obtain ⟨v, vr, e1, h⟩ := h
 subst e1
 cases r with
 | cons r rr =>
  rw [hs]
  refine assignInOrder_cons (thn (h1 pins s σ H _ _ _ I r h) fun _ s1 ⟨σ1, H1, I1, q1⟩ => ?_)
  exact h2 pins s1 σ1 H1 _ _ Q I1 rr q1
def gTup (K : PySem.W.Frag) (n : Nat) (t : TGs) : TG := fun v σ H Q => ∃ a xs, v = .ref a ∧ SqT K H a xs ∧ xs.length = n ∧ t xs σ H Q
theorem pg_tup {es : List Expr} {k : Nat} {t : TGs} {n : Nat} (hc : X.calm = true) (h : PGs X es t)
  (hn : (assignEach es X.env).length = n := by rfl) (hst : (assignEach es X.env).findIdx? (·.1) = none := by rfl) : PG X (.Tuple es k pos) (gTup X.K n t) := by
 intro pins s σ H v u Q I r hw
 obtain ⟨a, xs, e1, hq, hl, hw⟩ := hw
 subst e1
 cases r
 obtain ⟨its, rv, ht, hz⟩ := I.tuple hq
 refine assign_Tuple_tuple (I.ok.hd hc) ht (by simp [hn, ← hl, rv.length]) hst fun h' hx => ?_
 have I1 : Inv X pins σ H { s with heap := h' } := I.kept (t' := s.toks) fun b o e => hx b o (Nat.ne_of_lt (Heap.lt_size e)) e
 exact h pins _ σ H xs _ Q I1 (by simpa using rv) hw
def gSub (to ti : TE) (t : TSet) : TG := fun v σ H Q => to σ H fun o H1 => ti σ H1 fun i H2 => t o i v H2 fun H3 => Q σ H3
theorem pg_sub {o i : Expr} {to ti : TE} {t : TSet} (ho : PE X o to) (hi : PE X i ti) (hs : PSet X t)
  (ha : ∀ v, assign (.Subscript o i pos) X.env v = (do
   let ov ← holding [v] (eval o X.env)
   let iv ← holding [v, ov] (eval i X.env)
   standAt pos
   holding [v, ov, iv] (setItem ov iv v)
   release [v, ov, iv] []) := by intro _; rfl) : PG X (.Subscript o i pos) (gSub to ti t) := by
 intro pins s σ H v u Q I r h
 rw [ha]
 refine wpAny_bind (wpAny_holding (thn (ho pins s σ H _ I h) fun ov s1 ⟨x, H1, I1, r1, q1⟩ => ?_))
 refine wpAny_bind (wpAny_holding (thn (hi pins s1 σ H1 _ I1 q1) fun iv s2 ⟨y, H2, I2, r2, q2⟩ => ?_))
 refine wpAny_bind (wpAny_standAt (wpAny_bind (wpAny_holding (thn (hs pins s2 σ H2 x y v ov iv u _ I2 r1 r2 r q2) fun _ s3 ⟨H3, I3, q3⟩ => ?_))))
 exact wpAny_release ⟨σ, H3, I3, q3⟩
def tAsg (te : TE) (g : TG) : TS := fun D σ H => te σ H fun x H1 => g x σ H1 D.nx
theorem ps_asg {tg e : Expr} {te : TE} {g : TG} (he : PE X e te) (hg : PG X tg g) (hs : swapsWithSole [tg] e pos.line X.env = pure false := by rfl) (hw : swappedStores [tg] e X.env = pure none := by rfl)
  (h1 : (assignEach [tg] X.env).map (·.2) = [assign tg X.env] := by rfl) : PS X (.Assign [tg] e pos) (tAsg te g) := by
 intro pins s σ H D I h
 refine wpAny_Assign_stores (thn (he pins s σ H _ I h) fun v s1 ⟨x, H1, I1, r1, q1⟩ => ?_) hs hw
 rw [h1]
 exact thn (hg pins s1 σ H1 x v _ I1 r1 q1) fun _ s2 q => q
theorem ps_set {i : Nat} {x : Str} {e : Expr} {te : TE} {pos' : Pos} (hN : X.N.Nodup) (hi : X.N[i]? = some x) (hx : Loc X.env.scope x) (he : PE X e te) (hs : swapsWith e (some (.Name x pos')) pos.line X.env = pure false := by rfl) (hf : X.fn x = true ∨ X.env.scope.names.lookup x = some .local := by first | exact .inl rfl | exact .inr rfl | assumption) :
  PS X (.Assign [.Name x pos'] e pos) (tAsg te (gName i)) := by
 intro pins s σ H D I h
 refine wpAny_Assign_Name (thn (he pins s σ H _ I h) fun v s1 ⟨y, H1, I1, r1, q1⟩ => ?_) hs
 exact store_ok I1 hN hi hx r1 (fun s2 I2 => ⟨_, H1, I2, q1⟩) hf
end
structure It where
 go : Nat → Hp → Prop
 yld : Nat → Hp → V → Hp → Prop
 stop : Nat → Hp → Prop
def FpOk (X : Cx) (pins : List (Addr × Obj)) (H : Hp) (b : Addr) : Prop :=
 H b = none ∧ b ≠ X.env.locals ∧ b ∉ X.fs ∧ (b ∈ X.ex ∨ X.s₀.heap.objs.size ≤ b) ∧ (∀ x c, X.env.cells.lookup x = some c → c ≠ b) ∧ ∀ p ∈ X.pn ++ pins, p.1 ≠ b
theorem Inv.fpOk {X : Cx} {pins : List (Addr × Obj)} {σ : St} {H H' : Hp} {s : Shared} {b : Addr} (I : Inv X pins σ H s) (hb : s.heap.objs.size ≤ b) (hn : H' b = none) : FpOk X pins H' b := by
 refine ⟨hn, Nat.ne_of_gt (Nat.lt_of_lt_of_le I.lt hb), I.nofs hb, .inr (Nat.le_trans I.sz hb), fun x c e z => ?_, fun p hp z => ?_⟩
 ·obtain ⟨v, q⟩ := I.cell x c e
  exact absurd (Nat.lt_of_lt_of_le q.lt (by rw [z]; exact hb)) (Nat.lt_irrefl _)
 ·exact absurd (Nat.lt_of_lt_of_le (Heap.lt_size (I.pin p hp).1) (by rw [z]; exact hb)) (Nat.lt_irrefl _)
structure Turn (P : Program) (w : World) (K : PySem.W.Frag) (tg : Expr) (J : It) (fp : List Addr) (it : Addr) (tn : Nat → Heap → Prop) : Prop where
 mem : it ∈ fp
 obj : ∀ i h, tn i h → ∀ b ∈ fp, ∃ o, h.get? b = some o ∧ ∀ v, o.data ≠ .cell v
 keep : ∀ i h h', tn i h → (∀ b ∈ fp, ∀ o, h.get? b = some o → h'.get? b = some o) → tn i h'
 item : ∀ (X : Cx), X.prog = P → X.w = w → X.K = K → X.calm = true → ∀ (i : Nat) (pins : List (Addr × Obj)) (s : Shared) (σ : St) (H : Hp) (E : Value → Shared → Prop), Inv X pins σ H s → (∀ b ∈ fp, FpOk X pins H b) → tn i s.heap → J.go i H →
  wpAny (model P w) X.A (pyNext (.ref it)) (fun r s1 => ∃ u, r = some u ∧
   wpAny (model P w) X.A (letOwnedTupleGo tg (.ref it) u) (fun _ s2 => ∃ x H', Inv X pins σ H' s2 ∧ RelV x u ∧ J.yld i H x H' ∧ tn (i + 1) s2.heap ∧ ∀ b ∈ fp, H' b = none) E s1) E s
 done : ∀ (X : Cx), X.prog = P → X.w = w → X.K = K → X.calm = true → ∀ (i : Nat) (pins : List (Addr × Obj)) (s : Shared) (σ : St) (H : Hp) (E : Value → Shared → Prop), Inv X pins σ H s → (∀ b ∈ fp, FpOk X pins H b) → tn i s.heap → J.stop i H →
  wpAny (model P w) X.A (pyNext (.ref it)) (fun r s1 => r = none ∧ Inv X pins σ H s1) E s
 self : ∀ (A : Around) (i : Nat) (s : Shared) (Q : Value → Shared → Prop) (E : Value → Shared → Prop), tn i s.heap → Q (.ref it) s → wpAny (model P w) A (pyIter (.ref it)) Q E s
abbrev TI := St → Hp → (It → Hp → Prop) → Prop
def PIE (X : Cx) (pins : List (Addr × Obj)) (σ : St) (tg : Expr) (R : It → Hp → Prop) (itv : Value) (s2 : Shared) : Prop :=
 ∃ (it : Addr) (fp : List Addr) (tn : Nat → Heap → Prop) (J : It) (H' : Hp), itv = .ref it ∧ Inv X pins σ H' s2 ∧ Turn X.prog X.w X.K tg J fp it tn ∧ tn 0 s2.heap ∧ (∀ b ∈ fp, FpOk X pins H' b) ∧ R J H'
def PI (X : Cx) (tg iter : Expr) (wi : TI) : Prop :=
 ∀ (pins : List (Addr × Obj)) (s : Shared) (σ : St) (H : Hp) (R : It → Hp → Prop), Inv X pins σ H s → wi σ H R →
  wpAny (model X.prog X.w) X.A (eval iter X.env) (fun v s1 => wpAny (model X.prog X.w) X.A (pyIter v) (PIE X pins σ tg R) X.xe s1) X.xe s
theorem go_of {M : Model} {A : Around} {E : Value → Shared → Prop} {s : Shared} {tg : Expr} {it : Addr} {u : Value} {o : Obj} {n : String} {vs : Array Value} {Q : Unit → Shared → Prop} (ho : s.heap.get? it = some o) (hc : o.cls = .type n) (hd : o.data = .fields vs)
    (hn : ["enumerate", "zip", "dict_itemiterator", "dict_reverseitemiterator", "odict_iterator", "itertools.zip_longest", "itertools.pairwise"].contains n = false) (hQ : Q () s) : wpAny M A (letOwnedTupleGo tg (.ref it) u) Q E s := by
  unfold letOwnedTupleGo
  cases tg <;> first
    | exact wpAny_pure hQ
    | (cases u <;> first
        | exact wpAny_pure hQ
        | (refine wpAny_bind (wpAny_load ho ?_)
           rw [hc, hd]
           show wpAny M A (if (["enumerate", "zip", "dict_itemiterator", "dict_reverseitemiterator", "odict_iterator", "itertools.zip_longest", "itertools.pairwise"].contains n && vs[0]? == some (rawInt _)) = true then _ else _) Q E s
           rw [if_neg (by intro h; rw [hn, Bool.false_and] at h; cases h)]
           exact wpAny_pure hQ))
def Itl (K : PySem.W.Frag) (a : Addr) : It :=
 ⟨fun i H => ∃ xs x, SqL K H a xs ∧ xs[i]? = some x, fun i H x H' => H' = H ∧ ∀ xs, SqL K H a xs → xs[i]? = some x, fun i H => ∃ xs, SqL K H a xs ∧ xs.length ≤ i⟩
def Itr (lo : Int) (n : Nat) : It := ⟨fun i _ => i < n, fun i H x H' => H' = H ∧ x = .int (lo + i), fun i _ => n ≤ i⟩
theorem turn_list {P : Program} {w : World} {K : PySem.W.Frag} {tg : Expr} (a it : Addr) : Turn P w K tg (Itl K a) [it] it (fun i h => h.IsListIter it a i) where
 mem := by simp
 obj := fun i h st b hb => by
  have e : b = it := by simpa using hb
  subst e
  obtain ⟨o, e, c, d⟩ := st
  exact ⟨o, e, fun v z => by rw [d] at z; cases z⟩
 keep := fun i h h' st k => st.at fun o e => k it (by simp) o e
 item := by
  intro X hP hw hK hc i pins s σ H E I hf st hg
  subst hP hw hK
  obtain ⟨xs, x, hq, hx⟩ := hg
  obtain ⟨its, rv, p, hz⟩ := I.list hq
  obtain ⟨u, hu, ru⟩ := rv.get hx
  obtain ⟨f0, f1, f2, f3, f4, f5⟩ := hf it (by simp)
  refine wpAny_pyNext_list_item st p.isList (x := u) (by simpa using hu) fun h' st' sb => ?_
  have I1 : Inv X pins σ H { s with heap := h' } := I.turned (t' := s.toks) (fun b o hb e => (sb.2 b hb).trans e) f0 f1 f3 f4 f5
  obtain ⟨o, e, c, d⟩ := id st'
  exact ⟨u, rfl, go_of (s := { s with heap := h' }) e c d (by decide) ⟨x, H, I1, ru, ⟨rfl, fun ys hy => by rw [I.list_inj hy hq]; exact hx⟩, st', fun b hb => (hf b hb).1⟩⟩
 done := by
  intro X hP hw hK hc i pins s σ H E I hf st hg
  subst hP hw hK
  obtain ⟨xs, hq, hx⟩ := hg
  obtain ⟨its, rv, p, hz⟩ := I.list hq
  obtain ⟨f0, f1, f2, f3, f4, f5⟩ := hf it (by simp)
  have hl := rv.length
  exact wpAny_pyNext_list_end (I.ok.hd hc) st p.isList (by simp; lia) fun h' eb => ⟨rfl, I.turned (t' := s.toks) (fun b o hb e => eb b o hb e) f0 f1 f3 f4 f5⟩
 self := fun _ _ _ _ _ st h => wpAny_pyIter_listiter st h
theorem turn_range {P : Program} {w : World} {K : PySem.W.Frag} {tg : Expr} (it : Addr) (lo : Int) (n : Nat) : Turn P w K tg (Itr lo n) [it] it (fun i h => IsRangeIter h it (lo + (i : Nat) * 1) ((n : Int) - (i : Nat)) 1) where
 mem := by simp
 obj := fun i h st b hb => by
  have e : b = it := by simpa using hb
  subst e
  exact ⟨_, st, fun v z => by
   have z' : Data.fields _ = Data.cell v := z
   cases z'⟩
 keep := fun i h h' st k => k it (by simp) _ st
 item := by
  intro X hP hw hK hc i pins s σ H E I hf st hg
  subst hP hw hK
  obtain ⟨f0, f1, f2, f3, f4, f5⟩ := hf it (by simp)
  have W := Walks.range (prog := X.prog) (w := X.w) (I.ok.hd hc) it lo 1 n
  refine W.item i s _ _ hg st fun v h' tk hv st' kk => ?_
  obtain ⟨t, rfl⟩ := hv
  have I1 : Inv X pins σ H { s with heap := h', toks := tk } := I.turned (fun b o hb e => kk b o (by simpa using hb) e) f0 f1 f3 f4 f5
  refine ⟨_, rfl, go_of (s := { s with heap := h', toks := tk }) (n := "range_iterator") st' rfl rfl (by decide) ⟨.int (lo + i), H, I1, ⟨t, ?_⟩, ⟨rfl, rfl⟩, st', fun b hb => (hf b hb).1⟩⟩
  rw [Int.mul_one]
 done := by
  intro X hP hw hK hc i pins s σ H E I hf st hg
  subst hP hw hK
  obtain ⟨f0, f1, f2, f3, f4, f5⟩ := hf it (by simp)
  exact wpAny_pyNext_range_end (I.ok.hd hc) st (by have : n ≤ i := hg; lia) fun h' eb => ⟨rfl, I.turned (t' := s.toks) (fun b o hb e => eb b o hb e) f0 f1 f3 f4 f5⟩
 self := fun _ _ _ _ _ st h => wpAny_pyIter_rangeiter st h
end L2
namespace L2
open PySem PySem.Spec PyProof.Rows
section
variable {X : Cx} {tg : Expr}
def iList (K : PySem.W.Frag) (tl : TE) : TI := fun σ H R => tl σ H fun x H1 => ∃ a, x = .ref a ∧ (∃ xs, SqL K H1 a xs) ∧ R (Itl K a) H1
theorem pi_list {l : Expr} {tl : TE} (hl : PE X l tl) : PI X tg l (iList X.K tl) := by
 intro pins s σ H R I h
 refine thn (hl pins s σ H _ I h) fun v s1 ⟨x, H1, I1, r1, q1⟩ => ?_
 obtain ⟨a, e, ⟨xs, hq⟩, q⟩ := q1
 subst e
 cases r1
 obtain ⟨its, rv, p, hz⟩ := I1.list hq
 refine wpAny_pyIter_list p.isList ?_
 refine ⟨s1.heap.objs.size, [s1.heap.objs.size], _, _, H1, rfl, I1.kept (t' := s1.toks) fun b o e => Heap.get?_push_of_some _ e, turn_list a _, ⟨_, Heap.get?_push_size _ rfl, rfl, rfl⟩, fun b hb => ?_, q⟩
 have e : b = s1.heap.objs.size := by simpa using hb
 subst e
 exact I1.fpOk (Nat.le_refl _) (I1.hok.fresh (Nat.le_refl _))
theorem range_it {pins : List (Addr × Obj)} {σ : St} {H : Hp} {s : Shared} {R : It → Hp → Prop} {E : Value → Shared → Prop} {lo hi : Int} {t u v : Tok} {tk : Nat} (I : Inv X pins σ H s) (h1 : -(2 ^ 62) ≤ lo) (h2 : lo < 2 ^ 62) (h3 : -(2 ^ 62) ≤ hi) (h4 : hi < 2 ^ 62)
  (q : R (Itr lo (hi - lo).toNat) H) : wpAny (model X.prog X.w) X.A (pyIter (.ref s.heap.objs.size)) (PIE X pins σ tg R) E { s with heap := s.heap.push { cls := .type "range", data := .fields #[.int lo t, .int hi u, .int 1 v] }, toks := tk } := by
 refine wpAny_pyIter_range (IsRange.new ..) (small_one h1 h2 h3 h4) ?_
 have I1 : Inv X pins σ H { s with heap := s.heap.push { cls := .type "range", data := .fields #[.int lo t, .int hi u, .int 1 v] }, toks := tk } := I.kept fun b o e => Heap.get?_push_of_some _ e
 refine ⟨(s.heap.push { cls := .type "range", data := .fields #[.int lo t, .int hi u, .int 1 v] }).objs.size, [(s.heap.push { cls := .type "range", data := .fields #[.int lo t, .int hi u, .int 1 v] }).objs.size], _, _, H, rfl,
  I1.kept (t' := tk) fun b o e => Heap.get?_push_of_some _ e, turn_range _ lo (hi - lo).toNat, ?_, fun b hb => ?_, q⟩
 ·have e1 : lo + ((0 : Nat) : Int) * 1 = lo := by simp
  have e2 : (((hi - lo).toNat : Nat) : Int) - ((0 : Nat) : Int) = Builtin.Range.rangeSize lo hi 1 := by rw [rangeSize_one]; split <;> lia
  show IsRangeIter _ _ (lo + ((0 : Nat) : Int) * 1) ((((hi - lo).toNat : Nat) : Int) - ((0 : Nat) : Int)) 1
  rw [e1, e2]
  exact Heap.get?_push_size _ rfl
 ·have e : b = (s.heap.push { cls := .type "range", data := .fields #[.int lo t, .int hi u, .int 1 v] }).objs.size := by simpa using hb
  subst e
  exact I1.fpOk (Nat.le_refl _) (I1.hok.fresh (Nat.le_refl _))
def iRng1 (ta : TA) : TI := fun σ H R => ta σ H fun vs H1 => ∃ j : Int, vs = [.int j] ∧ -(2 ^ 62) ≤ j ∧ j < 2 ^ 62 ∧ R (Itr 0 j.toNat) H1
def iRng2 (ta : TA) : TI := fun σ H R => ta σ H fun vs H1 => ∃ i j : Int, vs = [.int i, .int j] ∧ (-(2 ^ 62) ≤ i ∧ i < 2 ^ 62 ∧ -(2 ^ 62) ≤ j ∧ j < 2 ^ 62) ∧ R (Itr i (j - i).toNat) H1
theorem pi_range1 {a : Expr} {ta : TA} {p pos : Pos} (hg : Gl X "range") (hm : X.mg "range" = none) (ha : PA X [a] ta) (hs : starEach [a] X.env = [(false, eval a X.env)] := by rfl) : PI X tg (.Call (.Name "range" p) [a] [] pos) (iRng1 ta) := by
 intro pins s σ H R I h
 refine Call_ (ld_blt I hg hm boot_range (PyProof.Rows.callWith_type1 (thn (ha pos pins s σ H _ I h) fun us s1 ⟨vs, H1, I1, r1, q1⟩ => ?_) hs rfl))
 obtain ⟨j, e, q1, q2, q⟩ := q1
 subst e
 cases r1 with
 | cons r rr =>
  cases rr
  obtain ⟨t, rfl⟩ := r
  exact call_range_1 (range_it I1 (by lia) (by lia) q1 q2 (by simpa using q))
theorem pi_range2 {a b : Expr} {ta : TA} {p pos : Pos} (hg : Gl X "range") (hm : X.mg "range" = none) (ha : PA X [a, b] ta) (hs : starEach [a, b] X.env = [(false, eval a X.env), (false, eval b X.env)] := by rfl) (hs2 : starEach [b] X.env = [(false, eval b X.env)] := by rfl) :
  PI X tg (.Call (.Name "range" p) [a, b] [] pos) (iRng2 ta) := by
 intro pins s σ H R I h
 refine Call_ (ld_blt I hg hm boot_range (PyProof.Rows.callWith_type1 (thn (ha pos pins s σ H _ I h) fun us s1 ⟨vs, H1, I1, r1, q1⟩ => ?_) (by rw [hs, hs2]) (by rw [hs2]; rfl)))
 obtain ⟨i, j, e, ⟨q1, q2, q3, q4⟩, q⟩ := q1
 subst e
 cases r1 with
 | cons r rr =>
  cases rr with
  | cons r' rr =>
   cases rr
   obtain ⟨t, rfl⟩ := r
   obtain ⟨t', rfl⟩ := r'
   exact call_range_2 (range_it I1 q1 q2 q3 q4 q)
def tFor (wi : TI) (g : TG) (tb : TS) : TS := fun D σ H => wi σ H fun J H1 => ∃ W : Nat → Nat → St → Hp → Prop, (∃ m, W 0 m σ H1) ∧ ∀ i m σ H, W i m σ H →
 (J.stop i H ∧ D.nx σ H) ∨ (J.go i H ∧ ∃ N : St → Hp → Prop, (∀ σ' H', N σ' H' → ∃ m', m' < m ∧ W (i + 1) m' σ' H') ∧ ∀ x H', J.yld i H x H' → g x σ H' fun σ2 H2 => tb { D with nx := N, ct := N, bk := D.nx } σ2 H2)
def pinsAt (fp : List Addr) (h : Heap) : List (Addr × Obj) := fp.filterMap fun b => (h.get? b).map fun o => (b, o)
theorem mem_pinsAt {fp : List Addr} {h : Heap} {b : Addr} {o : Obj} (hb : b ∈ fp) (e : h.get? b = some o) : (b, o) ∈ pinsAt fp h := List.mem_filterMap.mpr ⟨b, hb, by rw [e]; rfl⟩
theorem of_pinsAt {fp : List Addr} {h : Heap} {p : Addr × Obj} (hp : p ∈ pinsAt fp h) : p.1 ∈ fp ∧ h.get? p.1 = some p.2 := by
 obtain ⟨b, hb, e⟩ := List.mem_filterMap.mp hp
 cases q : h.get? b with
 | none => rw [q] at e; cases e
 | some o =>
  rw [q] at e
  have e' : (b, o) = p := Option.some.inj e
  subst e'
  exact ⟨hb, q⟩
theorem Inv.pinned {pins : List (Addr × Obj)} {σ : St} {H : Hp} {s : Shared} {fp : List Addr} (I : Inv X pins σ H s) (hf : ∀ b ∈ fp, FpOk X pins H b) (ho : ∀ b ∈ fp, ∃ o, s.heap.get? b = some o ∧ ∀ v, o.data ≠ .cell v) : Inv X (pins ++ pinsAt fp s.heap) σ H s :=
 I.pins_of fun p hp => (List.mem_append.mp hp).elim (fun z => I.pin p (List.mem_append_right _ z)) fun z => by
  obtain ⟨hb, e⟩ := of_pinsAt z
  obtain ⟨f0, f1, f2, _⟩ := hf p.1 hb
  obtain ⟨o, e', d⟩ := ho p.1 hb
  rw [e] at e'; cases e'
  exact ⟨e, f0, f1, f2, d⟩
theorem Inv.unpinned {pins pl : List (Addr × Obj)} {σ : St} {H : Hp} {s : Shared} (I : Inv X (pins ++ pl) σ H s) : Inv X pins σ H s := I.pins_of fun p hp => I.pin p (List.mem_append_right _ (List.mem_append_left _ hp))
theorem ps_for {iter : Expr} {body : List Stmt} {wi : TI} {g : TG} {tb : TS} {pos : Pos} (hp : PassesOwn (model X.prog X.w) X.A X.env X.xe) (hc : X.calm = true) (hi : PI X tg iter wi) (hg : PG X tg g) (hb : PSs X body tb)
  (hs : ∀ x, foldedSetIterable iter X.env x = pure x := by intro _; rfl) : PS X (.For tg iter body [] pos) (tFor wi g tb) := by
 intro pins s σ H D I h
 refine wpAny_For (thn (hi pins s σ H _ I h) fun v s1 h1 => thn h1 fun itv s2 h2 => ?_) hs
 obtain ⟨it, fp, tn, J, H2, e, I2, T, st2, f2, W, ⟨m0, w0⟩, turn⟩ := h2
 subst e
 have stat : ∀ {H' : Hp}, (∀ b ∈ fp, H' b = none) → ∀ b ∈ fp, FpOk X pins H' b := fun hn b hb => ⟨hn b hb, (f2 b hb).2⟩
 refine codeAny_forLoop_any (fun n s' => ∃ i σ' H', Inv X pins σ' H' s' ∧ tn i s'.heap ∧ (∀ b ∈ fp, H' b = none) ∧ W i n σ' H') ?_ m0 ⟨0, σ, H2, I2, st2, fun b hb => (f2 b hb).1, w0⟩
 rintro n s3 ⟨i, σ3, H3, I3, st3, fr3, w3⟩
 rcases turn i n σ3 H3 w3 with ⟨stop, qn⟩ | ⟨go, N, hN, step⟩
 ·refine wpAny_passesOwn hp (thn (T.done X rfl rfl rfl hc i pins s3 σ3 H3 X.xe I3 (stat fr3) st3 stop) fun r s4 ⟨hr, I4⟩ => ?_)
  subst hr
  exact wpAny_execs_nil ⟨σ3, H3, I4, qn⟩
 ·refine wpAny_passesOwn hp (thn (T.item X rfl rfl rfl hc i pins s3 σ3 H3 X.xe I3 (stat fr3) st3 go) fun r s4 ⟨u, hr, h4⟩ => ?_)
  subst hr
  refine wpAny_passesOwn hp (thn h4 fun _ s5 ⟨x, H5, I5, r5, y5, st5, fr5⟩ => ?_)
  have I5' := I5.pinned (stat fr5) (T.obj _ _ st5)
  refine wpAny_passesOwn hp (thn (hg _ s5 σ3 H5 x u _ I5' r5 (step x H5 y5)) fun _ s6 ⟨σ6, H6, I6, q6⟩ => ?_)
  refine wpAny_passesOwn hp (thn (hb _ s6 σ6 H6 _ I6 q6) fun f s7 q7 => ?_)
  have again : ∀ {σ7 : St} {H7 : Hp}, Inv X (pins ++ pinsAt fp s5.heap) σ7 H7 s7 → N σ7 H7 → ∃ m, m < n ∧ ∃ i σ' H', Inv X pins σ' H' s7 ∧ tn i s7.heap ∧ (∀ b ∈ fp, H' b = none) ∧ W i m σ' H' := fun {σ7 H7} I7 n7 => by
   obtain ⟨m', hm, w7⟩ := hN σ7 H7 n7
   refine ⟨m', hm, i + 1, σ7, H7, I7.unpinned, T.keep _ _ _ st5 fun b hb o e => (I7.pin (b, o) (List.mem_append_right _ (List.mem_append_right _ (mem_pinsAt hb e)))).1, fun b hb => ?_, w7⟩
   obtain ⟨o, e, d⟩ := T.obj _ _ st5 b hb
   exact (I7.pin (b, o) (List.mem_append_right _ (List.mem_append_right _ (mem_pinsAt hb e)))).2.1
  cases f with
  | next => obtain ⟨σ7, H7, I7, n7⟩ := q7; exact again I7 n7
  | cont => obtain ⟨σ7, H7, I7, n7⟩ := q7; exact again I7 n7
  | brk => obtain ⟨σ7, H7, I7, q7⟩ := q7; exact ⟨σ7, H7, I7.unpinned, q7⟩
  | ret v => obtain ⟨x7, σ7, H7, I7, r7, q7⟩ := q7; exact ⟨x7, σ7, H7, I7.unpinned, r7, q7⟩
end
theorem for_list {K : PySem.W.Frag} {a : Addr} {xs : List V} {g : TG} {tb : TS} {D : Ends} {σ : St} {H : Hp} (Pv : Nat → St → Hp → Prop) (h0 : Pv 0 σ H) (hl : ∀ i σ H, i ≤ xs.length → Pv i σ H → SqL K H a xs)
  (hs : ∀ i x σ H, xs[i]? = some x → Pv i σ H → g x σ H fun σ2 H2 => tb { D with nx := Pv (i + 1), ct := Pv (i + 1), bk := D.nx } σ2 H2) (hd : ∀ σ H, Pv xs.length σ H → D.nx σ H) :
  ∃ W : Nat → Nat → St → Hp → Prop, (∃ m, W 0 m σ H) ∧ ∀ i m σ H, W i m σ H →
   ((Itl K a).stop i H ∧ D.nx σ H) ∨ ((Itl K a).go i H ∧ ∃ N : St → Hp → Prop, (∀ σ' H', N σ' H' → ∃ m', m' < m ∧ W (i + 1) m' σ' H') ∧ ∀ x H', (Itl K a).yld i H x H' → g x σ H' fun σ2 H2 => tb { D with nx := N, ct := N, bk := D.nx } σ2 H2) := by
 refine ⟨fun i m σ H => m = xs.length - i ∧ i ≤ xs.length ∧ Pv i σ H, ⟨xs.length, by simp, Nat.zero_le _, h0⟩, ?_⟩
 rintro i m σ H ⟨rfl, hi, p⟩
 have q := hl i σ H hi p
 by_cases hlt : i < xs.length
 ·refine .inr ⟨⟨xs, xs[i], q, by simp [hlt]⟩, Pv (i + 1), fun σ' H' p' => ⟨xs.length - (i + 1), by lia, rfl, hlt, p'⟩, fun x H' y => ?_⟩
  obtain ⟨e, y⟩ := y
  subst e
  exact hs i x σ _ (y xs q) p
 ·have e : i = xs.length := by lia
  subst e
  exact .inl ⟨⟨xs, q, Nat.le_refl _⟩, hd σ H p⟩
theorem for_range {lo : Int} {n : Nat} {g : TG} {tb : TS} {D : Ends} {σ : St} {H : Hp} (Pv : Nat → St → Hp → Prop) (h0 : Pv 0 σ H)
  (hs : ∀ i σ H, i < n → Pv i σ H → g (.int (lo + i)) σ H fun σ2 H2 => tb { D with nx := Pv (i + 1), ct := Pv (i + 1), bk := D.nx } σ2 H2) (hd : ∀ σ H, Pv n σ H → D.nx σ H) :
  ∃ W : Nat → Nat → St → Hp → Prop, (∃ m, W 0 m σ H) ∧ ∀ i m σ H, W i m σ H →
   ((Itr lo n).stop i H ∧ D.nx σ H) ∨ ((Itr lo n).go i H ∧ ∃ N : St → Hp → Prop, (∀ σ' H', N σ' H' → ∃ m', m' < m ∧ W (i + 1) m' σ' H') ∧ ∀ x H', (Itr lo n).yld i H x H' → g x σ H' fun σ2 H2 => tb { D with nx := N, ct := N, bk := D.nx } σ2 H2) := by
 refine ⟨fun i m σ H => m = n - i ∧ i ≤ n ∧ Pv i σ H, ⟨n, by simp, Nat.zero_le _, h0⟩, ?_⟩
 rintro i m σ H ⟨rfl, hi, p⟩
 by_cases hlt : i < n
 ·refine .inr ⟨hlt, Pv (i + 1), fun σ' H' p' => ⟨n - (i + 1), by lia, rfl, hlt, p'⟩, fun x H' y => ?_⟩
  obtain ⟨e, y⟩ := y
  subst e y
  exact hs i σ _ hlt p
 ·have e : i = n := by lia
  subst e
  exact .inl ⟨Nat.le_refl _, hd σ H p⟩
end L2
namespace L2
open PySem PySem.Spec PyProof.Rows
abbrev R2 := V → V → Hp → VK → Prop
def OpR (X : Cx) (f : Value → Value → Sem Value) (r : R2) : Prop :=
 ∀ (pins : List (Addr × Obj)) (s : Shared) (σ : St) (H : Hp) (x y : V) (v u : Value) (Q : VK), Inv X pins σ H s → RelV x v → RelV y u → r x y H Q →
  wpAny (model X.prog X.w) X.A (f v u) (EP X pins σ Q) X.xe s
def CallR (X : Cx) (f : Value) (r : List V → Hp → VK → Prop) : Prop :=
 ∀ (pins : List (Addr × Obj)) (s : Shared) (σ : St) (H : Hp) (xs : List V) (us : List Value) (Q : VK), Inv X pins σ H s → Vals xs us → r xs H Q →
  wpAny (model X.prog X.w) X.A (call f us) (EP X pins σ Q) X.xe s
def TruR (X : Cx) (r : V → Hp → (Bool → Hp → Prop) → Prop) : Prop :=
 ∀ (pins : List (Addr × Obj)) (s : Shared) (σ : St) (H : Hp) (x : V) (v : Value) (Q : Bool → Hp → Prop), Inv X pins σ H s → RelV x v → r x H Q →
  wpAny (model X.prog X.w) X.A (truthy v) (TP X pins σ Q) X.xe s
def tOp (r : R2) (ta tb : TE) : TE := fun σ H Q => ta σ H fun x H1 => tb σ H1 fun y H2 => r x y H2 Q
def rI (C : Int → Int → Prop) (g : Int → Int → V) : R2 := fun x y H Q => ∃ i j, x = .int i ∧ y = .int j ∧ C i j ∧ Q (g i j) H
def rI0 (g : Int → Int → V) : R2 := fun x y H Q => ∃ i j, x = .int i ∧ y = .int j ∧ Q (g i j) H
section
variable {X : Cx} {a b c : Expr} {ta tb tc : TE} {pos : Pos}
theorem binT (ha : PE X a ta) (hb : PE X b tb) {pins : List (Addr × Obj)} {s : Shared} {σ : St} {H : Hp} {R : V → V → Hp → Prop} (I : Inv X pins σ H s)
  (h : ta σ H fun x H1 => tb σ H1 fun y H2 => R x y H2) {Q : Value → Shared → Prop} {f : Value → Value → Sem Value}
  (hf : ∀ v u s2 x y H2, Inv X pins σ H2 s2 → RelV x v → RelV y u → R x y H2 → wpAny (model X.prog X.w) X.A (f v u) Q X.xe s2) :
  wpAny (model X.prog X.w) X.A (eval a X.env) (fun v s₁ => wpAny (model X.prog X.w) X.A (eval b X.env) (fun u s₂ => wpAny (model X.prog X.w) X.A (f v u) Q X.xe s₂) X.xe s₁) X.xe s := by
 refine thn (ha pins s σ H _ I h) fun v s1 ⟨x, H1, I1, r1, q1⟩ => ?_
 refine thn (hb pins s1 σ H1 _ I1 q1) fun u s2 ⟨y, H2, I2, r2, q2⟩ => ?_
 exact hf v u s2 x y H2 I2 r1 r2 q2
theorem pe_op {op : Operator} {r : R2} (ho : OpR X (binaryOp op) r) (ha : PE X a ta) (hb : PE X b tb) : PE X (.BinOp a op b pos) (tOp r ta tb) := by
 intro pins s σ H Q I h
 exact wpAny_BinOp (binT ha hb I h fun v u s2 x y H2 I2 rx ry q => ho pins s2 σ H2 x y v u Q I2 rx ry q)
theorem opI {f : Value → Value → Sem Value} {C : Int → Int → Prop} {g : Int → Int → Int}
  (rule : ∀ (i j : Int) (t u : Tok) (s : Shared) (Q : Value → Shared → Prop) (E : Value → Shared → Prop), C i j → Q (.int (g i j) s.toks) { s with toks := s.toks + 1 } → wpAny (model X.prog X.w) X.A (f (.int i t) (.int j u)) Q E s) :
  OpR X f (rI C fun i j => .int (g i j)) := by
 intro pins s σ H x y v u Q I rx ry h
 obtain ⟨i, j, rfl, rfl, hc, q⟩ := h
 obtain ⟨t, rfl⟩ := rx
 obtain ⟨t', rfl⟩ := ry
 exact rule i j t t' s _ _ hc ⟨.int (g i j), H, I.tok _, ⟨_, rfl⟩, q⟩
theorem opI0 {f : Value → Value → Sem Value} {g : Int → Int → Int}
  (rule : ∀ (i j : Int) (t u : Tok) (s : Shared) (Q : Value → Shared → Prop) (E : Value → Shared → Prop), Q (.int (g i j) s.toks) { s with toks := s.toks + 1 } → wpAny (model X.prog X.w) X.A (f (.int i t) (.int j u)) Q E s) :
  OpR X f (rI0 fun i j => .int (g i j)) := by
 intro pins s σ H x y v u Q I rx ry h
 obtain ⟨i, j, rfl, rfl, q⟩ := h
 obtain ⟨t, rfl⟩ := rx
 obtain ⟨t', rfl⟩ := ry
 exact rule i j t t' s _ _ ⟨.int (g i j), H, I.tok _, ⟨_, rfl⟩, q⟩
theorem opB0 {f : Value → Value → Sem Value} {g : Int → Int → Bool}
  (rule : ∀ (i j : Int) (t u : Tok) (s : Shared) (Q : Value → Shared → Prop) (E : Value → Shared → Prop), Q (.bool (g i j)) s → wpAny (model X.prog X.w) X.A (f (.int i t) (.int j u)) Q E s) :
  OpR X f (rI0 fun i j => .bl (g i j)) := by
 intro pins s σ H x y v u Q I rx ry h
 obtain ⟨i, j, rfl, rfl, q⟩ := h
 obtain ⟨t, rfl⟩ := rx
 obtain ⟨t', rfl⟩ := ry
 exact rule i j t t' s _ _ ⟨.bl (g i j), H, I, rfl, q⟩
def CDiv (i j : Int) : Prop := 0 < j ∧ j < 1073741824
def CPow (i j : Int) : Prop := 0 ≤ j ∧ j ≤ 1000000 ∧ i.natAbs < 2 ^ 64
def CMul (i j : Int) : Prop := (-(2 ^ 64) < i ∧ i < 2 ^ 64) ∨ (-(2 ^ 64) < j ∧ j < 2 ^ 64)
theorem CMul.ok {i j : Int} (h : CMul i j) : IntMulOk i j := by
 rcases h with ⟨h1, h2⟩ | ⟨h1, h2⟩
 ·exact .of_left (intBits_le_64 h1 h2)
 ·exact .of_right (intBits_le_64 h1 h2)
theorem op_add : OpR X (binaryOp .Add) (rI0 fun i j => .int (i + j)) := opI0 fun _ _ _ _ _ _ _ q => add_int q
theorem op_sub : OpR X (binaryOp .Sub) (rI0 fun i j => .int (i - j)) := opI0 fun _ _ _ _ _ _ _ q => sub_int q
theorem op_mul : OpR X (binaryOp .Mult) (rI CMul fun i j => .int (i * j)) := opI fun _ _ _ _ _ _ _ hc q => mul_int q hc.ok
theorem op_fdiv : OpR X (binaryOp .FloorDiv) (rI CDiv fun i j => .int (i / j)) := opI fun i j _ _ _ _ _ hc q => by
 have h1 : (0 : Int) < j := hc.1
 have h2 : j < 1073741824 := hc.2
 exact floordiv_int (by lia) (by rw [Int.fdiv_eq_ediv_of_nonneg i (by lia)]; exact q) (.inl (PyProof.noPylong_small (by lia)))
theorem op_mod : OpR X (binaryOp .Mod) (rI (fun _ j => 0 < j) fun i j => .int (i % j)) := opI fun i j _ _ _ _ _ hc q => by
 have h1 : (0 : Int) < j := hc
 exact mod_int' (by lia) (by rw [Int.fmod_eq_emod_of_nonneg i (by lia)]; exact q)
theorem op_pow : OpR X (binaryOp .Pow) (rI CPow fun i j => .int (i ^ j.toNat)) := opI fun _ _ _ _ _ _ _ hc q => pow_int_small hc.1 hc.2.1 hc.2.2 q
end
def scal : V → V → Bool
 | .non, .non => true | .non, .int _ => true | .int _, .non => true | .non, .bl _ => true | .bl _, .non => true | .non, .str _ => true | .str _, .non => true
 | .int _, .int _ => true | .bl _, .bl _ => true | .str _, .str _ => true | .byt _, .byt _ => true
 | .int _, .str _ => true | .str _, .int _ => true | .bl _, .str _ => true | .str _, .bl _ => true
 | _, _ => false
def rEq : R2 := fun x y H Q => scal x y = true ∧ Q (.bl (decide (x = y))) H
def rNe : R2 := fun x y H Q => scal x y = true ∧ Q (.bl (!decide (x = y))) H
theorem dec_int {i j : Int} : decide (V.int i = V.int j) = (i == j) := by
 rw [Bool.eq_iff_iff]
 simp
theorem dec_bl {i j : Bool} : decide (V.bl i = V.bl j) = (i == j) := by
 rw [Bool.eq_iff_iff]
 simp
theorem dec_str {i j : Str} : decide (V.str i = V.str j) = (i == j) := by
 rw [Bool.eq_iff_iff]
 simp
theorem dec_byt {i j : Array UInt8} : decide (V.byt i = V.byt j) = (i.toList == j.toList) := by
 rw [Bool.eq_iff_iff]
 cases i
 cases j
 simp
section
variable {X : Cx} {a b c : Expr} {ta tb tc : TE} {pos : Pos}
theorem fin_bl {pins : List (Addr × Obj)} {σ : St} {H : Hp} {s : Shared} {Q : VK} {k k' : Bool} (I : Inv X pins σ H s) (q : Q (.bl k) H) (e : k = k') : EP X pins σ Q (.bool k') s := by
 subst e
 exact ⟨.bl k, H, I, rfl, q⟩
theorem op_eq : OpR X (compareOp .Eq) rEq := by
 intro pins s σ H x y v u Q I rx ry h
 obtain ⟨hs, q⟩ := h
 cases x with
 | non =>
  cases rx
  cases y with
  | non => cases ry; exact PySem.EqNone.eq_none_none (fin_bl I q (by simp))
  | bl j => cases ry; exact PySem.EqNone.eq_none_bool (fin_bl I q (by simp))
  | int j => obtain ⟨t', rfl⟩ := ry; exact PySem.EqNone.eq_none_int (fin_bl I q (by simp))
  | str j => obtain ⟨t', rfl⟩ := ry; exact PySem.EqNone.eq_none_str (fin_bl I q (by simp))
  | _ => exact absurd (show false = true from hs) Bool.false_ne_true
 | bl i =>
  cases rx
  cases y with
  | non => cases ry; exact PySem.EqNone.eq_bool_none (fin_bl I q (by simp))
  | bl j => cases ry; exact eq_bool (fin_bl I q dec_bl)
  | str j => obtain ⟨t', rfl⟩ := ry; exact PySem.EqMixed.eq_bool_str (fin_bl I q (by simp))
  | _ => exact absurd (show false = true from hs) Bool.false_ne_true
 | int i =>
  obtain ⟨t, rfl⟩ := rx
  cases y with
  | non => cases ry; exact PySem.EqNone.eq_int_none (fin_bl I q (by simp))
  | int j => obtain ⟨t', rfl⟩ := ry; exact eq_int (fin_bl I q dec_int)
  | str j => obtain ⟨t', rfl⟩ := ry; exact PySem.EqMixed.eq_int_str (fin_bl I q (by simp))
  | _ => exact absurd (show false = true from hs) Bool.false_ne_true
 | str i =>
  obtain ⟨t, rfl⟩ := rx
  cases y with
  | non => cases ry; exact PySem.EqNone.eq_str_none (fin_bl I q (by simp))
  | bl j => cases ry; exact PySem.EqMixed.eq_str_bool (fin_bl I q (by simp))
  | int j => obtain ⟨t', rfl⟩ := ry; exact PySem.EqMixed.eq_str_int (fin_bl I q (by simp))
  | str j => obtain ⟨t', rfl⟩ := ry; exact eq_str (fin_bl I q dec_str)
  | _ => exact absurd (show false = true from hs) Bool.false_ne_true
 | byt i =>
  obtain ⟨t, rfl⟩ := rx
  cases y with
  | byt j => obtain ⟨t', rfl⟩ := ry; exact PySem.W.eq_bytes (fin_bl I q dec_byt)
  | _ => exact absurd (show false = true from hs) Bool.false_ne_true
 | _ => cases y <;> exact absurd (show false = true from hs) Bool.false_ne_true
theorem op_ne : OpR X (compareOp .NotEq) rNe := by
 intro pins s σ H x y v u Q I rx ry h
 obtain ⟨hs, q⟩ := h
 cases x with
 | non =>
  cases rx
  cases y with
  | non => cases ry; exact PySem.EqNone.ne_none_none (fin_bl I q (by simp))
  | bl j => cases ry; exact PySem.EqNone.ne_none_bool (fin_bl I q (by simp))
  | int j => obtain ⟨t', rfl⟩ := ry; exact PySem.EqNone.ne_none_int (fin_bl I q (by simp))
  | str j => obtain ⟨t', rfl⟩ := ry; exact PySem.EqNone.ne_none_str (fin_bl I q (by simp))
  | _ => exact absurd (show false = true from hs) Bool.false_ne_true
 | bl i =>
  cases rx
  cases y with
  | non => cases ry; exact PySem.EqNone.ne_bool_none (fin_bl I q (by simp))
  | bl j => cases ry; exact ne_bool (fin_bl I q (congrArg not dec_bl))
  | str j => obtain ⟨t', rfl⟩ := ry; exact PySem.EqMixed.ne_bool_str (fin_bl I q (by simp))
  | _ => exact absurd (show false = true from hs) Bool.false_ne_true
 | int i =>
  obtain ⟨t, rfl⟩ := rx
  cases y with
  | non => cases ry; exact PySem.EqNone.ne_int_none (fin_bl I q (by simp))
  | int j => obtain ⟨t', rfl⟩ := ry; exact ne_int (fin_bl I q (congrArg not dec_int))
  | str j => obtain ⟨t', rfl⟩ := ry; exact PySem.EqMixed.ne_int_str (fin_bl I q (by simp))
  | _ => exact absurd (show false = true from hs) Bool.false_ne_true
 | str i =>
  obtain ⟨t, rfl⟩ := rx
  cases y with
  | non => cases ry; exact PySem.EqNone.ne_str_none (fin_bl I q (by simp))
  | bl j => cases ry; exact PySem.EqMixed.ne_str_bool (fin_bl I q (by simp))
  | int j => obtain ⟨t', rfl⟩ := ry; exact PySem.EqMixed.ne_str_int (fin_bl I q (by simp))
  | str j => obtain ⟨t', rfl⟩ := ry; exact ne_str (fin_bl I q (congrArg not dec_str))
  | _ => exact absurd (show false = true from hs) Bool.false_ne_true
 | byt i =>
  obtain ⟨t, rfl⟩ := rx
  cases y with
  | byt j => obtain ⟨t', rfl⟩ := ry; exact PySem.W.ne_bytes (fin_bl I q (congrArg not dec_byt))
  | _ => exact absurd (show false = true from hs) Bool.false_ne_true
 | _ => cases y <;> exact absurd (show false = true from hs) Bool.false_ne_true
theorem op_lt : OpR X (compareOp .Lt) (rI0 fun i j => .bl (decide (i < j))) := opB0 fun _ _ _ _ _ _ _ q => lt_int q
theorem op_le : OpR X (compareOp .LtE) (rI0 fun i j => .bl (decide (i ≤ j))) := opB0 fun _ _ _ _ _ _ _ q => le_int q
theorem op_gt : OpR X (compareOp .Gt) (rI0 fun i j => .bl (decide (j < i))) := opB0 fun _ _ _ _ _ _ _ q => gt_int q
theorem op_notN : OpR X (compareOp .IsNot) (fun x y H Q => y = .non ∧ Q (.bl (!decide (x = .non))) H) := by
 intro pins s σ H x y v u Q I rx ry h
 obtain ⟨rfl, q⟩ := h
 cases ry
 refine isnot_none_gen (fin_bl I q ?_)
 cases x <;> first
  | (cases rx; rfl)
  | (obtain ⟨t, rfl⟩ := rx; rfl)
theorem nomark (b : Expr) {op : CmpOp} (h : op ≠ .In := by decide) (h2 : op ≠ .NotIn := by decide) : behindInMarks op b = false := by
 have e1 : (op == CmpOp.In) = false := by cases op <;> first | rfl | exact absurd rfl h
 have e2 : (op == CmpOp.NotIn) = false := by cases op <;> first | rfl | exact absurd rfl h2
 cases b <;> simp [behindInMarks, e1, e2]
theorem pe_cmpR {op : CmpOp} {r : R2} (ho : OpR X (compareOp op) r) (ha : PE X a ta) (hb : PE X b tb) (hm : behindInMarks op b = false) : PE X (.Compare a [op] [b] pos) (tOp r ta tb) := by
 intro pins s σ H Q I h
 exact wpAny_Compare1 (binT ha hb I h fun v u s2 x y H2 I2 rx ry q => ho pins s2 σ H2 x y v u Q I2 rx ry q) hm
def tTest (t : TE) : TT := fun σ H Q => t σ H fun x H' => ∃ k, x = .bl k ∧ Q k H'
theorem pt_cmpR {op : CmpOp} {r : R2} (ho : OpR X (compareOp op) r) (ha : PE X a ta) (hb : PE X b tb) (hm : behindInMarks op b = false) : PT X (.Compare a [op] [b] pos) (tTest (tOp r ta tb)) := by
 intro pins s σ H Q I h
 refine wpAny_isTrue_Compare1 (thn (ha pins s σ H _ I h) fun v s1 ⟨x, H1, I1, r1, q1⟩ => thn (hb pins s1 σ H1 _ I1 q1) fun u s2 ⟨y, H2, I2, r2, q2⟩ =>
  thn (ho pins s2 σ H2 x y v u _ I2 r1 r2 q2) fun c s3 ⟨z, H3, I3, r3, k, e, q3⟩ => ?_) hm
 subst e
 cases r3
 exact wpAny_truthy_bool ⟨H3, I3, q3⟩
def tChain (r r' : R2) (ta tb tc : TE) : TE := fun σ H Q => ta σ H fun x H1 => tb σ H1 fun y H2 => r x y H2 fun z H3 => ∃ k, z = .bl k ∧
 (if k = true then tc σ H3 fun w' H4 => r' y w' H4 Q else Q (.bl false) H3)
theorem pe_chain {op op' : CmpOp} {r r' : R2} (ho : OpR X (compareOp op) r) (ho' : OpR X (compareOp op') r') (ha : PE X a ta) (hb : PE X b tb) (hc : PE X c tc)
  (hm : lastMarks [op, op'] [b, c] = false := by with_unfolding_all rfl) : PE X (.Compare a [op, op'] [b, c] pos) (tChain r r' ta tb tc) := by
 intro pins s σ H Q I h
 refine Compare_chain (thn (ha pins s σ H _ I h) fun v s1 ⟨x, H1, I1, r1, q1⟩ => chain_link (thn (hb pins s1 σ H1 _ I1 q1) fun u s2 ⟨y, H2, I2, r2, q2⟩ =>
  thn (ho pins s2 σ H2 x y v u _ I2 r1 r2 q2) fun d s3 ⟨z, H3, I3, r3, k, e, q3⟩ => ?_)) hm
 subst e
 cases r3
 refine wpAny_truthy_bool ?_
 cases k with
 | false => exact ite_ff ⟨.bl false, H3, I3, rfl, q3⟩
 | true => exact ite_tt (chain_last (thn (hc pins s3 σ H3 _ I3 q3) fun w' s4 ⟨z', H4, I4, r4, q4⟩ => ho' pins s4 σ H4 y z' u w' Q I4 r2 r4 q4))
theorem pt_chain {op op' : CmpOp} {r r' : R2} (ho : OpR X (compareOp op) r) (ho' : OpR X (compareOp op') r') (ha : PE X a ta) (hb : PE X b tb) (hc : PE X c tc)
  (hm : lastMarks [op, op'] [b, c] = false := by with_unfolding_all rfl) : PT X (.Compare a [op, op'] [b, c] pos) (tTest (tChain r r' ta tb tc)) := by
 intro pins s σ H Q I h
 refine isTrue_chain (thn (ha pins s σ H _ I h) fun v s1 ⟨x, H1, I1, r1, q1⟩ => test_link (thn (hb pins s1 σ H1 _ I1 q1) fun u s2 ⟨y, H2, I2, r2, q2⟩ =>
  thn (ho pins s2 σ H2 x y v u _ I2 r1 r2 q2) fun d s3 ⟨z, H3, I3, r3, k, e, q3⟩ => ?_)) hm
 subst e
 cases r3
 refine wpAny_truthy_bool ?_
 cases k with
 | false =>
  obtain ⟨k', e', q'⟩ := q3
  cases e'
  exact ite_ff ⟨H3, I3, q'⟩
 | true =>
  refine ite_tt (test_last (thn (hc pins s3 σ H3 _ I3 q3) fun w' s4 ⟨z', H4, I4, r4, q4⟩ => thn (ho' pins s4 σ H4 y z' u w' _ I4 r2 r4 q4) fun d' s5 ⟨z2, H5, I5, r5, k2, e2, q5⟩ => ?_))
  subst e2
  cases r5
  exact wpAny_truthy_bool ⟨H5, I5, q5⟩
def TruV (K : PySem.W.Frag) (x : V) (H : Hp) (k : Bool) : Prop :=
 match x with
 | .non => k = false
 | .bl b => k = b
 | .int i => k = (i != 0)
 | .str y => y.length ≤ sizeLine ∧ k = ((y.length : Int) != 0)
 | .byt y => y.size ≤ sizeLine ∧ k = ((y.size : Int) != 0)
 | .ref p => (∃ xs, SqL K H p xs ∧ k = !xs.isEmpty) ∨ (∃ xs, SqT K H p xs ∧ k = !xs.isEmpty) ∨ ∃ kvs, H p = some (.dK kvs) ∧ k = !kvs.isEmpty
 | _ => False
theorem isEmpty_kv {κ : Type} {kvs : List (κ × V)} {vs : List (κ × Value)} (r : KV kvs vs) : (!vs.isEmpty) = !kvs.isEmpty := by
 cases r <;> rfl
theorem isEmpty_of {xs : List V} {its : List Value} (r : Vals xs its) : (!its.toArray.isEmpty) = !xs.isEmpty := by
 cases r <;> simp
theorem line63 : (sizeLine : Nat) < 2 ^ 63 := by rw [sizeLine_eq]; decide
theorem tru_ok : TruR X (fun x H Q => ∃ k, TruV X.K x H k ∧ Q k H) := by
 intro pins s σ H x v Q I rx h
 obtain ⟨k, e, q⟩ := h
 have hl := line63
 have hs : sizeLine = 16777216 := sizeLine_eq
 cases x with
 | non =>
  cases rx
  have e' : k = false := e
  subst e'
  exact truthy_none ⟨H, I, q⟩
 | bl b =>
  cases rx
  have e' : k = b := e
  subst e'
  exact wpAny_truthy_bool ⟨H, I, q⟩
 | int i =>
  obtain ⟨t, rfl⟩ := rx
  have e' : k = (i != 0) := e
  subst e'
  exact PySem.P.truthy_int ⟨H, I, q⟩
 | str y =>
  obtain ⟨t, rfl⟩ := rx
  obtain ⟨hy, e'⟩ : y.length ≤ sizeLine ∧ k = ((y.length : Int) != 0) := e
  subst e'
  exact PySem.P.truthy_str (by lia) ⟨H, I.tok _, q⟩
 | byt y =>
  obtain ⟨t, rfl⟩ := rx
  obtain ⟨hy, e'⟩ : y.size ≤ sizeLine ∧ k = ((y.size : Int) != 0) := e
  subst e'
  exact PySem.W.truthy_bytes (by lia) ⟨H, I.tok _, q⟩
 | ref p =>
  cases rx
  have e' : (∃ xs, SqL X.K H p xs ∧ k = !xs.isEmpty) ∨ (∃ xs, SqT X.K H p xs ∧ k = !xs.isEmpty) ∨ ∃ kvs, H p = some (.dK kvs) ∧ k = !kvs.isEmpty := e
  rcases e' with ⟨xs, hx, e'⟩ | ⟨xs, hx, e'⟩ | ⟨kvs, hx, e'⟩
  ·subst e'
   obtain ⟨its, r, pl, hz⟩ := I.list hx
   have hlen := r.length
   exact wpAny_truthy_list pl.isList (by simp only [List.size_toArray]; lia) ⟨H, I.tok _, by rw [isEmpty_of r]; exact q⟩
  ·subst e'
   obtain ⟨its, r, pl, hz⟩ := I.tuple hx
   have hlen := r.length
   exact truthy_tuple pl (by simp only [List.size_toArray]; lia) ⟨H, I.tok _, by rw [isEmpty_of r]; exact q⟩
  ·subst e'
   obtain ⟨hz, hS, vs, r, m⟩ : kvs.length ≤ sizeLine ∧ (p == sysModules) = false ∧ ∃ vs, KV kvs vs ∧ s.heap.DictOf (mixKind X.prog X.w) p vs := I.hok p _ hx
   have hlen : kvs.length = vs.length := Paired.length r
   exact wpAny_truthy_dict hS m (by lia) ⟨H, I.tok _, by rw [isEmpty_kv r]; exact q⟩
 | _ => exact (show False from e).elim
theorem pt_truth (ha : PE X a ta) (he : ∀ whole, isTrue a X.env whole = (do let v ← whole; standAt a.pos; holding [v] (truthy v))) :
  PT X a (fun σ H Q => ta σ H fun x H' => ∃ k, TruV X.K x H' k ∧ Q k H') := by
 intro pins s σ H Q I h
 exact isTrue_plain (thn (ha pins s σ H _ I h) fun v s1 ⟨x, H1, I1, r1, q1⟩ => tru_ok pins s1 σ H1 x v Q I1 r1 q1) (he _)
theorem op_add_str : OpR X (binaryOp .Add) (fun x y H Q => ∃ i j, x = .str i ∧ y = .str j ∧ i.length + j.length ≤ sizeLine ∧ Q (.str (i ++ j)) H) := by
 intro pins s σ H x y v u Q I rx ry h
 obtain ⟨i, j, rfl, rfl, hz, q⟩ := h
 obtain ⟨t, rfl⟩ := rx
 obtain ⟨t', rfl⟩ := ry
 exact add_str (fun t' tk => ⟨.str (i ++ j), H, I.tok _, ⟨_, rfl⟩, q⟩) hz
theorem vals1 {x : V} {us : List Value} (r : Vals [x] us) : ∃ u, us = [u] ∧ RelV x u := by
 cases r with
 | cons r1 r2 => cases r2; exact ⟨_, rfl, r1⟩
theorem vals2 {x y : V} {us : List Value} (r : Vals [x, y] us) : ∃ u w', us = [u, w'] ∧ RelV x u ∧ RelV y w' := by
 cases r with
 | cons r1 r2 =>
  cases r2 with
  | cons r3 r4 => cases r4; exact ⟨_, _, rfl, r1, r3⟩
theorem call_max2 (hc : X.calm = true) : CallR X (.builtin "max") (fun xs H Q => ∃ i j, xs = [.int i, .int j] ∧ Q (.int (if j > i then j else i)) H) := by
 intro pins s σ H xs us Q I r h
 obtain ⟨i, j, rfl, q⟩ := h
 obtain ⟨u, w', rfl, ⟨t, rfl⟩, ⟨t', rfl⟩⟩ := vals2 r
 refine max_two_ints (I.ok.hd hc) fun h' tk k => ⟨_, H, I.kept k, ?_, q⟩
 by_cases hj : j > i
 ·rw [if_pos hj, if_pos hj]; exact ⟨_, rfl⟩
 ·rw [if_neg hj, if_neg hj]; exact ⟨_, rfl⟩
theorem call_min2 (hc : X.calm = true) : CallR X (.builtin "min") (fun xs H Q => ∃ i j, xs = [.int i, .int j] ∧ Q (.int (if j < i then j else i)) H) := by
 intro pins s σ H xs us Q I r h
 obtain ⟨i, j, rfl, q⟩ := h
 obtain ⟨u, w', rfl, ⟨t, rfl⟩, ⟨t', rfl⟩⟩ := vals2 r
 refine min_two_ints (I.ok.hd hc) fun h' tk k => ⟨_, H, I.kept k, ?_, q⟩
 by_cases hj : j < i
 ·rw [if_pos hj, if_pos hj]; exact ⟨_, rfl⟩
 ·rw [if_neg hj, if_neg hj]; exact ⟨_, rfl⟩
end
end L2
namespace L2
open PySem PySem.Spec PyProof.Rows
theorem lookIn_ns {h : Heap} {dx : Addr} {mA : Str → Option Value} (n : h.Ns1 dx mA) : ∃ od, h.get? dx = some od ∧ ∀ name, PySem.W.lookIn name od = some (mA name) := by
 obtain ⟨o, es, ep, ho, hd, hk, _, hm⟩ := n
 refine ⟨o, ho, fun name => ?_⟩
 have e := hm name
 unfold nsFind findBy at e
 rw [← Array.find?_toList] at e
 unfold PySem.W.lookIn
 rw [hd]
 dsimp only
 split
 ·rename_i y q
  rw [q] at e
  exact congrArg some e
 ·rename_i q
  rw [q] at e
  have a : es.toList.any (·.refKey) = false := by
   rw [List.any_eq_false]
   intro y hy
   obtain ⟨z, t, hkey⟩ := hk y (Array.mem_toList_iff.mp hy)
   simp [DictEntry.refKey, hkey]
  have a' : ¬ es.toList.any (·.refKey) = true := by rw [a]; exact Bool.false_ne_true
  rw [if_neg a']
  exact congrArg some e
end L2
namespace L2
open PySem PySem.Spec PyProof.Rows
structure Room (k : Nat) (A : Around) : Prop where
 hd : A.handled = none
 dp : A.depth + 2 * k + 5 < recursionLimit
 un : A.units + 16 * k + 200 < cLine
 gd : A.guards = some []
theorem Room.mono {j k : Nat} {A : Around} (r : Room k A) (h : j ≤ k) : Room j A := ⟨r.hd, by have := r.dp; lia, by have := r.un; lia, r.gd⟩
theorem Room.deeper {k : Nat} {A : Around} (r : Room (k + 1) A) (env : Env) : Room k (A.deeper env) :=
 ⟨r.hd, by have := r.dp; show A.depth + 1 + 2 * k + 5 < _; lia, by have := r.un; show A.units + 3 + 16 * k + 200 < _; lia, r.gd⟩
theorem Room.depth {k : Nat} {A : Around} (r : Room k A) : A.depth < recursionLimit := by have := r.dp; lia
def tNil : TA := fun _ H Q => Q [] H
def tCons (ta : TE) (tr : TA) : TA := fun σ H Q => ta σ H fun x H1 => tr σ H1 fun xs H2 => Q (x :: xs) H2
section
variable {X : Cx} {e : Expr} {es : List Expr} {te : TE} {t : TA} {pos : Pos}
theorem pa_nil : PA X [] tNil := fun _ _ _ _ H Q I h => Calls.spliced_nil ⟨[], H, I, .nil, h⟩
theorem pa_cons (ha : PE X e te) (hr : PA X es t) (hs : starEach (e :: es) X.env = (false, eval e X.env) :: starEach es X.env := by rfl) : PA X (e :: es) (tCons te t) := by
 intro pos pins s σ H Q I h
 rw [hs]
 show wpAny _ _ (spliced ((false, eval e X.env) :: backTo pos (starEach es X.env))) _ _ s
 refine Calls.spliced_cons (thn (ha pins s σ H _ I h) fun u s1 ⟨x, H1, I1, r1, q1⟩ => ?_)
 exact thn (hr pos pins s1 σ H1 _ I1 q1) fun us s2 ⟨xs, H2, I2, r2, q2⟩ => ⟨x :: xs, H2, I2, .cons r1 r2, q2⟩
def tTup (t : TA) : TE := fun σ H Q => t σ H fun xs H1 => xs.length ≤ sizeLine ∧ ∀ p, H1 p = none → Q (.ref p) (upd H1 p (.tup xs))
def tLst (t : TA) : TE := fun σ H Q => t σ H fun xs H1 => xs.length ≤ sizeLine ∧ ∀ p, H1 p = none → Q (.ref p) (upd H1 p (.lst xs))
theorem pe_tup {x1} (h : PA X es t) : PE X (.Tuple es x1 pos) (tTup t) := by
 intro pins s σ H Q I hq
 refine wpAny_Tuple_spliced (thn (h pos pins s σ H _ I hq) fun us s1 ⟨xs, H1, I1, r, z, q⟩ => ⟨by rw [← r.length]; exact z, ?_⟩)
 have hf : H1 s1.heap.objs.size = none := I1.hok.fresh (Nat.le_refl _)
 refine ⟨.ref s1.heap.objs.size, upd H1 s1.heap.objs.size (.tup xs), I1.laid (t' := s1.toks) (fun b u e => Heap.get?_push_of_some _ e) (Nat.le_refl _) ?_, rfl, q _ hf⟩
 exact ⟨z, us, r, ⟨_, Heap.get?_push_size _ rfl, rfl, _, rfl⟩⟩
theorem pe_lst (h : PA X es t) : PE X (.List es pos) (tLst t) := by
 intro pins s σ H Q I hq
 refine wpAny_List_spliced (thn (h pos pins s σ H _ I hq) fun us s1 ⟨xs, H1, I1, r, z, q⟩ => ⟨by rw [← r.length]; exact z, ?_⟩)
 have hf : H1 s1.heap.objs.size = none := I1.hok.fresh (Nat.le_refl _)
 refine ⟨.ref s1.heap.objs.size, upd H1 s1.heap.objs.size (.lst xs), I1.laid (t' := s1.toks) (fun b u e => Heap.get?_push_of_some _ e) (Nat.le_refl _) ?_, rfl, q _ hf⟩
 exact ⟨z, us, 0, r, Heap.get?_push_size _ rfl⟩
end
abbrev Sp := List V → Hp → VK → XK → Prop
abbrev CXT := List Env → Hp → Shared → XK → Value → Shared → Prop
structure Env0 (P : Program) (w : World) (K : PySem.W.Frag) (mg : Str → Option Value) (base : Heap) (A : Around) (outer : List Env) (s : Shared) (H : Hp) : Prop where
 frames : A.frames = some outer
 mod : Mod K mg base
 bs : ∀ b o, base.get? b = some o → s.heap.get? b = some o ∧ H b = none
 bsz : base.objs.size ≤ s.heap.objs.size
 funs : s.heap.FunFrames base outer
 frf : ∀ b ∈ frs outer, H b = none
 hok : HOk P w H s.heap
 bare : AllBare s.gens
def CE (outer : List Env) (P : Program) (w : World) (H : Hp) (s : Shared) (Q : VK) (u : Value) (s' : Shared) : Prop :=
 ∃ v H', s'.os = s.os ∧ AllBare s'.gens ∧ Un (frs outer) [] H H' s.heap s'.heap ∧ HOk P w H' s'.heap ∧ RelV v u ∧ Q v H'
def CR (CX : CXT) (outer : List Env) (P : Program) (w : World) (H : Hp) (s : Shared) (Q : VK) (E : XK) (r : Result) (s' : Shared) : Prop :=
 match r with
 | .ok (.ret u) => CE outer P w H s Q u s'
 | .ok _ => False
 | .error e => CX outer H s E e s'
structure FnOk (P : Program) (w : World) (K : PySem.W.Frag) (mg : Str → Option Value) (base : Heap) (CX : CXT) (k : Nat) (f : Addr) (fd : FuncData) (ps : List Str) (sp : Sp) : Prop where
 len : ∀ vs H Q E, sp vs H Q E → vs.length = ps.length
 run : ∀ (A : Around) (outer : List Env) (s : Shared) (H : Hp) (args : Args) (us : List Value) (vs : List V) (Q : VK) (E : XK), Room k A → Env0 P w K mg base A outer s H → BindsTo s fd args (ps.zip us) → Vals vs us → sp vs H Q E →
  codeAny (model P w) A (.call (.ref f) args) (CR CX outer P w H s Q E) s
section
variable {X : Cx} {pins : List (Addr × Obj)} {σ : St} {H : Hp} {s s' : Shared}
theorem Inv.env0 (I : Inv X pins σ H s) : Env0 X.prog X.w X.K X.mg X.base X.A X.stack s H :=
 ⟨I.ok.frames, I.ok.mod, I.bs, Nat.le_trans I.ok.bsz I.sz, I.stack, I.stkFree, I.hok, I.bare⟩
theorem Inv.after {Q : VK} {u : Value} (I : Inv X pins σ H s) (h : CE X.stack X.prog X.w H s Q u s') : EP X pins σ Q u s' := by
 obtain ⟨v, H', os, bare, un, hok, r, q⟩ := h
 obtain ⟨hh, g, d, t, os'⟩ := s'
 obtain rfl : os' = s.os := os
 exact ⟨v, H', I.call (h' := hh) (g' := g) (d' := d) (t' := t) (ch := []) un hok bare (fun b z => absurd z (by simp)), r, q⟩
end
def tCall (sp : Sp) (dvs : List V) (E : XK) (t : TA) : TE := fun σ H Q => t σ H fun vs H1 => sp (vs ++ dvs) H1 Q E
def Binds (K : PySem.W.Frag) (fd : FuncData) (ps : List Str) (ds : List Value) : Prop :=
 ∀ (s : Shared) (us : List Value), K.In s.heap → (us ++ ds).length = ps.length → BindsTo s fd ⟨us, []⟩ (ps.zip (us ++ ds))
theorem Binds.all {K : PySem.W.Frag} {fd : FuncData} {ps : List Str} (h : ∀ us : List Value, us.length = ps.length → bindArgs fd ⟨us, []⟩ = pure (ps.zip us)) : Binds K fd ps [] := fun s us _ hl => by
 rw [List.append_nil] at hl ⊢
 exact .of_eq (h us hl)
def Passes (CX : CXT) (X : Cx) (E : XK) : Prop := ∀ (pins : List (Addr × Obj)) (σ : St) (H : Hp) (s : Shared) (e : Value) (s' : Shared), Inv X pins σ H s → CX X.stack H s E e s' → X.xe e s'
section
variable {X : Cx} {CX : CXT} {k : Nat} {f C : Addr} {fd : FuncData} {ps : List Str} {sp : Sp} {dvs : List V} {ds : List Value} {E : XK} {x m : Str} {p pos apos : Pos} {e o : Expr} {es : List Expr} {ta : TE} {t : TA}
theorem run_fn {pins : List (Addr × Obj)} {σ : St} {H : Hp} {s : Shared} {Q : VK} {us : List Value} {vs : List V} (F : FnOk X.prog X.w X.K X.mg X.base CX k f fd ps sp) (hr : Room k X.A) (hb : Binds X.K fd ps ds) (hd : Vals dvs ds) (hx : Passes CX X E)
  (I : Inv X pins σ H s) (r : Vals vs us) (h : sp (vs ++ dvs) H Q E) : wpAny (model X.prog X.w) X.A (call (.ref f) us) (EP X pins σ Q) X.xe s := by
 have r2 : Vals (vs ++ dvs) (us ++ ds) := r.append hd
 have hl : (us ++ ds).length = ps.length := by rw [← r2.length]; exact F.len _ _ _ _ h
 refine wpAny_call (codeAny_mono (F.run X.A X.stack s H ⟨us, []⟩ (us ++ ds) (vs ++ dvs) Q E hr I.env0 (hb s us I.kIn hl) r2 h) fun r s' hq => ?_)
 cases r with
 | error e => exact hx pins σ H s e s' I hq
 | ok fl =>
  cases fl with
  | ret u => exact I.after hq
  | next => exact False.elim hq
  | brk => exact False.elim hq
  | cont => exact False.elim hq
theorem pe_call (F : FnOk X.prog X.w X.K X.mg X.base CX k f fd ps sp) (hr : Room k X.A) (hg : Gl X x) (hm : X.mg x = some (.ref f)) (hk : PySem.W.keepIn X.K (.ref f) = true) (hb : Binds X.K fd ps ds) (hd : Vals dvs ds) (hx : Passes CX X E)
  (ha : PA X (e :: es) t) (hdb : (x == ("__debug__" : Str)) = false := by decide) (he : starEach (e :: es) X.env = (false, eval e X.env) :: starEach es X.env := by rfl) (hpl : (backTo pos (starEach es X.env)).any (·.1) = false := by rfl) :
  PE X (.Call (.Name x p) (e :: es) [] pos) (tCall sp dvs E t) := by
 intro pins s σ H Q I h
 refine wpAny_Call_Name_kw (ld_glob I hg hm ?_ hdb)
 refine PySem.W.callWith_K (h₀ := X.base) I.ok.mod.kin hk (thn (ha pos pins s σ H _ I h) fun us s1 ⟨vs, H1, I1, r, q⟩ => ⟨I1.kIn, ?_⟩) he hpl
 exact run_fn F hr hb hd hx I1 r q
end
structure FnScope (N P : List Str) (sc : Scope) : Prop where
 kind : sc.kind = .function
 co : sc.isCoroutine = false
 gen : sc.isGenerator = false
 nd : N.Nodup
 pre : N.take P.length = P
 par : ∀ x ∈ P, sc.names.lookup x = some .local ∨ sc.names.lookup x = some .cell
 nofree : ∀ y ∈ sc.names, y.2 ≠ .free
theorem bindL_out {kindOf : Str → Option NameKind} {x : Str} : ∀ {binds : List (Str × Value)} {m : Str → Option Value}, (∀ v, (x, v) ∉ binds) → bindL kindOf binds m x = m x
 | [], _, _ => rfl
 | (n, v) :: r, m, h => by
  unfold bindL
  rw [bindL_out fun w hw => h w (List.mem_cons_of_mem _ hw)]
  split
  ·have : x ≠ n := by rintro rfl; exact h v List.mem_cons_self
   simp [this]
  ·rfl
theorem bindC_out {kindOf : Str → Option NameKind} {x : Str} : ∀ {binds : List (Str × Value)} {m : Str → Option Value}, (∀ v, (x, v) ∉ binds) → bindC kindOf binds m x = m x
 | [], _, _ => rfl
 | (n, v) :: r, m, h => by
  unfold bindC
  rw [bindC_out fun w hw => h w (List.mem_cons_of_mem _ hw)]
  split
  ·rfl
  ·have : x ≠ n := by rintro rfl; exact h v List.mem_cons_self
   simp [this]
theorem bindL_get {kindOf : Str → Option NameKind} {x : Str} {v : Value} : ∀ {P : List Str} {vs : List Value} {i : Nat} {m : Str → Option Value}, P.Nodup → P[i]? = some x → vs[i]? = some v → kindOf x = some .local →
  bindL kindOf (P.zip vs) m x = some v
 | [], _, _, _, _, h, _, _ => by simp at h
 | _ :: _, [], _, _, _, _, h, _ => by simp at h
 | p :: P, w :: vs, 0, m, nd, h1, h2, hk => by
  simp at h1 h2; subst h1; subst h2
  show bindL kindOf ((p, w) :: P.zip vs) m p = _
  unfold bindL
  rw [bindL_out fun v hv => (List.nodup_cons.mp nd).1 (List.of_mem_zip hv).1, if_pos hk]
  simp
 | p :: P, w :: vs, i + 1, m, nd, h1, h2, hk => by
  show bindL kindOf ((p, w) :: P.zip vs) m x = _
  unfold bindL
  exact bindL_get (i := i) (List.nodup_cons.mp nd).2 (by simpa using h1) (by simpa using h2) hk
theorem bindC_get {kindOf : Str → Option NameKind} {x : Str} {v : Value} : ∀ {P : List Str} {vs : List Value} {i : Nat} {m : Str → Option Value}, P.Nodup → P[i]? = some x → vs[i]? = some v → kindOf x ≠ some .local →
  bindC kindOf (P.zip vs) m x = some v
 | [], _, _, _, _, h, _, _ => by simp at h
 | _ :: _, [], _, _, _, _, h, _ => by simp at h
 | p :: P, w :: vs, 0, m, nd, h1, h2, hk => by
  simp at h1 h2; subst h1; subst h2
  show bindC kindOf ((p, w) :: P.zip vs) m p = _
  unfold bindC
  rw [bindC_out fun v hv => (List.nodup_cons.mp nd).1 (List.of_mem_zip hv).1, if_neg hk]
  simp
 | p :: P, w :: vs, i + 1, m, nd, h1, h2, hk => by
  show bindC kindOf ((p, w) :: P.zip vs) m x = _
  unfold bindC
  exact bindC_get (i := i) (List.nodup_cons.mp nd).2 (by simpa using h1) (by simpa using h2) hk
def start (N : List Str) (vs : List V) : St := vs.map some ++ List.replicate (N.length - vs.length) none
def cxOf (CX : CXT) (P : Program) (w : World) (K : PySem.W.Frag) (mg : Str → Option Value) (base : Heap) (N : List Str) (qual : Str) (scope : Scope) (f : Addr) (cd : Value) (A : Around) (outer : List Env) (s : Shared) (H : Hp) (E : XK) : Cx where
 prog := P
 w := w
 K := K
 mg := mg
 base := base
 A := A.deeper (envOfC qual scope s.heap.objs.size f cd)
 N := N
 s₀ := s
 H₀ := H
 env := envOfC qual scope s.heap.objs.size f cd
 outer := outer
 stack := envOfC qual scope s.heap.objs.size f cd :: outer
 ex := []
 calm := true
 fn := fun _ => true
 pn := []
 xe := fun e s' => wpAny (model P w) (A.deeper (envOfC qual scope s.heap.objs.size f cd)) (leaving (envOfC qual scope s.heap.objs.size f cd) e) (fun _ s'' => CX outer H s E e s'') (fun e' s'' => CX outer H s E e' s'') s'
theorem cell_has {sc : Scope} {n : Nat} {x : Str} (h : sc.names.lookup x = some .cell) : ∃ c, (cellsFrom n sc.names []).lookup x = some c := by
 have q := PySem.W.cellsFrom_some sc.names n [] (.inl h)
 exact Option.isSome_iff_exists.mp q
theorem inv_start {CX : CXT} {P : Program} {w : World} {K : PySem.W.Frag} {mg : Str → Option Value} {base : Heap} {N ps : List Str} {qual : Str} {scope : Scope} {f : Addr} {cd : Value} {A : Around} {outer : List Env} {s s1 : Shared} {H : Hp} {E : XK} {us : List Value} {vs : List V}
  (S : FnScope N ps scope) (hd : A.handled = none) (e0 : Env0 P w K mg base A outer s H) (hl : vs.length = ps.length) (r : Vals vs us)
  (x : InCallC s s.heap.objs.size (bindL (envOfC qual scope s.heap.objs.size f cd).kindOf (ps.zip us) fun _ => none) (cellsFrom (s.heap.objs.size + 1) scope.names []) (bindC (envOfC qual scope s.heap.objs.size f cd).kindOf (ps.zip us) fun _ => none) s1) :
  Inv (cxOf CX P w K mg base N qual scope f cd A outer s H E) [] (start N vs) H s1 := by
 have hpl : ps.length ≤ N.length := by have := congrArg List.length S.pre; rw [List.length_take] at this; lia
 obtain ⟨h1, tk, rfl, hk⟩ := x.done
 have noA : ∀ b : Addr, b ∉ (cxOf CX P w K mg base N qual scope f cd A outer s H E).ex := fun b z => absurd (show b ∈ ([] : List Addr) from z) (by simp)
 refine ⟨⟨e0.mod, S.kind, rfl, rfl, Nat.le_refl _, fun y z c h1 h2 => ?_, fun y hy => ?_, fun y c _ h => ?_, fun _ => hd, Around.frames_deeper e0.frames, .inr ⟨rfl, rfl⟩, fun b z => absurd z (noA b), e0.bs, e0.bsz, fun b _ _ => noA b, fun b z => absurd z (noA b), e0.funs, e0.frf⟩,
  rfl, e0.bare, Un.kept hk, ⟨_, x.toInCall.ns, fun i y v h1 h2 h3 => ?_⟩, fun y c h => ⟨_, x.cell y c h⟩, e0.hok.fresh (Nat.le_refl _), fun y c h => ?_, fun p hp => absurd (show p ∈ ([] : List (Addr × Obj)) from hp) (by simp), e0.hok.kept hk, ?_⟩
 ·exact name_of_addr x.apart (PySem.mem_of_lookup h1) (PySem.mem_of_lookup h2)
 ·have hy : scope.names.lookup y = some .cell ∨ scope.names.lookup y = some .free := hy
  rcases hy with hy | hy
  ·exact cell_has hy
  ·exact absurd rfl (S.nofree _ (PySem.mem_of_lookup hy))
 ·exact Nat.le_of_lt (x.above y c (PySem.mem_of_lookup h))
 ·have hi : i < vs.length := by
   unfold start at h2
   by_cases hi : i < vs.length
   ·exact hi
   ·rw [List.getElem?_append_right (by simpa using hi)] at h2
    rw [List.getElem?_replicate] at h2
    split at h2 <;> cases h2
  have ha : vs[i]? = some v := by
   unfold start at h2
   rw [List.getElem?_append_left (by simpa using hi), List.getElem?_map] at h2
   cases e : vs[i]? with
   | none => rw [e] at h2; cases h2
   | some a => rw [e] at h2; cases h2; rfl
  obtain ⟨u, hu, rv⟩ := r.get ha
  have hp : ps[i]? = some y := by
   rw [← S.pre, List.getElem?_take_of_lt (by lia)]; exact h1
  have ndP : ps.Nodup := by rw [← S.pre]; exact S.nd.sublist (List.take_sublist _ _)
  refine ⟨u, rv, ?_⟩
  rcases S.par y (List.mem_of_getElem? hp) with k | k
  ·exact .inl ⟨k, bindL_get ndP hp hu k⟩
  ·obtain ⟨c, e⟩ := cell_has (n := s.heap.objs.size + 1) k
   refine .inr ⟨.inl k, c, e, ?_⟩
   have q := x.cell y c e
   rw [bindC_get ndP hp hu (by show scope.names.lookup y ≠ _; rw [k]; decide)] at q
   exact q
 ·exact e0.hok.fresh (Nat.le_of_lt (x.above y c (PySem.mem_of_lookup h)))
 ·unfold start
  show _ = N.length
  rw [List.length_append, List.length_map, List.length_replicate]
  lia
theorem fn_of {CX : CXT} {P : Program} {w : World} {K : PySem.W.Frag} {mg : Str → Option Value} {base : Heap} {k : Nat} {f : Addr} {name qual : Str} {params : Arguments} {body : List Stmt} {scope : Scope} {dV kV doc pm cdv ct oc : Value} {an od : Option Addr}
  {osl : Array (Option Value)} {N ps : List Str} {sp : Sp} (lk : K.lookup f = some ⟨oc, od, .func (PySem.W.fnOf name qual params body scope dV kV doc pm an cdv ct), osl⟩) (hcd : PySem.W.codeIn K cdv qual = true) (S : FnScope N ps scope)
  (len : ∀ vs H Q E, sp vs H Q E → vs.length = ps.length)
  (hbody : ∀ (A : Around) (outer : List Env) (s : Shared) (H : Hp) (vs : List V) (Q : VK) (E : XK), Room k (A.deeper (envOfC qual scope s.heap.objs.size f cdv)) → sp vs H Q E →
   ∃ t, PSs (cxOf CX P w K mg base N qual scope f cdv A outer s H E) body t ∧ t { nx := fun _ H' => Q .non H', rt := Q } (start N vs) H) :
  FnOk P w K mg base CX (k + 1) f (PySem.W.fnOf name qual params body scope dV kV doc pm an cdv ct) ps sp := by
 refine ⟨len, fun A outer s H args us vs Q E hr e0 hb r hsp => ?_⟩
 have hl := len _ _ _ _ hsp
 have KX : K.In s.heap := e0.mod.kin.keeps fun b o e => (e0.bs b o e).1
 have lim : s.heap.NoLimit := e0.mod.nolimit.keeps fun b o e => (e0.bs b o e).1
 have hkind : ∀ y ∈ ps.zip us, scope.names.lookup y.1 = some .local ∨ (scope.names.lookup y.1 = some .cell ∧ ((cellsFrom (s.heap.objs.size + 1) scope.names []).lookup y.1).isSome = true) := fun ⟨n, v⟩ hy => by
  rcases S.par n (List.of_mem_zip hy).1 with q | q
  ·exact .inl q
  ·exact .inr ⟨q, PySem.W.cellsFrom_some _ _ _ (.inl q)⟩
 refine codeAny_call_function hr.depth (KX _ _ lk) rfl S.co S.gen rfl (PySem.W.codeRec_of KX hcd) (hb _ _ _ _ ?_)
 refine wpAny_newFunctionEnv_cells S.kind hkind fun env he s1 x => ?_
 subst he
 refine ⟨lim.keeps x.toInCall.keep, codeAny_func ?_⟩
 obtain ⟨t, ht, hq⟩ := hbody A outer s H vs Q E (hr.deeper _) hsp
 have I : Inv (cxOf CX P w K mg base N qual scope f cdv A outer s H E) [] (start N vs) H s1 := inv_start S hr.hd e0 hl r x
 refine wpAny_mono (ht [] s1 (start N vs) H _ I hq) (fun fl s' hs => ?_) fun e s' hs => hs
 have fin : ∀ {σ' : St} {H' : Hp} {v : V} {u : Value}, Inv (cxOf CX P w K mg base N qual scope f cdv A outer s H E) [] σ' H' s' → RelV v u → Q v H' → CE outer P w H s Q u s' :=
  fun {σ' H' v u} J rv q => ⟨v, H', J.os, J.bare, J.base, J.hok, rv, q⟩
 cases fl with
 | ret u =>
  obtain ⟨v, σ', H', J, rv, q⟩ := hs
  exact fin J rv q
 | next =>
  obtain ⟨σ', H', J, q⟩ := hs
  exact fin (v := V.non) (u := Value.none) J rfl q
 | brk =>
  obtain ⟨_, _, _, q⟩ := hs
  exact False.elim q
 | cont =>
  obtain ⟨_, _, _, q⟩ := hs
  exact False.elim q
end L2
namespace L2
open PySem PySem.Spec PyProof.Rows
section
variable {X : Cx} {x : Str} {p pos : Pos} {e : Expr} {es : List Expr} {t : TA} {id T : String} {r : List V → Hp → VK → Prop}
def tCB (r : List V → Hp → VK → Prop) (t : TA) : TE := fun σ H Q => t σ H fun vs H1 => r vs H1 Q
theorem pe_callB (hc : CallR X (.builtin id) r) (hg : Gl X x) (hm : X.mg x = none) (hv : bootBuiltins x = some (.builtin id)) (ha : PA X (e :: es) t) (hn : x ≠ "__name__" := by decide) (hdb : (x == ("__debug__" : Str)) = false := by decide)
  (he : starEach (e :: es) X.env = (false, eval e X.env) :: starEach es X.env := by rfl) (hpl : (backTo pos (starEach es X.env)).any (·.1) = false := by rfl) : PE X (.Call (.Name x p) (e :: es) [] pos) (tCB r t) := by
 intro pins s σ H Q I h
 refine wpAny_Call_Name_kw (ld_blt I hg hm hv ?_ hn hdb)
 exact PyProof.Rows.callWith_builtin1 (thn (ha pos pins s σ H _ I h) fun us s1 ⟨vs, H1, I1, r1, q1⟩ => hc pins s1 σ H1 vs us Q I1 r1 q1) he hpl
theorem pe_callTy (hc : CallR X (.type T) r) (hg : Gl X x) (hm : X.mg x = none) (hv : bootBuiltins x = some (.type T)) (ha : PA X (e :: es) t) (hn : x ≠ "__name__" := by decide) (hdb : (x == ("__debug__" : Str)) = false := by decide)
  (he : starEach (e :: es) X.env = (false, eval e X.env) :: starEach es X.env := by rfl) (hpl : (backTo pos (starEach es X.env)).any (·.1) = false := by rfl) : PE X (.Call (.Name x p) (e :: es) [] pos) (tCB r t) := by
 intro pins s σ H Q I h
 refine wpAny_Call_Name_kw (ld_blt I hg hm hv ?_ hn hdb)
 exact PyProof.Rows.callWith_type1 (thn (ha pos pins s σ H _ I h) fun us s1 ⟨vs, H1, I1, r1, q1⟩ => hc pins s1 σ H1 vs us Q I1 r1 q1) he hpl
end
end L2
namespace HT
open PySem PyProof.Rows
section
variable {prog : Program} {w : World} {A : Around} {E : Value → Shared → Prop} {s : Shared}
def sIx (n d : Nat) : Option Int → Nat
 | none => d
 | some v => if v < 0 then (v + (n : Int)).toNat else min v.toNat n
theorem sIx_none (n d : Nat) : sIx n d none = d := rfl
end
end HT
namespace L2
open PySem PySem.Spec PyProof.Rows
abbrev TO := St → Hp → (Option Int → Hp → Prop) → Prop
def PO (X : Cx) (e : Option Expr) (t : TO) : Prop :=
 ∀ (pins : List (Addr × Obj)) (s : Shared) (σ : St) (H : Hp) (Q : Option Int → Hp → Prop), Inv X pins σ H s → t σ H Q →
  wpAny (model X.prog X.w) X.A (evalPart e X.env) (fun u s' => ∃ o H', Inv X pins σ H' s' ∧ IsPart u o ∧ Q o H') X.xe s
def tNoPart : TO := fun _ H Q => Q none H
def tPart (t : TE) : TO := fun σ H Q => t σ H fun x H1 => ∃ i, x = .int i ∧ Q (some i) H1
section
variable {X : Cx} {e : Expr} {te : TE} {lo hi : Option Expr} {tl th : TO} {pos p2 : Pos}
theorem po_none : PO X none tNoPart := by
 intro pins s σ H Q I h
 rw [evalPart_none]
 exact wpAny_pure ⟨none, H, I, .none, h⟩
theorem po_some (h : PE X e te) : PO X (some e) (tPart te) := by
 intro pins s σ H Q I hw
 rw [evalPart_some]
 refine thn (h pins s σ H _ I hw) fun u s1 ⟨x, H1, I1, r1, q1⟩ => ?_
 obtain ⟨i, rfl, q⟩ := q1
 obtain ⟨t, rfl⟩ := r1
 exact ⟨some i, H1, I1, .int i t, q⟩
def SlR (X : Cx) (r : V → Option Int → Option Int → Hp → VK → Prop) : Prop :=
 ∀ (pins : List (Addr × Obj)) (s : Shared) (σ : St) (H : Hp) (x : V) (v vl vu : Value) (lo hi : Option Int) (sl : Addr) (Q : VK), Inv X pins σ H s → RelV x v → s.heap.IsSliceOf sl vl vu .none → IsPart vl lo → IsPart vu hi → r x lo hi H Q →
  ∃ T id, typeLookup (.type T) "__getitem__" = pure (some (.builtin id)) ∧ s.TypeIs v T ∧ wpAny (model X.prog X.w) X.A (getItem v (.ref sl)) (EP X pins σ Q) X.xe s
def tSl (r : V → Option Int → Option Int → Hp → VK → Prop) (te : TE) (tl th : TO) : TE := fun σ H Q => te σ H fun x H1 => tl σ H1 fun l H2 => th σ H2 fun u H3 => r x l u H3 Q
theorem pe_slice {r : V → Option Int → Option Int → Hp → VK → Prop} (hr : SlR X r) (he : PE X e te) (hl : PO X lo tl) (hu : PO X hi th) : PE X (.Subscript e (.Slice lo hi none p2) pos) (tSl r te tl th) := by
 intro pins s σ H Q I h
 refine Subscript_ (thn (he pins s σ H _ I h) fun v s1 ⟨x, H1, I1, r1, q1⟩ => ?_)
 refine wpAny_Slice (thn (hl pins s1 σ H1 _ I1 q1) fun vl s2 ⟨l, H2, I2, pl, q2⟩ => thn (hu pins s2 σ H2 _ I2 q2) fun vu s3 ⟨u, H3, I3, pu, q3⟩ => ?_)
 rw [evalPart_none]
 refine wpAny_pure ?_
 have I4 : Inv X pins σ H3 { s3 with heap := s3.heap.push { cls := .type "slice", data := .fields #[vl, vu, .none] } } := I3.kept (t' := s3.toks) fun b ob q => Heap.get?_push_of_some _ q
 obtain ⟨T, id, hT, ht, hg⟩ := hr pins { s3 with heap := s3.heap.push { cls := .type "slice", data := .fields #[vl, vu, .none] } } σ H3 x v vl vu l u s3.heap.objs.size Q I4 r1 (Heap.IsSliceOf.new ..) pl pu q3
 show wpAny (model X.prog X.w) X.A (subscriptTail e (.Slice lo hi none p2) v (.ref s3.heap.objs.size)) (EP X pins σ Q) X.xe { s3 with heap := s3.heap.push { cls := .type "slice", data := .fields #[vl, vu, .none] } }
 exact tail_any (ops := [.ref s3.heap.objs.size, v]) ht hT hg (by with_unfolding_all rfl)
def cutV (xs : List V) (lo hi : Option Int) : List V := (xs.drop (HT.sIx xs.length 0 lo)).take (HT.sIx xs.length xs.length hi - HT.sIx xs.length 0 lo)
theorem cutV_length (xs : List V) (lo hi : Option Int) : (cutV xs lo hi).length ≤ xs.length := by
 unfold cutV
 rw [List.length_take, List.length_drop]
 lia
end
end L2
namespace L2
open PySem PySem.Spec PyProof.Rows
def ixN (n : Nat) (i : Int) : Option Nat := if 0 ≤ i then (if i < n then some i.toNat else none) else if -(n : Int) ≤ i then some (i + n).toNat else none
def atI {α : Type} (xs : List α) (i : Int) : Option α := (ixN xs.length i).bind fun j => xs[j]?
theorem ixN_seq {n : Nat} {i : Int} {j : Nat} (h : ixN n i = some j) : seqIndex? i n = some j ∧ j < n ∧ -(n : Int) ≤ i ∧ i < n := by
 unfold ixN at h
 by_cases h0 : 0 ≤ i
 ·rw [if_pos h0] at h
  by_cases h1 : i < n
  ·rw [if_pos h1] at h
   have e : i.toNat = j := Option.some.inj h
   exact ⟨by rw [seqIndex_of h0 h1, e], by lia, by lia, h1⟩
  ·rw [if_neg h1] at h; cases h
 ·rw [if_neg h0] at h
  by_cases h1 : -(n : Int) ≤ i
  ·rw [if_pos h1] at h
   have e : (i + n).toNat = j := Option.some.inj h
   exact ⟨by rw [seqIndex_neg (by lia) h1, e], by lia, h1, by lia⟩
  ·rw [if_neg h1] at h; cases h
theorem atI_get {α : Type} {xs : List α} {i : Int} {v : α} (h : atI xs i = some v) : ∃ j, seqIndex? i xs.length = some j ∧ xs[j]? = some v ∧ j < xs.length ∧ -(xs.length : Int) ≤ i ∧ i < xs.length := by
 unfold atI at h
 cases e : ixN xs.length i with
 | none => rw [e] at h; cases h
 | some j =>
  rw [e] at h
  obtain ⟨h1, h2, h3, h4⟩ := ixN_seq e
  exact ⟨j, h1, h, h2, h3, h4⟩
theorem atI_nat {α : Type} {xs : List α} {j : Nat} {v : α} (h : xs[j]? = some v) : atI xs (j : Int) = some v := by
 have hj : j < xs.length := (List.getElem?_eq_some_iff.mp h).1
 have e : ixN xs.length (j : Int) = some j := by
  unfold ixN
  rw [if_pos (by lia), if_pos (by lia)]; simp
 unfold atI; rw [e]; exact h
def PlainIx (b : Expr) : Prop := ∀ o i, subscripted b false o i = operate [o, i] (getItem o i)
def IxR (X : Cx) (r : R2) : Prop :=
 ∀ (value slice : Expr) (pins : List (Addr × Obj)) (s : Shared) (σ : St) (H : Hp) (x y : V) (v u : Value) (Q : VK), Inv X pins σ H s → RelV x v → RelV y u → r x y H Q →
  subscripted slice false v u = operate [v, u] (getItem v u) → wpAny (model X.prog X.w) X.A (subscriptTail value slice v u) (EP X pins σ Q) X.xe s
def MtR (X : Cx) (id : String) (r : V → List V → Hp → VK → Prop) : Prop :=
 ∀ (pins : List (Addr × Obj)) (s : Shared) (σ : St) (H : Hp) (x : V) (xs : List V) (v : Value) (us : List Value) (Q : VK), Inv X pins σ H s → RelV x v → Vals xs us → r x xs H Q →
  wpAny (model X.prog X.w) X.A (call (.builtin id) (v :: us)) (EP X pins σ Q) X.xe s
section
variable {X : Cx} {a b : Expr} {ta tb : TE} {pos : Pos}
theorem pe_ix {r : R2} (hr : IxR X r) (ha : PE X a ta) (hb : PE X b tb) (hs : PlainIx b) : PE X (.Subscript a b pos) (tOp r ta tb) := by
 intro pins s σ H Q I h
 exact Subscript_ (binT ha hb I h fun v u s2 x y H2 I2 rx ry q => hr a b pins s2 σ H2 x y v u Q I2 rx ry q (hs _ _))
def rIxL (K : PySem.W.Frag) : R2 := fun x y H Q => ∃ p xs i v, x = .ref p ∧ y = .int i ∧ SqL K H p xs ∧ atI xs i = some v ∧ Q v H
def rIxS : R2 := fun x y H Q => ∃ z i c, x = .str z ∧ y = .int i ∧ z.length ≤ sizeLine ∧ atI z.cps.toList i = some c ∧ Q (.str ⟨#[c]⟩) H
theorem ix_list : IxR X (rIxL X.K) := by
 intro value slice pins s σ H x y v u Q I rx ry h hs
 obtain ⟨p, xs, i, z, rfl, rfl, hq, he, q⟩ := h
 cases rx
 obtain ⟨t, rfl⟩ := ry
 obtain ⟨its, r, pl, hz⟩ := I.list hq
 obtain ⟨j, h1, h2, h3, h4, h5⟩ := atI_get he
 obtain ⟨w, ew, rw'⟩ := r.get h2
 have hl := r.length
 have hn := line63
 have fin : EP X pins σ Q w s := ⟨z, H, I, rw', q⟩
 by_cases h0 : 0 ≤ i
 ·have hj : i.toNat = j := by
   rw [seqIndex_of h0 h5] at h1
   exact Option.some.inj h1
  exact item_listR pl.isList h0 (by lia) (by rw [hj]; simpa using ew) fin hs
 ·have hj : (i + (its.toArray.size : Int)).toNat = j := by
   rw [seqIndex_neg (by lia) h4] at h1
   rw [List.size_toArray, ← hl]
   exact Option.some.inj h1
  exact subscriptTail_builtinR (x := w) pl.isList.typeIs slot_list_getitem.lookup
   (wpAny_getItem_list_neg (Q := fun r s' => r = w ∧ EP X pins σ Q r s') pl.isList (by lia) (by rw [List.size_toArray] <;> lia) (by lia) (by rw [hj]; simpa using ew) ⟨rfl, fin⟩) hs
theorem ix_str : IxR X rIxS := by
 intro value slice pins s σ H x y v u Q I rx ry h hs
 obtain ⟨z, i, c, rfl, rfl, hz, he, q⟩ := h
 obtain ⟨t, rfl⟩ := rx
 obtain ⟨t', rfl⟩ := ry
 obtain ⟨j, h1, h2, h3, h4, h5⟩ := atI_get he
 have hl : z.cps.toList.length = z.length := by simp [Str.length]
 rw [hl] at h1 h4 h5
 have hn := line63
 exact tail_any (typeIs_str s z t) slot_str_getitem.lookup (getItem_str (c := c) (by
  have e1 : decide (i < -(2 ^ 63 : Int)) = false := decide_eq_false (by lia)
  have e2 : decide (i ≥ 2 ^ 63) = false := decide_eq_false (by lia)
  rw [e1, e2, Bool.or_false]) (by rw [h1]; simpa using h2) ⟨.str ⟨#[c]⟩, H, I.tok _, ⟨_, rfl⟩, q⟩) hs
theorem mapSeq_set (its : List Value) (n j : Nat) (u : Value) : Obj.mapSeq (·.setIfInBounds j u) { cls := .type "list", data := .seq its.toArray n } = { cls := .type "list", data := .seq (its.set j u).toArray n } := by
 simp [Obj.mapSeq]
theorem Inv.lst {pins : List (Addr × Obj)} {σ : St} {H : Hp} {s : Shared} {p : Addr} {xs : List V} (I : Inv X pins σ H s) (h : H p = some (.lst xs)) :
  ∃ (its : List Value) (n : Nat), Vals xs its ∧ s.heap.get? p = some { cls := .type "list", data := .seq its.toArray n } ∧ xs.length ≤ sizeLine := by
 obtain ⟨z, its, n, r, e⟩ := I.hok p _ h
 exact ⟨its, n, r, e, z⟩
theorem Inv.lstUpd {pins : List (Addr × Obj)} {σ : St} {H : Hp} {s : Shared} {p : Addr} {xs ys : List V} {its its' : List Value} {n n' : Nat} {f : Obj → Obj} (I : Inv X pins σ H s) (h : H p = some (.lst xs))
  (ho : s.heap.get? p = some { cls := .type "list", data := .seq its.toArray n }) (hf : f { cls := .type "list", data := .seq its.toArray n } = { cls := .type "list", data := .seq its'.toArray n' }) (r : Vals ys its') (hz : ys.length ≤ sizeLine) (t : Nat) :
  Inv X pins σ (upd H p (.lst ys)) { s with heap := s.heap.update p f, toks := t } := by
 have e : (s.heap.update p f).get? p = some { cls := .type "list", data := .seq its'.toArray n' } := by
  rw [Heap.get?_update_self f ho (by rw [hf] <;> rfl), hf]
 refine I.write (x := p) (e := p) (by rw [h]; trivial) (.inl rfl) (fun b u hb q => (Heap.get?_update_other _ _ (Ne.symm hb)).trans q) ⟨_, e⟩ ?_
 exact ⟨hz, its', n', r, e⟩
def rSetL : V → V → V → Hp → (Hp → Prop) → Prop := fun o i v H Q => ∃ p xs k j, o = .ref p ∧ i = .int k ∧ H p = some (.lst xs) ∧ ixN xs.length k = some j ∧ Q (upd H p (.lst (xs.set j v)))
theorem set_list : PSet X rSetL := by
 intro pins s σ H o i v ov iv u Q I ro ri rv h
 obtain ⟨p, xs, k, j, rfl, rfl, hp, hj, q⟩ := h
 cases ro
 obtain ⟨t, rfl⟩ := ri
 obtain ⟨its, n, r, ho, hz⟩ := I.lst hp
 obtain ⟨h1, h2, h3, h4⟩ := ixN_seq hj
 have hl := r.length
 have hn := line63
 have I' : Inv X pins σ (upd H p (.lst (xs.set j v))) { s with heap := s.heap.update p (Obj.mapSeq (·.setIfInBounds j u)) } :=
  I.lstUpd hp ho (mapSeq_set its n j u) (r.set rv j) (by rw [List.length_set]; exact hz) s.toks
 by_cases h0 : 0 ≤ k
 ·have hk : k.toNat = j := by
   rw [seqIndex_of h0 h4] at h1
   exact Option.some.inj h1
  exact PySem.W.ki_setAt ho h0 (by lia) (by rw [List.size_toArray, ← hl]; exact h4) (by rw [hk]; exact ⟨_, I', q⟩)
 ·have hk : (k + (its.toArray.size : Int)).toNat = j := by
   rw [seqIndex_neg (by lia) h3] at h1
   rw [List.size_toArray, ← hl]
   exact Option.some.inj h1
  exact PySem.W.ki_setBack ho (by lia) (by rw [List.size_toArray, ← hl]; exact h3) (by lia) (by rw [hk]; exact ⟨_, I', q⟩)
theorem slice_bounds (lo hi : Option Int) (n : Nat) : (sliceBounds lo hi none n).1 = ((HT.sIx n 0 lo : Nat) : Int) ∧ (sliceBounds lo hi none n).2.1 = ((HT.sIx n n hi : Nat) : Int) ∧ (sliceBounds lo hi none n).2.2 = 1 := by
 refine ⟨?_, ?_, rfl⟩
 ·cases lo with
  | none => simp [sliceBounds, HT.sIx]
  | some i =>
   simp only [sliceBounds, HT.sIx, Option.getD_none, show (1 : Int) > 0 by decide, if_true]
   by_cases h : i < 0
   ·simp only [h, if_true] <;> lia
   ·simp only [h, if_false] <;> lia
 ·cases hi with
  | none => simp [sliceBounds, HT.sIx]
  | some i =>
   simp only [sliceBounds, HT.sIx, Option.getD_none, show (1 : Int) > 0 by decide, if_true]
   by_cases h : i < 0
   ·simp only [h, if_true] <;> lia
   ·simp only [h, if_false] <;> lia
theorem slicePick_cut (its : List Value) (lo hi : Option Int) : slicePick its.toArray lo hi none = ((its.drop (HT.sIx its.length 0 lo)).take (HT.sIx its.length its.length hi - HT.sIx its.length 0 lo)).toArray := by
 obtain ⟨h1, h2, h3⟩ := slice_bounds lo hi its.toArray.size
 unfold slicePick
 rw [h1, h2, h3]
 simp only [sliceRange_one, pick_run, List.size_toArray] <;> rfl
def rSlL (K : PySem.W.Frag) : V → Option Int → Option Int → Hp → VK → Prop := fun x lo hi H Q => ∃ a xs, x = .ref a ∧ SqL K H a xs ∧ ∀ p, H p = none → Q (.ref p) (upd H p (.lst (cutV xs lo hi)))
theorem sl_list : SlR X (rSlL X.K) := by
 intro pins s σ H x v vl vu lo hi sl Q I rx hs pl pu h
 obtain ⟨a, xs, rfl, hx, q⟩ := h
 cases rx
 obtain ⟨its, r, ht, hz⟩ := I.list hx
 have hlen := r.length
 refine ⟨"list", _, slot_list_getitem.lookup, ht.isList.typeIs, ?_⟩
 refine wpAny_getItem_list_slice ht.isList hs pl pu .none (by simp) ?_ (by rw [List.size_toArray] <;> lia)
 rw [slicePick_cut, ← hlen]
 refine ⟨.ref s.heap.objs.size, _, I.laid (t' := s.toks) (o := .lst (cutV xs lo hi)) (fun b ob q => Heap.get?_push_of_some _ q) (Nat.le_refl _) ?_, rfl, q _ (I.hok.fresh (Nat.le_refl _))⟩
 exact ⟨Nat.le_trans (cutV_length xs lo hi) hz, _, 0, (r.drop (HT.sIx xs.length 0 lo)).take (HT.sIx xs.length xs.length hi - HT.sIx xs.length 0 lo), Heap.get?_push_size _ rfl⟩
def flatV : V → Bool
 | .non => true
 | .bl _ => true
 | .int _ => true
 | .str _ => true
 | _ => false
def eqV : V → V → Bool
 | .non, .non => true
 | .bl a, .bl b => a == b
 | .bl a, .int b => (if a then 1 else 0) == b
 | .int a, .bl b => a == (if b then 1 else 0)
 | .int a, .int b => a == b
 | .str a, .str b => a == b
 | _, _ => false
theorem eqAt_V {A : Around} {s : Shared} {y x : V} {u v : Value} (ry : RelV y u) (rx : RelV x v) (fy : flatV y = true) (fx : flatV x = true) : SeqAt.EqAt A s u v (eqV y x) := by
 cases y with
 | non =>
  cases ry
  cases x with
  | non => cases rx; exact SeqAt.EqAt.same _
  | bl b => cases rx; exact SeqAt.EqAt.none_bool b
  | int b => obtain ⟨t, rfl⟩ := rx; exact SeqAt.EqAt.none_int b t
  | str b => obtain ⟨t, rfl⟩ := rx; exact SeqAt.EqAt.none_str b t
  | _ => exact absurd (show false = true from fx) Bool.false_ne_true
 | bl a =>
  cases ry
  cases x with
  | non => cases rx; exact SeqAt.EqAt.bool_none a
  | bl b => cases rx; exact SeqAt.EqAt.bool_bool a b
  | int b => obtain ⟨t, rfl⟩ := rx; exact SeqAt.EqAt.bool_int a b t
  | str b => obtain ⟨t, rfl⟩ := rx; exact SeqAt.EqAt.bool_str a b t
  | _ => exact absurd (show false = true from fx) Bool.false_ne_true
 | int a =>
  obtain ⟨t', rfl⟩ := ry
  cases x with
  | non => cases rx; exact SeqAt.EqAt.int_none a t'
  | bl b => cases rx; exact SeqAt.EqAt.int_bool a t' b
  | int b => obtain ⟨t, rfl⟩ := rx; exact SeqAt.EqAt.int_int a t' b t
  | str b => obtain ⟨t, rfl⟩ := rx; exact SeqAt.EqAt.int_str a t' b t
  | _ => exact absurd (show false = true from fx) Bool.false_ne_true
 | str a =>
  obtain ⟨t', rfl⟩ := ry
  cases x with
  | non => cases rx; exact SeqAt.EqAt.str_none a t'
  | bl b => cases rx; exact SeqAt.EqAt.str_bool a t' b
  | int b => obtain ⟨t, rfl⟩ := rx; exact SeqAt.EqAt.str_int a t' b t
  | str b => obtain ⟨t, rfl⟩ := rx; exact SeqAt.EqAt.str_str a t' b t
  | _ => exact absurd (show false = true from fx) Bool.false_ne_true
 | _ => exact absurd (show false = true from fy) Bool.false_ne_true
def eqU (x : V) (u : Value) : Bool := match u with
 | .none => eqV .non x
 | .bool b => eqV (.bl b) x
 | .int i _ => eqV (.int i) x
 | .str z _ => eqV (.str z) x
 | _ => false
theorem eqU_of {x y : V} {u : Value} (r : RelV y u) (f : flatV y = true) : eqU x u = eqV y x := by
 cases y with
 | non => cases r; rfl
 | bl b => cases r; rfl
 | int i => obtain ⟨t, rfl⟩ := r; rfl
 | str z => obtain ⟨t, rfl⟩ := r; rfl
 | _ => exact absurd (show false = true from f) Bool.false_ne_true
theorem any_eqU {x : V} : ∀ {xs : List V} {us : List Value}, Vals xs us → xs.all flatV = true → us.any (eqU x) = xs.any fun y => eqV y x
 | _, _, .nil, _ => rfl
 | y :: xs, u :: us, .cons r t, f => by
  rw [List.all_cons, Bool.and_eq_true] at f
  rw [List.any_cons, List.any_cons, eqU_of r f.1, any_eqU t f.2]
theorem mem_eqAt {A : Around} {s : Shared} {x : V} {v : Value} (rx : RelV x v) (fx : flatV x = true) : ∀ {xs : List V} {us : List Value}, Vals xs us → xs.all flatV = true → ∀ u ∈ us, SeqAt.EqAt A s u v (eqU x u)
 | _, _, .nil, _ => fun u hu => by cases hu
 | y :: xs, u :: us, .cons r t, f => fun u' hu => by
  rw [List.all_cons, Bool.and_eq_true] at f
  rcases List.mem_cons.mp hu with rfl | hu
  ·rw [eqU_of r f.1]; exact eqAt_V r rx f.1 fx
  ·exact mem_eqAt rx fx t f.2 u' hu
def inV (x : V) (xs : List V) : Bool := xs.any fun y => eqV y x
def rIn (K : PySem.W.Frag) (neg : Bool) : R2 := fun x y H Q => ∃ p xs, y = .ref p ∧ (SqL K H p xs ∨ SqT K H p xs) ∧ flatV x = true ∧ xs.all flatV = true ∧ Q (.bl (if neg then !inV x xs else inV x xs)) H
theorem op_notIn_seq : OpR X (compareOp .NotIn) (rIn X.K true) := by
 intro pins s σ H x y v u Q I rx ry h
 obtain ⟨p, xs, rfl, hq, fx, fs, q⟩ := h
 cases ry
 rcases hq with hq | hq
 ·obtain ⟨its, r, pl, hz⟩ := I.list hq
  refine SeqAt.notIn_listAt (eqU x) pl.isList (fun w hw => mem_eqAt rx fx r fs w (by simpa using hw)) ⟨.bl _, H, I, rfl, ?_⟩
  rw [show its.toArray.any (eqU x) = its.any (eqU x) by simp, any_eqU r fs]
  exact q
 ·obtain ⟨its, r, pl, hz⟩ := I.tuple hq
  refine SeqAt.notIn_tupleAt (eqU x) pl (fun w hw => mem_eqAt rx fx r fs w (by simpa using hw)) ⟨.bl _, H, I, rfl, ?_⟩
  rw [show its.toArray.any (eqU x) = its.any (eqU x) by simp, any_eqU r fs]
  exact q
theorem call_len_seq : CallR X (.builtin "len") (fun xs H Q => ∃ p ys, xs = [.ref p] ∧ (SqL X.K H p ys ∨ SqT X.K H p ys) ∧ Q (.int ys.length) H) := by
 intro pins s σ H xs us Q I r h
 obtain ⟨p, ys, rfl, hq, q⟩ := h
 obtain ⟨u, rfl, rx⟩ := vals1 r
 cases rx
 have hn := line63
 rcases hq with hq | hq
 ·obtain ⟨its, r', pl, hz⟩ := I.list hq
  have hlen := r'.length
  exact Calls.call_len_list pl.isList (by simp only [List.size_toArray] <;> lia) ⟨.int ys.length, H, I.tok _, ⟨s.toks + 1, by rw [List.size_toArray, hlen]⟩, q⟩
 ·obtain ⟨its, r', pl, hz⟩ := I.tuple hq
  have hlen := r'.length
  exact len_tuple pl (by simp only [List.size_toArray] <;> lia) ⟨.int ys.length, H, I.tok _, ⟨s.toks + 1, by rw [List.size_toArray, hlen]⟩, q⟩
theorem call_len_str : CallR X (.builtin "len") (fun xs H Q => ∃ z, xs = [.str z] ∧ z.length ≤ sizeLine ∧ Q (.int z.length) H) := by
 intro pins s σ H xs us Q I r h
 obtain ⟨z, rfl, hz, q⟩ := h
 obtain ⟨u, rfl, t, rfl⟩ := vals1 r
 have hn := line63
 exact len_str (by lia) ⟨.int z.length, H, I.tok _, ⟨_, rfl⟩, q⟩
theorem call_list_of : CallR X (.type "list") (fun xs H Q => ∃ p ys, xs = [.ref p] ∧ (SqL X.K H p ys ∨ SqT X.K H p ys) ∧ ∀ l, H l = none → Q (.ref l) (upd H l (.lst ys))) := by
 intro pins s σ H xs us Q I r h
 obtain ⟨p, ys, rfl, hq, q⟩ := h
 obtain ⟨u, rfl, rx⟩ := vals1 r
 cases rx
 have fin : ∀ (its : List Value), Vals ys its → ys.length ≤ sizeLine → ∀ (h' : Heap) (c' : Nat), (∀ b o', s.heap.get? b = some o' → h'.get? b = some o') →
   h'.get? s.heap.objs.size = some { cls := .type "list", dict := none, data := .seq its.toArray c', slots := #[] } → EP X pins σ Q (.ref s.heap.objs.size) { s with heap := h' } := fun its r' hz h' c' kp e =>
  ⟨.ref s.heap.objs.size, _, I.laid (t' := s.toks) kp (Nat.le_refl _) (show ObjOk X.prog X.w _ h' _ (.lst ys) from ⟨hz, its, c', r', e⟩), rfl, q _ (I.hok.fresh (Nat.le_refl _))⟩
 rcases hq with hq | hq
 ·obtain ⟨its, r', pl, hz⟩ := I.list hq
  have hlen := r'.length
  obtain ⟨o, ho, hc, n, hd⟩ := pl.isList
  exact call_list_seq p (.inl rfl) ho hc hd (fun h' c' kp e => fin its r' hz h' c' kp e) (by simp only [List.size_toArray] <;> lia)
 ·obtain ⟨its, r', pl, hz⟩ := I.tuple hq
  have hlen := r'.length
  obtain ⟨o, ho, hc, n, hd⟩ := pl
  exact call_list_seq p (.inr rfl) ho hc hd (fun h' c' kp e => fin its r' hz h' c' kp e) (by simp only [List.size_toArray] <;> lia)
theorem call_tuple_of : CallR X (.type "tuple") (fun xs H Q => ∃ p ys, xs = [.ref p] ∧ ((SqL X.K H p ys ∧ ∀ l, H l = none → Q (.ref l) (upd H l (.tup ys))) ∨ (SqT X.K H p ys ∧ Q (.ref p) H))) := by
 intro pins s σ H xs us Q I r h
 obtain ⟨p, ys, rfl, h⟩ := h
 obtain ⟨u, rfl, rx⟩ := vals1 r
 cases rx
 rcases h with ⟨hq, q⟩ | ⟨hq, q⟩
 ·obtain ⟨its, r', pl, hz⟩ := I.list hq
  have hlen := r'.length
  refine call_tuple_list pl.isList (fun h' kp => ?_) (by simp only [List.size_toArray] <;> lia)
  have I1 : Inv X pins σ H { s with heap := h' } := I.kept (t' := s.toks) kp
  have I2 : Inv X pins σ (upd H h'.objs.size (.tup ys)) { s with heap := h'.push { cls := .type "tuple", data := .seq its.toArray } } :=
   I1.laid (t' := s.toks) (fun b o e => Heap.get?_push_of_some _ e) (Nat.le_refl _) (show ObjOk X.prog X.w _ _ _ (.tup ys) from ⟨hz, its, r', IsTup.new _ _⟩)
  exact ⟨.ref h'.objs.size, _, I2, rfl, q _ (I1.hok.fresh (Nat.le_refl _))⟩
 ·obtain ⟨its, r', pl, hz⟩ := I.tuple hq
  exact call_tuple_same pl ⟨.ref p, H, I, rfl, q⟩
def tyV (K : PySem.W.Frag) (T : String) (x : V) (H : Hp) : Prop := match x with
 | .str _ => T = "str"
 | .int _ => T = "int"
 | .ref p => (T = "list" ∧ ∃ xs, SqL K H p xs) ∨ (T = "tuple" ∧ ∃ o, K.lookup p = some o ∧ o.cls = .type "tuple" ∧ o.dict = none) ∨
   (T = "dict" ∧ ((∃ kvs, H p = some (.dK kvs)) ∨ ∃ kvs, H p = some (.dT kvs))) ∨ (T = "set" ∧ ∃ S n, H p = some (.set S n))
 | _ => False
theorem tyV_is {pins : List (Addr × Obj)} {σ : St} {H : Hp} {s : Shared} {T : String} {x : V} {v : Value} (I : Inv X pins σ H s) (r : RelV x v) (ty : tyV X.K T x H) :
  s.TypeIs v T ∧ ∀ a, v = .ref a → ∃ ob, s.heap.get? a = some ob ∧ ob.dict = none := by
 cases x with
 | str z =>
  obtain ⟨t, rfl⟩ := r
  cases (show T = "str" from ty)
  exact ⟨typeIs_str s z t, fun _ e => nomatch e⟩
 | int i =>
  obtain ⟨t, rfl⟩ := r
  cases (show T = "int" from ty)
  exact ⟨typeIs_int s i t, fun _ e => nomatch e⟩
 | ref p =>
  cases r
  rcases ty with ⟨rfl, xs, hq⟩ | ⟨rfl, o, hk, hc, hd⟩ | ⟨rfl, hk⟩ | ⟨rfl, S, n, hk⟩
  ·obtain ⟨its, _, pl, _⟩ := I.list hq
   refine ⟨pl.isList.typeIs, fun a e => ?_⟩
   cases e
   obtain ⟨o, n, e, c, hd, _⟩ := pl
   exact ⟨o, e, hd⟩
  ·refine ⟨⟨o, I.kIn p o hk, hc⟩, fun a e => ?_⟩
   cases e
   exact ⟨o, I.kIn _ o hk, hd⟩
  ·have z : ∃ o, s.heap.get? p = some o ∧ o.ExactDict := by
    rcases hk with ⟨kvs, hk⟩ | ⟨kvs, hk⟩
    ·obtain ⟨_, _, _, _, o, _, _, e, ex, _⟩ := I.hok p _ hk
     exact ⟨o, e, ex⟩
    ·obtain ⟨_, _, _, _, o, _, _, e, ex, _⟩ := I.hok p _ hk
     exact ⟨o, e, ex⟩
   obtain ⟨o, e, ex⟩ := z
   refine ⟨⟨o, e, ex.1⟩, fun a e2 => ?_⟩
   cases e2
   exact ⟨o, e, ex.2.1⟩
  ·obtain ⟨o, _, _, _, e, ex, _⟩ := I.hok p _ hk
   refine ⟨⟨o, e, ex.1⟩, fun a e2 => ?_⟩
   cases e2
   exact ⟨o, e, ex.2.1⟩
 | _ => exact False.elim ty
def tBM (K : PySem.W.Frag) (T : String) (r : V → List V → Hp → VK → Prop) (to : TE) (t : TA) : TE := fun σ H Q => to σ H fun x H1 => tyV K T x H1 ∧ t σ H1 fun xs H2 => r x xs H2 Q
variable {o e : Expr} {es : List Expr} {to : TE} {t : TA} {name : Str} {apos cpos : Pos} {T id : String} {r : V → List V → Hp → VK → Prop}
theorem pe_bm (pa : PlainAttrs T) (slot : Slot T name id) (hty : typeOf (.builtin id) = pure (.type "method_descriptor")) (hm : MtR X id r) (ho : PE X o to) (ha : PA X (e :: es) t)
  (hbase : attributeBase o name X.env (eval o X.env) = eval o X.env := by rfl)
  (hfew : ((backTo cpos (starEach (e :: es) X.env)).all (fun x => !x.1) && (backToKw cpos (keywordEach [] X.env)).all (fun x => x.1.isSome)
   && decide ((e :: es).length + ([] : List Keyword).length + (if ([] : List Keyword).isEmpty then 0 else 1) < 30)) = true := by rfl)
  (hline : (apos.endLine == cpos.line) = true := by rfl) (hs : starEach (e :: es) X.env = (false, eval e X.env) :: starEach es X.env := by rfl) (hplain : (backTo cpos (starEach es X.env)).any (·.1) = false := by rfl) :
  PE X (.Call (.Attribute o name apos) (e :: es) [] cpos) (tBM X.K T r to t) := by
 intro pins s σ H Q I h
 refine wpAny_Call_method_late hbase hfew hline rfl (thn (ho pins s σ H _ I h) fun v s1 ⟨x, H1, I1, r1, ty, q1⟩ => ?_)
 obtain ⟨h1, h2⟩ := tyV_is I1 r1 ty
 refine ⟨T, id, pa, slot, hty, h1, h2, ?_⟩
 have hA := ha cpos pins s1 σ H1 _ I1 q1
 rw [hs] at hA ⊢
 refine Calls.callWith_builtin (by show (false || (backTo cpos (starEach es X.env)).any (·.1)) = false; rw [hplain] <;> rfl) (Calls.evalArgs_plain ?_)
 exact thn hA fun us s2 ⟨vs, H2, I2, r2, q2⟩ => hm pins s2 σ H2 x vs v us Q I2 r1 r2 q2
/- xs.append(e), list.index on a module's tuple .. are MtR facts of 06m -/
end
end L2
namespace L2
open PySem PySem.Spec PyProof.Rows
def MtM (X : Cx) (id : String) (r : V → List V → Hp → VK → Prop) : Prop :=
 ∀ (pins : List (Addr × Obj)) (s : Shared) (σ : St) (H : Hp) (x : V) (xs : List V) (v : Value) (us : List Value) (Q : VK), Inv X pins σ H s → RelV x v → Vals xs us → r x xs H Q →
  wpAny (model X.prog X.w) X.A (call (.builtin id) (v :: us)) (EP X pins σ Q) X.xe s
theorem Vals.one : ∀ {x : V} {us : List Value}, Vals [x] us → ∃ u, us = [u] ∧ RelV x u
 | _, _, .cons r .nil => ⟨_, rfl, r⟩
theorem Vals.two : ∀ {x y : V} {us : List Value}, Vals [x, y] us → ∃ u v, us = [u, v] ∧ RelV x u ∧ RelV y v
 | _, _, _, .cons r (.cons q .nil) => ⟨_, _, rfl, r, q⟩
section
variable {X : Cx} {pins : List (Addr × Obj)} {σ : St} {H : Hp} {s : Shared} {l b : Addr} {xs ys zs : List V}
theorem Inv.lset {its its' : List Value} {n : Nat} {f : Array Value → Array Value} {t' : Nat} (I : Inv X pins σ H s) (hH : H l = some (.lst xs))
  (e : s.heap.get? l = some { cls := .type "list", data := .seq its.toArray n }) (hf : f its.toArray = its'.toArray) (hv : Vals ys its') (hz : ys.length ≤ sizeLine) :
  Inv X pins σ (upd H l (.lst ys)) { s with heap := s.heap.update l (Obj.mapSeq f), toks := t' } := by
 have q := PySem.IsL.update e f
 rw [hf] at q
 refine I.write (x := l) (e := l) (by rw [hH]; exact trivial) (.inl rfl) (fun b' u hb hu => (Heap.get?_update_other s.heap (Obj.mapSeq f) (Ne.symm hb)).trans hu) ⟨_, q⟩ ?_
 exact ⟨hz, its', _, hv, q⟩
theorem Inv.lnew {its : List Value} {t' : Nat} (I : Inv X pins σ H s) (hv : Vals ys its) (hz : ys.length ≤ sizeLine) :
  Inv X pins σ (upd H s.heap.objs.size (.lst ys)) { s with heap := s.heap.push { cls := .type "list", data := .seq its.toArray }, toks := t' } :=
 I.laid (fun _ _ q => Heap.get?_push_of_some _ q) (Nat.le_refl _) ⟨hz, its, 0, hv, Heap.get?_push_size _ rfl⟩
theorem Inv.fresh (I : Inv X pins σ H s) : H s.heap.objs.size = none := I.hok.fresh (Nat.le_refl _)
theorem Inv.lstM (I : Inv X pins σ H s) (hH : H l = some (.lst xs)) : xs.length ≤ sizeLine ∧ ∃ (its : List Value) (n : Nat), Vals xs its ∧ xs.length = its.length ∧ s.heap.get? l = some { cls := .type "list", data := .seq its.toArray n } := by
 obtain ⟨z, its, n, r, e⟩ := I.hok l _ hH
 exact ⟨z, its, n, r, r.length, e⟩
end
section
variable {X : Cx}
def rAppend : V → List V → Hp → VK → Prop := fun x vs H Q => ∃ l xs y, x = .ref l ∧ vs = [y] ∧ H l = some (.lst xs) ∧ xs.length < sizeLine ∧ Q .non (upd H l (.lst (xs ++ [y])))
theorem mt_append : MtM X "list.append" rAppend := by
 intro pins s σ H x vs v us Q I rx rv h
 obtain ⟨l, xs, y, rfl, rfl, hH, hz, q⟩ := h
 cases rx
 obtain ⟨u, rfl, ru⟩ := rv.one
 obtain ⟨z, its, n, r, hl, e⟩ := I.lstM hH
 refine call_meets F.slot_list_append ⟨_, e, rfl⟩ F.entry_list_append (F.args_list_append_2 _ _) (PySem.list_append l its.toArray n u (by rw [List.size_toArray]; lia)) ⟨e, ?_⟩
 refine ⟨.non, _, I.lset (its' := its ++ [u]) hH e (by simp) (r.append (.cons ru .nil)) ?_, rfl, q⟩
 rw [List.length_append, List.length_singleton]
 lia
def rCat : R2 := fun x y H Q => ∃ l b xs zs, x = .ref l ∧ y = .ref b ∧ H l = some (.lst xs) ∧ H b = some (.lst zs) ∧ xs.length + zs.length ≤ sizeLine ∧ ∀ p, H p = none → Q (.ref p) (upd H p (.lst (xs ++ zs)))
theorem op_cat : OpR X (binaryOp .Add) rCat := by
 intro pins s σ H x y v u Q I rx ry h
 obtain ⟨l, b, xs, zs, rfl, rfl, hH, hB, hz, q⟩ := h
 cases rx
 cases ry
 obtain ⟨z, its, n, r, hl, e⟩ := I.lstM hH
 obtain ⟨z2, its2, n2, r2, hl2, e2⟩ := I.lstM hB
 refine PySem.P.add_list e e2 ?_ (by rw [List.size_toArray, List.size_toArray]; lia)
 have ea : its.toArray ++ its2.toArray = (its ++ its2).toArray := by simp
 rw [ea]
 exact ⟨.ref _, _, I.lnew (t' := s.toks) (r.append r2) (by rw [List.length_append]; lia), rfl, q _ I.fresh⟩
end
end L2
namespace Att
open PySem PySem.W PySem.Calls PyProof.Rows
theorem ints_of_wellAll {P : Params} {h : Heap} : ∀ (ns : List Int) (vs : List Value), WellAll P h vs (ns.map WData.int) → IntsAre vs ns := by
 intro ns
 induction ns with
 | nil =>
  intro vs w
  rw [List.map_nil] at w
  cases w
  exact .nil
 | cons n ns ih =>
  intro vs w
  rw [List.map_cons] at w
  cases w with
  | cons a b =>
   cases a
   exact .cons _ _ (ih _ b)
theorem script_of {l : OpenLaw} {n : Nat} (hn : l.most = some n) {P : Params} {h : Heap} {args : List WData} {vals : List Value}
  (hpre : l.row.toRowW.claim.pre args = true) (hwl : WellAll P h vals args) :
  ∃ a vs ns, vals = [Value.ref a] ∧ args = [WData.list (ns.map WData.int)] ∧ h.get? a = some { cls := .type "list", data := .seq vs.toArray } ∧ IntsAre vs ns ∧ ns.length ≤ n := by
 have hsh : WShape.hasAll [] args [.list .int] = true := (pre_splitW hpre).1
 have hc : l.pre.holds [] { args := args } = true := (pre_splitW hpre).2
 obtain ⟨d, r, rfl, h1, h2⟩ := hasAllW_cons hsh
 obtain rfl := hasAllW_nil h2
 obtain ⟨xs, rfl, h3⟩ := hasW_list h1
 obtain ⟨ns, rfl⟩ := items_int h3
 have hlen : ns.length ≤ n := by
  unfold OpenLaw.pre at hc
  have h4 : (WTm.not (.lt (.lit (.int (n : Int))) (.len (.arg 0)))).holds [] { args := [.list (ns.map .int)] } = true := by
   have h4 := (holds_andW hc).1
   rw [hn] at h4
   exact h4
  have h5 := condW_of h4 (w_not (w_lt w_lit (w_len_list (w_arg rfl))))
  rw [List.length_map] at h5
  refine Nat.le_of_not_lt fun q => ?_
  have q' : (n : Int) < ((ns.length : Nat) : Int) := by lia
  first
   | (rw [decide_eq_true q'] at h5; exact absurd h5 (by decide))
   | (simp at h5; lia)
 cases hwl with
 | cons w1 w2 =>
  cases w2
  cases w1 with
  | list ho hall => exact ⟨_, _, ns, rfl, rfl, ho, ints_of_wellAll ns _ hall, hlen⟩
theorem post_true (l : OpenLaw) (args : List WData) : l.row.toRowW.claim.post args (.bool true) args = true :=
 postW_of (r := l.row.toRowW) (X := (true == true))
  (show WShape.has [] (.bool true) .bool = true by first | rfl | decide | simp [WShape.has, WShape.arms, WShape.armsAll])
  (show (WTm.eq .res (.lit (.bool true))).value [] { args := args, res := some (.bool true), after := args } = some (.bool (true == true)) from w_eq_bool (w_res rfl) w_lit) rfl
theorem attach_call {l : OpenLaw} {n : Nat} {q : Program} {loose : List Str} {XP : (Str → Option Value) → Heap → Prop} {YP : World → Heap → Prop} {d : DefRec}
  (hn : l.most = some n) (hdf : d.params.defaults = [])
  (call : ∀ (w : World) (s₀ s₁ : Shared) (mg mb : Str → Option Value) (fa : Addr) (o : Obj) (pm cd doc : Value) (a : Addr) (vs : List Value) (ns : List Int),
   Ground q loose [] XP w s₀ mg mb s₁.heap → YP w s₁.heap →
   s₁.heap.get? fa = some o → o.data = .func (docDef d.name d.params d.body d.scope pm cd doc) → s₁.heap.CodeRec cd d.name → mg d.name = some (.ref fa) →
   s₁.heap.get? a = some { cls := .type "list", data := .seq vs.toArray } → IntsAre vs ns → ns.length ≤ n → s₁.gens = #[] →
   codeAny (model l.prog w) callerA (.call (.ref fa) ⟨[.ref a], []⟩) (fun r s' => r = .ok (.ret (.bool true)) ∧ OldK s₁.heap s'.heap ∧ s'.os = s₁.os ∧ AllBare s'.gens) s₁) :
  WalkO q loose XP YP l.row.toRowW d [] (fun f vs => PySem.call f vs) := by
 intro w s₀ s₁ mg mb G Y fa o pm cd doc dV kV ho hd hcd hD hmg hg args vals as hpre hlay hrd hwl hlo
 obtain rfl : dV = .none := Dflts.none hD hdf
 obtain rfl : kV = .none := Dflts.noKw hD
 obtain ⟨a, vs, ns, rfl, rfl, hobj, hints, hlen⟩ := script_of hn hpre hwl
 refine enter_call (codeAny_mono (call w s₀ s₁ mg mb fa o pm cd doc a vs ns G Y ho (fd_plain hd) hcd hmg hobj hints hlen hg) fun r s' hq => ?_)
 obtain ⟨rfl, h2, h3, h4⟩ := hq
 exact ⟨.inl ⟨.bool true, .bool true, [], rfl, fun _ => rfl, .bool true, post_true l _, fun _ => ⟨List.Pairwise.nil, fun _ hm => (nomatch hm)⟩⟩, h2, h3, h4⟩
end Att
namespace L2
open PySem PySem.Spec PyProof.Rows
theorem vals_ints : ∀ {vs : List Value} {ns : List Int}, IntsAre vs ns → Vals (ns.map V.int) vs
 | _, _, .nil => .nil
 | _, _, .cons n t h => .cons ⟨t, rfl⟩ (vals_ints h)
def Only (H : Hp) : Prop := ∀ b, H b = none ∨ ∃ o xs, H b = some (.frz o (.lst xs))
theorem law_call {P : Program} {w : World} {K : PySem.W.Frag} {mg mb : Str → Option Value} {CX : CXT} {k : Nat} {fa a : Addr} {fd : FuncData} {x : Str} {sp : Sp} {s₁ : Shared} {vs : List Value} {ns : List Int}
  (KX : K.In s₁.heap) (hns : s₁.heap.Ns mainGlobals mg) (hb : s₁.heap.Ns builtinsNs mb) (hbb : ∀ x : Str, x ≠ "__name__" → mb x = bootBuiltins x) (hlim : s₁.heap.NoLimit) (hg : s₁.gens = #[])
  (ha : s₁.heap.get? a = some { cls := .type "list", data := .seq vs.toArray }) (hi : IntsAre vs ns) (hl : ns.length ≤ sizeLine) (hr : Room k callerA)
  (F : ∀ base : Heap, K.In base → base.Ns mainGlobals mg → FnOk P w K mg base CX k fa fd [x] sp) (hbind : ∀ (s : Shared) (u : Value), BindsTo s fd ⟨[u], []⟩ [(x, u)])
  (hsp : ∀ H : Hp, Only H → SqL K H a (ns.map V.int) → sp [.ref a] H (fun v _ => v = .bl true) fun _ _ _ => False)
  (hCX : ∀ H e s', CX [] H s₁ (fun _ _ _ => False) e s' → False) :
  codeAny (model P w) callerA (.call (.ref fa) ⟨[.ref a], []⟩) (fun r s' => r = .ok (.ret (.bool true)) ∧ OldK s₁.heap s'.heap ∧ s'.os = s₁.os ∧ AllBare s'.gens) s₁ := by
 have rv := vals_ints hi
 have lenV := hi.length
 have core : ∀ H : Hp, Only H → SqL K H a (ns.map V.int) → HOk P w H s₁.heap → (∀ b, H b ≠ none → b = a) → (H a ≠ none → K.lookup a = none) →
   codeAny (model P w) callerA (.call (.ref fa) ⟨[.ref a], []⟩) (fun r s' => r = .ok (.ret (.bool true)) ∧ OldK s₁.heap s'.heap ∧ s'.os = s₁.os ∧ AllBare s'.gens) s₁ := by
  intro H hO hS hok hA hK
  have base_of : ∀ {b : Addr} {o : Obj}, s₁.heap.get? b = some o → H b = none → (hidT s₁.heap H).get? b = some o := fun e n => hidT_get e n
  have noA : ∀ {b : Addr} {o : Obj} {es : Array DictEntry} {ep : Nat}, s₁.heap.get? b = some o → o.data = .dict es ep → H b = none := fun {b o es ep} e d => by
   cases q : H b with
   | none => rfl
   | some u =>
    have e' : b = a := hA b (by rw [q]; simp)
    subst e'
    rw [ha] at e; cases e
    have d' : Data.seq vs.toArray _ = Data.dict es ep := d
    cases d'
  have nsK : ∀ {b : Addr} {m : Str → Option Value}, s₁.heap.Ns b m → (hidT s₁.heap H).Ns b m := fun {b m} ⟨o, es, ep, e, d, r⟩ => ⟨o, es, ep, base_of e (noA e d), d, r⟩
  have hKb : K.In (hidT s₁.heap H) := fun b o e => base_of (KX b o e) (by
   cases q : H b with
   | none => rfl
   | some u =>
    have e' : b = a := hA b (by rw [q]; simp)
    subst e'
    rw [hK (by rw [q]; simp)] at e; cases e)
  have hM : Mod K mg (hidT s₁.heap H) := ⟨hKb, nsK hns, ⟨mb, nsK hb, hbb⟩, let ⟨mc, h1, h2⟩ := hlim; ⟨mc, nsK h1, h2⟩⟩
  have e0 : Env0 P w K mg (hidT s₁.heap H) callerA [] s₁ H := ⟨rfl, hM, fun b o e => of_hidT e, Nat.le_of_eq (hidT_size _ _), trivial, fun b hb => absurd (show b ∈ ([] : List Addr) from hb) (by simp), hok, .of_eq hg⟩
  refine codeAny_mono ((F _ hKb (nsK hns)).run callerA [] s₁ H ⟨[.ref a], []⟩ [.ref a] [.ref a] _ _ hr e0 (hbind s₁ (.ref a)) (.cons rfl .nil) (hsp H hO hS)) fun r s' h => ?_
  cases r with
  | error e => exact (hCX H e s' h).elim
  | ok fl =>
   cases fl with
   | next => exact False.elim h
   | brk => exact False.elim h
   | cont => exact False.elim h
   | ret u =>
    obtain ⟨v, H', os, bare, un, hok', r', q⟩ := h
    have q' : v = .bl true := q
    subst q'
    obtain rfl : u = Value.bool true := r'
    refine ⟨rfl, OldK.of_keep fun b o e => ?_, os, bare⟩
    cases q : H b with
    | none => exact un.keep b o e q (by intro z; exact absurd (show b ∈ ([] : List Addr) from z) (by simp)) (by simp)
    | some u =>
     rcases hO b with z | ⟨ob, xs, z⟩
     ·rw [q] at z; cases z
     ·have z2 := un.frzs b ob _ z
      obtain ⟨e1, _⟩ := hok b _ z
      obtain ⟨e2, _⟩ := hok' b _ z2
      rw [e] at e1; cases e1
      exact e2
 cases hk : K.lookup a with
 | some o =>
  have e := KX a o hk
  rw [ha] at e
  cases e
  refine core (fun _ => none) (fun _ => .inl rfl) (.inr ⟨_, vs.toArray, _, hk, rfl, rfl, rfl, by rw [List.size_toArray, lenV]; exact hl, by simpa using rv⟩) (fun b u z => by have z' : (none : Option HO) = some u := z; cases z') (fun b z => absurd rfl z) fun z => absurd rfl z
 | none =>
  refine core (fun b => if b = a then some (.frz { cls := .type "list", data := .seq vs.toArray } (.lst (ns.map V.int))) else none) (fun b => ?_) (.inl (.inr ⟨{ cls := .type "list", data := .seq vs.toArray }, if_pos rfl⟩)) (fun b u z => ?_) (fun b z => ?_) fun _ => hk
  ·by_cases hb : b = a
   ·exact .inr ⟨_, _, if_pos hb⟩
   ·exact .inl (if_neg hb)
  ·by_cases hb : b = a
   ·have z' := (if_pos hb).symm.trans z
    cases z'
    subst hb
    exact ⟨ha, by rw [List.length_map]; exact hl, vs, _, rv, ha⟩
   ·have z' := (if_neg hb).symm.trans z
    cases z'
  ·by_cases hb : b = a
   ·exact hb
   ·exact absurd (if_neg hb) z
end L2
namespace L2
open PySem PySem.Spec PyProof.Rows
theorem walk_of {l : PySem.W.OpenLaw} {n k : Nat} {q : Program} {loose : List Str} {XP : (Str → Option Value) → Heap → Prop} {YP : World → Heap → Prop} {d : DefRec} {K : Params → PySem.W.Frag} {CX : World → CXT} {sp : World → Sp} {x : Str}
  (hn : l.most = some n) (hn2 : n ≤ sizeLine) (hdf : d.params.defaults = []) (hr : Room k callerA)
  (hY : ∀ (w : World) (h : Heap), YP w h → (K w.params).In h)
  (F : ∀ (w : World) (mg : Str → Option Value) (fa : Addr) (h : Heap), (K w.params).In h → h.Ns mainGlobals mg → mg d.name = some (.ref fa) →
   ∃ fd : FuncData, (∀ (s : Shared) (u : Value), BindsTo s fd ⟨[u], []⟩ [(x, u)]) ∧
    ∀ base : Heap, (K w.params).In base → base.Ns mainGlobals mg → FnOk l.prog w (K w.params) mg base (CX w) k fa fd [x] (sp w))
  (hsp : ∀ (w : World) (H : Hp) (a : Addr) (ns : List Int), ns.length ≤ n → Only H → SqL (K w.params) H a (ns.map V.int) → sp w [.ref a] H (fun v _ => v = .bl true) fun _ _ _ => False)
  (hCX : ∀ (w : World) (H : Hp) (s : Shared) (e : Value) (s' : Shared), CX w [] H s (fun _ _ _ => False) e s' → False) :
  PySem.W.WalkO q loose XP YP l.row.toRowW d [] (fun f vs => PySem.call f vs) := by
 refine Att.attach_call hn hdf fun w s₀ s₁ mg mb fa o pm cd doc a vs ns G Y ho hd hcd hmg hobj hints hlen hg => ?_
 have KX := hY w _ Y
 obtain ⟨fd, hb, hF⟩ := F w mg fa _ KX G.T.g hmg
 exact law_call KX G.T.g G.T.b G.T.builtins G.T.nolimit hg hobj hints (Nat.le_trans hlen hn2) hr hF hb (fun H hO hS => hsp w H a ns hlen hO hS) fun H e s' => hCX w H s₁ e s'
end L2
/- THE LAST THEOREM (shape; LID, My.* are yours):
   My.Adr: a structure of the addresses that your layer names (classes, functions); My.Txt K t: a structure (Prop) of the equations over K;
   My.txt_mk : {K} {implicit addresses ..} (e1 : nsIn K mainGlobals "law" = some (some (.ref f))) (e2 : K.lookup f = some ⟨oc, od, .func (fnOf "law" "law" params body scope dV kV doc pm an cdv ct), sl⟩) (e3 : codeIn K cdv "law" = true) .. : ∃ t, My.Txt K t
set_option maxRecDepth 100000 in
set_option maxHeartbeats 0 in
theorem PySem.Challenge.cw_LID_holds : PySem.Challenge.rw_LID.Holds := by
 w_on; o_law; k_head; (case hw => w_witness2)
 k_fill
 refine L2.walk_of (l := PySem.Challenge.rw_LID) (n := 63) (k := 40) (x := "script") (CX := fun w => ..) (sp := fun _ => My.sp_law) rfl (by decide) rfl ⟨rfl, by decide, by decide⟩ (fun w h Y => PySem.W.kIn_of Y) ?F ?S ?C
 case F =>
  intro w mg fa h KX G hmg
  have T : ∃ t, My.Txt (L2.KOf KX) t := by
   dsimp only [L2.KOf]                          -- K must stand as «<heap const> w.params» for k_is
   refine' My.txt_mk ?e1 ?e2 ?e3 ..
   (case e1 => PySem.W.k_is)                    -- in the order: a name -> its address -> its object -> its parts
   (case e2 => PySem.W.k_is)
   ..
  obtain ⟨t, T⟩ := T
  have e0 := hmg.symm.trans (PySem.W.mg_of KX G T.law)
  cases e0                                       -- fa is the law's own address
  exact ⟨_, fun s u => .of_eq rfl, fun base kb nb => My.law_fn T kb nb⟩     -- if «.of_eq rfl» comes too early: refine' ⟨_, ?b, fun base kb nb => My.law_fn T kb nb⟩; exact fun s u => .of_eq rfl
 case S => exact fun w H a ns hl hO hS => ..
 case C => exact ..
(the tactic k_is has no namespace: write k_is) -/
namespace L2
open PySem PySem.Spec PyProof.Rows
def defArgs (s : Stmt) : Arguments := match s with
 | .FunctionDef _ a _ _ _ _ _ _ _ _ => a
 | _ => { posonlyargs := [], args := [], vararg := none, kwonlyargs := [], kw_defaults := [], kwarg := none, defaults := [] }
def defBody (s : Stmt) : List Stmt := match s with
 | .FunctionDef _ _ b _ _ _ _ _ _ _ => b
 | _ => []
def defScope (s : Stmt) : Scope := match s with
 | .FunctionDef _ _ _ _ _ _ sc _ _ _ => sc
 | _ => { kind := .function, names := [], isGenerator := false, isCoroutine := false }
abbrev CX0 : CXT := fun _ _ _ _ _ _ => False
abbrev E0 : XK := fun _ _ _ => False
theorem pass0 {X : Cx} : Passes CX0 X E0 := fun _ _ _ _ _ _ _ h => h.elim
structure Fun (K : PySem.W.Frag) (x qual : Str) (st : Stmt) (f : Addr) (fd : FuncData) : Prop where
 ex : ∃ (oc : Value) (od : Option Addr) (kV doc pm : Value) (an : Option Addr) (cdv ct : Value) (osl : Array (Option Value)),
  fd = PySem.W.fnOf x qual (defArgs st) (defBody st) (defScope st) .none kV doc pm an cdv ct ∧ K.lookup f = some ⟨oc, od, .func fd, osl⟩ ∧ PySem.W.codeIn K cdv qual = true
 kp : PySem.W.keepIn K (.ref f) = true
section
variable {P : Program} {w : World} {K : PySem.W.Frag} {mg : Str → Option Value} {base : Heap}
theorem Fun.ok {x qual : Str} {st : Stmt} {f : Addr} {fd : FuncData} {N ps : List Str} {k : Nat} {sp : Sp} (F : Fun K x qual st f fd) (S : FnScope N ps (defScope st)) (len : ∀ vs H Q E, sp vs H Q E → vs.length = ps.length)
  (hbody : ∀ (cdv : Value) (A : Around) (outer : List Env) (s : Shared) (H : Hp) (vs : List V) (Q : VK) (E : XK), Room k (A.deeper (envOfC qual (defScope st) s.heap.objs.size f cdv)) → sp vs H Q E →
   ∃ t, PSs (cxOf CX0 P w K mg base N qual (defScope st) f cdv A outer s H E).nox (defBody st) t ∧ t { nx := fun _ H' => Q .non H', rt := Q } (start N vs) H) : FnOk P w K mg base CX0 (k + 1) f fd ps sp := by
 obtain ⟨oc, od, kV, doc, pm, an, cdv, ct, osl, rfl, lk, hcd⟩ := F.ex
 refine fn_of lk hcd S len fun A outer s H vs Q E hr hsp => ?_
 obtain ⟨t, h, q⟩ := hbody cdv A outer s H vs Q E hr hsp
 exact ⟨t, h.nox, q⟩
theorem Fun.binds {x qual : Str} {st : Stmt} {f : Addr} {fd : FuncData} {ps : List Str} (F : Fun K x qual st f fd)
  (h : ∀ (kV doc pm : Value) (an : Option Addr) (cdv ct : Value) (us : List Value), us.length = ps.length → bindArgs (PySem.W.fnOf x qual (defArgs st) (defBody st) (defScope st) .none kV doc pm an cdv ct) ⟨us, []⟩ = pure (ps.zip us)) : Binds K fd ps [] := by
 obtain ⟨oc, od, kV, doc, pm, an, cdv, ct, osl, rfl, lk, hcd⟩ := F.ex
 exact .all (h kV doc pm an cdv ct)
theorem fun_mk {x qual : Str} {st : Stmt} {f : Addr} {oc : Value} {od an : Option Addr} {osl : Array (Option Value)} {kV doc pm cdv ct : Value} (l : K.lookup f = some ⟨oc, od, .func (PySem.W.fnOf x qual (defArgs st) (defBody st) (defScope st) .none kV doc pm an cdv ct), osl⟩)
  (c : PySem.W.codeIn K cdv qual = true) (k : PySem.W.keepIn K (.ref f) = true) : Fun K x qual st f (PySem.W.fnOf x qual (defArgs st) (defBody st) (defScope st) .none kV doc pm an cdv ct) := ⟨⟨oc, od, kV, doc, pm, an, cdv, ct, osl, rfl, l, c⟩, k⟩
end
section
variable {X : Cx}
theorem pv (i : Nat) {x : Str} {pos : Pos} (hN : X.N[i]? = some x := by rfl) (hv : Vis X.env.scope x := by first | exact Or.inl rfl | exact Or.inr (Or.inl rfl) | exact Or.inr (Or.inr rfl)) (hd : (x == ("__debug__" : Str)) = false := by decide)
  (hcd : (x == ("__classdict__" : Str)) = false := by decide) : PE X (.Name x pos) (tVar i) := pe_var hN hv hd hcd
end
theorem iteF {A B : Prop} (h : B) : if false = true then A else B := by
 rw [if_neg Bool.false_ne_true]
 exact h
theorem iteT {A B : Prop} (h : A) : if true = true then A else B := by
 rw [if_pos rfl]
 exact h
theorem ite2 {c A B : Prop} [Decidable c] (h1 : c → A) (h2 : ¬ c → B) : if c then A else B := by
 by_cases h : c
 ·rw [if_pos h]
  exact h1 h
 ·rw [if_neg h]
  exact h2 h
def Same (H H' : Hp) : Prop := ∀ b o, H b = some o → H' b = some o
theorem Same.refl (H : Hp) : Same H H := fun _ _ h => h
theorem Same.trans {H H1 H2 : Hp} (a : Same H H1) (b : Same H1 H2) : Same H H2 := fun c o h => b c o (a c o h)
theorem Same.free {H H' : Hp} (e : Same H H') {l : Addr} (h : H' l = Option.none) : H l = Option.none := by
 cases q : H l with
 | none => rfl
 | some o =>
  rw [e l o q] at h
  cases h
theorem Same.seq {K : PySem.W.Frag} {H H' : Hp} {a : Addr} {xs : List V} (e : Same H H') (h : SqL K H a xs) : SqL K H' a xs := by
 rcases h with (h | ⟨o, h⟩) | h
 ·exact .inl (.inl (e _ _ h))
 ·exact .inl (.inr ⟨o, e _ _ h⟩)
 ·exact .inr h
end L2
namespace FgM
end FgM
namespace L2
open PySem PySem.Spec PyProof.Rows
theorem bt_list : bootBuiltins "list" = some (.type "list") := by decide +kernel
theorem bt_tuple : bootBuiltins "tuple" = some (.type "tuple") := by decide +kernel
theorem bt_int : bootBuiltins "int" = some (.type "int") := by decide +kernel
theorem bt_max : bootBuiltins "max" = some (.builtin "max") := by decide +kernel
theorem bt_min : bootBuiltins "min" = some (.builtin "min") := by decide +kernel
theorem bt_isinstance : bootBuiltins "isinstance" = some (.builtin "isinstance") := by decide +kernel
section
variable {X : Cx}
theorem pe_ty {x : Str} {n : String} {pos : Pos} (hg : Gl X x) (hm : X.mg x = none) (hv : bootBuiltins x = some (.type n)) (hn : x ≠ "__name__" := by decide) (hd : (x == ("__debug__" : Str)) = false := by decide) : PE X (.Name x pos) (tC (.ty n)) :=
 pe_bltn (v := .ty n) hg hm hv rfl hn hd
end
structure Has (P : Program) (w : World) (K : PySem.W.Frag) (mg : Str → Option Value) (base : Heap) (x : Str) (ps : List Str) (k : Nat) (sp : Sp) : Prop where
 ex : ∃ (f : Addr) (fd : FuncData), FnOk P w K mg base CX0 k f fd ps sp ∧ Binds K fd ps [] ∧ PySem.W.keepIn K (.ref f) = true ∧ mg x = some (.ref f)
section
variable {X : Cx} {x : Str} {ps : List Str} {j k : Nat} {sp : Sp} {e : Expr} {es : List Expr} {t : TA} {p pos : Pos}
theorem FnOk.room {P : Program} {w : World} {K : PySem.W.Frag} {mg : Str → Option Value} {base : Heap} {CX : CXT} {f : Addr} {fd : FuncData} (F : FnOk P w K mg base CX j f fd ps sp) (h : j ≤ k) : FnOk P w K mg base CX k f fd ps sp :=
 ⟨F.len, fun A outer s H args us vs Q E hr => F.run A outer s H args us vs Q E (hr.mono h)⟩
theorem pe_has (G : Has X.prog X.w X.K X.mg X.base x ps j sp) (hr : Room k X.A) (hg : Gl X x) (ha : PA X (e :: es) t) (hk : j ≤ k := by decide) (hdb : (x == ("__debug__" : Str)) = false := by decide)
  (he : starEach (e :: es) X.env = (false, eval e X.env) :: starEach es X.env := by rfl) (hpl : (backTo pos (starEach es X.env)).any (·.1) = false := by rfl) :
  PE X (.Call (.Name x p) (e :: es) [] pos) (tCall sp [] E0 t) := by
 obtain ⟨f, fd, F, b, kp, m⟩ := G.ex
 exact pe_call (F.room hk) hr hg m kp b .nil pass0 ha hdb he hpl
end
end L2
namespace HT
open PySem PyProof.Rows
end HT
namespace L2
open PySem PySem.Spec PyProof.Rows
mutual
inductive Dp (K : PySem.W.Frag) (H : Hp) : V → PyData → Prop
 | non : Dp K H .non .none
 | bl (b : Bool) : Dp K H (.bl b) (.bool b)
 | int (i : Int) : Dp K H (.int i) (.int i)
 | str (x : Str) : Dp K H (.str x) (.str x)
 | lst {a : Addr} {xs : List V} {ds : List PyData} : SqL K H a xs → DpAll K H xs ds → Dp K H (.ref a) (.list ds)
 | tup {a : Addr} {xs : List V} {ds : List PyData} : SqT K H a xs → DpAll K H xs ds → Dp K H (.ref a) (.tuple ds)
inductive DpAll (K : PySem.W.Frag) (H : Hp) : List V → List PyData → Prop
 | nil : DpAll K H [] []
 | cons {v : V} {vs : List V} {d : PyData} {ds : List PyData} : Dp K H v d → DpAll K H vs ds → DpAll K H (v :: vs) (d :: ds)
end
section
variable {X : Cx} {pins : List (Addr × Obj)} {σ : St} {H : Hp} {s : Shared}
mutual
theorem Dp.reads (I : Inv X pins σ H s) : ∀ {v : V} {d : PyData} {u : Value}, Dp X.K H v d → RelV v u → ∃ as, Reads s.heap u d as
 | _, _, u, .non, r => by
  obtain rfl : u = Value.none := r
  exact ⟨_, .none⟩
 | _, _, u, .bl b, r => by
  obtain rfl : u = Value.bool b := r
  exact ⟨_, .bool b⟩
 | _, _, _, .int i, ⟨t, e⟩ => by
  subst e
  exact ⟨_, .int i t⟩
 | _, _, _, .str x, ⟨t, e⟩ => by
  subst e
  exact ⟨_, .str x t⟩
 | _, _, u, @Dp.lst _ _ a xs ds hq hall, r => by
  obtain rfl : u = Value.ref a := r
  obtain ⟨its, rv, ⟨o, n, e, hc, _, hd⟩, _⟩ := I.list hq
  obtain ⟨as, ha⟩ := DpAll.reads I hall rv
  exact ⟨_, .list e hc hd (by simpa using ha)⟩
 | _, _, u, @Dp.tup _ _ a xs ds hq hall, r => by
  obtain rfl : u = Value.ref a := r
  obtain ⟨its, rv, ⟨o, e, hc, n, hd⟩, _⟩ := I.tuple hq
  obtain ⟨as, ha⟩ := DpAll.reads I hall rv
  exact ⟨_, .tuple e hc hd (by simpa using ha)⟩
theorem DpAll.reads (I : Inv X pins σ H s) : ∀ {vs : List V} {ds : List PyData} {us : List Value}, DpAll X.K H vs ds → Vals vs us → ∃ as, ReadsAll s.heap us ds as
 | _, _, _, .nil, .nil => ⟨_, .nil⟩
 | _, _, _, .cons h t, .cons r rs => by
  obtain ⟨as, ha⟩ := Dp.reads I h r
  obtain ⟨bs, hb⟩ := DpAll.reads I t rs
  exact ⟨_, .cons ha hb⟩
end
end
section
variable {X : Cx}
def rEqD (K : PySem.W.Frag) (neg : Bool) : R2 := fun x y H Q => ∃ d e, Dp K H x d ∧ Dp K H y e ∧ d.canLay0 = true ∧ e.canLay0 = true ∧ min d.depth e.depth ≤ 200 ∧ Q (.bl (if neg then !PyData.eqv d e else PyData.eqv d e)) H
theorem op_eqD (hu : X.A.units + 200 < cLine) : OpR X (compareOp .Eq) (rEqD X.K false) := by
 intro pins s σ H x y v u Q I rx ry h
 obtain ⟨d, e, hx, hy, h1, h2, hd, q⟩ := h
 obtain ⟨as, ra⟩ := hx.reads I rx
 obtain ⟨bs, rb⟩ := hy.reads I ry
 exact PySem.SeqAt.compareEq_reads ra rb h1 h2 (by lia) ⟨.bl _, H, I, rfl, q⟩
theorem hu_room {A : Around} {k : Nat} (hr : Room k A) : A.units + 200 < cLine := by
 have := hr.un
 lia
end
theorem Same.new {H : Hp} {p : Addr} {o : HO} (h : H p = none) : Same H (upd H p o) := fun b u q => by
 rw [upd_ne (ne_of_none q h)]
 exact q
theorem Same.upd_new {H H' : Hp} {p : Addr} {o : HO} (h : Same H H') (hp : H p = none) : Same H (upd H' p o) := fun b u q => by
 rw [upd_ne (ne_of_none q hp)]
 exact h b u q
end L2
namespace L2
open PySem PySem.Spec PyProof.Rows
end L2
namespace L2
open PySem PySem.Spec PyProof.Rows
theorem cut {X : Cx} {body : List Stmt} {D : Ends} {σ : St} {H : Hp} (n : Nat) (R : St → Hp → Prop) (h2 : ∃ u, PSs X (body.drop n) u ∧ ∀ σ' H', R σ' H' → u D σ' H')
  (h1 : ∀ u, PSs X (body.drop n) u → (∀ σ' H', R σ' H' → u D σ' H') → ∃ t, PSs X body t ∧ t D σ H) : ∃ t, PSs X body t ∧ t D σ H :=
 let ⟨u, a, b⟩ := h2
 h1 u a b
end L2
namespace L2
open PySem PySem.Spec PyProof.Rows
end L2
namespace L2
end L2
namespace L2
open PySem PySem.Spec PyProof.Rows
end L2
namespace Fg
open PySem L2 FgM
def Lets (t : Str) : Prop := t.cps.toList ≠ [] ∧ ∀ c ∈ t.cps.toList, 97 ≤ c ∧ c ≤ 122
def Let0 (t : Str) : Prop := ∀ c ∈ t.cps.toList, 97 ≤ c ∧ c ≤ 122
theorem app_cps (x y : Str) : (x ++ y).cps.toList = x.cps.toList ++ y.cps.toList := by
 show (x.cps ++ y.cps).toList = _
 simp
theorem Let0.ok {t : Str} (h : Let0 t) : PyData.strOk t = true := by
 unfold PyData.strOk
 rw [Array.all_eq_true_iff_forall_mem]
 intro c hc
 have := h c (by simpa using hc)
 exact decide_eq_true (by lia)
def ABC : Str := "abcdefghijklmnopqrstuvwxyz"
theorem abc_all : ∀ n : _root_.Fin 26, 97 ≤ ABC.cps.toList.getD n.val 0 ∧ ABC.cps.toList.getD n.val 0 ≤ 122 ∧ n.val < ABC.cps.toList.length := by decide
theorem abc_at {i : Int} (h0 : 0 ≤ i) (h1 : i < 26) : ∃ c, atI ABC.cps.toList i = some c ∧ 97 ≤ c ∧ c ≤ 122 := by
 obtain ⟨n, rfl⟩ := Int.eq_ofNat_of_zero_le h0
 obtain ⟨a, b, c⟩ := abc_all ⟨n, by lia⟩
 refine ⟨_, atI_nat (List.getElem?_eq_getElem c), ?_, ?_⟩
 ·rw [List.getD_eq_getElem?_getD, List.getElem?_eq_getElem c] at a
  exact a
 ·rw [List.getD_eq_getElem?_getD, List.getElem?_eq_getElem c] at b
  exact b
theorem ints_at {ns : List Int} {k : Int} (h0 : 0 ≤ k) (h : k < (ns.length : Int)) : ∃ v : Int, atI (ns.map V.int) k = some (.int v) := by
 obtain ⟨n, rfl⟩ := Int.eq_ofNat_of_zero_le h0
 have hn : n < ns.length := by lia
 exact ⟨ns[n], atI_nat (by rw [List.getElem?_map, List.getElem?_eq_getElem hn]; rfl)⟩
end Fg
namespace Fg
open PySem L2 FgM
def spLaw (K : PySem.W.Frag) : Sp := fun vs H Q _ => ∃ (a : Addr) (ns : List Int), vs = [.ref a] ∧ SqL K H a (ns.map V.int) ∧ ns.length ≤ 63 ∧ ∀ H', Q (.bl true) H'
theorem len1000 {n : Nat} (h : n ≤ 100000) : n ≤ sizeLine := Nat.le_trans h (by decide)
theorem len1000' {n : Nat} (h : n ≤ 100000) : n < sizeLine := Nat.lt_of_le_of_lt h (by decide)
end Fg
namespace Fg
open PySem L2 FgM
theorem app_len (x y : Str) : (x ++ y).length = x.length + y.length := by
 show (x.cps ++ y.cps).size = _
 rw [Array.size_append]
 rfl
end Fg
namespace Fg
open PySem L2 FgM
end Fg
namespace Fg
open PySem L2 FgM
end Fg
namespace Fg
open PySem L2 FgM
end Fg
namespace L2
open PySem PySem.Spec PyProof.Rows
end L2
namespace Fg
open PySem L2 FgM
def cs (x : Str) : List Nat := x.cps.toList
theorem cs_inj {x y : Str} (h : cs x = cs y) : x = y := by
 cases x with
 | mk a =>
  cases y with
  | mk b => exact congrArg Str.mk (Array.toList_inj.mp h)
end Fg
namespace L2
open PySem PySem.Spec PyProof.Rows
section
variable {P : Program} {w : World} {H : Hp} {h h' : Heap} {a : Addr} {o : HO}
theorem ObjOk.there (x : ObjOk P w H h a o) : ∃ ob, h.get? a = some ob := by
 cases o with
 | lst xs => obtain ⟨_, _, _, _, e⟩ := x; exact ⟨_, e⟩
 | tup xs => obtain ⟨_, _, _, ob, e, _⟩ := x; exact ⟨_, e⟩
 | dK kvs => obtain ⟨_, _, _, _, ob, _, _, e, _⟩ := x; exact ⟨_, e⟩
 | dT kvs => obtain ⟨_, _, _, _, ob, _, _, e, _⟩ := x; exact ⟨_, e⟩
 | set S n => obtain ⟨ob, _, _, _, e, _⟩ := x; exact ⟨_, e⟩
 | ins C dx fs => obtain ⟨_, _, _, e, _⟩ := x; exact ⟨_, e⟩
 | own y => obtain ⟨_, e⟩ := x; exact ⟨_, e⟩
 | xd fs => obtain ⟨_, ⟨_, _, _, e, _⟩, _⟩ := x; exact ⟨_, e⟩
 | rng lo hi => obtain ⟨_, _, _, e⟩ := x; exact ⟨_, e⟩
 | frz ob u => obtain ⟨e, _⟩ := x; exact ⟨_, e⟩
 | tbl ps => exact ⟨_, (show h.get? a = some _ from x)⟩
 | met f y => exact ⟨_, (show h.get? a = some _ from x)⟩
 | ext φ => obtain ⟨_, ⟨_, e⟩, _⟩ := x; exact ⟨_, e⟩
theorem HOk.freshN (x : HOk P w H h) (e : h.get? a = none) : H a = none := by
 cases q : H a with
 | none => rfl
 | some u =>
  obtain ⟨ob, e'⟩ := (x a u q).there
  rw [e] at e'
  cases e'
end
section
variable {X : Cx} {pins : List (Addr × Obj)} {σ : St} {H : Hp} {s : Shared} {h' : Heap}
theorem Inv.laidN {a : Addr} {o : HO} {t' : Nat} (I : Inv X pins σ H s) (k : ∀ b u, s.heap.get? b = some u → h'.get? b = some u) (hp : s.heap.get? a = none) (new : ObjOk X.prog X.w (upd H a o) h' a o) :
  Inv X pins σ (upd H a o) { s with heap := h', toks := t' } := by
 have hn := I.hok.freshN hp
 have ne : ∀ b u, s.heap.get? b = some u → b ≠ a := fun b u e z => by
  rw [z, hp] at e
  cases e
 refine I.un ⟨fun b u q _ _ _ => k b u q, fun b u q _ _ _ => ⟨u.slots, k b u q⟩, fun b u q n _ => by rw [upd_ne (ne b u q)]; exact n, fun b u q _ => ⟨u, k b u q⟩,
  fun b xs q => by rw [upd_ne (ne_of_none q hn)]; exact q, fun b u xs q => by rw [upd_ne (ne_of_none q hn)]; exact q, fun b ps q => ⟨#[], by rw [upd_ne (ne_of_none q hn), q]; simp⟩⟩ fun b u e => ?_
 by_cases hb : b = a
 ·subst hb
  rw [upd_same] at e
  cases e
  exact new
 ·rw [upd_ne hb] at e
  exact (I.hok b u e).stay (fun c v _ q => k c v q) (fun c q => by rw [upd_ne (ne_of_none q hn)]; exact q) fun c xs q => by rw [upd_ne (ne_of_none q hn)]; exact q
end
section
variable {X : Cx}
theorem boolsGet : ∀ {bs : List Bool} {us : List Value}, Vals (bs.map V.bl) us → ∀ (i : Nat) (v : Value), us[i]? = some v → ∃ b, bs[i]? = some b ∧ v = .bool b
 | [], _, .nil, i, v, e => by simp at e
 | b :: bs, _, .cons r t, 0, v, e => by
  obtain rfl : _ = Value.bool b := r
  simp at e
  exact ⟨b, rfl, e.symm⟩
 | b :: bs, _, .cons r t, i + 1, v, e => by
  obtain ⟨c, h1, h2⟩ := boolsGet t i v (by simpa using e)
  exact ⟨c, by simpa using h1, h2⟩
theorem all_range : ∀ (bs : List Bool), ((List.range bs.length).all fun i => (bs[i]?).getD true) = bs.all id := by
 intro bs
 rw [Bool.eq_iff_iff, List.all_eq_true, List.all_eq_true]
 constructor
 ·intro h b hb
  obtain ⟨i, hi, rfl⟩ := List.getElem_of_mem hb
  have := h i (List.mem_range.mpr hi)
  rw [List.getElem?_eq_getElem hi] at this
  exact this
 ·intro h i hi
  have hi' := List.mem_range.mp hi
  rw [List.getElem?_eq_getElem hi']
  exact h _ (List.getElem_mem hi')
theorem call_all (hc : X.calm = true) : CallR X (.builtin "all") (fun xs H Q => ∃ (p : Addr) (bs : List Bool), xs = [.ref p] ∧ SqL X.K H p (bs.map V.bl) ∧ Q (.bl (bs.all id)) H) := by
 intro pins s σ H xs us Q I r h
 obtain ⟨p, bs, rfl, hS, q⟩ := h
 obtain ⟨u, rfl, ru⟩ := Vals.one r
 cases ru
 obtain ⟨its, rv, pl, hz⟩ := I.list hS
 have hl := pl.isList
 have hlen : bs.length = its.length := by
  have := rv.length
  rw [List.length_map] at this
  exact this
 refine call_all_walk (wpAny_pyIter_list hl ⟨s.heap.objs.size, [s.heap.objs.size, p], [s.heap.objs.size], its.toArray.size, _, _, fun i => (bs[i]?).getD true, rfl,
  Walks.list (A := X.A.in1) (I.ok.hd hc) _ p (Nat.ne_of_lt pl.lt) its.toArray, ⟨⟨_, Heap.get?_push_size _ rfl, rfl, rfl⟩, hl.push _⟩, fun i v s' Q' E' hP hQ => ?_, fun h' tk hk => ?_⟩)
 ·obtain ⟨b, e, e2⟩ := boolsGet rv i v (by simpa using hP)
  subst e2
  simp only [e, Option.getD_some] at hQ
  exact wpAny_truthy_bool hQ
 ·rw [List.size_toArray, ← hlen, all_range]
  refine ⟨.bl _, H, I.kept (t' := tk) fun b o e => hk b o (fun hm => ?_) (Heap.get?_push_of_some _ e), rfl, q⟩
  rw [List.mem_singleton.mp hm] at e
  exact Nat.lt_irrefl _ (Heap.lt_size e)
theorem sl_str : SlR X (fun x lo hi H Q => ∃ z, x = .str z ∧ z.length ≤ sizeLine ∧ Q (.str (PySem.StrLaws.sliceText z lo hi)) H) := by
 intro pins s σ H x v vl vu lo hi sl Q I rx hs pl pu h
 obtain ⟨z, rfl, hz, q⟩ := h
 obtain ⟨t, rfl⟩ := rx
 refine ⟨"str", _, F.slot_str_getitem.lookup, typeIs_str s z t, ?_⟩
 have key : ∀ l u : Option (Int × Tok), s.heap.IsSlice sl l u none → l.map (·.1) = lo → u.map (·.1) = hi → wpAny (model X.prog X.w) X.A (getItem (.str z t) (.ref sl)) (EP X pins σ Q) X.xe s := by
  intro l u hsl el eu
  refine wpAny_getItem_str_slice hsl rfl ?_
  unfold sliceMade slicePicked
  rw [el, eu]
  unfold PySem.StrLaws.sliceText at q
  by_cases c : ((1 : Int) == 1 && (Builtin.Str.strSliceIndices lo hi 1 z.length).length == z.length) = true
  ·rw [if_pos c] at q
   rw [if_pos (show ((((none : Option (Int × Tok)).map (·.1)).getD 1 == 1) && (Builtin.Str.strSliceIndices lo hi (((none : Option (Int × Tok)).map (·.1)).getD 1) z.length).length == z.length) = true from c)]
   exact ⟨.str z, H, I, ⟨_, rfl⟩, q⟩
  ·rw [if_neg c] at q
   rw [if_neg (show ¬ ((((none : Option (Int × Tok)).map (·.1)).getD 1 == 1) && (Builtin.Str.strSliceIndices lo hi (((none : Option (Int × Tok)).map (·.1)).getD 1) z.length).length == z.length) = true from c)]
   refine ⟨?_, .str _, H, I.tok _, ⟨_, rfl⟩, q⟩
   show (((Builtin.Str.strSliceIndices lo hi 1 z.length).filterMap (z.cps[·]?)).toArray).size ≤ sizeLine
   rw [List.size_toArray]
   refine Nat.le_trans (List.length_filterMap_le _ _) (Nat.le_trans ?_ hz)
   refine sliceRange_length_le _ _ _ _ (fun _ => ?_) (fun z => absurd (by decide) z)
   cases lo with
   | none =>
    cases hi with
    | none => exact ⟨Int.le_refl 0, Int.le_refl _⟩
    | some j => exact ⟨Int.le_refl 0, by simp only [show (1 : Int) > 0 by decide, if_true]; lia⟩
   | some i =>
    cases hi with
    | none => exact ⟨by simp only [show (1 : Int) > 0 by decide, if_true]; lia, Int.le_refl _⟩
    | some j => exact ⟨by simp only [show (1 : Int) > 0 by decide, if_true]; lia, by simp only [show (1 : Int) > 0 by decide, if_true]; lia⟩
 cases pl with
 | none =>
  cases pu with
  | none => exact key none none hs rfl rfl
  | int j tj => exact key none (some (j, tj)) hs rfl rfl
 | int i ti =>
  cases pu with
  | none => exact key (some (i, ti)) none hs rfl rfl
  | int j tj => exact key (some (i, ti)) (some (j, tj)) hs rfl rfl
end
def azB (c : Nat) : Bool := decide (97 ≤ c) && decide (c ≤ 122)
theorem lt_one (a b : Nat) : decide (([a] : List Nat) < [b]) = decide (a < b) := by
 have h : (([a] : List Nat) < [b]) ↔ a < b := by
  constructor
  ·intro h
   cases h with
   | rel h => exact h
   | cons h => cases h
  ·intro h
   exact List.Lex.rel h
 exact decide_eq_decide.mpr h
section
variable {prog : Program} {w : World} {A : Around} {E : Value → Shared → Prop} {s : Shared}
theorem le_az {x y : Str} {t u : Tok} {Q : Value → Shared → Prop} (h : Q (.bool (!decide (y.cps.toList < x.cps.toList))) s) : wpAny (model prog w) A (compareOp .LtE (.str x t) (.str y u)) Q E s := PySem.P.le_str h
theorem ld_az {s₂ : Shared} {C : Addr} {m : Str → Option Value} {sc : Scope} {env : Env} {n : Str} {pos : Pos} {v : Value} {Q : Value → Shared → Prop} (x : InComp s₂ C m s) (hk : sc.kind = .function) (hl : sc.names.lookup n = some .local)
  (hv : m n = some v) (hd : (n == ("__debug__" : Str)) = false) (h : Q v s) : wpAny (model prog w) A (eval (.Name n pos) (compEnv sc C env)) Q E s := PySem.ldK x hk hl hv h hd
theorem elt_az {scope : Scope} {C : Addr} {env : Env} {m : Str → Option Value} {x : Str} {c : Nat} {u : Tok} {j j2 : Nat} {p1 p2 p3 pos : Pos} (hk : scope.kind = .function) (hx : scope.names.lookup x = some .local) (hd : (x == ("__debug__" : Str)) = false)
  (hn : s.heap.Ns C m) (hm : m x = some (.str ⟨#[c]⟩ u)) :
  wpAny (model prog w) A (eval (.Compare (.Constant (.str "a") j p1) [.LtE, .LtE] [.Name x p2, .Constant (.str "z") j2 p3] pos) (compEnv scope C env)) (fun r s' => r = .bool (azB c) ∧ Keeps s s') E s := by
 have I0 := (InComp.start hn).tok (s.toks + 1)
 have ea : ("a" : Str).cps.toList = [97] := by decide +kernel
 have ez : ("z" : Str).cps.toList = [122] := by decide +kernel
 have e1 : decide (([c] : List Nat) < [97]) = decide (c < 97) := lt_one c 97
 have e2 : decide (([122] : List Nat) < [c]) = decide (122 < c) := lt_one 122 c
 refine Compare_chain (Calls.Constant_str ?_)
 refine chain_link ?_
 refine ld_az I0 hk hx hm hd ?_
 refine le_az ?_
 rw [ea]
 show wpAny (model prog w) A (truthy (.bool (!decide (([c] : List Nat) < [97])))) _ _ _
 rw [e1]
 refine wpAny_truthy_bool ?_
 by_cases h1 : c < 97
 ·rw [decide_eq_true h1]
  refine ite_ff ⟨?_, I0.done⟩
  unfold azB
  rw [decide_eq_false (by lia : ¬ 97 ≤ c)]
  rfl
 ·rw [decide_eq_false h1]
  refine ite_tt ?_
  refine chain_last ?_
  refine Calls.Constant_str ?_
  refine le_az ?_
  rw [ez]
  refine ⟨?_, (I0.tok _).done⟩
  show Value.bool (!decide (([122] : List Nat) < [c])) = _
  rw [e2]
  unfold azB
  rw [decide_eq_true (by lia : 97 ≤ c)]
  by_cases h2 : c ≤ 122
  ·rw [decide_eq_true h2, decide_eq_false (by lia)]
   rfl
  ·rw [decide_eq_false h2, decide_eq_true (by lia)]
   rfl
end
theorem azVals : ∀ {cs : List Nat} {vs us : List Value}, (∀ (j : Nat) (v : Value), vs[j]? = some v → ∃ (c : Nat) (u : Tok), cs[j]? = some c ∧ v = Value.str ⟨#[c]⟩ u) → vs.length = cs.length → Paired (fun v r => ∃ c u, v = Value.str ⟨#[c]⟩ u ∧ r = Value.bool (azB c)) vs us →
  Vals (cs.map fun c => .bl (azB c)) us
 | [], [], _, _, _, .nil => .nil
 | [], v :: vs, _, _, h, _ => by simp at h
 | c :: cs, [], _, _, h, _ => by simp at h
 | c :: cs, v :: vs, _, hP, hl, .cons hr t => by
  obtain ⟨c', u', e1, e2⟩ := hP 0 v rfl
  obtain ⟨c2, u2, e3, e4⟩ := hr
  simp at e1
  subst e1
  rw [e2] at e3
  injection e3 with e5 _
  injection e5 with e6
  simp at e6
  subst e6
  refine .cons e4 (azVals (fun j v hv => ?_) (by simpa using hl) t)
  obtain ⟨c3, u3, f1, f2⟩ := hP (j + 1) v (by simpa using hv)
  exact ⟨c3, u3, by simpa using f1, f2⟩
section
variable {X : Cx} {iter : Expr} {te : TE} {scope : Scope} {x : Str} {px p1 p2 p3 p4 pos : Pos} {j j2 : Nat}
theorem pe_comp_az (hi : PE X iter te) (hc : X.calm = true) (hfree : ∀ y ∈ scope.names, y.2 ≠ .free) (hcell : ∀ y ∈ scope.names, y.2 ≠ .cell) (hk : scope.kind = .function)
  (hnames : ∀ y ∈ scope.names, y.2 = .local → scope.names.lookup y.1 = some .local) (hx : scope.names.lookup x = some .local) (hd : (x == ("__debug__" : Str)) = false) (hs : ∀ v, foldedSetIterable iter X.env v = pure v) :
  PE X (.ListComp (.Compare (.Constant (.str "a") j p1) [.LtE, .LtE] [.Name x p2, .Constant (.str "z") j2 p3] p4) [⟨.Name x px, iter, [], 0⟩] scope pos)
   (fun σ H Q => te σ H fun v H1 => ∃ z, v = .str z ∧ z.length ≤ sizeLine ∧ ∀ p, H1 p = none → Q (.ref p) (upd H1 p (.lst (z.cps.toList.map fun c => .bl (azB c))))) := by
 intro pins s σ H Q I h
 refine wpAny_ListComp_walk (fun _ => true) (fun v r => ∃ c u, v = Value.str ⟨#[c]⟩ u ∧ r = Value.bool (azB c)) hfree hcell hk hnames hx (thn (hi pins s σ H _ I h) fun v s1 ⟨xv, H1, I1, r1, q1⟩ => ?_) hs
 obtain ⟨z, rfl, hz, q⟩ := q1
 obtain ⟨t, rfl⟩ := r1
 refine wpAny_pyIter_str fun o St W hst => ⟨s1.heap.objs.size, [s1.heap.objs.size], [s1.heap.objs.size], z.cps.size, SignAt z, St, rfl, W X.A (I1.ok.hd hc), hz, hst, fun b hb => ?_, ⟨?_, ?_⟩, ?_⟩
 ·show b < (s1.heap.push o).objs.size
  rw [Heap.size_push, List.mem_singleton.mp hb]
  exact Nat.lt_succ_self _
 ·intro C i v s3 m3 E' hP hn hm _ _
  exact wpAny_pure ⟨rfl, (InComp.start hn).done⟩
 ·intro C i v s3 m3 E' hP hp hn hm _ _
  obtain ⟨c, u, _, e⟩ := hP
  subst e
  exact wpAny_mono (elt_az hk hx hd hn hm) (fun r s4 h4 => ⟨⟨c, u, rfl, h4.1⟩, h4.2⟩) fun _ _ e => e
 ·intro D h' tk ys vs hnew hlD hplD hlen hP hF hkp
  have hF' : Paired (fun v r => ∃ c u, v = Value.str ⟨#[c]⟩ u ∧ r = Value.bool (azB c)) vs ys.toList := by
   rw [List.filter_eq_self.mpr (fun _ _ => rfl)] at hF
   exact hF
  have hV := azVals (cs := z.cps.toList) (fun j v hv => by
   obtain ⟨c, u, e1, e2⟩ := hP j v hv
   exact ⟨c, u, by rw [Array.getElem?_toList]; exact e1, e2⟩) (by rw [hlen, Array.length_toList]) hF'
  have up : ∀ b ob, s1.heap.get? b = some ob → h'.get? b = some ob := fun b ob e => hkp b ob (fun hm => by
   rw [List.mem_singleton.mp hm] at e
   exact Nat.lt_irrefl _ (Heap.lt_size e)) (Heap.get?_push_of_some _ e)
  have hD : s1.heap.get? D = none := by
   cases e : s1.heap.get? D with
   | none => rfl
   | some ob =>
    rw [Heap.get?_push_of_some _ e] at hnew
    cases hnew
  obtain ⟨nD, eD⟩ := hplD
  refine ⟨.ref D, _, I1.laidN (a := D) (o := .lst (z.cps.toList.map fun c => .bl (azB c))) (t' := tk) up hD ⟨?_, ys.toList, nD, hV, by rw [Array.toArray_toList]; exact eD⟩, rfl, q D (I1.hok.freshN hD)⟩
  rw [List.length_map, Array.length_toList]
  exact hz
end
end L2
namespace L2
open PySem
theorem bt_all : bootBuiltins "all" = some (.builtin "all") := by decide +kernel
end L2
namespace Fg
open PySem L2 FgM
def tagB (z : Str) : Bool := decide (1 ≤ z.length) && decide (z.length ≤ 8) && z.cps.toList.all azB
def spIsTag : Sp := fun vs H Q _ => ∃ z : Str, vs = [.str z] ∧ z.length ≤ 100000 ∧ ∀ H', Same H H' → Q (.bl (tagB z)) H'
end Fg
namespace L2
open PySem PySem.Spec PyProof.Rows
end L2
namespace L2
open PySem PySem.Spec PyProof.Rows
section
variable {prog : Program} {w : World} {A : Around} {s : Shared} {R : Result → Shared → Prop}
abbrev no0 : Value → Shared → Prop := fun _ _ => False
theorem comp_loop0 {elt target iter : Expr} {scope : Scope} {pos : Pos} {it acc : Value} {env : Env} (I : Nat → Shared → Prop)
  (turn : ∀ n s, I n s → wpAny (model prog w) A (pyNext it) (fun r s1 => match r with
   | none => R (.ok .next) s1
   | some v => wpAny (model prog w) A (letOwnedTupleGo target it v) (fun _ s2 => wpAny (model prog w) A (assign target env v) (fun _ s3 => wpAny (model prog w) A (eval elt env) (fun x s4 =>
     wpAny (model prog w) A (call (.builtin "list.append") [acc, x]) (fun _ s5 => ∃ m, m < n ∧ I m s5) no0 s4) no0 s3) no0 s2) no0 s1) no0 s)
  (n : Nat) (h : I n s) : codeAny (model prog w) A (.compLoop (.ListComp elt [⟨target, iter, [], 0⟩] scope pos) 0 it acc env) R s := by
 refine codeAny_loop rfl I (fun n s hI => ?_) n h
 show wpAny _ _ ((compTurn (.ListComp elt [⟨target, iter, [], 0⟩] scope pos) 0 it acc env).onRaise (fun x => do noteFrame x env; theTreesLotGoes x)) _ _ s
 refine wpAny_noted ?_
 rw [compTurn_list1]
 refine wpAny_bind (wpAny_standAt (wpAny_bind (wpAny_mono (turn n s hI) (fun r s1 h1 => ?_) fun _ _ h' => h'.elim)))
 cases r with
 | none => exact wpAny_pure h1
 | some v =>
  refine wpAny_bind (wpAny_mono h1 (fun _ s2 h2 => ?_) fun _ _ h' => h'.elim)
  refine wpAny_bind (wpAny_mono h2 (fun _ s3 h3 => ?_) fun _ _ h' => h'.elim)
  refine wpAny_bind (wpAny_bind (wpAny_mono h3 (fun x s4 h4 => ?_) fun _ _ h' => h'.elim))
  exact wpAny_bind (wpAny_mono h4 (fun _ s5 h5 => wpAny_pure (wpAny_pure ⟨rfl, h5⟩)) fun _ _ h' => h'.elim)
end
def cxComp (X : Cx) (N : List Str) (scope : Scope) (cl : List (Str × Addr)) (C : Addr) (fp : List Addr) (s : Shared) (H : Hp) : Cx where
 prog := X.prog
 w := X.w
 K := X.K
 mg := X.mg
 base := X.base
 A := X.A
 N := N
 s₀ := s
 H₀ := H
 env := compEnvC scope cl C X.env
 outer := X.stack
 stack := X.stack
 ex := fp
 fn := fun _ => false
 calm := X.calm
 pn := []
 xe := no0
section
variable {X : Cx} {pins : List (Addr × Obj)} {σ : St} {H : Hp} {s : Shared}
theorem cxComp_ok {N : List Str} {scope : Scope} {cl : List (Str × Addr)} {C : Addr} {fp : List Addr} (I : Inv X pins σ H s) (hk : scope.kind = .function) (hC : s.heap.objs.size ≤ C) (hcl : ∀ x c, cl.lookup x = some c → X.env.cells.lookup x = some c)
  (hhas : ∀ x, ((compEnvC scope cl C X.env).kindOf x = some .cell ∨ (compEnvC scope cl C X.env).kindOf x = some .free) → ∃ c, cl.lookup x = some c)
  (hf : ∀ b ∈ fp, FpOk X pins H b) (hlt : ∀ b ∈ fp, b < s.heap.objs.size) : (cxComp X N scope cl C fp s H).Ok where
 mod := I.ok.mod
 kind := hk
 glob := I.ok.glob
 blt := I.ok.blt
 above := hC
 inj := fun x y c e1 e2 => I.ok.inj x y c (hcl x c e1) (hcl y c e2)
 has := hhas
 cab := fun x c e => by cases e
 hd := I.ok.hd
 frames := I.ok.frames
 stk := .inl rfl
 exf := fun b hb => ⟨fun z => absurd (Nat.lt_of_lt_of_le (hlt b hb) hC) (by rw [show b = C from z]; exact Nat.lt_irrefl _), fun x c e => (hf b hb).2.2.2.2.1 x c (hcl x c e)⟩
 bs := fun b o e => ⟨(I.bs b o e).1, (I.bs b o e).2⟩
 bsz := Nat.le_trans I.ok.bsz I.sz
 noex := fun b o e hb => by
  rcases (hf b hb).2.2.2.1 with z | z
  ·exact I.ok.noex b o e z
  ·exact absurd (Nat.lt_of_lt_of_le (Heap.lt_size e) (Nat.le_trans I.ok.bsz z)) (Nat.lt_irrefl _)
 exfs := fun b hb hm => by
  rcases List.mem_cons.mp (I.stkSub b hm) with z | z
  ·exact (hf b hb).2.1 z
  ·exact (hf b hb).2.2.1 z
 funs := I.stack
 frf := I.stkFree
def capσ (σ : St) (k : Nat) (cap : List (Str × Nat)) : St := List.replicate k none ++ cap.map fun p => (σ[p.2]?).getD none
theorem cxComp_start {scope : Scope} {cl : List (Str × Addr)} {fp : List Addr} {tn : List Str} {cap : List (Str × Nat)} {h1 : Heap} (I : Inv X pins σ H s) (hk : scope.kind = .function) (hcl : ∀ x c, cl.lookup x = some c → X.env.cells.lookup x = some c)
  (hhas : ∀ x, ((compEnvC scope cl s.heap.objs.size X.env).kindOf x = some .cell ∨ (compEnvC scope cl s.heap.objs.size X.env).kindOf x = some .free) → ∃ c, cl.lookup x = some c)
  (hf : ∀ b ∈ fp, FpOk X pins H b) (hlt : ∀ b ∈ fp, b < s.heap.objs.size)
  (hcap : ∀ p ∈ cap, X.N[p.2]? = some p.1 ∧ X.env.scope.names.lookup p.1 = some .cell ∧ ((compEnvC scope cl s.heap.objs.size X.env).kindOf p.1 = some .cell ∨ (compEnvC scope cl s.heap.objs.size X.env).kindOf p.1 = some .free))
  (hns : h1.Ns s.heap.objs.size (fun _ => none)) (hkp : ∀ b o, s.heap.get? b = some o → h1.get? b = some o) :
  Inv (cxComp X (tn ++ cap.map (·.1)) scope cl s.heap.objs.size fp s H) [] (capσ σ tn.length cap) H { s with heap := h1 } where
 ok := cxComp_ok I hk (Nat.le_refl _) hcl hhas hf hlt
 os := rfl
 bare := I.bare
 base := Un.kept hkp
 loc := by
  refine ⟨fun _ => none, hns, fun i x v e1 e2 hv => ?_⟩
  unfold capσ at e2
  by_cases hi : i < tn.length
  ·rw [List.getElem?_append_left (by rw [List.length_replicate]; exact hi), List.getElem?_replicate, if_pos hi] at e2
   cases e2
  ·have hN : (cap.map (·.1))[i - tn.length]? = some x := by
    have : (tn ++ cap.map (·.1))[i]? = some x := e1
    rw [List.getElem?_append_right (by lia)] at this
    exact this
   rw [List.getElem?_append_right (by rw [List.length_replicate]; lia), List.length_replicate, List.getElem?_map] at e2
   rw [List.getElem?_map] at hN
   cases hp : cap[i - tn.length]? with
   | none => rw [hp] at hN; cases hN
   | some p =>
    rw [hp] at hN e2
    have hx : p.1 = x := Option.some.inj hN
    have he : (σ[p.2]?).getD none = some v := Option.some.inj e2
    obtain ⟨c1, c2, c3⟩ := hcap p (List.mem_of_getElem? hp)
    subst hx
    have hs : σ[p.2]? = some (some v) := by
     cases q : σ[p.2]? with
     | none => rw [q] at he; cases he
     | some z => rw [q] at he; rw [show z = some v from he]
    obtain ⟨m, hn, hl⟩ := I.loc
    obtain ⟨u, r, l⟩ := hl p.2 p.1 v c1 hs (.inr (.inl c2))
    refine ⟨u, r, .inr ⟨c3, ?_⟩⟩
    obtain ⟨c, hc⟩ := hhas p.1 c3
    refine ⟨c, hc, ?_⟩
    rcases l with ⟨l1, _⟩ | ⟨_, c', l2, o, ho, hd⟩
    ·have : X.env.kindOf p.1 = some .cell := c2
     rw [this] at l1
     cases l1
    ·have : c = c' := Option.some.inj ((hcl p.1 c hc).symm.trans l2)
     subst this
     exact ⟨o, hkp _ _ ho, hd⟩
 cell := fun x c e => by
  obtain ⟨v, o, ho, hd⟩ := I.cell x c (hcl x c e)
  exact ⟨v, o, hkp _ _ ho, hd⟩
 free := I.hok.fresh (Nat.le_refl _)
 freeC := fun x c e => I.freeC x c (hcl x c e)
 pin := fun p hp => by cases hp
 hok := I.hok.kept hkp
 len := by
  unfold capσ
  show _ = (tn ++ cap.map (·.1)).length
  rw [List.length_append, List.length_append, List.length_replicate, List.length_map, List.length_map]
end
end L2
namespace L2
open PySem PySem.Spec PyProof.Rows
def tComp (wi : TI) (k : Nat) (cap : List (Str × Nat)) (g : TG) (te : TE) : TE := fun σ H Q => wi σ H fun J H1 => ∀ p, H1 p = none → ∃ W : Nat → Nat → List V → St → Hp → Prop, (∃ m, W 0 m [] (capσ σ k cap) (upd H1 p (.lst []))) ∧
 ∀ i m ys σc H2, W i m ys σc H2 → H2 p = some (.lst ys) ∧ ((J.stop i H2 ∧ Q (.ref p) H2) ∨ (J.go i H2 ∧ ∀ x H3, J.yld i H2 x H3 → g x σc H3 fun σ3 H4 => te σ3 H4 fun v H5 =>
  H5 p = some (.lst ys) ∧ ys.length < sizeLine ∧ ∃ m', m' < m ∧ W (i + 1) m' (ys ++ [v]) σ3 (upd H5 p (.lst (ys ++ [v])))))
section
variable {X : Cx} {elt iter tg : Expr} {scope : Scope} {pos : Pos} {wi : TI} {g : TG} {te : TE} {cl : List (Str × Addr)}
theorem comp_core0 {pins : List (Addr × Obj)} {σ : St} {H2 : Hp} {s2 : Shared} {it : Addr} {fp : List Addr} {tnn : Nat → Heap → Prop} {J : It} {R : Addr → Hp → Prop} {use : Option (Value → Sem Unit)} {Qp : Value → Shared → Prop} (tn : List Str) (cap : List (Str × Nat)) (hg : ∀ C fp s H, PG (cxComp X (tn ++ cap.map (·.1)) scope cl C fp s H) tg g) (he : ∀ C fp s H, PE (cxComp X (tn ++ cap.map (·.1)) scope cl C fp s H) elt te) (hc : X.calm = true) (hcell : ∀ y ∈ scope.names, y.2 ≠ .cell) (hk : scope.kind = .function) (hcl : ∀ x c, cl.lookup x = some c → X.env.cells.lookup x = some c) (hhas : ∀ C x, ((compEnvC scope cl C X.env).kindOf x = some .cell ∨ (compEnvC scope cl C X.env).kindOf x = some .free) → ∃ c, cl.lookup x = some c) (hcap : ∀ C, ∀ p ∈ cap, X.N[p.2]? = some p.1 ∧ X.env.scope.names.lookup p.1 = some .cell ∧ ((compEnvC scope cl C X.env).kindOf p.1 = some .cell ∨ (compEnvC scope cl C X.env).kindOf p.1 = some .free))
  (I2 : Inv X pins σ H2 s2) (T : Turn X.prog X.w X.K tg J fp it tnn) (st2 : tnn 0 s2.heap) (f2 : ∀ b ∈ fp, FpOk X pins H2 b) (q2 : ∀ p, H2 p = none → ∃ W : Nat → Nat → List V → St → Hp → Prop, (∃ m, W 0 m [] (capσ σ tn.length cap) (upd H2 p (.lst []))) ∧
 ∀ i m ys σc H2, W i m ys σc H2 → H2 p = some (.lst ys) ∧ ((J.stop i H2 ∧ R p H2) ∨ (J.go i H2 ∧ ∀ x H3, J.yld i H2 x H3 → g x σc H3 fun σ3 H4 => te σ3 H4 fun v H5 => H5 p = some (.lst ys) ∧ ys.length < sizeLine ∧ ∃ m', m' < m ∧ W (i + 1) m' (ys ++ [v]) σ3 (upd H5 p (.lst (ys ++ [v]))))))
  (hfin : ∀ (s3 : Shared) (H3 : Hp), Inv X pins σ H3 s3 → (∀ b ∈ fp, FpOk X pins H3 b) → ∀ (acc : Addr) (σ6 : St) (H6 : Hp) (s6 : Shared), Inv (cxComp X (tn ++ cap.map (·.1)) scope cl s3.heap.objs.size fp s3 H3) [] σ6 H6 s6 → R acc H6 → compPost (model X.prog X.w) X.A X.xe use Qp (.ref acc) s3.heap.objs.size (.ok .next) s6) :
  wpAny (model X.prog X.w) X.A (newList []) (fun acc s₃ => wpAny (model X.prog X.w) X.A (newFunctionEnv scope X.env.globals cl [] X.env.qual none Value.none (some X.env)) (fun cenv s₄ => codeAny (model X.prog X.w) X.A (Code.compStart (.ListComp elt [⟨tg, iter, [], 0⟩] scope pos) 0 (Value.ref it) acc { cenv with scope := relabel scope X.env }) (compPost (model X.prog X.w) X.A X.xe use Qp acc cenv.locals) s₄) X.xe s₃) X.xe s2 := by
 have fresh : H2 s2.heap.objs.size = none := I2.fresh
 obtain ⟨W, ⟨m0, w0⟩, turn⟩ := q2 s2.heap.objs.size fresh
 have lt2 : ∀ b ∈ fp, b < s2.heap.objs.size := fun b hb => by
  obtain ⟨o, ho, _⟩ := T.obj _ _ st2 b hb
  exact Heap.lt_size ho
 have I3 : Inv X pins σ (upd H2 s2.heap.objs.size (.lst [])) { s2 with heap := s2.heap.push { cls := .type "list", data := .seq ([] : List Value).toArray } } := I2.lnew (its := []) (t' := s2.toks) .nil (Nat.zero_le _)
 refine wpAny_newObj_type (wpAny_newFunctionEnv hcell (by intro y hy; simp at hy) (fun h1 hns1 hsb1 => ?_) hk)
 dsimp only at hns1 hsb1 ⊢
 generalize hS3 : ({ s2 with heap := s2.heap.push { cls := .type "list", dict := none, data := .seq ([] : List Value).toArray } } : Shared) = s3 at I3
 have hh3 : s2.heap.push { cls := .type "list", dict := none, data := .seq ([] : List Value).toArray } = s3.heap := by rw [← hS3]
 rw [hh3] at hns1 hsb1 ⊢
 have sz3 : s3.heap.objs.size = s2.heap.objs.size + 1 := by rw [← hh3, Heap.size_push]
 have lt3 : ∀ b ∈ fp, b < s3.heap.objs.size := fun b hb => Nat.lt_of_lt_of_le (lt2 b hb) (by rw [sz3]; exact Nat.le_succ _)
 have f3 : ∀ b ∈ fp, FpOk X pins (upd H2 s2.heap.objs.size (.lst [])) b := fun b hb => ⟨by rw [upd_ne (Nat.ne_of_lt (lt2 b hb))]; exact (f2 b hb).1, (f2 b hb).2⟩
 have keep3 : ∀ b o, s3.heap.get? b = some o → h1.get? b = some o := fun b o q => hsb1.extBut b o (Nat.ne_of_lt (Heap.lt_size q)) (Heap.get?_push_of_some _ q)
 have st3 : tnn 0 h1 := T.keep _ _ _ st2 fun b hb o q => keep3 b o (by rw [← hh3]; exact Heap.get?_push_of_some _ q)
 have I4 := (cxComp_start (tn := tn) I3 hk hcl (hhas _) f3 lt3 (hcap _) hns1 keep3).tok (s2.toks + ([] : List (Str × Value)).length)
 have loop : codeAny (model X.prog X.w) X.A (.compLoop (.ListComp elt [⟨tg, iter, [], 0⟩] scope pos) 0 (.ref it) (.ref s2.heap.objs.size) (compEnvC scope cl s3.heap.objs.size X.env))
   (compPost (model X.prog X.w) X.A X.xe use Qp (.ref s2.heap.objs.size) s3.heap.objs.size) { s3 with heap := h1, toks := s2.toks + ([] : List (Str × Value)).length } := by
  refine comp_loop0 (fun n s' => ∃ i ys σ' H', Inv (cxComp X (tn ++ cap.map (·.1)) scope cl s3.heap.objs.size fp s3 (upd H2 s2.heap.objs.size (.lst []))) [] σ' H' s' ∧ tnn i s'.heap ∧ (∀ b ∈ fp, H' b = none) ∧ W i n ys σ' H') ?_ m0
   ⟨0, [], _, _, I4, st3, fun b hb => (f3 b hb).1, w0⟩
  rintro n s5 ⟨i, ys, σ5, H5, I5, st5, fr5, w5⟩
  obtain ⟨hD, alt⟩ := turn i n ys σ5 H5 w5
  have stat : ∀ {H' : Hp}, (∀ b ∈ fp, H' b = none) → ∀ b ∈ fp, FpOk (cxComp X (tn ++ cap.map (·.1)) scope cl s3.heap.objs.size fp s3 (upd H2 s2.heap.objs.size (.lst []))) [] H' b :=
   fun hn b hb => ⟨hn b hb, (I4.ok.exf b hb).1, I4.ok.exfs b hb, .inl hb, (I4.ok.exf b hb).2, fun p hp => by cases hp⟩
  rcases alt with ⟨stop, qn⟩ | ⟨go, step⟩
  ·refine thn (T.done (cxComp X (tn ++ cap.map (·.1)) scope cl s3.heap.objs.size fp s3 (upd H2 s2.heap.objs.size (.lst []))) rfl rfl rfl hc i [] s5 σ5 H5 no0 I5 (stat fr5) st5 stop) fun r s6 ⟨hr, I6⟩ => ?_
   subst hr
   exact hfin s3 _ I3 f3 _ σ5 H5 s6 I6 qn
  ·refine thn (T.item (cxComp X (tn ++ cap.map (·.1)) scope cl s3.heap.objs.size fp s3 (upd H2 s2.heap.objs.size (.lst []))) rfl rfl rfl hc i [] s5 σ5 H5 no0 I5 (stat fr5) st5 go) fun r s6 ⟨u, hr, h6⟩ => ?_
   subst hr
   refine thn h6 fun _ s7 ⟨x, H7, I7, r7, y7, st7, fr7⟩ => ?_
   have I7' := I7.pinned (stat fr7) (T.obj _ _ st7)
   refine thn (hg _ _ _ _ _ s7 σ5 H7 x u _ I7' r7 (step x H7 y7)) fun _ s8 ⟨σ8, H8, I8, q8⟩ => ?_
   refine thn (he _ _ _ _ _ s8 σ8 H8 _ I8 q8) fun xv s9 ⟨v9, H9, I9, r9, q9⟩ => ?_
   obtain ⟨hD9, hl9, m', hm', w9⟩ := q9
   refine thn (mt_append _ s9 σ8 H9 (.ref s2.heap.objs.size) [v9] (.ref s2.heap.objs.size) [xv] (fun z H' => z = .non ∧ H' = upd H9 s2.heap.objs.size (.lst (ys ++ [v9]))) I9 rfl (.cons r9 .nil)
    ⟨s2.heap.objs.size, ys, v9, rfl, rfl, hD9, hl9, rfl, rfl⟩) fun z s10 ⟨zv, H10, I10, _, _, eH⟩ => ?_
   subst eH
   refine ⟨m', hm', i + 1, ys ++ [v9], σ8, _, I10.unpinned, T.keep _ _ _ st7 fun b hb o q => (I10.pin (b, o) (List.mem_append_right _ (List.mem_append_right _ (mem_pinsAt hb q)))).1, fun b hb => ?_, w9⟩
   obtain ⟨o, q, d⟩ := T.obj _ _ st7 b hb
   exact (I10.pin (b, o) (List.mem_append_right _ (List.mem_append_right _ (mem_pinsAt hb q)))).2.1
 subst hS3
 exact codeAny_compStart_list loop (T.self X.A 0 _ _ _ st3 loop)
theorem pe_comp (tn : List Str) (cap : List (Str × Nat)) (hi : PI X tg iter wi) (hg : ∀ C fp s H, PG (cxComp X (tn ++ cap.map (·.1)) scope cl C fp s H) tg g) (he : ∀ C fp s H, PE (cxComp X (tn ++ cap.map (·.1)) scope cl C fp s H) elt te)
  (hc : X.calm = true) (hclos : closureFor scope X.env = pure cl) (hcell : ∀ y ∈ scope.names, y.2 ≠ .cell) (hk : scope.kind = .function) (hnames : ∀ y ∈ scope.names, y.2 = .local → scope.names.lookup y.1 = some .local)
  (hcl : ∀ x c, cl.lookup x = some c → X.env.cells.lookup x = some c)
  (hhas : ∀ C x, ((compEnvC scope cl C X.env).kindOf x = some .cell ∨ (compEnvC scope cl C X.env).kindOf x = some .free) → ∃ c, cl.lookup x = some c)
  (hcap : ∀ C, ∀ p ∈ cap, X.N[p.2]? = some p.1 ∧ X.env.scope.names.lookup p.1 = some .cell ∧ ((compEnvC scope cl C X.env).kindOf p.1 = some .cell ∨ (compEnvC scope cl C X.env).kindOf p.1 = some .free))
  (hs : ∀ v, foldedSetIterable iter X.env v = pure v) : PE X (.ListComp elt [⟨tg, iter, [], 0⟩] scope pos) (tComp wi tn.length cap g te) := by
 intro pins s σ H Q I h
 rw [eval_ListComp]
 refine wpAny_comprehension_free (use := none) rfl hs hclos hk hnames (thn (hi pins s σ H _ I h) fun v s1 h1 => thn h1 fun itv s2 h2 => ?_)
 obtain ⟨it, fp, tnn, J, H2, e, I2, T, st2, f2, q2⟩ := h2
 subst e
 refine comp_core0 (R := fun p H6 => Q (.ref p) H6) tn cap hg he hc hcell hk hcl hhas hcap I2 T st2 f2 q2 fun s3 H3 I3 f3 acc σ6 H6 s6 I6 q6 => ?_
 obtain ⟨m, hn, _⟩ := I6.loc
 refine ⟨m, hn, fun h' sb => ?_⟩
 have nC : ∀ b o, s3.heap.get? b = some o → b ≠ s3.heap.objs.size := fun b o q => Nat.ne_of_lt (Heap.lt_size q)
 have u : Un (frs X.stack) fp H3 H6 s3.heap h' := by
  have u0 := I6.base
  refine ⟨fun b o q n hb hx => (sb.2 b (nC b o q)).trans (u0.keep b o q n hb hx), fun b o q n hb hx => ?_, u0.free, fun b o q hx => ?_, u0.tups, u0.frzs, u0.tbls⟩
  ·obtain ⟨sl, e⟩ := u0.slot b o q n hb hx
   exact ⟨sl, (sb.2 b (nC b o q)).trans e⟩
  ·obtain ⟨o', e⟩ := u0.there b o q hx
   exact ⟨o', (sb.2 b (nC b o q)).trans e⟩
 have free6 : H6 s3.heap.objs.size = none := I6.free
 have ok6 : HOk X.prog X.w H6 h' := fun b o q => (I6.hok b o q).stay (fun c v hcv r => (sb.2 c (by
  rcases hcv with z | z
  ·rw [z]
   exact ne_of_none q free6
  ·exact ne_of_none z free6)).trans r) (fun _ q => q) fun _ _ q => q
 have I' := I3.call (g' := s6.gens) (d' := s6.drawn) (t' := s6.toks) (ch := fp) u ok6 I6.bare fun b hb => ⟨(f3 b hb).2.2.2.1, (f3 b hb).2.1, (f3 b hb).2.2.2.2.1, (f3 b hb).2.2.2.2.2⟩
 have e : ({ s6 with heap := h' } : Shared) = { s3 with heap := h', gens := s6.gens, drawn := s6.drawn, toks := s6.toks } := by
  have ho : s6.os = s3.os := I6.os
  obtain ⟨a1, a2, a3, a4, a5⟩ := s6
  obtain ⟨b1, b2, b3, b4, b5⟩ := s3
  simp only at ho
  subst ho
  rfl
 rw [e]
 exact ⟨.ref _, H6, I', rfl, q6⟩
end
end L2
namespace L2
open PySem PySem.Spec PyProof.Rows
end L2
namespace PySem.SeqAt
open AutoSeq1 (wpAny_loadPart')
open MeetsSeq MeetsSeq2 MeetsSeq3 SeqRoads2
end PySem.SeqAt
namespace L2
open PySem PySem.Spec PyProof.Rows PySem.SeqAt
end L2
namespace L2
open PySem PySem.Spec PyProof.Rows PySem.SeqAt
end L2
namespace L2
open PySem PySem.Spec PyProof.Rows PySem.SeqAt
end L2
namespace L2
open PySem PySem.Spec PyProof.Rows PySem.SeqAt
end L2
namespace L2
open PySem PySem.Spec PyProof.Rows PySem.SeqAt
end L2
namespace Fg
open PySem L2 FgM PySem.SeqAt
end Fg
namespace L2
open PySem PySem.Spec PyProof.Rows
end L2
namespace Fg
open PySem L2 FgM
end Fg
namespace L2
open PySem PySem.Spec PyProof.Rows PySem.SeqAt
end L2
namespace L2
open PySem PySem.Spec PyProof.Rows
def CW (n : Nat) (Pv : Nat → List V → St → Hp → Prop) : Nat → Nat → List V → St → Hp → Prop := fun i m ys σ H => m = n - i ∧ i ≤ n ∧ Pv i ys σ H
theorem CW.next {n i : Nat} {Pv : Nat → List V → St → Hp → Prop} {ys : List V} {σ : St} {H : Hp} (hi : i < n) (h : Pv (i + 1) ys σ H) : ∃ m', m' < n - i ∧ CW n Pv (i + 1) m' ys σ H := ⟨_, by lia, rfl, hi, h⟩
theorem nd1 {x : Str} : [x].Nodup := by simp
theorem comp_list {K : PySem.W.Frag} {a p : Addr} {xs : List V} {g : TG} {te : TE} {R : Hp → Prop} {σ0 : St} {H0 : Hp} (Pv : Nat → List V → St → Hp → Prop) (h0 : Pv 0 [] σ0 H0)
  (hl : ∀ i ys σ H, i ≤ xs.length → Pv i ys σ H → SqL K H a xs ∧ H p = some (.lst ys))
  (hs : ∀ i ys x σ H, i < xs.length → xs[i]? = some x → Pv i ys σ H → g x σ H fun σ3 H4 => te σ3 H4 fun v H5 => H5 p = some (.lst ys) ∧ ys.length < sizeLine ∧ ∃ m', m' < xs.length - i ∧ CW xs.length Pv (i + 1) m' (ys ++ [v]) σ3 (upd H5 p (.lst (ys ++ [v]))))
  (hd : ∀ ys σ H, Pv xs.length ys σ H → R H) :
  ∃ W : Nat → Nat → List V → St → Hp → Prop, (∃ m, W 0 m [] σ0 H0) ∧ ∀ i m ys σc H2, W i m ys σc H2 → H2 p = some (.lst ys) ∧ (((Itl K a).stop i H2 ∧ R H2) ∨ ((Itl K a).go i H2 ∧ ∀ x H3, (Itl K a).yld i H2 x H3 → g x σc H3 fun σ3 H4 => te σ3 H4 fun v H5 =>
   H5 p = some (.lst ys) ∧ ys.length < sizeLine ∧ ∃ m', m' < m ∧ W (i + 1) m' (ys ++ [v]) σ3 (upd H5 p (.lst (ys ++ [v]))))) := by
 refine ⟨CW xs.length Pv, ⟨_, rfl, Nat.zero_le _, h0⟩, ?_⟩
 rintro i m ys σ H ⟨rfl, hi, hp⟩
 obtain ⟨h1, h2⟩ := hl i ys σ H hi hp
 refine ⟨h2, ?_⟩
 by_cases hlt : i < xs.length
 ·refine .inr ⟨⟨xs, xs[i], h1, List.getElem?_eq_getElem hlt⟩, ?_⟩
  rintro x H3 ⟨rfl, hx⟩
  exact hs i ys x σ _ hlt (hx xs h1) hp
 ·refine .inl ⟨⟨xs, h1, by lia⟩, hd ys σ H ?_⟩
  have e : i = xs.length := by lia
  rw [← e]
  exact hp
theorem nofree {scope : Scope} {env : Env} (h : ∀ y ∈ scope.names, y.2 ≠ .cell ∧ y.2 ≠ .free) {cl : List (Str × Addr)} : ∀ (C : Addr) (x : Str), ((compEnvC scope cl C env).kindOf x = some .cell ∨ (compEnvC scope cl C env).kindOf x = some .free) → ∃ c, cl.lookup x = some c := by
 have key : ∀ (l : List (Str × NameKind)) (x : Str), (∀ y ∈ l, y.2 ≠ .cell ∧ y.2 ≠ .free) → ∀ k, (l.map fun (n, k) => if (k == .free && env.scope.kind == .function && env.kindOf n == some .cell) then (n, .cell) else (n, k)).lookup x = some k → k ≠ .cell ∧ k ≠ .free := by
  intro l
  induction l with
  | nil => intro x _ k e; simp at e
  | cons y l ih =>
   intro x hy k e
   obtain ⟨n, kd⟩ := y
   have hk := hy _ (List.mem_cons_self ..)
   have e0 : (kd == NameKind.free && env.scope.kind == .function && env.kindOf n == some .cell) = false := by
    have : (kd == NameKind.free) = false := by
     cases kd <;> first | rfl | exact absurd rfl hk.2
    rw [this]; rfl
   simp only [List.map_cons, e0, Bool.false_eq_true, if_false, List.lookup_cons] at e
   cases hx : x == n with
   | true =>
    rw [hx] at e
    cases e
    exact hk
   | false =>
    rw [hx] at e
    exact ih x (fun y hm => hy y (List.mem_cons_of_mem _ hm)) k e
 intro C x hx
 rcases hx with e | e
 ·exact absurd rfl (key _ x h _ e).1
 ·exact absurd rfl (key _ x h _ e).2
end L2
namespace FgM
end FgM
namespace L2
open PySem PySem.Spec PyProof.Rows
section
variable {X : Cx} {elt iter tg : Expr} {scope : Scope} {pos : Pos} {wi : TI} {g : TG} {te : TE} {cl : List (Str × Addr)}
theorem ps_set_comp {y : Str} {py spos : Pos} {n0 : Nat} (hN : X.N.Nodup) (hi0 : X.N[n0]? = some y) (hx : Loc X.env.scope y) (tn : List Str) (cap : List (Str × Nat)) (hi : PI X tg iter wi) (hg : ∀ C fp s H, PG (cxComp X (tn ++ cap.map (·.1)) scope cl C fp s H) tg g) (he : ∀ C fp s H, PE (cxComp X (tn ++ cap.map (·.1)) scope cl C fp s H) elt te)
  (hc : X.calm = true) (hclos : closureFor scope X.env = pure cl) (hcell : ∀ y ∈ scope.names, y.2 ≠ .cell) (hk : scope.kind = .function) (hnames : ∀ y ∈ scope.names, y.2 = .local → scope.names.lookup y.1 = some .local)
  (hcl : ∀ x c, cl.lookup x = some c → X.env.cells.lookup x = some c)
  (hhas : ∀ C x, ((compEnvC scope cl C X.env).kindOf x = some .cell ∨ (compEnvC scope cl C X.env).kindOf x = some .free) → ∃ c, cl.lookup x = some c)
  (hcap : ∀ C, ∀ p ∈ cap, X.N[p.2]? = some p.1 ∧ X.env.scope.names.lookup p.1 = some .cell ∧ ((compEnvC scope cl C X.env).kindOf p.1 = some .cell ∨ (compEnvC scope cl C X.env).kindOf p.1 = some .free))
  (hs : ∀ v, foldedSetIterable iter X.env v = pure v) (hsw : swapsWith (.ListComp elt [⟨tg, iter, [], 0⟩] scope pos) (some (.Name y py)) spos.line X.env = pure true) (hf : X.fn y = true ∨ X.env.scope.names.lookup y = some .local := by first | exact .inl rfl | exact .inr rfl | assumption) :
  PS X (.Assign [.Name y py] (.ListComp elt [⟨tg, iter, [], 0⟩] scope pos) spos) (tAsg (tComp wi tn.length cap g te) (gName n0)) := by
 intro pins s σ H D I h
 rw [exec_Assign_Name_used _ _ _ _ hsw]
 refine wpAny_bind (wpAny_standAt (wpAny_bind ?_))
 show wpAny _ X.A (do let _ ← comprehension (.ListComp elt [⟨tg, iter, [], 0⟩] scope pos) scope X.env _ (newList []) false (eval iter X.env) (some (assign (.Name y py) X.env))) _ _ s
 refine wpAny_bind (wpAny_mono (wpAny_comprehension_free (use := some (assign (.Name y py) X.env)) (Q := fun _ s' => SP X pins D .next s') rfl hs hclos hk hnames (thn (hi pins s σ H _ I h) fun v s1 h1 => thn h1 fun itv s2 h2 => ?_)) (fun _ s' hq => wpAny_pure (wpAny_pure hq)) fun _ _ e => e)
 obtain ⟨it, fp, tnn, J, H2, e, I2, T, st2, f2, q2⟩ := h2
 subst e
 refine comp_core0 (R := fun p H6 => gName n0 (.ref p) σ H6 (fun σ' H' => D.nx σ' H')) tn cap hg he hc hcell hk hcl hhas hcap I2 T st2 f2 q2 fun s3 H3 I3 f3 acc σ6 H6 s6 I6 q6 => ?_
 obtain ⟨m, hn, _⟩ := I6.loc
 have I' : Inv X pins σ H6 s6 := I3.call' (ch := fp) I6.os I6.base I6.hok I6.bare fun b hb => ⟨(f3 b hb).2.2.2.1, (f3 b hb).2.1, (f3 b hb).2.2.2.2.1, (f3 b hb).2.2.2.2.2⟩
 have fC : FpOk X pins H6 s3.heap.objs.size := I3.fpOk (Nat.le_refl _) I6.free
 show wpAny _ X.A (assign (.Name y py) X.env (.ref acc)) _ _ s6
 refine wpAny_assign_Name (store_ok2 (v := .ref acc) I' hN hi0 hx rfl (fun s7 I7 ⟨a, sb, ha⟩ => ?_) hf)
 have nCa : s3.heap.objs.size ≠ a := by
  rcases ha with z | z
  ·rw [z]
   exact fC.2.1
  ·exact (fC.2.2.2.2.1 _ _ z).symm
 exact ⟨m, hn.sameBut sb nCa, fun h' sb' => ⟨_, H6, I7.turned (t' := s7.toks) (fun b o hb e => (sb'.2 b hb).trans e) fC.1 fC.2.1 fC.2.2.2.1 fC.2.2.2.2.1 fC.2.2.2.2.2, q6⟩⟩
end
end L2
namespace L2
open PySem PySem.Spec PyProof.Rows
end L2
namespace L2
open PySem PySem.Spec PyProof.Rows
theorem kV_is {P : Program} {w : World} {k : Key} {u : Value} (r : RelV (kV k) u) : (mixKind P w).is k u = true := by
 cases k with
 | inl i => obtain ⟨t, e⟩ := (show ∃ t, u = Value.int i t from r); subst e; exact mixKind_int P w i t
 | inr x => obtain ⟨t, e⟩ := (show ∃ t, u = Value.str x t from r); subst e; exact mixKind_str P w x t
theorem items_are {P : Program} {w : World} : ∀ {ks : List Key} {us : List Value}, Vals (ks.map kV) us → ItemsAre (mixKind P w) ks us
 | [], _, r => by rw [List.map_nil] at r; cases r; exact .nil
 | k :: ks, _, r => by
  rw [List.map_cons] at r
  cases r with
  | cons h t => exact .cons (kV_is h) (items_are t)
section
variable {P : Program} {w : World} {H : Hp} {h : Heap} {a : Addr}
theorem key_of {ks : List Key} (ok : HOk P w H h) (e : H a = some (.tup (ks.map kV))) : (tupleKind (mixKind P w)).is h ks a := by
 obtain ⟨_, its, r, o, h1, h2, n, h3⟩ := (show ObjOk P w H h a (.tup (ks.map kV)) from ok a _ e)
 exact ⟨o, its.toArray, n, h1, h2, h3, by simpa using items_are r⟩
end
end L2
namespace L2
open PySem PySem.Spec PyProof.Rows
end L2
namespace L2
open PySem PySem.Spec PyProof.Rows
end L2
namespace L2
open PySem PySem.Spec PyProof.Rows
theorem call_intB {X : Cx} : CallR X (.type "int") (fun xs H Q => ∃ b, xs = [.bl b] ∧ Q (.int (if b = true then 1 else 0)) H) := by
 intro pins s σ H xs us Q I r h
 obtain ⟨b, rfl, q⟩ := h
 obtain ⟨u, rfl, ru⟩ := vals1 r
 cases ru
 exact call_int_bool ⟨.int (if b = true then 1 else 0), H, I.tok _, ⟨_, rfl⟩, q⟩
end L2
namespace L2
open PySem PySem.Spec PyProof.Rows
end L2
namespace L2
open PySem PySem.Spec PyProof.Rows
end L2
namespace Fg
open PySem L2 FgM
end Fg
namespace FgM
end FgM
namespace Fg
open PySem L2 FgM
end Fg
namespace L2
open PySem PySem.Spec PyProof.Rows
theorem lookup_mem {β : Type} {x : Str} {c : β} : ∀ {l : List (Str × β)}, l.lookup x = some c → (x, c) ∈ l
 | [], h => by cases h
 | (y, d) :: l, h => by
  rw [List.lookup_cons] at h
  cases e : x == y with
  | true =>
   rw [e] at h
   cases h
   rw [beq_iff_eq.mp e]
   exact List.mem_cons_self ..
  | false =>
   rw [e] at h
   exact List.mem_cons_of_mem _ (lookup_mem h)
theorem cap_cl {env : Env} {cl : List (Str × Addr)} (h : ∀ p ∈ cl, env.cells.lookup p.1 = some p.2) : ∀ x c, cl.lookup x = some c → env.cells.lookup x = some c := fun x c e => h (x, c) (lookup_mem e)
theorem cap_has {scope : Scope} {env : Env} {cl : List (Str × Addr)} (h : ∀ y ∈ scope.names, (y.2 = .cell ∨ y.2 = .free) → ∃ c, cl.lookup y.1 = some c) : ∀ (C : Addr) (x : Str), ((compEnvC scope cl C env).kindOf x = some .cell ∨ (compEnvC scope cl C env).kindOf x = some .free) → ∃ c, cl.lookup x = some c := by
 have key : ∀ (k : NameKind) (x : Str), (k = .cell ∨ k = .free) → (scope.names.map fun (n, k) => if (k == .free && env.scope.kind == .function && env.kindOf n == some .cell) then (n, .cell) else (n, k)).lookup x = some k → ∃ c, cl.lookup x = some c := by
  intro k x hk e
  obtain ⟨⟨n, k0⟩, hy, he⟩ := List.mem_map.mp (lookup_mem e)
  by_cases hc : (k0 == .free && env.scope.kind == .function && env.kindOf n == some .cell) = true
  ·simp only [hc, if_true] at he
   have h0 : k0 = .free := by
    simp only [Bool.and_eq_true] at hc
    have := hc.1.1
    cases k0 <;> first | rfl | exact absurd this (by decide)
   injection he with e1 e2
   subst e1
   exact h _ hy (.inr h0)
  ·simp only [hc] at he
   injection he with e1 e2
   subst e1 e2
   exact h _ hy hk
 intro C x hx
 rcases hx with e | e
 ·exact key _ x (.inl rfl) e
 ·exact key _ x (.inr rfl) e
end L2
namespace L2
open PySem PySem.Spec PyProof.Rows
end L2
namespace L2
open PySem PySem.Spec PyProof.Rows
def sBody : Stmt → List Stmt
 | .For _ _ b _ _ => b
 | .While _ b _ _ => b
 | .If _ b _ _ => b
 | _ => []
def sElse : Stmt → List Stmt
 | .If _ _ b _ => b
 | _ => []
theorem hideI {X : Cx} {b : List Stmt} {D : Ends} {σ : St} {H : Hp} (s : List Stmt) {t : TS} (h : PSs X s t) (k : ∀ u, PSs X s u → u = t → ∃ t, PSs X b t ∧ t D σ H) : ∃ t, PSs X b t ∧ t D σ H := k t h rfl
theorem by_eq {u t : TS} (e : u = t) {D : Ends} {σ : St} {H : Hp} (h : t D σ H) : u D σ H := e ▸ h
theorem len1 {α : Type} : ∀ {us : List α}, us.length = 1 → ∃ a, us = [a]
 | [a], _ => ⟨a, rfl⟩
theorem lenS {α : Type} {n : Nat} : ∀ {us : List α}, us.length = n + 1 → ∃ a vs, us = a :: vs ∧ vs.length = n
 | a :: vs, h => ⟨a, vs, rfl, Nat.succ.inj h⟩
theorem len2 {α : Type} {us : List α} (h : us.length = 2) : ∃ a b, us = [a, b] := by
 obtain ⟨a, vs, rfl, h2⟩ := lenS h
 obtain ⟨b, rfl⟩ := len1 h2
 exact ⟨a, b, rfl⟩
theorem len3 {α : Type} {us : List α} (h : us.length = 3) : ∃ a b c, us = [a, b, c] := by
 obtain ⟨a, vs, rfl, h2⟩ := lenS h
 obtain ⟨b, c, rfl⟩ := len2 h2
 exact ⟨a, b, c, rfl⟩
theorem len4 {α : Type} {us : List α} (h : us.length = 4) : ∃ a b c d, us = [a, b, c, d] := by
 obtain ⟨a, vs, rfl, h2⟩ := lenS h
 obtain ⟨b, c, d, rfl⟩ := len3 h2
 exact ⟨a, b, c, d, rfl⟩
theorem len5 {α : Type} {us : List α} (h : us.length = 5) : ∃ a b c d e, us = [a, b, c, d, e] := by
 obtain ⟨a, vs, rfl, h2⟩ := lenS h
 obtain ⟨b, c, d, e, rfl⟩ := len4 h2
 exact ⟨a, b, c, d, e, rfl⟩
theorem Vals.inv {v : V} {vs : List V} {us : List Value} (h : Vals (v :: vs) us) : ∃ u us', us = u :: us' ∧ RelV v u ∧ Vals vs us' := by
 cases h with
 | cons r t => exact ⟨_, _, rfl, r, t⟩
theorem Vals.end_ {us : List Value} (h : Vals [] us) : us = [] := by
 cases h
 rfl
end L2
namespace L2
open PySem PySem.Spec PyProof.Rows
def XO (e : Addr) (C : Value) (d : Option Addr) : Heap → Prop := fun h => ∃ oe vs, h.get? e = some oe ∧ oe.cls = C ∧ oe.dict = d ∧ oe.data = .fields vs ∧ 4 < vs.size
theorem XO.ext_ok {P : Program} {w : World} {H : Hp} {h : Heap} {e : Addr} {C : Value} {d : Option Addr} (x : XO e C d h) : ObjOk P w H h e (.ext (XO e C d)) := by
 refine ⟨x, ?_, fun h1 h2 p k => ?_⟩
 ·obtain ⟨oe, _, ho, _⟩ := x
  exact ⟨oe, ho⟩
 ·obtain ⟨oe, vs, ho, r⟩ := p
  exact ⟨oe, vs, k oe ho, r⟩
theorem upd_self {H : Hp} {a : Addr} {o : HO} (h : H a = some o) : upd H a o = H := by
 funext b
 unfold upd
 by_cases e : b = a
 ·subst e; rw [if_pos rfl, h]
 ·rw [if_neg e]
section
variable {X : Cx} {pins : List (Addr × Obj)} {σ : St} {H : Hp} {s : Shared} {e T : Addr} {C : Value} {d : Option Addr} {M : Model} {A : Around} {E : Value → Shared → Prop} {Q : Unit → Shared → Prop}
theorem Inv.xo (I : Inv X pins σ H s) (he : H e = some (.ext (XO e C d))) : XO e C d s.heap := (I.hok e _ he).1
theorem Inv.poke {h' : Heap} {t' : Nat} (I : Inv X pins σ H s) (he : H e = some (.ext (XO e C d))) (k : ∀ b u, b ≠ e → s.heap.get? b = some u → h'.get? b = some u) (x : XO e C d h') : Inv X pins σ H { s with heap := h', toks := t' } := by
 have := I.write (x := e) (e := e) (o := .ext (XO e C d)) (h' := h') (t' := t') (by rw [he]; trivial) (.inl rfl) k (by obtain ⟨oe, _, ho, _⟩ := x; exact ⟨oe, ho⟩) x.ext_ok
 rwa [upd_self he] at this
def XHead (X : Cx) (pins : List (Addr × Obj)) (H : Hp) (h : Heap) (e : Addr) (fl : Value) : Prop :=
 ∃ T oT ts oe vs, h.get? e = some oe ∧ oe.data = .fields vs ∧ vs[1]? = some (.ref T) ∧ FpOk X pins H T ∧ h.get? T = some oT ∧ oT.data = .fields ts ∧ ts[3]? = some fl
def XSt (X : Cx) (pins : List (Addr × Obj)) (H : Hp) (h : Heap) (e : Addr) : Prop := (∃ oe vs, h.get? e = some oe ∧ oe.data = .fields vs ∧ vs[1]? = some .none) ∨ XHead X pins H h e .none
theorem fld_up {h : Heap} {a : Addr} {o : Obj} {vs : Array Value} (i : Nat) (x : Value) (ho : h.get? a = some o) (hd : o.data = .fields vs) :
  (h.update a (Obj.mapFields (·.setIfInBounds i x))).get? a = some (o.mapFields (·.setIfInBounds i x)) := Heap.get?_update_self _ ho (Obj.isFreed_of_fields (Obj.data_mapFields hd _))
theorem dict_map (o : Obj) (f : Array Value → Array Value) : (o.mapFields f).dict = o.dict := by
 obtain ⟨c, d, dt, sl⟩ := o
 cases dt <;> rfl
theorem XO.put {h : Heap} (x : XO e C d h) (i : Nat) (v : Value) : XO e C d (h.update e (Obj.mapFields (·.setIfInBounds i v))) := by
 obtain ⟨oe, vs, ho, hc, hdd, hd, hz⟩ := x
 exact ⟨_, _, fld_up i v ho hd, (Obj.cls_mapFields ..).trans hc, (dict_map ..).trans hdd, Obj.data_mapFields hd _, by simpa using hz⟩
theorem Inv.slots {h' : Heap} (I : Inv X pins σ H s) (hs : Heap.SlotsOnly (frs X.stack) s.heap h') : Inv X pins σ H { s with heap := h' } := by
 refine I.call' (s' := { s with heap := h' }) (ch := []) rfl ⟨fun b o q n hb _ => (hs.2.1 b hb).trans q, fun b o q _ _ _ => hs.2.2 b o q, fun _ _ _ n _ => n, fun b o q _ => let ⟨sl, e⟩ := hs.2.2 b o q; ⟨_, e⟩, fun _ _ q => q, fun _ _ _ q => q, fun _ ps q => ⟨#[], by rw [q]; simp⟩⟩ ?_ I.bare (fun b z => absurd z (by simp))
 intro b o q
 have hfr := I.stkFree
 refine (I.hok b o q).stay (fun c u hc z => ?_) (fun _ z => z) (fun _ _ z => z)
 have hn : c ∉ frs X.stack := by
  intro hm
  rcases hc with rfl | hc
  ·rw [hfr _ hm] at q; cases q
  ·rw [hfr _ hm] at hc; cases hc
 exact (hs.2.1 c hn).trans z
theorem entry_ok {head : Value} {hadNext : Bool} (hA : A.frames = some (X.env :: X.outer)) (hstk : X.stack = X.env :: X.outer) (hf : X.env.frame = some X.env.locals) (I : Inv X pins σ H s) (he : H e = some (.ext (XO e C d)))
  (h : ∀ h', Inv X pins σ H { s with heap := h' } → XHead X pins H h' e (rawInt X.env.locals) → Q () { s with heap := h' }) :
  wpAny M A (frameOf X.env >>= fun a => entryPlaceOf X.env.locals hadNext >>= fun pl => EntryCells.newEntry head a .none (rawInt X.env.locals) .none pl >>= fun b => setField (.ref e) 1 b) Q E s := by
 have hl : s.heap.FunFrames X.base (X.env :: X.outer) := hstk ▸ I.stack
 refine wpAny_bind (wpAny_frameOf_fun hA hl hf fun h1 hs1 => ?_)
 have I1 : Inv X pins σ H { s with heap := h1 } := I.slots (by rw [hstk]; exact hs1)
 refine wpAny_bind (wpAny_entryPlaceOf fun pl hpl => ?_)
 unfold EntryCells.newEntry newFields
 refine wpAny_bind (wpAny_newObj_type ?_ (hpl.sizeOk5 _ _ _ _ _))
 generalize hob : ({ cls := Value.type "traceback", dict := none, data := Data.fields ([head, Value.ref X.env.locals, Value.none, rawInt X.env.locals, Value.none] ++ (if pl.isEmpty then List.replicate 6 Value.none else pl)).toArray } : Obj) = ob
 have I2 : Inv X pins σ H { s with heap := h1.push ob } := I1.kept (h' := h1.push ob) (t' := s.toks) fun b u q => Heap.get?_push_of_some _ q
 obtain ⟨oe, vs, ho, hc, hdd, hd, hz⟩ := I2.xo he
 refine wpAny_setField ho hd (by lia) (h _ (I2.poke (t' := s.toks) he (fun b u hb q => (Heap.get?_update_other _ _ (Ne.symm hb)).trans q) ((I2.xo he).put 1 _)) ?_)
 have hT : (h1.push ob).get? h1.objs.size = some ob := Heap.get?_push_size _ (by rw [← hob]; rfl)
 have hne : e ≠ h1.objs.size := fun z => by
  have := I1.hok.lt he
  rw [z] at this
  exact absurd this (Nat.lt_irrefl _)
 refine ⟨h1.objs.size, ob, ([head, Value.ref X.env.locals, Value.none, rawInt X.env.locals, Value.none] ++ (if pl.isEmpty then List.replicate 6 Value.none else pl)).toArray, _, _, fld_up 1 _ ho hd, Obj.data_mapFields hd _, ?_, I1.fpOk (Nat.le_refl _) (I1.hok.fresh (Nat.le_refl _)), (Heap.get?_update_other _ _ hne).trans hT, ?_, ?_⟩
 ·rw [Array.getElem?_setIfInBounds_self_of_lt (by lia)]
 ·rw [← hob]
 ·simp
theorem note_ok (hA : A.frames = some (X.env :: X.outer)) (hstk : X.stack = X.env :: X.outer) (hf : X.env.frame = some X.env.locals) (I : Inv X pins σ H s) (he : H e = some (.ext (XO e C d))) (x : XSt X pins H s.heap e)
  (h : ∀ h', Inv X pins σ H { s with heap := h' } → XHead X pins H h' e (rawInt X.env.locals) → Q () { s with heap := h' }) : wpAny M A (noteFrame (.ref e) X.env) Q E s := by
 unfold noteFrame
 simp only [hf]
 rcases x with ⟨oe, vs, ho, hd, h1⟩ | ⟨T, oT, ts, oe, vs, ho, hd, h1, fT, hT, hdT, h3⟩
 ·refine wpAny_bind (wpAny_field ho hd h1 ?_)
  rw [if_neg (by decide)]
  exact entry_ok hA hstk hf I he h
 ·refine wpAny_bind (wpAny_field ho hd h1 ?_)
  rw [if_pos (show (Value.ref T != Value.none) = true by simp)]
  refine wpAny_bind (wpAny_field hT hdT h3 ?_)
  rw [if_neg (show ¬ ((Value.none == rawInt X.env.locals) = true) by simp [rawInt])]
  refine wpAny_bind (wpAny_setField hT hdT (Array.getElem?_eq_some_iff.mp h3).1 ?_)
  obtain ⟨f0, f1, f2, f3, f4, f5⟩ := fT
  have I1 := I.turned (t' := s.toks) (h' := s.heap.update T (Obj.mapFields (·.setIfInBounds 3 Value.none))) (fun b u hb q => (Heap.get?_update_other _ _ (Ne.symm hb)).trans q) f0 f1 f3 f4 f5
  exact entry_ok hA hstk hf I1 he h
theorem land_ok {fl : Value} (I : Inv X pins σ H s) (he : H e = some (.ext (XO e C d))) (x : XHead X pins H s.heap e fl)
  (h : ∀ h', Inv X pins σ H { s with heap := h' } → XHead X pins H h' e .none → Q () { s with heap := h' }) : wpAny M A (setFlight (.ref e) none) Q E s := by
 obtain ⟨T, oT, ts, oe, vs, ho, hd, h1, fT, hT, hdT, h3⟩ := x
 unfold setFlight
 refine wpAny_bind (wpAny_field ho hd h1 ?_)
 rw [if_pos (show (Value.ref T != Value.none) = true by simp)]
 refine wpAny_setField hT hdT (Array.getElem?_eq_some_iff.mp h3).1 ?_
 obtain ⟨f0, f1, f2, f3, f4, f5⟩ := id fT
 have hne : T ≠ e := fun z => by subst z; rw [f0] at he; cases he
 refine h _ (I.turned (t' := s.toks) (fun b u hb q => (Heap.get?_update_other _ _ (Ne.symm hb)).trans q) f0 f1 f3 f4 f5) ⟨T, _, _, oe, vs, (Heap.get?_update_other _ _ hne).trans ho, hd, h1, fT, fld_up 3 _ hT hdT, Obj.data_mapFields hdT _, ?_⟩
 rw [Array.getElem?_setIfInBounds_self_of_lt (Array.getElem?_eq_some_iff.mp h3).1]
 rfl
end
abbrev XKS := St → XK
def CXE (P : Program) (w : World) : CXT := fun outer H s E ev s' => ∃ (e : Addr) (C : Value) (d : Option Addr) (H' : Hp), ev = .ref e ∧ s'.os = s.os ∧ AllBare s'.gens ∧ Un (frs outer) [] H H' s.heap s'.heap ∧ HOk P w H' s'.heap ∧
 H' e = some (.ext (XO e C d)) ∧ s.heap.objs.size ≤ e ∧ (∃ T oT ts oe vs, s'.heap.get? e = some oe ∧ oe.data = .fields vs ∧ vs[1]? = some (.ref T) ∧ H' T = none ∧ s.heap.objs.size ≤ T ∧ s'.heap.get? T = some oT ∧ oT.data = .fields ts ∧ ts[3]? = some .none) ∧ E C d H'
def Takes (X : Cx) (E : XKS) : Prop := ∀ (pins : List (Addr × Obj)) (σ : St) (H : Hp) (s : Shared) (e : Addr) (C : Value) (d : Option Addr), Inv X pins σ H s → H e = some (.ext (XO e C d)) → (X.ex = [] → X.s₀.heap.objs.size ≤ e) → XSt X pins H s.heap e → E σ C d H → X.xe (.ref e) s
theorem takes_def {P : Program} {w : World} {K : PySem.W.Frag} {mg : Str → Option Value} {base : Heap} {N : List Str} {qual : Str} {scope : Scope} {f : Addr} {cd : Value} {A : Around} {outer : List Env} {s : Shared} {H : Hp} {E : XK} :
  Takes (cxOf (CXE P w) P w K mg base N qual scope f cd A outer s H E) (fun _ => E) := by
 intro pins σ H1 s1 e C d I he hy x hE
 show wpAny _ _ (leaving _ _) _ _ s1
 unfold leaving
 refine wpAny_bind (note_ok (X := cxOf (CXE P w) P w K mg base N qual scope f cd A outer s H E) I.ok.frames rfl rfl I he x fun h2 I2 x2 => land_ok I2 he x2 fun h3 I3 x3 => ?_)
 obtain ⟨T, oT, ts, oe, vs, ho, hd, h1, fT, hT, hdT, h3'⟩ := x3
 refine ⟨e, C, d, H1, rfl, I3.os, I3.bare, I3.base, I3.hok, he, hy rfl, ⟨T, oT, ts, oe, vs, ho, hd, h1, fT.1, ?_, hT, hdT, h3'⟩, hE⟩
 rcases fT.2.2.2.1 with z | z
 ·exact absurd z (by show T ∉ ([] : List Addr); simp)
 ·exact z
theorem takes_pass {X : Cx} {E : XKS} (hT : Takes X E) {pins : List (Addr × Obj)} {σ : St} {H : Hp} {s s' : Shared} {ev : Value} (I : Inv X pins σ H s) (h : CXE X.prog X.w X.stack H s (E σ) ev s') : X.xe ev s' := by
 obtain ⟨e, C, d, H', rfl, os, bare, un, hok, he, hes, ⟨T, oT, ts, oe, vs, ho, hd, h1, hTn, hTs, hT', hdT, h3⟩, hE⟩ := h
 have I1 := I.call' (ch := []) os un hok bare (fun b z => absurd z (by simp))
 exact hT pins σ H' s' e C d I1 he (fun _ => Nat.le_trans I.sz hes) (.inr ⟨T, oT, ts, oe, vs, ho, hd, h1, I.fpOk hTs hTn, hT', hdT, h3⟩) hE
end L2
namespace L2
open PySem PySem.Spec PyProof.Rows
structure HasX (P : Program) (w : World) (K : PySem.W.Frag) (mg : Str → Option Value) (base : Heap) (x : Str) (ps : List Str) (k : Nat) (sp : Sp) : Prop where
 ex : ∃ (f : Addr) (fd : FuncData), FnOk P w K mg base (CXE P w) k f fd ps sp ∧ Binds K fd ps [] ∧ PySem.W.keepIn K (.ref f) = true ∧ mg x = some (.ref f)
def tCallS (sp : Sp) (E : XKS) (t : TA) : TE := fun σ H Q => t σ H fun vs H1 => sp vs H1 Q (E σ)
section
variable {X : Cx} {j k : Nat} {f : Addr} {fd : FuncData} {ps : List Str} {sp : Sp} {E : XKS} {x : Str} {p pos : Pos} {e : Expr} {es : List Expr} {t : TA}
theorem run_fnX {pins : List (Addr × Obj)} {σ : St} {H : Hp} {s : Shared} {Q : VK} {us : List Value} {vs : List V} (F : FnOk X.prog X.w X.K X.mg X.base (CXE X.prog X.w) k f fd ps sp) (hr : Room k X.A) (hb : Binds X.K fd ps []) (hT : Takes X E)
  (I : Inv X pins σ H s) (r : Vals vs us) (h : sp vs H Q (E σ)) : wpAny (model X.prog X.w) X.A (call (.ref f) us) (EP X pins σ Q) X.xe s := by
 have hl : us.length = ps.length := by rw [← r.length]; exact F.len _ _ _ _ h
 have hbb := hb s us I.kIn (by rw [List.append_nil]; exact hl)
 rw [List.append_nil] at hbb
 refine wpAny_call (codeAny_mono (F.run X.A X.stack s H ⟨us, []⟩ us vs Q (E σ) hr I.env0 hbb r h) fun r s' hq => ?_)
 cases r with
 | error e => exact takes_pass hT I hq
 | ok fl =>
  cases fl with
  | ret u => exact I.after hq
  | next => exact False.elim hq
  | brk => exact False.elim hq
  | cont => exact False.elim hq
theorem pe_hasX (G : HasX X.prog X.w X.K X.mg X.base x ps j sp) (hT : Takes X E) (hr : Room k X.A) (hg : Gl X x) (ha : PA X (e :: es) t) (hk : j ≤ k := by decide) (hdb : (x == ("__debug__" : Str)) = false := by decide)
  (he : starEach (e :: es) X.env = (false, eval e X.env) :: starEach es X.env := by rfl) (hpl : (backTo pos (starEach es X.env)).any (·.1) = false := by rfl) :
  PE X (.Call (.Name x p) (e :: es) [] pos) (tCallS sp E t) := by
 obtain ⟨f, fd, F, b, kp, m⟩ := G.ex
 intro pins s σ H Q I h
 refine wpAny_Call_Name_kw (ld_glob I hg m ?_ hdb)
 refine PySem.W.callWith_K (h₀ := X.base) I.ok.mod.kin kp (thn (ha pos pins s σ H _ I h) fun us s1 ⟨vs, H1, I1, r, q⟩ => ⟨I1.kIn, ?_⟩) he hpl
 exact run_fnX (F.room hk) hr b hT I1 r q
end
theorem Fun.okX {P : Program} {w : World} {K : PySem.W.Frag} {mg : Str → Option Value} {base : Heap} {x qual : Str} {st : Stmt} {f : Addr} {fd : FuncData} {N ps : List Str} {k : Nat} {sp : Sp} (F : Fun K x qual st f fd) (S : FnScope N ps (defScope st)) (len : ∀ vs H Q E, sp vs H Q E → vs.length = ps.length)
  (hbody : ∀ (cdv : Value) (A : Around) (outer : List Env) (s : Shared) (H : Hp) (vs : List V) (Q : VK) (E : XK), Room k (A.deeper (envOfC qual (defScope st) s.heap.objs.size f cdv)) → sp vs H Q E →
   ∃ t, PSs (cxOf (CXE P w) P w K mg base N qual (defScope st) f cdv A outer s H E) (defBody st) t ∧ t { nx := fun _ H' => Q .non H', rt := Q } (start N vs) H) : FnOk P w K mg base (CXE P w) (k + 1) f fd ps sp := by
 obtain ⟨oc, od, kV, doc, pm, an, cdv, ct, osl, rfl, lk, hcd⟩ := F.ex
 exact fn_of lk hcd S len fun A outer s H vs Q E hr hsp => hbody cdv A outer s H vs Q E hr hsp
structure XCl (K : PySem.W.Frag) (D : Addr) : Prop where
 cl : PySem.W.isClsIn K D = true
 exc : PySem.W.mroIn K D (.type "BaseException") = some true
 nt : PySem.W.instIn K (.ref D) (.type "tuple") = some false
inductive Spec (K : PySem.W.Frag) (H : Hp) : V → List Addr → Prop
 | one {D : Addr} : XCl K D → Spec K H (.ref D) [D]
 | many {p : Addr} {Ds : List Addr} : SqT K H p (Ds.map V.ref) → (∀ D ∈ Ds, XCl K D) → Spec K H (.ref p) Ds
theorem vals_refs : ∀ {Ds : List Addr} {us : List Value}, Vals (Ds.map V.ref) us → us = Ds.map Value.ref
 | [], _, .nil => rfl
 | D :: Ds, _, .cons r t => by
  rw [vals_refs t]
  obtain rfl : _ = Value.ref D := r
  rfl
section
variable {M : Model} {A : Around} {E : Value → Shared → Prop} {s : Shared} {K : PySem.W.Frag} {D : Addr}
theorem XCl.isExc (x : XCl K D) (X : K.In s.heap) {Q : Bool → Shared → Prop} (h : Q true s) : wpAny M A (isExcClass (.ref D)) Q E s := by
 have hc := x.cl
 unfold PySem.W.isClsIn PySem.W.clsIn at hc
 split at hc
 ·rename_i ho
  unfold isExcClass
  refine wpAny_bind ?_
  show wpAny M A (loadHead D >>= _) _ _ s
  refine wpAny_bind (wpAny_loadPart (X _ _ ho) (wpAny_pure ?_))
  dsimp only
  rw [if_pos rfl]
  exact (PySem.W.looks_mroIn X x.exc).here h
 ·cases hc
theorem each_ok {g : Value → PUnit → Sem (ForInStep PUnit)} : ∀ (Ls : List Addr), (∀ D ∈ Ls, ∀ {Q : ForInStep PUnit → Shared → Prop}, Q (.yield PUnit.unit) s → wpAny M A (g (.ref D) PUnit.unit) Q E s) → ∀ {Q : PUnit → Shared → Prop}, Q PUnit.unit s → wpAny M A (forIn (Ls.map Value.ref) PUnit.unit g) Q E s
 | [], _, _, h => wpAny_pure h
 | D :: Ls, hg, _, h => by
  rw [List.map_cons, List.forIn_cons]
  exact wpAny_bind (hg D (List.mem_cons_self ..) (each_ok Ls (fun y hy => hg y (List.mem_cons_of_mem _ hy)) h))
theorem any_ok {f : Addr → Bool} {g : Value → Option Bool × Unit → Sem (ForInStep (Option Bool × Unit))} : ∀ (Ls : List Addr), (∀ D ∈ Ls, ∀ {Q : ForInStep (Option Bool × Unit) → Shared → Prop}, Q (if f D = true then .done (some true, ()) else .yield (none, ())) s → wpAny M A (g (.ref D) (none, ())) Q E s) →
  ∀ {Q : Option Bool × Unit → Shared → Prop}, Q (if Ls.any f = true then some true else none, ()) s → wpAny M A (forIn (Ls.map Value.ref) ((none, ()) : Option Bool × Unit) g) Q E s
 | [], _, _, h => wpAny_pure h
 | D :: Ls, hg, _, h => by
  rw [List.map_cons, List.forIn_cons]
  rw [List.any_cons] at h
  refine wpAny_bind (hg D (List.mem_cons_self ..) ?_)
  cases hf : f D with
  | true =>
   rw [hf] at h
   exact wpAny_pure h
  | false =>
   rw [hf] at h
   exact any_ok Ls (fun y hy => hg y (List.mem_cons_of_mem _ hy)) h
theorem em_ok {X : Cx} {pins : List (Addr × Obj)} {σ : St} {H : Hp} {f : Addr → Bool} {C e : Addr} {oe : Obj} {Q : Bool → Shared → Prop} {v : V} {u : Value} {Ds : List Addr} (I : Inv X pins σ H s) (hv : Spec X.K H v Ds) (r : RelV v u) (he : s.heap.get? e = some oe) (hc : oe.cls = .ref C)
  (hb : ∀ D ∈ Ds, PySem.W.mroIn X.K C (.ref D) = some (f D)) (h : Q (Ds.any f) s) : wpAny M A (excMatches (.ref e) u) Q E s := by
 cases hv with
 | @one D hD =>
  obtain rfl : u = Value.ref D := r
  unfold excMatches
  refine wpAny_bind ((PySem.W.looks_instIn I.kIn hD.nt).here ?_)
  dsimp only
  rw [if_neg Bool.false_ne_true]
  refine wpAny_bind (wpAny_pure ?_)
  refine wpAny_bind (each_ok [D] (fun y hy {Q} q => ?_) (wpAny_bind (wpAny_typeOf_ref he (wpAny_bind (any_ok (f := f) [D] (fun y hy {Q} q => ?_) ?_)))))
  ·obtain rfl := List.mem_singleton.mp hy
   exact wpAny_bind (hD.isExc I.kIn (wpAny_pure q))
  ·rw [hc]
   refine wpAny_bind ((PySem.W.looks_mroIn I.kIn (hb y hy)).here ?_)
   cases hf : f y with
   | true => rw [hf] at q; exact wpAny_pure q
   | false => rw [hf] at q; exact wpAny_pure q
  ·cases hf : [D].any f with
   | true => rw [hf] at h; exact wpAny_pure h
   | false => rw [hf] at h; exact wpAny_pure h
 | @many p _ hp hD =>
  obtain rfl : u = Value.ref p := r
  obtain ⟨its, rv, ⟨o, ho, hcl, n, hd⟩, _⟩ := I.tuple hp
  unfold excMatches
  refine wpAny_bind (wpAny_isInstance (T := "tuple") ⟨o, ho, hcl⟩ (show isSubtype (.type "tuple") (.type "tuple") = pure true by rw [isSubtype_type]; kernel_rfl) ?_)
  dsimp only
  rw [if_pos rfl]
  refine wpAny_bind (wpAny_seqItems ho hd (wpAny_bind (wpAny_pure ?_)))
  have e1 : ((some its.toArray).getD #[]).toList = Ds.map Value.ref := by
   rw [← vals_refs rv]; rfl
  rw [e1]
  refine wpAny_bind (each_ok Ds (fun y hy {Q} q => ?_) (wpAny_bind (wpAny_typeOf_ref he (wpAny_bind (any_ok (f := f) Ds (fun y hy {Q} q => ?_) ?_)))))
  ·exact wpAny_bind ((hD y hy).isExc I.kIn (wpAny_pure q))
  ·rw [hc]
   refine wpAny_bind ((PySem.W.looks_mroIn I.kIn (hb y hy)).here ?_)
   cases hf : f y with
   | true => rw [hf] at q; exact wpAny_pure q
   | false => rw [hf] at q; exact wpAny_pure q
  ·cases hf : Ds.any f with
   | true => rw [hf] at h; exact wpAny_pure h
   | false => rw [hf] at h; exact wpAny_pure h
end
end L2
namespace L2
open PySem PySem.Spec PyProof.Rows
abbrev Cx.tr (X : Cx) (pins : List (Addr × Obj)) (E : Value → Shared → Prop) : Cx := { X with pn := X.pn ++ pins, xe := E }
abbrev Cx.hd (X : Cx) (e : Addr) : Cx := { X with A := X.A.mark (some (.ref e)), calm := false, xe := fun _ _ => False }
section
variable {X : Cx} {pins pins' : List (Addr × Obj)} {σ : St} {H : Hp} {s : Shared} {e : Addr} {E : Value → Shared → Prop}
theorem Inv.tr (I : Inv X pins σ H s) (E : Value → Shared → Prop) : Inv (X.tr pins E) [] σ H s :=
 ⟨⟨I.ok.mod, I.ok.kind, I.ok.glob, I.ok.blt, I.ok.above, I.ok.inj, I.ok.has, I.ok.cab, I.ok.hd, I.ok.frames, I.ok.stk, I.ok.exf, I.ok.bs, I.ok.bsz, I.ok.noex, I.ok.exfs, I.ok.funs, I.ok.frf⟩, I.os, I.bare, I.base, I.loc, I.cell, I.free, I.freeC, fun p hp => I.pin p (by simpa using hp), I.hok, I.len⟩
theorem Inv.untr (I : Inv (X.tr pins E) pins' σ H s) : Inv X pins σ H s :=
 ⟨⟨I.ok.mod, I.ok.kind, I.ok.glob, I.ok.blt, I.ok.above, I.ok.inj, I.ok.has, I.ok.cab, I.ok.hd, I.ok.frames, I.ok.stk, I.ok.exf, I.ok.bs, I.ok.bsz, I.ok.noex, I.ok.exfs, I.ok.funs, I.ok.frf⟩, I.os, I.bare, I.base, I.loc, I.cell, I.free, I.freeC, fun p hp => I.pin p (List.mem_append_left _ hp), I.hok, I.len⟩
theorem FpOk.untr {T : Addr} (f : FpOk (X.tr pins E) pins' H T) : FpOk X pins H T := ⟨f.1, f.2.1, f.2.2.1, f.2.2.2.1, f.2.2.2.2.1, fun p hp => f.2.2.2.2.2 p (List.mem_append_left _ hp)⟩
theorem Inv.hd (I : Inv X pins σ H s) (e : Addr) : Inv (X.hd e) pins σ H s :=
 ⟨⟨I.ok.mod, I.ok.kind, I.ok.glob, I.ok.blt, I.ok.above, I.ok.inj, I.ok.has, I.ok.cab, (fun z => nomatch z), I.ok.frames, I.ok.stk, I.ok.exf, I.ok.bs, I.ok.bsz, I.ok.noex, I.ok.exfs, I.ok.funs, I.ok.frf⟩, I.os, I.bare, I.base, I.loc, I.cell, I.free, I.freeC, I.pin, I.hok, I.len⟩
theorem Inv.unhd (I : Inv (X.hd e) pins σ H s) (ok : X.Ok) : Inv X pins σ H s := ⟨ok, I.os, I.bare, I.base, I.loc, I.cell, I.free, I.freeC, I.pin, I.hok, I.len⟩
theorem Inv.drop1 {p : Addr × Obj} (I : Inv X (p :: pins) σ H s) : Inv X pins σ H s := I.pins_of fun q hq => I.pin q (List.mem_append_right _ (List.mem_cons_of_mem _ hq))
theorem SP.untr {D : Ends} {f : Flow} {s' : Shared} (h : SP (X.tr pins E) pins' D f s') : SP X pins D f s' := by
 cases f with
 | next => obtain ⟨σ', H', I, q⟩ := h; exact ⟨σ', H', I.untr, q⟩
 | brk => obtain ⟨σ', H', I, q⟩ := h; exact ⟨σ', H', I.untr, q⟩
 | cont => obtain ⟨σ', H', I, q⟩ := h; exact ⟨σ', H', I.untr, q⟩
 | ret u => obtain ⟨v, σ', H', I, r, q⟩ := h; exact ⟨v, σ', H', I.untr, r, q⟩
end
def Known (e : Addr) (oe : Obj) : HO := .ext fun h => h.get? e = some oe
theorem known_ok {P : Program} {w : World} {H : Hp} {h : Heap} {e : Addr} {oe : Obj} (x : h.get? e = some oe) : ObjOk P w H h e (Known e oe) := ⟨x, ⟨oe, x⟩, fun _ _ p k => k _ p⟩
abbrev THS := Ends → St → Hp → Addr → Obj → Prop
def PH (X : Cx) (hs : List ExceptHandler) (t : THS) : Prop := ∀ (pins : List (Addr × Obj)) (s : Shared) (σ : St) (H : Hp) (D : Ends) (e : Addr) (oe : Obj) (T : Addr) (oT : Obj) (ts vs : Array Value),
 Inv X ((T, oT) :: pins) σ H s → FpOk X pins H T → oe.data = .fields vs → vs[1]? = some (.ref T) → oT.data = .fields ts → ts[3]? = some .none → H e = some (Known e oe) → t D σ H e oe →
 wpAny (model X.prog X.w) X.A (handleBy (.ref e) X.env hs) (SP X pins D) X.xe s
def tTry (tb : XKS → TS) (th : THS) : TS := fun D σ H => ∃ E : XKS, tb E D σ H ∧ ∀ (σ' : St) (C : Value) (d : Option Addr) (H' : Hp) (e : Addr) (oe : Obj), E σ' C d H' → H' e = some (.ext (XO e C d)) → oe.cls = C → oe.dict = d → (∃ vs, oe.data = .fields vs) → th D σ' (upd H' e (Known e oe)) e oe
section
variable {X : Cx} {body : List Stmt} {h₀ : ExceptHandler} {hs rest : List ExceptHandler} {tb : XKS → TS} {th tr : THS} {pos : Pos}
theorem ps_try (hstk : X.stack = X.env :: X.outer) (hf : X.env.frame = some X.env.locals)
  (hb : ∀ (E : XKS) (pins : List (Addr × Obj)) (E₁ : Value → Shared → Prop), Takes (X.tr pins E₁) E → PassesOwn (model X.prog X.w) X.A X.env E₁ → PSs (X.tr pins E₁) body (tb E)) (hh : PH X (h₀ :: hs) th) : PS X (.Try body (h₀ :: hs) [] [] pos) (tTry tb th) := by
 intro pins s σ H D I h
 obtain ⟨E, h1, h2⟩ := h
 refine wpAny_Try_except ?_
 refine wpAny_mono (hb E pins _ ?_ PassesOwn.looking [] s σ H D (I.tr _) h1) (fun f s1 q => ?_) fun e s1 q => q
 ·intro pins' σ' H' s1 e C d I1 he hy x hE
  refine note_ok (X := X.tr pins _) (by rw [I.ok.frames, hstk]) hstk hf I1 he x fun h2' I2 x2 => land_ok I2 he x2 fun h3 I3 x3 => ?_
  obtain ⟨T, oT, ts, oe, vs, ho, hd, hv1, fT, hT, hdT, h3'⟩ := x3
  obtain ⟨oe', vs', ho', hc, hdd, _⟩ := I3.xo he
  rw [ho] at ho'
  cases ho'
  have I4 := I3.untr
  have I5 := I4.write (x := e) (e := e) (o := Known e oe) (t' := s1.toks) (h' := h3) (by rw [he]; trivial) (.inl rfl) (fun b u _ z => z) ⟨oe, ho⟩ (known_ok ho)
  have fT' := fT.untr
  have hne : T ≠ e := fun z => by subst z; rw [fT'.1] at he; cases he
  have fT2 : FpOk X pins (upd H' e (Known e oe)) T := ⟨by rw [upd_ne hne]; exact fT'.1, fT'.2⟩
  have I6 : Inv X ((T, oT) :: pins) σ' (upd H' e (Known e oe)) { s1 with heap := h3 } := I5.pins_of fun p hp => by
   rcases List.mem_cons.mp hp with rfl | hp
   ·exact ⟨hT, fT2.1, fT2.2.1, fT2.2.2.1, fun v z => by rw [hdT] at z; cases z⟩
   ·exact I5.pin p (List.mem_append_right _ hp)
  exact hh pins _ σ' _ D e oe T oT ts vs I6 fT2 hd hv1 hdT h3' upd_same (h2 σ' C d H' e oe hE he hc hdd ⟨vs, hd⟩)
 ·cases f with
  | next =>
   obtain ⟨σ', H', I', q⟩ := q
   exact wpAny_execs_nil ⟨σ', H', I'.untr, q⟩
  | brk => exact SP.untr q
  | cont => exact SP.untr q
  | ret u => exact SP.untr q
theorem unbind_ok {M : Model} {A : Around} {E : Value → Shared → Prop} {pins : List (Addr × Obj)} {σ : St} {H : Hp} {s : Shared} {i : Nat} {n : Str} {Q : Unit → Shared → Prop} (I : Inv X pins σ H s) (hN : X.N.Nodup) (hi : X.N[i]? = some n) (hk : X.env.scope.names.lookup n = some .local)
  (h : ∀ s', Inv X pins (σ.set i none) H s' → Q () s') : wpAny M A (bindName X.env n .none >>= fun _ => unbindBehindTheSuite X.env n pos) Q E s := by
 obtain ⟨m, hn, hl⟩ := id I.loc
 have hcls : (X.env.scope.kind == .class || (X.env.scope.kind == .module && X.env.locals != X.env.globals)) = false := by rw [I.ok.kind]; rfl
 have hl0 : X.env.kindOf n = some .local := hk
 refine wpAny_bind (wpAny_bindName (wpAny_storeName_local hl0 hn (fun ha hna hsa => ?_) hcls))
 unfold unbindBehindTheSuite
 refine wpAny_onRaise ?_
 unfold unbindName deleteName
 refine wpAny_bind (wpAny_point (wpAny_bind ?_)); simp only [hl0, hcls]
 rw [if_neg (by decide)]
 refine wpAny_bind (wpAny_nsDel_keeps hna fun hb v hnb hsb => ?_)
 simp only [if_true, Option.isSome_some, Bool.not_true, Bool.false_eq_true, if_false]
 refine wpAny_pure (wpAny_point (h _ ?_))
 have hs := hsa.trans hsb
 obtain ⟨oL, _, _, hoL, _⟩ := id hn
 have cne := I.cne
 refine ⟨I.ok, I.os, I.bare, ⟨fun b o e n hb hx => ?_, fun b o e n hb hx => ?_, I.base.free, fun b o e hx => ?_, I.base.tups, I.base.frzs, I.base.tbls⟩, ⟨_, hnb, fun j y v' e1 e2 e3 => ?_⟩, fun y c e => ?_, I.free, I.freeC, fun p hp => ?_, fun b ob e => ?_, by simpa using I.len⟩
 ·exact (hs.2 b (Nat.ne_of_lt (Nat.lt_of_lt_of_le (Heap.lt_size e) I.ok.above))).trans (I.base.keep b o e n hb hx)
 ·obtain ⟨sl, e1⟩ := I.base.slot b o e n hb hx
  exact ⟨sl, (hs.2 b (Nat.ne_of_lt (Nat.lt_of_lt_of_le (Heap.lt_size e) I.ok.above))).trans e1⟩
 ·obtain ⟨o', e1⟩ := I.base.there b o e hx
  exact ⟨o', (hs.2 b (Nat.ne_of_lt (Nat.lt_of_lt_of_le (Heap.lt_size e) I.ok.above))).trans e1⟩
 ·by_cases hj : j = i
  ·subst hj
   by_cases hlt : j < σ.length
   ·rw [List.getElem?_set_self hlt] at e2; cases e2
   ·rw [List.getElem?_eq_none (by rw [List.length_set]; lia)] at e2; cases e2
  ·rw [List.getElem?_set_ne (Ne.symm hj)] at e2
   obtain ⟨u', r', q⟩ := hl j y v' e1 e2 e3
   refine ⟨u', r', ?_⟩
   rcases q with ⟨k, e⟩ | ⟨k, c, e, z⟩
   ·refine .inl ⟨k, ?_⟩
    have : y ≠ n := fun e => hj (nodup_ix hN e1 (e ▸ hi))
    simp [this, e]
   ·exact .inr ⟨k, c, e, z.sameBut hs (cne y c e)⟩
 ·obtain ⟨w', z⟩ := I.cell y c e
  exact ⟨w', z.sameBut hs (cne y c e)⟩
 ·obtain ⟨e, n, ne, nf, d⟩ := I.pin p hp
  exact ⟨(hs.2 p.1 ne).trans e, n, ne, nf, d⟩
 ·refine (I.hok b ob e).stay (fun c w' hc q => (hs.2 c ?_).trans q) (fun _ q => q) fun _ _ q => q
  rintro rfl
  rcases hc with rfl | hc
  ·rw [I.free] at e; cases e
  ·rw [I.free] at hc; cases hc
def unb (D : Ends) (i : Nat) : Ends := { nx := fun σ H => D.nx (σ.set i none) H, rt := D.rt, bk := fun σ H => D.bk (σ.set i none) H, ct := fun σ H => D.ct (σ.set i none) H }
theorem flight_same {M : Model} {A : Around} {E : Value → Shared → Prop} {s : Shared} {e T : Addr} {oe oT : Obj} {vs ts : Array Value} {Q : Unit → Shared → Prop} (ho : s.heap.get? e = some oe) (hd : oe.data = .fields vs) (h1 : vs[1]? = some (.ref T)) (hT : s.heap.get? T = some oT) (hdT : oT.data = .fields ts) (h3 : ts[3]? = some .none) (h : Q () s) :
  wpAny M A (setFlight (.ref e) none) Q E s := by
 unfold setFlight
 refine wpAny_bind (wpAny_field ho hd h1 ?_)
 rw [if_pos (show (Value.ref T != Value.none) = true by simp)]
 refine wpAny_setField hT hdT (Array.getElem?_eq_some_iff.mp h3).1 ?_
 show Q () { s with heap := s.heap.update T (Obj.mapFields (·.setIfInBounds 3 Value.none)) }
 rw [Heap.update_setField_same s.heap T oT ts 3 .none hT hdT h3]
 exact h
theorem ph_as {t : Expr} {n : Str} {b₀ : Stmt} {sb : List Stmt} {tt : TE} {tu : TS} {i : Nat} (ht : ∀ e, PE (X.hd e) t tt) (hN : X.N.Nodup) (hi : X.N[i]? = some n) (hk : X.env.scope.names.lookup n = some .local) (hs : ∀ e, PSs (X.hd e) (b₀ :: sb) tu) : PH X (.ExceptHandler (some t) (some n) (b₀ :: sb) pos :: rest)
  (fun D σ H e oe => tt σ H fun v H1 => ∃ Ds C f, Spec X.K H1 v Ds ∧ oe.cls = .ref C ∧ (∀ D ∈ Ds, PySem.W.mroIn X.K C (.ref D) = some (f D)) ∧ Ds.any f = true ∧ H1 e = some (Known e oe) ∧ tu (unb D i) (σ.set i (some (.ref e))) H1) := by
 intro pins s σ H D e oe T oT ts vs I fT hd h1 hdT h3 he h
 refine wpAny_handleBy_cons (codeAny_handlers_test (wpAny_mono ((ht e) ((T, oT) :: pins) s σ H _ (I.hd e) h) (fun u s1 q => ?_) fun _ _ z => z.elim)) (by intro z; cases z)
 obtain ⟨v, H1, I1, r, Ds, C, f, hsp, hc, hb, hany, hkn, q⟩ := q
 have I1' := I1.unhd I.ok
 have hoe := (I1'.hok e _ hkn).1
 refine em_ok (f := f) I1' hsp r hoe hc hb ?_
 rw [hany]
 refine codeAny_handlers_suite_as ?_
 have hTo := (I1'.pin (T, oT) (List.mem_append_right _ (List.mem_cons_self ..))).1
 refine flight_same hoe hd h1 hTo hdT h3 ?_
 refine store_ok I1'.drop1 hN hi (.inl hk) (show RelV (.ref e) (.ref e) from rfl) (fun s2 I2 => ?_) (.inr hk)
 refine wpAny_mono ((hs e) pins s2 _ H1 (unb D i) (I2.hd e) q) (fun fl s3 q3 => ?_) fun _ _ z => z.elim
 show wpAny _ X.A (bindName X.env n .none >>= fun _ => unbindBehindTheSuite X.env n pos) _ _ s3
 cases fl with
 | next =>
  obtain ⟨σ', H', I3, q3⟩ := q3
  exact unbind_ok (I3.unhd I.ok) hN hi hk fun s' I' => ⟨_, _, I', q3⟩
 | brk =>
  obtain ⟨σ', H', I3, q3⟩ := q3
  exact unbind_ok (I3.unhd I.ok) hN hi hk fun s' I' => ⟨_, _, I', q3⟩
 | cont =>
  obtain ⟨σ', H', I3, q3⟩ := q3
  exact unbind_ok (I3.unhd I.ok) hN hi hk fun s' I' => ⟨_, _, I', q3⟩
 | ret u =>
  obtain ⟨v3, σ', H', I3, r3, q3⟩ := q3
  exact unbind_ok (I3.unhd I.ok) hN hi hk fun s' I' => ⟨v3, _, _, I', r3, q3⟩
end
end L2
namespace L2
open PySem PySem.Spec PyProof.Rows PySem.W
abbrev bmV : List Value := [.type "ValueError", .type "Exception", .type "BaseException", .type "object"]
def keysOk (es : Array DictEntry) : Bool := es.toList.all fun e => match e.key with | .str _ _ => true | _ => false
structure XMid (K : Frag) (G : Addr) : Prop where
 ob : ∃ c0 dd cd sl oc od es ep sl', K.lookup G = some ⟨c0, dd, .cls cd, sl⟩ ∧ K.lookup cd.ns = some ⟨oc, od, .dict es ep, sl'⟩ ∧ keysOk es = true ∧ nsIn K cd.ns "__init__" = some none
structure XTop (K : Frag) (C G : Addr) : Prop where
 ob : ∃ nm q N bs hdct sn sub ab col dd k0 k1 k2 k3 k5, K.lookup C = some (excClassObj nm q C N bs (.ref G :: bmV) hdct sn sub ab col dd k0 k1 k2 k3 k5 "ValueError.__new__")
 mid : XMid K G
 call : specialIn K (.ref C) "__call__" = some (some (.builtin "type.__call__"))
 typ : instIn K (.ref C) (.type "type") = some true
 kp : keepIn K (.ref C) = true
theorem XMid.tail {K : Frag} {G : Addr} {h : Heap} (x : XMid K G) (X : K.In h) : OwnTail h bmV (.ref G :: bmV) := by
 obtain ⟨c0, dd, cd, sl, oc, od, es, ep, sl', h1, h2, h3, h4⟩ := x.ob
 have hns : h.isNs cd.ns = true := by
  unfold Heap.isNs
  rw [X _ _ h2]
  have h5 := h3
  unfold keysOk at h5
  rw [Array.all_toList] at h5
  exact h5
 have hN := Heap.Ns.of_isNs hns
 exact .own (X _ _ h1) hN (ns_none_of X hN h4) .base
theorem XTop.mro {K : Frag} {C G : Addr} (x : XTop K C G) : ∃ cd, clsIn K C = some cd ∧ cd.mro = .ref C :: .ref G :: bmV := by
 obtain ⟨nm, q, N, bs, hdct, sn, sub, ab, col, dd, k0, k1, k2, k3, k5, h1⟩ := x.ob
 have e : clsIn K C = some { name := nm, bases := bs, mro := .ref C :: .ref G :: bmV, ns := N, qualname := q, hasDict := hdct, slotNames := sn, subclasses := sub, abstract := ab, collection := col, hasDel := false } := by
  unfold clsIn
  rw [h1]
 exact ⟨_, e, rfl⟩
abbrev excObj (C t : Addr) : Obj := { cls := .ref C, data := .fields #[.ref t, .none, .none, .none, .bool false, .none] }
abbrev tupObj (vs : List Value) : Obj := { cls := .type "tuple", data := .seq vs.toArray }
section
variable {prog : Program} {w : World} {A : Around} {K : Frag} {C G f : Addr} {R : Result → Shared → Prop} {s : Shared}
theorem xmake_core {us : List Value} {init : Value} (x : XTop K C G) (X : K.In s.heap) (hi : findIn K (.ref C) "__init__" = some (some init)) (b0 : ∀ self, Looks (model prog w) s.heap (bindSpecial init self) (init, [self])) (hl : us.length ≤ sizeLine)
  (hq : codeAny (model prog w) (A.under (.builtin "type.__call__" ⟨.ref C :: us, []⟩)) (.call init ⟨.ref (s.heap.objs.size + 1) :: us, []⟩) (InitBack (s.heap.objs.size + 1) R)
   { s with heap := (s.heap.push (tupObj us)).push (excObj C s.heap.objs.size) }) :
  codeAny (model prog w) A (.call (.ref C) ⟨us, []⟩) R s := by
 obtain ⟨hh, g, d, t, os⟩ := s
 obtain ⟨nm, q, N, bs, hdct, sn, sub, ab, col, dd, k0, k1, k2, k3, k5, hK⟩ := x.ob
 have hC := X _ _ hK
 have T := x.mid.tail X
 have call := looks_specialIn (M := model prog w) X x.call
 have typ := looks_instIn (M := model prog w) X x.typ
 have i0 := looks_findIn (M := model prog w) X hi
 refine codeAny_of_tree ?_
 show wpAny _ _ (callAny (.ref C) _) _ _ _
 refine nd_load hC ?_
 show wpAny _ _ (callAny.viaDunder (.ref C) _) _ _ _
 unfold callAny.viaDunder
 refine wpAny_bind (call.at ?_)
 dsimp only
 rw [tc_bind]
 refine wpAny_bind (wpAny_pure (wpAny_bind (wpAny_pure ?_)))
 refine wpAny_pure (a := Fin.again (.call (.builtin "type.__call__") ⟨.ref C :: us, []⟩)) ⟨rfl, ?_⟩
 refine codeAny_call_builtin_at (Code.quiet_builtin _ (by decide +kernel)) entry_typeCall (check_slot tc_kind tc_split typ (tc_args _ _ _) ?_)
 repeat (first | with_reducible refine wpAny_loadPart_at hC ?_ | with_reducible refine wpAny_madeBy_exc hC ?_ | wp_step)
 refine codeAny_call_builtin_code (Code.quiet_builtin _ F.excBase_ValueError.quiet) (wpAny_check_new_subT F.excBase_ValueError T hC (codeAny_exc_new_subT F.excBase_ValueError T hC ?_ hl))
 show wpAny _ _ _ _ _ _
 have k : ∀ b o, hh.get? b = some o → ((hh.push (tupObj us)).push (excObj C hh.objs.size)).get? b = some o := fun b o e => Heap.get?_push_of_some _ (Heap.get?_push_of_some _ e)
 have hx : ((hh.push (tupObj us)).push (excObj C hh.objs.size)).get? (hh.objs.size + 1) = some (excObj C hh.objs.size) := by heap_get
 have t1 : Looks (model prog w) ((hh.push (tupObj us)).push (excObj C hh.objs.size)) (typeOf (.ref (hh.objs.size + 1))) (.ref C) := (Looks.ld hx).andThen .now
 have s1 : Looks (model prog w) ((hh.push (tupObj us)).push (excObj C hh.objs.size)) (isSubtype (.ref C) (.ref C)) true := by
  obtain ⟨cd, hc, hm⟩ := x.mro
  refine (looks_mroIn X ?_).keeps k
  unfold mroIn
  rw [hc, Option.bind_some, hm]
  simp
 have i1 := i0.keeps k
 have b1 := (b0 (.ref (hh.objs.size + 1))).keeps k
 unfold isInstance callSpecial? specialOf
 repeat (first | with_reducible refine wpAny_call ?_ | lk)
 refine codeAny_mono hq fun r s' z => ?_
 rcases r with e | (v | _ | _ | _) <;> first | exact z | exact z.elim | skip
 obtain ⟨rfl, z⟩ := z
 exact wpAny_pure (wpAny_pure z)
end
end L2
namespace L2
open PySem PySem.Spec PyProof.Rows PySem.W Builtin Builtin.ObjectAttr
section
variable {prog : Program} {w : World} {A : Around} {E : Value → Shared → Prop} {K : Frag} {C G x : Addr} {s : Shared}
theorem bga_args (a b : Value) : argsOk "BaseException.__getattribute__" ⟨[a, b], []⟩ := F.args_bexc_ga a b
end
end L2
namespace L2
open PySem PySem.Spec PyProof.Rows PySem.W Builtin Builtin.ObjectAttr
end L2
namespace L2
open PySem PySem.Spec PyProof.Rows PySem.W
def XNew (x : Addr) (C : Value) (d : Option Addr) : Heap → Prop := fun h => ∃ ox vs t, h.get? x = some ox ∧ ox.cls = C ∧ ox.dict = d ∧ ox.data = .fields vs ∧ 4 < vs.size ∧ vs[0]? = some (.ref t) ∧ vs[1]? = some .none
theorem raise_ok {M : Model} {A : Around} {E : Value → Shared → Prop} {s : Shared} {env : Env} {K : Frag} {C G : Addr} {x0 : Sem Value} {Q : Flow → Shared → Prop} (hh : A.handled = none) (y : XTop K C G)
  (h : wpAny M A x0 (fun v s1 => ∃ x d, v = .ref x ∧ K.In s1.heap ∧ XNew x (.ref C) d s1.heap ∧ E (.ref x) s1) E s) : wpAny M A (raiseStmt env (some x0) none) Q E s := by
 unfold raiseStmt
 refine wpAny_bind (wpAny_mono h (fun v s1 q => ?_) fun _ _ z => z)
 obtain ⟨x, d, rfl, X, ⟨ox, vs, t, ho, hc, hd, hf, hz, h0, h1⟩, hE⟩ := q
 obtain ⟨cd, hcd, hmro⟩ := y.mro
 have ty : Looks M s1.heap (typeOf (.ref x)) (.ref C) := hc ▸ (Looks.ld ho).andThen .now
 have isb : Looks M s1.heap (isInstance (.ref x) (.type "BaseException")) true := ty.andThen (looks_mroIn X (by unfold mroIn; rw [hcd, Option.bind_some, hmro]; rfl))
 have nt : Looks M s1.heap (isType (.ref x)) false := by
  intro A' Q' E' s' k q
  unfold isType loadHead
  refine wpAny_bind (wpAny_loadPart (k _ _ ho) ?_)
  rw [hf]
  exact wpAny_pure q
 obtain ⟨nm, q, N, bs, hdct, sn, sub, ab, col, dd, k0, k1, k2, k3, k5, hK⟩ := y.ob
 have tt : Looks M s1.heap (typeOf (.ref C)) (.type "type") := (Looks.ld (X _ _ hK)).andThen .now
 refine wpAny_bind (wpAny_pure (wpAny_bind (wpAny_holding ?_)))
 unfold excFromValue isExcClass
 refine wpAny_bind (wpAny_bind (nt.here ?_))
 rw [if_neg Bool.false_ne_true]
 refine wpAny_pure ?_
 rw [if_neg Bool.false_ne_true]
 refine wpAny_bind (isb.here ?_)
 rw [if_pos rfl]
 refine wpAny_pure ?_
 refine wpAny_bind (nt.here ?_)
 rw [if_neg Bool.false_ne_true]
 unfold raisedInstance
 refine wpAny_bind (wpAny_bind (ty.here (wpAny_bind (tt.here ?_))))
 rw [if_pos (by decide)]
 refine wpAny_pure ?_
 unfold setFlight
 refine wpAny_bind (wpAny_bind (wpAny_field ho hf h1 ?_))
 rw [if_neg (by decide)]
 exact wpAny_pure (wpAny_raiseNew_none hh hE)
end L2
namespace L2
open PySem PySem.Spec PyProof.Rows PySem.W
structure XBas (K : Frag) (G : Addr) : Prop where
 ga : specialIn K (.ref G) "__getattribute__" = some (some (.builtin "type.__getattribute__"))
 rd : readsIn K G (.type "type") = true
 fi : findCls K (.ref G) (.type "type") "__init__" = some (.val (.builtin "ValueError.__init__"))
section
variable {X : Cx} {C G : Addr} {g : Str} {p pos apos : Pos} {e : Expr} {es : List Expr} {t : TA}
structure XFld (K : Frag) (C : Addr) (f : Str) : Prop where
 sa : findIn K (.ref C) "__setattr__" = some (some (.builtin "object.__setattr__"))
 no : findIn K (.ref C) f = some none
 hd : hasDictIn K C = true
 ga : findIn K (.ref C) "__getattribute__" = some (some (.builtin "BaseException.__getattribute__"))
 gt : findIn K (.ref C) "__getattr__" = some none
 mb : mroIn K C (.type "BaseException") = some true
end
theorem xis_true {prog : Program} {w : World} {A : Around} {E : Value → Shared → Prop} {s : Shared} {K : Frag} {x : Addr} {C c : Value} {Q : Value → Shared → Prop} (X : K.In s.heap) (ty : ∀ M, Looks M s.heap (typeOf (.ref x)) C) (hne : (C == c) = false) (e : kitCls K C c = some true)
  (h : Q (.bool true) s) : wpAny (model prog w) A (call (.builtin "isinstance") [.ref x, c]) Q E s := by
 refine call_isinstance (S := fun _ R s => (K.In s.heap ∧ ∀ M, Looks M s.heap (typeOf (.ref x)) C) ∧ R (.ok (.ret (.bool true))) s) (fun prog w A R s hs => isinstance_outer ?_ (fun z => nomatch z)) ⟨⟨X, ty⟩, h⟩
 ·obtain ⟨⟨X, LT⟩, hq⟩ := hs
  obtain ⟨h0, g, d, tt, os⟩ := s
  unfold Builtin.«isinstance.nested»
  refine wpAny_bind ((LT _).at ?_)
  rw [if_neg (by rw [hne]; decide)]
  obtain ⟨hty, his, hsub⟩ := kit_cls (M := model prog w) X e
  refine wpAny_bind (hty.at ?_)
  rw [if_pos (by decide)]
  k_delta "plainIsInstance"
  refine wpAny_bind (wpAny_bind (his.at ?_))
  simp only [Bool.not_true, Bool.false_eq_true, if_false]
  refine wpAny_bind (((LT _).andThen hsub).at ?_)
  first | exact wpAny_pure (wpAny_pure hq) | (simp only [if_true]; first | exact wpAny_pure (wpAny_pure hq) | exact wpAny_pure hq)
end L2
namespace L2
open PySem PySem.Spec PyProof.Rows PySem.W
section
variable {prog : Program} {w : World} {A : Around} {K : Frag} {C G : Addr} {R : Result → Shared → Prop} {s : Shared}
theorem xmake0 {us : List Value} (x : XTop K C G) (X : K.In s.heap) (hi : findIn K (.ref C) "__init__" = some (some (.builtin "ValueError.__init__"))) (hl : us.length ≤ sizeLine)
  (hq : R (.ok (.ret (.ref (s.heap.objs.size + 1)))) { s with heap := (((s.heap.push (tupObj us)).push (excObj C s.heap.objs.size)).push (tupObj us)).update (s.heap.objs.size + 1) (Obj.mapFields (·.setIfInBounds 0 (.ref (s.heap.objs.size + 2)))) }) :
  codeAny (model prog w) A (.call (.ref C) ⟨us, []⟩) R s := by
 have F0 := F.excBase_ValueError
 refine xmake_core x X hi (fun self => Looks.of_pure (F0.init.bind self)) hl ?_
 obtain ⟨hh, g, d, tk, os⟩ := s
 obtain ⟨nm, q, N, bs, hdct, sn, sub, ab, col, dd, k0, k1, k2, k3, k5, hK⟩ := x.ob
 have k : ∀ b o, hh.get? b = some o → ((hh.push (tupObj us)).push (excObj C hh.objs.size)).get? b = some o := fun b o e => Heap.get?_push_of_some _ (Heap.get?_push_of_some _ e)
 have hx : ((hh.push (tupObj us)).push (excObj C hh.objs.size)).get? (hh.objs.size + 1) = some (excObj C hh.objs.size) := by heap_get
 have X2 := X.keeps k
 refine codeAny_call_builtin F0.init.plain F0.initEntry (wpAny_check_init_subT F0 (x.mid.tail X2) (X2 _ _ hK) hx rfl ?_)
 have hx2 : (((hh.push (tupObj us)).push (excObj C hh.objs.size)).push (tupObj us)).get? (hh.objs.size + 1) = some (excObj C hh.objs.size) := Heap.get?_push_of_some _ hx
 unfold Builtin.«BaseException.__init__»
 refine wpAny_bind (wpAny_newTuple ?_ hl)
 unfold Builtin.BaseException.bexcPut
 refine wpAny_bind (wpAny_bind (wpAny_field (s := ⟨((hh.push (tupObj us)).push (excObj C hh.objs.size)).push (tupObj us), g, d, tk, os⟩) hx2 rfl (x := .ref hh.objs.size) rfl (wpAny_bind (wpAny_setField (s := ⟨((hh.push (tupObj us)).push (excObj C hh.objs.size)).push (tupObj us), g, d, tk, os⟩) hx2 rfl (by simp) ?_))))
 wp_walk
 refine ⟨rfl, ?_⟩
 have e2 : ((hh.push (tupObj us)).push (excObj C hh.objs.size)).objs.size = hh.objs.size + 2 := by rw [Heap.size_push, Heap.size_push]
 rw [← e2] at hq
 exact hq
end
def tRaise0 (C : Addr) (E : XKS) (t : TA) : TS := fun _ σ H => t σ H fun vs H1 => vs.length ≤ 1000 ∧ ∀ y, H1 y = none → E σ (.ref C) none (upd H1 y (.ext (XO y (.ref C) none)))
section
variable {X : Cx} {j k : Nat} {C G : Addr} {E : XKS} {x : Str} {p pos cpos : Pos} {e : Expr} {es : List Expr} {t : TA}
theorem ps_raise0 (Z : XTop X.K C G) (hi : findIn X.K (.ref C) "__init__" = some (some (.builtin "ValueError.__init__"))) (nm : X.mg x = some (.ref C)) (hT : Takes X E) (hr : Room k X.A) (hg : Gl X x) (ha : PA X (e :: es) t) (hdb : (x == ("__debug__" : Str)) = false := by decide)
  (he : starEach (e :: es) X.env = (false, eval e X.env) :: starEach es X.env := by rfl) (hpl : (backTo cpos (starEach es X.env)).any (·.1) = false := by rfl) :
  PS X (.Raise (some (.Call (.Name x p) (e :: es) [] cpos)) none pos) (tRaise0 C E t) := by
 intro pins s σ H D I h
 show wpAny _ _ (standAt pos >>= fun _ => raiseStmt X.env (some (eval (.Call (.Name x p) (e :: es) [] cpos) X.env >>= fun v => standAt pos >>= fun _ => pure v)) none) _ _ s
 refine wpAny_bind (wpAny_standAt (raise_ok (hr.hd) Z (wpAny_bind ?_)))
 refine wpAny_Call_Name_kw (ld_glob I hg nm ?_ hdb)
 refine PySem.W.callWith_K (h₀ := X.base) I.ok.mod.kin Z.kp (thn (ha cpos pins s σ H _ I h) fun us s1 ⟨vs, H1, I1, r, hl, q⟩ => ⟨I1.kIn, ?_⟩) he hpl
 have hlu : us.length ≤ sizeLine := by rw [← r.length]; exact Nat.le_trans hl (by decide)
 have hy : H1 (s1.heap.objs.size + 1) = none := I1.hok.fresh (Nat.le_succ _)
 have hE := q (s1.heap.objs.size + 1) hy
 refine wpAny_call (xmake0 Z I1.kIn hi hlu ?_)
 have hx : ((s1.heap.push (tupObj us)).push (excObj C s1.heap.objs.size)).get? (s1.heap.objs.size + 1) = some (excObj C s1.heap.objs.size) := by heap_get
 have hx2 : (((s1.heap.push (tupObj us)).push (excObj C s1.heap.objs.size)).push (tupObj us)).get? (s1.heap.objs.size + 1) = some (excObj C s1.heap.objs.size) := Heap.get?_push_of_some _ hx
 have I2 : Inv X pins σ (upd H1 (s1.heap.objs.size + 1) (.ext (XO (s1.heap.objs.size + 1) (.ref C) none))) { s1 with heap := (s1.heap.push (tupObj us)).push (excObj C s1.heap.objs.size) } := by
  have a := I1.kept (t' := s1.toks) (h' := s1.heap.push (tupObj us)) fun b u q => Heap.get?_push_of_some _ q
  exact a.laid (t' := s1.toks) (fun b u q => Heap.get?_push_of_some _ q) (by show (s1.heap.push (tupObj us)).objs.size ≤ _; rw [Heap.size_push]; exact Nat.le_refl _) (XO.ext_ok ⟨_, _, hx, rfl, rfl, rfl, by simp⟩)
 have I3 := I2.kept (t' := s1.toks) (h' := ((s1.heap.push (tupObj us)).push (excObj C s1.heap.objs.size)).push (tupObj us)) fun b u q => Heap.get?_push_of_some _ q
 have I4 := I3.poke (t' := s1.toks) (h' := (((s1.heap.push (tupObj us)).push (excObj C s1.heap.objs.size)).push (tupObj us)).update (s1.heap.objs.size + 1) (Obj.mapFields (·.setIfInBounds 0 (.ref (s1.heap.objs.size + 2))))) upd_same (fun b u hb z => (Heap.get?_update_other _ _ (Ne.symm hb)).trans z) (XO.put ⟨_, _, hx2, rfl, rfl, rfl, by simp⟩ 0 _)
 have hget := fld_up 0 (.ref (s1.heap.objs.size + 2)) hx2 rfl
 refine wpAny_bind (wpAny_standAt (wpAny_pure ⟨_, none, rfl, I4.kIn, ⟨_, _, s1.heap.objs.size + 2, hget, rfl, rfl, rfl, by simp, rfl, rfl⟩, ?_⟩))
 exact hT pins σ _ _ _ (.ref C) none I4 upd_same (fun _ => Nat.le_trans I1.sz (Nat.le_succ _)) (.inl ⟨_, _, hget, rfl, rfl⟩) hE
end
section
variable {X : Cx}
theorem call_xisR : CallR X (.builtin "isinstance") (fun xs H Q => ∃ a oe C D, xs = [.ref a, .ref D] ∧ H a = some (Known a oe) ∧ oe.cls = .ref C ∧ C ≠ D ∧ isClsIn X.K D = true ∧ typeIn X.K (.ref D) = some (.type "type") ∧ mroIn X.K C (.ref D) = some true ∧ Q (.bl true) H) := by
 intro pins s σ H xs us Q I r h
 obtain ⟨a, oe, C, D, rfl, hk, hc, hne, h1, h2, h3, q⟩ := h
 obtain ⟨u, v, rfl, rx, ry⟩ := Vals.two r
 obtain rfl : u = Value.ref a := rx
 obtain rfl : v = Value.ref D := ry
 have ho : s.heap.get? a = some oe := (I.hok a _ hk).1
 refine xis_true I.kIn (C := .ref C) (fun M => hc ▸ (Looks.ld ho).andThen .now) (by simpa using hne) ?_ ⟨.bl true, H, I, rfl, q⟩
 unfold kitCls
 dsimp only
 unfold isClsIn at h1
 rw [h1, h2, if_pos (by decide)]
 exact h3
theorem call_xisT : CallR X (.builtin "isinstance") (fun xs H Q => ∃ a oe C n, xs = [.ref a, .ty n] ∧ H a = some (Known a oe) ∧ oe.cls = .ref C ∧ kitMeta n = true ∧ mroIn X.K C (.type n) = some true ∧ Q (.bl true) H) := by
 intro pins s σ H xs us Q I r h
 obtain ⟨a, oe, C, n, rfl, hk, hc, h1, h3, q⟩ := h
 obtain ⟨u, v, rfl, rx, ry⟩ := Vals.two r
 obtain rfl : u = Value.ref a := rx
 obtain rfl : v = Value.type n := ry
 have ho : s.heap.get? a = some oe := (I.hok a _ hk).1
 refine xis_true I.kIn (C := .ref C) (fun M => hc ▸ (Looks.ld ho).andThen .now) rfl ?_ ⟨.bl true, H, I, rfl, q⟩
 unfold kitCls
 dsimp only
 rw [if_pos h1]
 exact h3
end
end L2
namespace L2
open PySem PySem.Spec PyProof.Rows
abbrev TJ := St → Hp → Str → (Str → Hp → Prop) → Prop
def PJ (X : Cx) (es : List Expr) (t : TJ) : Prop := ∀ (pins : List (Addr × Obj)) (s : Shared) (σ : St) (H : Hp) (acc : Str) (Q : Str → Hp → Prop), Inv X pins σ H s → t σ H acc Q →
 wpAny (model X.prog X.w) X.A (joinParts acc (evalEach es X.env)) (EP X pins σ fun v H' => ∃ z, v = .str z ∧ Q z H') X.xe s
def tJNil : TJ := fun _ H acc Q => acc.length ≤ sizeLine ∧ Q acc H
def tJCons (te : TE) (t : TJ) : TJ := fun σ H acc Q => te σ H fun v H1 => ∃ y, v = .str y ∧ (acc ++ y).length ≤ sizeLine ∧ t σ H1 (acc ++ y) Q
def tFv (tv : TE) : TE := fun σ H Q => tv σ H fun v H1 => (∃ z, v = .str z ∧ z.length ≤ sizeLine ∧ Q (.str z) H1) ∨ ∃ i : Int, v = .int i ∧ i.natAbs.log2 < 1920 ∧ Q (.str (Str.ofString (toString i))) H1
def tJoined (t : TJ) : TE := fun σ H Q => t σ H Str.empty fun z H' => Q (.str z) H'
section
variable {X : Cx} {e : Expr} {es : List Expr} {te : TE} {t : TJ} {pos : Pos}
theorem pj_nil : PJ X [] tJNil := fun _ _ _ H acc _ I h => joinParts_nil ⟨.str acc, H, I.tok _, ⟨_, rfl⟩, acc, rfl, h.2⟩ h.1
theorem pj_cons (he : PE X e te) (hr : PJ X es t) (hs : evalEach (e :: es) X.env = eval e X.env :: evalEach es X.env := by rfl) : PJ X (e :: es) (tJCons te t) := by
 intro pins s σ H acc Q I h
 rw [hs]
 refine joinParts_cons (thn (he pins s σ H _ I h) fun u s1 ⟨v, H1, I1, r, y, ev, hz, q⟩ => ?_)
 subst ev
 obtain ⟨tk, rfl⟩ := r
 exact ⟨hz, hr pins s1 σ H1 _ Q I1 q⟩
theorem pe_fv (he : PE X e te) : PE X (.FormattedValue e (-1) none pos) (tFv te) := by
 intro pins s σ H Q I h
 refine FormattedValue_plain (thn (he pins s σ H _ I h) fun u s1 ⟨v, H1, I1, r, q⟩ => ?_)
 rcases q with ⟨z, rfl, hz, q⟩ | ⟨i, rfl, hi, q⟩
 ·obtain ⟨tk, rfl⟩ := r
  exact formatField_str (fun t' tk => ⟨.str z, H1, I1.tok _, ⟨_, rfl⟩, q⟩) hz
 ·obtain ⟨tk, rfl⟩ := r
  exact formatField_int_small hi ⟨.str _, H1, I1.tok _, ⟨_, rfl⟩, q⟩
theorem pe_joined {e2 : Expr} (h : PJ X (e :: e2 :: es) t) : PE X (.JoinedStr (e :: e2 :: es) pos) (tJoined t) := by
 intro pins s σ H Q I hw
 refine JoinedStr_many (thn (h pins s σ H _ _ I hw) fun u s1 ⟨v, H1, I1, r, z, ev, q⟩ => ⟨v, H1, I1, r, by rw [ev]; exact q⟩)
end
end L2
namespace L2
open PySem PySem.Spec PyProof.Rows
end L2
namespace L2
open PySem PySem.Spec PyProof.Rows
end L2
namespace L2
open PySem PySem.Spec PyProof.Rows PySem.W
variable {X : Cx}
theorem call_xisTK {K : Frag} (hK : X.K = K) : CallR X (.builtin "isinstance") (fun xs H Q => ∃ a oe C n, xs = [.ref a, .ty n] ∧ H a = some (Known a oe) ∧ oe.cls = .ref C ∧ kitMeta n = true ∧ mroIn K C (.type n) = some true ∧ Q (.bl true) H) := by
 subst hK
 exact call_xisT
end L2
namespace Srt
open PySem PyProof.Rows
def gallop' : Bool → Keyed → Array Keyed → Nat → Nat → Nat → StateT SortSt Sem (Option Nat) := sortPriv% PySem.Builtin.gallop
def mergeLo' : Array Keyed → Array Keyed → StateT SortSt Sem (Array Keyed) := sortPriv% PySem.Builtin.mergeLo
def mergeHi' : Array Keyed → Array Keyed → StateT SortSt Sem (Array Keyed) := sortPriv% PySem.Builtin.mergeHi
structure Like (st st' : SortSt) : Prop where
 arr : arrOf st' = arrOf st
 kind : kindOf st' = kindOf st
 fail : failedOf st' = failedOf st
 pend : pendingOf st' = pendingOf st
theorem Like.refl (st : SortSt) : Like st st := ⟨rfl, rfl, rfl, rfl⟩
theorem Like.trans {a b c : SortSt} (x : Like a b) (y : Like b c) : Like a c := ⟨y.arr.trans x.arr, y.kind.trans x.kind, y.fail.trans x.fail, y.pend.trans x.pend⟩
section
variable {prog : Program} {w : World} {A : Around} {E : Value → Shared → Prop} {s : Shared} {κ : SortKind} {Ok : Keyed → Prop} {st : SortSt}
theorem wpS_elem {arr : Array Keyed} {i : Nat} {Q : Keyed → SortSt → Prop} (hi : i < arr.size) (h : ∀ p, p ∈ arr.toList → arr[i]? = some p → Q p st) : wpS (model prog w) A E s (elem' arr i) Q st := by
 have e : arr[i]? = some arr[i] := getElem?_pos arr i hi
 rw [elem'_eq, e]
 exact wpS_pure (h _ (by simp) e)
end
end Srt
namespace Srt
open PySem PyProof.Rows
def Out (a b : Array Keyed) (out : Array Keyed) (ia ib : Nat) : Prop := out.toList.Perm (a.toList.take ia ++ b.toList.take ib)
section
variable {a b out : Array Keyed} {ia ib : Nat}
theorem perm4 {α : Type} (x y z w : List α) : (x ++ y ++ (z ++ w)).Perm (x ++ z ++ (y ++ w)) := by
 rw [List.append_assoc, List.append_assoc]
 refine List.Perm.append_left x ?_
 rw [← List.append_assoc, ← List.append_assoc]
 exact List.Perm.append_right w List.perm_append_comm
theorem Out.done (h : Out a b out ia ib) : (out ++ a.extract ia a.size ++ b.extract ib b.size).toList.Perm (a.toList ++ b.toList) := by
 rw [Array.toList_append, Array.toList_append, Array.toList_extract, Array.toList_extract]
 have e1 : a.toList.extract ia a.size = a.toList.drop ia := by rw [List.extract_eq_drop_take]; apply List.take_of_length_le; rw [List.length_drop, Array.length_toList]; exact Nat.le_refl _
 have e2 : b.toList.extract ib b.size = b.toList.drop ib := by rw [List.extract_eq_drop_take]; apply List.take_of_length_le; rw [List.length_drop, Array.length_toList]; exact Nat.le_refl _
 rw [e1, e2, List.append_assoc]
 refine (List.Perm.append_right _ h).trans ((perm4 ..).trans ?_)
 rw [List.take_append_drop, List.take_append_drop]
theorem Out.last (h : Out a b out ia ib) : (out ++ b.extract ib b.size ++ a.extract ia a.size).toList.Perm (a.toList ++ b.toList) := by
 refine List.Perm.trans ?_ h.done
 rw [Array.toList_append, Array.toList_append, Array.toList_append, Array.toList_append, List.append_assoc, List.append_assoc]
 exact List.Perm.append_left _ List.perm_append_comm
theorem Out.extA {k : Nat} (h : Out a b out ia ib) (hk : ia + k ≤ a.size) : Out a b (out ++ a.extract ia (ia + k)) (ia + k) ib := by
 unfold Out
 rw [Array.toList_append, Array.toList_extract, List.extract_eq_drop_take]
 have e : a.toList.take (ia + k) = a.toList.take ia ++ (a.toList.drop ia).take k := List.take_add ..
 rw [e, show ia + k - ia = k by lia]
 refine (List.Perm.append_right _ h).trans ?_
 rw [List.append_assoc, List.append_assoc]
 exact List.Perm.append_left _ List.perm_append_comm
theorem Out.extB {k : Nat} (h : Out a b out ia ib) (hk : ib + k ≤ b.size) : Out a b (out ++ b.extract ib (ib + k)) ia (ib + k) := by
 unfold Out
 rw [Array.toList_append, Array.toList_extract, List.extract_eq_drop_take]
 have e : b.toList.take (ib + k) = b.toList.take ib ++ (b.toList.drop ib).take k := List.take_add ..
 rw [e, show ib + k - ib = k by lia]
 refine (List.Perm.append_right _ h).trans ?_
 rw [List.append_assoc]
theorem take_one {α : Type} {xs : List α} {i : Nat} {p : α} (h : xs[i]? = some p) : xs.take (i + 1) = xs.take i ++ [p] := by
 obtain ⟨hi, e⟩ := List.getElem?_eq_some_iff.mp h
 rw [List.take_succ_eq_append_getElem hi, e]
theorem Out.pushA {p : Keyed} (h : Out a b out ia ib) (hp : a[ia]? = some p) : Out a b (out.push p) (ia + 1) ib := by
 have hp' : a.toList[ia]? = some p := by rw [← hp]; simp
 unfold Out
 rw [Array.toList_push, take_one hp']
 refine (List.Perm.append_right _ h).trans ?_
 rw [List.append_assoc, List.append_assoc]
 exact List.Perm.append_left _ List.perm_append_comm
theorem Out.pushB {p : Keyed} (h : Out a b out ia ib) (hp : b[ib]? = some p) : Out a b (out.push p) ia (ib + 1) := by
 have hp' : b.toList[ib]? = some p := by rw [← hp]; simp
 unfold Out
 rw [Array.toList_push, take_one hp']
 refine (List.Perm.append_right _ h).trans ?_
 rw [List.append_assoc]
theorem out0 {p : Keyed} (hp : b[0]? = some p) : Out a b #[p] 0 1 := by
 have h0 : Out a b #[] 0 0 := by
  unfold Out
  rw [List.take_zero, List.take_zero]
  exact List.Perm.refl _
 exact h0.pushB hp
end
end Srt
namespace Srt
open PySem PyProof.Rows
section
variable {prog : Program} {w : World} {A : Around} {E : Value → Shared → Prop} {s : Shared} {κ : SortKind} {Ok : Keyed → Prop} {st : SortSt}
theorem like_gallop (st : SortSt) (g : Nat) : Like st (SortSt.mk' (kindOf st) (arrOf st) (pendingOf st) g (failedOf st)) := ⟨rfl, rfl, rfl, rfl⟩
end
end Srt
namespace Srt
open PySem PyProof.Rows
def OutH (a b : Array Keyed) (out : Array Keyed) (na nb : Nat) : Prop := out.toList.Perm (a.toList.drop na ++ b.toList.drop nb)
section
variable {a b out : Array Keyed} {na nb : Nat}
theorem ex0 (a : Array Keyed) (n : Nat) : (a.extract 0 n).toList = a.toList.take n := by
 rw [Array.toList_extract, List.extract_eq_drop_take, List.drop_zero, Nat.sub_zero]
theorem OutH.done (h : OutH a b out na nb) : (a.extract 0 na ++ b.extract 0 nb ++ out.reverse).toList.Perm (a.toList ++ b.toList) := by
 rw [Array.toList_append, Array.toList_append, ex0, ex0, Array.toList_reverse]
 refine (List.Perm.append_left _ ((List.reverse_perm _).trans h)).trans ((perm4 ..).trans ?_)
 rw [List.take_append_drop, List.take_append_drop]
theorem OutH.first (h : OutH a b out na nb) : (b.extract 0 nb ++ a.extract 0 na ++ out.reverse).toList.Perm (a.toList ++ b.toList) := by
 refine List.Perm.trans ?_ h.done
 rw [Array.toList_append, Array.toList_append, Array.toList_append, Array.toList_append]
 exact List.Perm.append_right _ List.perm_append_comm
theorem drop_one {α : Type} {xs : List α} {i : Nat} {p : α} (h : xs[i]? = some p) : xs.drop i = p :: xs.drop (i + 1) := by
 obtain ⟨hi, e⟩ := List.getElem?_eq_some_iff.mp h
 rw [← e]
 exact List.drop_eq_getElem_cons hi
theorem OutH.pushA {p : Keyed} (h : OutH a b out na nb) (h1 : 1 ≤ na) (hp : a[na - 1]? = some p) : OutH a b (out.push p) (na - 1) nb := by
 have hp' : a.toList[na - 1]? = some p := by rw [← hp]; simp
 unfold OutH
 rw [Array.toList_push, drop_one hp', Nat.sub_add_cancel h1]
 refine (List.Perm.append_right _ h).trans ?_
 exact List.perm_append_comm
theorem OutH.pushB {p : Keyed} (h : OutH a b out na nb) (h1 : 1 ≤ nb) (hp : b[nb - 1]? = some p) : OutH a b (out.push p) na (nb - 1) := by
 have hp' : b.toList[nb - 1]? = some p := by rw [← hp]; simp
 unfold OutH
 rw [Array.toList_push, drop_one hp', Nat.sub_add_cancel h1]
 refine (List.Perm.append_right _ h).trans ?_
 rw [List.append_assoc]
 refine List.Perm.append_left _ ?_
 exact List.perm_append_comm
theorem drop_mid {α : Type} (xs : List α) {i j : Nat} (h : i ≤ j) : xs.drop i = (xs.drop i).take (j - i) ++ xs.drop j := by
 have := List.take_append_drop (j - i) (xs.drop i)
 rw [List.drop_drop, Nat.add_sub_cancel' h] at this
 exact this.symm
theorem OutH.extA {k : Nat} (h : OutH a b out na nb) (hk : k ≤ na) : OutH a b (out ++ (a.extract k na).reverse) k nb := by
 unfold OutH
 rw [Array.toList_append, Array.toList_reverse, Array.toList_extract, List.extract_eq_drop_take]
 refine (List.Perm.append h (List.reverse_perm _)).trans ?_
 refine List.perm_append_comm.trans ?_
 rw [← List.append_assoc, ← drop_mid a.toList hk]
theorem OutH.extB {k : Nat} (h : OutH a b out na nb) (hk : k ≤ nb) : OutH a b (out ++ (b.extract k nb).reverse) na k := by
 unfold OutH
 rw [Array.toList_append, Array.toList_reverse, Array.toList_extract, List.extract_eq_drop_take]
 refine (List.Perm.append h (List.reverse_perm _)).trans ?_
 rw [List.append_assoc]
 refine List.Perm.append_left _ (List.perm_append_comm.trans ?_)
 rw [← drop_mid b.toList hk]
theorem outH0 {p : Keyed} (h1 : 1 ≤ a.size) (hp : a[a.size - 1]? = some p) : OutH a b #[p] (a.size - 1) b.size := by
 have h0 : OutH a b #[] a.size b.size := by
  unfold OutH
  rw [List.drop_eq_nil_of_le (by rw [Array.length_toList]; exact Nat.le_refl _), List.drop_eq_nil_of_le (by rw [Array.length_toList]; exact Nat.le_refl _)]
  exact List.Perm.refl _
 exact h0.pushA h1 hp
end
end Srt
namespace Srt
open PySem PyProof.Rows
structure Pm (st st' : SortSt) : Prop where
 arr : (arrOf st').toList.Perm (arrOf st).toList
 kind : kindOf st' = kindOf st
 fail : failedOf st' = failedOf st
 pend : pendingOf st' = pendingOf st
theorem Pm.refl (st : SortSt) : Pm st st := ⟨List.Perm.refl _, rfl, rfl, rfl⟩
theorem Pm.trans {a b c : SortSt} (x : Pm a b) (y : Pm b c) : Pm a c := ⟨y.arr.trans x.arr, y.kind.trans x.kind, y.fail.trans x.fail, y.pend.trans x.pend⟩
theorem Pm.size {a b : SortSt} (x : Pm a b) : (arrOf b).size = (arrOf a).size := by
 have := x.arr.length_eq
 rw [Array.length_toList, Array.length_toList] at this
 exact this
theorem Pm.ok {a b : SortSt} {Ok : Keyed → Prop} (x : Pm a b) (h : ∀ p ∈ (arrOf a).toList, Ok p) : ∀ p ∈ (arrOf b).toList, Ok p := fun p hp => h p (x.arr.mem_iff.mp hp)
theorem Pm.mirror (st : SortSt) (i j : Nat) : Pm st (setArr st (mirror (arrOf st) i j ((j - i) / 2))) := ⟨Array.perm_iff_toList_perm.mp (mirror_perm _ _ _ _), rfl, rfl, rfl⟩
theorem Pm.bubble (st : SortSt) (i j : Nat) : Pm st (setArr st (bubble (arrOf st) i (i - j))) := ⟨Array.perm_iff_toList_perm.mp (bubble_perm _ _ _), rfl, rfl, rfl⟩
end Srt
namespace Srt
open PySem PyProof.Rows
def Cov : List (Nat × Nat × Nat) → Nat → Nat → Prop
 | [], lo, hi => lo = hi
 | x :: r, lo, hi => x.1 = lo ∧ 1 ≤ x.2.1 ∧ Cov r (lo + x.2.1) hi
theorem Cov.le : ∀ {l : List (Nat × Nat × Nat)} {lo hi : Nat}, Cov l lo hi → lo + l.length ≤ hi
 | [], lo, hi, h => Nat.le_of_eq h
 | x :: r, lo, hi, ⟨_, h1, h2⟩ => by
  have := Cov.le h2
  rw [List.length_cons]
  lia
theorem Cov.push : ∀ {l : List (Nat × Nat × Nat)} {lo hi n p : Nat}, Cov l lo hi → 1 ≤ n → Cov (l ++ [(hi, n, p)]) lo (hi + n)
 | [], lo, hi, n, p, h, h1 => by
  have e : lo = hi := h
  subst e
  exact ⟨rfl, h1, rfl⟩
 | x :: r, lo, hi, n, p, ⟨a, b, c⟩, h1 => ⟨a, b, c.push h1⟩
theorem Cov.at : ∀ {l : List (Nat × Nat × Nat)} {i lo hi sa na p sb nb q : Nat}, Cov l lo hi → l[i]? = some (sa, na, p) → l[i + 1]? = some (sb, nb, q) →
  sb = sa + na ∧ 1 ≤ na ∧ 1 ≤ nb ∧ sb + nb ≤ hi ∧ Cov ((l.set i (sa, na + nb, p)).eraseIdx (i + 1)) lo hi
 | x :: y :: r, 0, lo, hi, sa, na, p, sb, nb, q, ⟨a, b, c1, c2, c3⟩, h1, h2 => by
  have e1 : x = (sa, na, p) := by simpa using h1
  have e2 : y = (sb, nb, q) := by simpa using h2
  subst e1
  subst e2
  have a' : sa = lo := a
  have c1' : sb = lo + na := c1
  have hle := c3.le
  subst a'
  refine ⟨c1', b, c2, ?_, rfl, ?_, ?_⟩
  ·have : sa + na + nb ≤ hi := by
    have h3 : sa + na + nb + r.length ≤ hi := hle
    lia
   lia
  ·show 1 ≤ na + nb
   have : 1 ≤ na := b
   lia
  ·show Cov r (sa + (na + nb)) hi
   rw [← Nat.add_assoc]
   exact c3
 | x :: r, i + 1, lo, hi, sa, na, p, sb, nb, q, ⟨a, b, c⟩, h1, h2 => by
  obtain ⟨k1, k2, k3, k4, k5⟩ := Cov.at (l := r) (i := i) c (by simpa using h1) (by simpa using h2)
  exact ⟨k1, k2, k3, k4, a, b, k5⟩
 | [x], 0, _, _, _, _, _, _, _, _, _, _, h2 => by simp at h2
 | [], _, _, _, _, _, _, _, _, _, _, h1, _ => by simp at h1
theorem Cov.last : ∀ {l : List (Nat × Nat × Nat)} {lo hi : Nat} (f : Nat × Nat × Nat → Nat × Nat × Nat) (_ : ∀ x, (f x).1 = x.1 ∧ (f x).2.1 = x.2.1) (i : Nat), Cov l lo hi → Cov (l.modify i f) lo hi
 | [], lo, hi, f, hf, i, h => by cases i <;> exact h
 | x :: r, lo, hi, f, hf, 0, ⟨a, b, c⟩ => by
  refine ⟨(hf x).1.trans a, by rw [(hf x).2]; exact b, ?_⟩
  rw [(hf x).2]
  exact c
 | x :: r, lo, hi, f, hf, i + 1, ⟨a, b, c⟩ => ⟨a, b, Cov.last f hf i c⟩
theorem splice (base : Nat) : ∀ (m : List Keyed) (n : Nat) (arr : Array Keyed), base + n + m.length ≤ arr.size →
  ((m.zipIdx n).foldl (fun (a : Array Keyed) (x : Keyed × Nat) => match x with | (p, j) => a.setIfInBounds (base + j) p) arr).toList = arr.toList.take (base + n) ++ m ++ arr.toList.drop (base + n + m.length)
 | [], n, arr, _ => by
  show arr.toList = _
  rw [List.append_nil, List.length_nil, Nat.add_zero, List.take_append_drop]
 | p :: m, n, arr, h => by
  rw [List.length_cons] at h
  rw [List.zipIdx_cons, List.foldl_cons]
  have hs : (arr.setIfInBounds (base + n) p).size = arr.size := Array.size_setIfInBounds
  rw [splice base m (n + 1) _ (by rw [hs]; lia), Array.toList_setIfInBounds]
  have hl : base + n < arr.toList.length := by rw [Array.length_toList]; lia
  rw [← Nat.add_assoc, List.take_set, List.drop_set_of_lt (by lia)]
  have e1 : (arr.toList.take (base + n + 1)).set (base + n) p = arr.toList.take (base + n) ++ [p] := by
   rw [List.take_succ_eq_append_getElem hl, List.set_append_right _ _ (by rw [List.length_take]; lia)]
   rw [show base + n - (arr.toList.take (base + n)).length = 0 by rw [List.length_take]; lia]
   rfl
  rw [e1, List.length_cons, show base + n + 1 + m.length = base + n + (m.length + 1) by lia]
  simp
section
variable {prog : Program} {w : World} {A : Around} {E : Value → Shared → Prop} {s : Shared} {κ : SortKind} {Ok : Keyed → Prop} {st : SortSt}
structure SB (a₀ : Array Keyed) (κ : SortKind) (hi : Nat) (st : SortSt) : Prop where
 arr : (arrOf st).toList.Perm a₀.toList
 kind : kindOf st = κ
 fail : failedOf st = none
 cov : Cov (pendingOf st).toList 0 hi
theorem SB.size {a₀ : Array Keyed} {hi : Nat} (x : SB a₀ κ hi st) : (arrOf st).size = a₀.size := by
 have := x.arr.length_eq
 rw [Array.length_toList, Array.length_toList] at this
 exact this
theorem SB.ok {a₀ : Array Keyed} {hi : Nat} (x : SB a₀ κ hi st) (h : ∀ p ∈ a₀.toList, Ok p) : ∀ p ∈ (arrOf st).toList, Ok p := fun p hp => h p (x.arr.mem_iff.mp hp)
theorem SB.pm {a₀ : Array Keyed} {hi : Nat} {st' : SortSt} (x : SB a₀ κ hi st) (p : Pm st st') : SB a₀ κ hi st' := ⟨p.arr.trans x.arr, p.kind.trans x.kind, p.fail.trans x.fail, by rw [p.pend]; exact x.cov⟩
end
end Srt
namespace Srt
open PySem PyProof.Rows
section
variable {prog : Program} {w : World} {A : Around} {E : Value → Shared → Prop} {s : Shared} {κ : SortKind} {Ok : Keyed → Prop} {st : SortSt}
theorem wpS_set {v : SortSt} {Q : PUnit → SortSt → Prop} (h : Q ⟨⟩ v) : wpS (model prog w) A E s (set v : StateT SortSt Sem PUnit) Q st := by
 unfold wpS
 rw [StateT.run_set]
 exact wpAny_pure ⟨rfl, h⟩
theorem splice2 (base : Nat) (m : List Keyed) (arr : Array Keyed) (h : base + m.length ≤ arr.size) :
  (m.zipIdx.foldl (fun (a : Array Keyed) (x : Keyed × Nat) => a.setIfInBounds (base + x.2) x.1) arr).toList = arr.toList.take base ++ m ++ arr.toList.drop (base + m.length) := splice base m 0 arr h
theorem ex_mid (L : List Keyed) {m b e : Nat} (h1 : m ≤ b) (h2 : b ≤ e) : L.extract m b ++ L.extract b e = (L.drop m).take (e - m) := by
 rw [List.extract_eq_drop_take, List.extract_eq_drop_take, show e - m = (b - m) + (e - b) by lia, List.take_add, List.drop_drop, Nat.add_sub_cancel' h1]
theorem perm_mid {L r : List Keyed} {m c : Nat} (h : r.Perm ((L.drop m).take c)) (hc : r.length = c) : (L.take m ++ r ++ L.drop (m + r.length)).Perm L := by
 subst hc
 have e : L = L.take m ++ (L.drop m).take r.length ++ L.drop (m + r.length) := by
  rw [List.append_assoc, ← List.drop_drop, List.take_append_drop, List.take_append_drop]
 refine List.Perm.trans ?_ (List.Perm.of_eq e.symm)
 exact List.Perm.append_right _ (List.Perm.append_left _ h)
end
end Srt
namespace Srt
open PySem PyProof.Rows
end Srt
namespace Srt
open PySem PyProof.Rows
section
variable {prog : Program} {w : World} {A : Around} {E : Value → Shared → Prop} {s : Shared}
theorem snds_perm {vs : List Value} {xs : Array Keyed} (h : xs.toList.Perm (pairsOf vs).toList) : (xs.map (·.2)).toList.Perm vs := by
 rw [Array.toList_map]
 refine (h.map (·.2)).trans (List.Perm.of_eq ?_)
 rw [pairsOf_toList, show (fun p : Keyed => p.2) = Prod.snd from rfl, List.map_snd_zip (Nat.le_refl _)]
end
end Srt
namespace Srt
open PySem PyProof.Rows
end Srt
namespace Srt
open PySem PyProof.Rows PySem.W
end Srt
namespace L2
open PySem PySem.Spec PyProof.Rows
theorem vals_mem : ∀ {vs : List V} {us : List Value}, Vals vs us → ∀ u ∈ us, ∃ v ∈ vs, RelV v u
 | _, _, .cons a t, u, hu => by
  rcases List.mem_cons.mp hu with rfl | hu
  ·exact ⟨_, List.mem_cons_self .., a⟩
  ·obtain ⟨v, hv, r⟩ := vals_mem t u hu
   exact ⟨v, List.mem_cons_of_mem _ hv, r⟩
end L2
namespace L2
open PySem PySem.Spec PyProof.Rows PySem.W
end L2
namespace L2
open PySem PySem.Spec PyProof.Rows PySem.W
end L2
namespace Srt
open PySem PyProof.Rows PySem.W
end Srt
namespace L2
open PySem PySem.Spec PyProof.Rows
end L2
namespace L2
open PySem PySem.Spec PyProof.Rows
end L2
namespace Sts
open PySem
def nx (m i : Nat) : Nat := (i * 5 + 1) % (m + 1)
def itn (m : Nat) : Nat → Nat → Nat
 | 0, i => i
 | n + 1, i => itn m n (nx m i)
theorem itn_add (m : Nat) : ∀ a b i, itn m (a + b) i = itn m b (itn m a i)
 | 0, b, i => by rw [Nat.zero_add]; rfl
 | a + 1, b, i => by rw [Nat.add_right_comm]; exact itn_add m a b (nx m i)
def seen (m : Nat) : Nat → Nat → Nat → Nat
 | 0, _, acc => acc
 | n + 1, i, acc => seen m n (nx m i) (acc ||| (1 <<< i))
theorem seen_bit (m : Nat) : ∀ n i acc j, (seen m n i acc).testBit j = true → acc.testBit j = true ∨ ∃ k, k < n ∧ itn m k i = j
 | 0, _, _, _, h => .inl h
 | n + 1, i, acc, j, h => by
  rcases seen_bit m n (nx m i) _ j h with h | ⟨k, hk, e⟩
  ·rw [Nat.testBit_or, Bool.or_eq_true] at h
   rcases h with h | h
   ·exact .inl h
   ·rw [Nat.testBit_shiftLeft] at h
    have h2 : i ≤ j ∧ (1 : Nat).testBit (j - i) = true := by simpa using h
    have h3 : j - i = 0 := by
     have := h2.2
     rw [Nat.testBit_one_eq_true_iff_self_eq_zero] at this
     exact this
    exact .inr ⟨0, Nat.succ_pos _, by show i = j; lia⟩
  ·exact .inr ⟨k + 1, Nat.succ_lt_succ hk, e⟩
def Good (m : Nat) : Prop := m = 7 ∨ m = 15 ∨ m = 31 ∨ m = 63 ∨ m = 127 ∨ m = 255 ∨ m = 511 ∨ m = 1023 ∨ m = 2047 ∨ m = 4095
def cert (m : Nat) : Bool := seen m (m + 1) 0 0 == 2 ^ (m + 1) - 1 && itn m (m + 1) 0 == 0
theorem cert_of {m : Nat} (h : Good m) : cert m = true := by
 rcases h with h | h | h | h | h | h | h | h | h | h <;> subst h <;> decide +kernel
theorem from0 {m j : Nat} (h : Good m) (hj : j ≤ m) : ∃ n, n ≤ m ∧ itn m n 0 = j := by
 have hc := cert_of h
 unfold cert at hc
 rw [Bool.and_eq_true] at hc
 have h1 := eq_of_beq hc.1
 have hb : (seen m (m + 1) 0 0).testBit j = true := by
  rw [h1, Nat.testBit_two_pow_sub_one]
  exact decide_eq_true (by lia)
 rcases seen_bit m (m + 1) 0 0 j hb with h | ⟨k, hk, e⟩
 ·simp at h
 ·exact ⟨k, by lia, e⟩
theorem back0 {m : Nat} (h : Good m) : itn m (m + 1) 0 = 0 := by
 have hc := cert_of h
 unfold cert at hc
 rw [Bool.and_eq_true] at hc
 exact eq_of_beq hc.2
theorem reach {m i j : Nat} (h : Good m) (hi : i ≤ m) (hj : j ≤ m) : ∃ n, n ≤ m ∧ itn m n i = j := by
 obtain ⟨a, ha, ea⟩ := from0 h hi
 obtain ⟨b, hb, eb⟩ := from0 h hj
 by_cases hab : a ≤ b
 ·refine ⟨b - a, by lia, ?_⟩
  rw [← ea, ← itn_add, Nat.add_sub_cancel' hab]
  exact eb
 ·refine ⟨m + 1 - a + b, by lia, ?_⟩
  rw [← ea, ← itn_add, show a + (m + 1 - a + b) = (m + 1) + b by lia, itn_add, back0 h]
  exact eb
def advn (t : SetTable) : Nat → SetTable.Probe → SetTable.Probe
 | 0, p => p
 | n + 1, p => advn t n (t.advance p)
theorem advn_add (t : SetTable) : ∀ a b p, advn t (a + b) p = advn t b (advn t a p)
 | 0, b, p => by rw [Nat.zero_add]; rfl
 | a + 1, b, p => by rw [Nat.add_right_comm]; exact advn_add t a b (t.advance p)
def lp (t : SetTable) (p : SetTable.Probe) : SetTable.Probe := { p with j := (p.i * 5 + 1 + p.perturb / 32) % (t.mask + 1), more := SetTable.runEnd t.mask ((p.i * 5 + 1 + p.perturb / 32) % (t.mask + 1)) - (p.i * 5 + 1 + p.perturb / 32) % (t.mask + 1), i := (p.i * 5 + 1 + p.perturb / 32) % (t.mask + 1), perturb := p.perturb / 32 }
theorem adv_lp (t : SetTable) : ∀ (n : Nat) (p : SetTable.Probe), p.more = n → advn t (n + 1) p = lp t p
 | 0, p, h => by
  show t.advance p = lp t p
  unfold SetTable.advance
  rw [if_neg (by lia)]
  rfl
 | n + 1, p, h => by
  show advn t (n + 1) (t.advance p) = lp t p
  have e : t.advance p = { p with j := p.j + 1, more := p.more - 1 } := by
   unfold SetTable.advance
   rw [if_pos (by lia)]
  rw [e, adv_lp t n { p with j := p.j + 1, more := p.more - 1 } (by show p.more - 1 = n; lia)]
  rfl
def lpn (t : SetTable) : Nat → SetTable.Probe → SetTable.Probe
 | 0, p => p
 | n + 1, p => lpn t n (lp t p)
theorem lp_more (t : SetTable) (p : SetTable.Probe) : (lp t p).more ≤ 9 := by
 show SetTable.runEnd t.mask _ - _ ≤ 9
 unfold SetTable.runEnd
 split <;> lia
theorem adv_lpn (t : SetTable) : ∀ (k : Nat) (p : SetTable.Probe), p.more ≤ 9 → ∃ n, n ≤ 10 * k ∧ advn t n p = lpn t k p
 | 0, p, _ => ⟨0, Nat.le_refl _, rfl⟩
 | k + 1, p, h => by
  obtain ⟨n, hn, e⟩ := adv_lpn t k (lp t p) (lp_more t p)
  refine ⟨p.more + 1 + n, by lia, ?_⟩
  rw [advn_add, adv_lp t p.more p rfl, e]
  rfl
theorem lpn_succ (t : SetTable) : ∀ (k : Nat) (p : SetTable.Probe), lpn t (k + 1) p = lp t (lpn t k p)
 | 0, _ => rfl
 | k + 1, p => lpn_succ t k (lp t p)
theorem lpn_per (t : SetTable) : ∀ (k : Nat) (p : SetTable.Probe), (lpn t k p).perturb = p.perturb / 32 ^ k
 | 0, p => by simp [lpn]
 | k + 1, p => by
  show (lpn t k (lp t p)).perturb = _
  rw [lpn_per t k (lp t p)]
  show p.perturb / 32 / 32 ^ k = _
  rw [Nat.div_div_eq_div_mul, Nat.pow_succ, Nat.mul_comm]
theorem lpn_flat (t : SetTable) : ∀ (n : Nat) (p : SetTable.Probe), p.perturb = 0 → (lpn t n p).i = itn t.mask n p.i ∧ (1 ≤ n → (lpn t n p).j = (lpn t n p).i) ∧ (lpn t n p).perturb = 0
 | 0, p, h => ⟨rfl, fun z => absurd z (by decide), h⟩
 | n + 1, p, h => by
  have h0 : (lp t p).perturb = 0 := by show p.perturb / 32 = 0; rw [h]
  have hi : (lp t p).i = nx t.mask p.i := by show (p.i * 5 + 1 + p.perturb / 32) % (t.mask + 1) = _; rw [h]; rfl
  obtain ⟨a, b, c⟩ := lpn_flat t n (lp t p) h0
  refine ⟨?_, fun _ => ?_, c⟩
  ·show (lpn t n (lp t p)).i = _
   rw [a, hi]
   rfl
  ·cases n with
   | zero => rfl
   | succ n => exact b (by lia)
theorem meets {t : SetTable} {p : SetTable.Probe} (hg : Good t.mask) (hm : p.more ≤ 9) (hp : p.perturb < 2 ^ 64) {j : Nat} (hj : j ≤ t.mask) : ∃ n, n < 10 * SetTable.turns t.mask ∧ (advn t n p).j = j := by
 have h0 : (lpn t 13 p).perturb = 0 := by
  rw [lpn_per]
  exact Nat.div_eq_of_lt (Nat.lt_of_lt_of_le hp (by decide))
 have hi : (lpn t 13 p).i ≤ t.mask := by
  rw [lpn_succ]
  exact Nat.le_of_lt_succ (Nat.mod_lt _ (Nat.succ_pos _))
 have hji : (lpn t 13 p).j = (lpn t 13 p).i := by
  rw [lpn_succ]
  rfl
 obtain ⟨n, hn, e⟩ := reach hg hi hj
 obtain ⟨a, b, _⟩ := lpn_flat t n (lpn t 13 p) h0
 have hl : (lpn t n (lpn t 13 p)).j = j := by
  cases n with
  | zero => exact hji.trans e
  | succ n => rw [b (by lia), a, e]
 have hcat : ∀ (a b : Nat) (p : SetTable.Probe), lpn t (a + b) p = lpn t b (lpn t a p) := by
  intro a
  induction a with
  | zero => intro b p; rw [Nat.zero_add]; rfl
  | succ a ih => intro b p; rw [Nat.add_right_comm]; exact ih b (lp t p)
 obtain ⟨c, hc, ec⟩ := adv_lpn t (13 + n) p hm
 refine ⟨c, ?_, ?_⟩
 ·unfold SetTable.turns
  lia
 ·rw [ec, hcat]
  exact hl
theorem start_ok (t : SetTable) (h : Int) : (t.probeStart h).more ≤ 9 ∧ (t.probeStart h).perturb < 2 ^ 64 ∧ (t.probeStart h).dummy = none := by
 refine ⟨?_, ?_, rfl⟩
 ·show SetTable.runEnd t.mask _ - _ ≤ 9
  unfold SetTable.runEnd
  split <;> lia
 ·show SetTable.bits h < 2 ^ 64
  unfold SetTable.bits
  have h1 := Int.emod_nonneg h (by decide : ((2 : Int) ^ 64) ≠ 0)
  have h2 := Int.emod_lt_of_pos h (by decide : (0 : Int) < 2 ^ 64)
  lia
theorem some_empty {t : SetTable} (hd : t.dummies = #[]) (hf : t.fill ≤ t.mask) : ∃ j, j ≤ t.mask ∧ t.slot j = .empty := by
 apply Classical.byContradiction
 intro hn
 have hall : ∀ j, j ≤ t.mask → j ∈ t.place.toList := fun j hj => by
  have h1 : t.slot j ≠ .empty := fun z => hn ⟨j, hj, z⟩
  unfold SetTable.slot at h1
  dsimp only at h1
  split at h1
  ·rename_i h2
   have h3 := eq_of_beq h2
   rw [← Array.getElem?_toList] at h3
   exact List.mem_of_getElem? h3
  ·exfalso
   rw [hd] at h1
   exact h1 rfl
 have hsub : (List.range (t.mask + 1)) ⊆ t.place.toList := fun j hj => hall j (by have := List.mem_range.mp hj; lia)
 have hlen := (List.nodup_range (n := t.mask + 1)).length_le_of_subset hsub
 rw [List.length_range, Array.length_toList] at hlen
 unfold SetTable.fill at hf
 lia
end Sts
namespace Sts
open PySem
theorem lpn_reach {t : SetTable} {p : SetTable.Probe} (hg : Good t.mask) (hp : p.perturb < 2 ^ 64) {j : Nat} (hj : j ≤ t.mask) : ∃ k, k ≤ 13 + t.mask ∧ (lpn t k p).i = j := by
 have h0 : (lpn t 13 p).perturb = 0 := by
  rw [lpn_per]
  exact Nat.div_eq_of_lt (Nat.lt_of_lt_of_le hp (by decide))
 have hi : (lpn t 13 p).i ≤ t.mask := by
  rw [lpn_succ]
  exact Nat.le_of_lt_succ (Nat.mod_lt _ (Nat.succ_pos _))
 obtain ⟨n, hn, e⟩ := reach hg hi hj
 obtain ⟨a, _, _⟩ := lpn_flat t n (lpn t 13 p) h0
 have hcat : ∀ (a b : Nat) (p : SetTable.Probe), lpn t (a + b) p = lpn t b (lpn t a p) := by
  intro a
  induction a with
  | zero => intro b p; rw [Nat.zero_add]; rfl
  | succ a ih => intro b p; rw [Nat.add_right_comm]; exact ih b (lp t p)
 exact ⟨13 + n, by lia, by rw [hcat, a, e]⟩
theorem free_some {t : SetTable} {owner : Array (Option Nat)} {j : Nat} (ho : owner.getD j (some 0) = none) : ∀ (k fuel : Nat) (p : SetTable.Probe), k < fuel → (lpn t k p).i = j →
  ∃ j', SetTable.layClean.free t.mask owner fuel p.i p.perturb = some j' ∧ owner.getD j' (some 0) = none
 | k, 0, _, h, _ => absurd h (Nat.not_lt_zero _)
 | k, fuel + 1, p, hk, e => by
  unfold SetTable.layClean.free
  cases hf : (List.range (SetTable.runEnd t.mask p.i + 1 - p.i)).find? fun k => (owner.getD (p.i + k) (some 0)).isNone with
  | some k' =>
   have h1 := List.find?_some hf
   exact ⟨p.i + k', rfl, Option.isNone_iff_eq_none.mp h1⟩
  | none =>
   cases k with
   | zero =>
    exfalso
    have e' : p.i = j := e
    have h1 := List.find?_eq_none.mp hf 0 (List.mem_range.mpr (by unfold SetTable.runEnd; split <;> lia))
    rw [Nat.add_zero, e', ho] at h1
    exact h1 rfl
   | succ k =>
    exact free_some ho k fuel (lp t p) (by lia) e
theorem filterMap_same {β : Type} {g g' : Nat → Option β} : ∀ l : List Nat, (∀ k ∈ l, g' k = g k) → l.filterMap g' = l.filterMap g
 | [], _ => rfl
 | y :: l, h => by
  have ih := filterMap_same l fun k hk => h k (List.mem_cons_of_mem _ hk)
  have hy := h y (List.mem_cons_self ..)
  cases hg : g y with
  | none => rw [List.filterMap_cons_none (by rw [hy, hg]), List.filterMap_cons_none hg, ih]
  | some z => rw [List.filterMap_cons_some (by rw [hy, hg]), List.filterMap_cons_some hg, ih]
theorem filterMap_in {β : Type} {g g' : Nat → Option β} {j : Nat} {x : β} (h0 : g j = none) (h1 : g' j = some x) (h2 : ∀ k, k ≠ j → g' k = g k) : ∀ l : List Nat, l.Nodup → j ∈ l → (l.filterMap g').Perm (x :: l.filterMap g)
 | y :: l, hn, hj => by
  obtain ⟨hy, hl⟩ := List.nodup_cons.mp hn
  by_cases e : y = j
  ·subst e
   rw [List.filterMap_cons_some h1, List.filterMap_cons_none h0]
   have : l.filterMap g' = l.filterMap g := filterMap_same l fun k hk => h2 k fun z => hy (z ▸ hk)
   rw [this]
  ·have hj' : j ∈ l := (List.mem_cons.mp hj).resolve_left (Ne.symm e)
   have ih := filterMap_in h0 h1 h2 l hl hj'
   cases hg : g y with
   | none =>
    rw [List.filterMap_cons_none (by rw [h2 y e, hg]), List.filterMap_cons_none hg]
    exact ih
   | some z =>
    rw [List.filterMap_cons_some (by rw [h2 y e, hg]), List.filterMap_cons_some hg]
    exact (ih.cons z).trans (List.Perm.swap ..)
def liveOf (m : Nat) (owner : Array (Option Nat)) : List (Nat × Nat) := (List.range (m + 1)).filterMap fun j => (owner.getD j none).map (j, ·)
structure Own (m : Nat) (owner : Array (Option Nat)) (k : Nat) : Prop where
 size : owner.size = m + 1
 perm : ((liveOf m owner).map (·.2)).Perm (List.range k)
theorem own_len {m : Nat} {owner : Array (Option Nat)} {k : Nat} (h : Own m owner k) : (liveOf m owner).length = k := by
 have := h.perm.length_eq
 rw [List.length_map, List.length_range] at this
 exact this
theorem own_free {m : Nat} {owner : Array (Option Nat)} {k : Nat} (h : Own m owner k) (hk : k ≤ m) : ∃ j, j ≤ m ∧ owner.getD j (some 0) = none := by
 apply Classical.byContradiction
 intro hn
 have hall : ∀ j ∈ List.range (m + 1), ((owner.getD j none).map (Prod.mk j)).isSome = true := fun j hj => by
  have hj' := List.mem_range.mp hj
  cases ho : owner.getD j none with
  | some v => rfl
  | none =>
   exfalso
   refine hn ⟨j, by lia, ?_⟩
   have hs : j < owner.size := by rw [h.size]; exact hj'
   simp only [Array.getD, hs, dif_pos] at ho ⊢
   exact ho
 have hl : (liveOf m owner).length = m + 1 := by
  unfold liveOf
  have : ∀ (l : List Nat) (g : Nat → Option (Nat × Nat)), (∀ j ∈ l, (g j).isSome = true) → (l.filterMap g).length = l.length := by
   intro l g
   induction l with
   | nil => exact fun _ => rfl
   | cons y l ih =>
    intro hg
    obtain ⟨z, hz⟩ := Option.isSome_iff_exists.mp (hg y (List.mem_cons_self ..))
    rw [List.filterMap_cons_some hz, List.length_cons, List.length_cons, ih fun j hj => hg j (List.mem_cons_of_mem _ hj)]
  rw [this _ _ hall, List.length_range]
 have := own_len h
 lia
theorem own_put {m : Nat} {owner : Array (Option Nat)} {k j : Nat} (h : Own m owner k) (hj : owner.getD j (some 0) = none) : Own m (owner.setIfInBounds j (some k)) (k + 1) := by
 have hs : j < owner.size := by
  apply Classical.byContradiction
  intro hn
  rw [Array.getD, dif_neg hn] at hj
  cases hj
 refine ⟨by rw [Array.size_setIfInBounds]; exact h.size, ?_⟩
 have hp : (liveOf m (owner.setIfInBounds j (some k))).Perm ((j, k) :: liveOf m owner) := by
  refine filterMap_in ?_ ?_ (fun y hy => ?_) _ List.nodup_range (List.mem_range.mpr (by rw [← h.size]; exact hs))
  ·have : owner.getD j none = none := by
    simp only [Array.getD, hs, dif_pos] at hj ⊢
    exact hj
   rw [this]
   rfl
  ·have : (owner.setIfInBounds j (some k)).getD j none = some k := by
    simp [Array.getD, hs]
   rw [this]
   rfl
  ·have : (owner.setIfInBounds j (some k)).getD y none = owner.getD y none := by
    simp only [Array.getD, Array.size_setIfInBounds]
    split
    ·rename_i hy2
     exact Array.getElem_setIfInBounds_ne (by simpa using hy2) (Ne.symm hy)
    ·rfl
   rw [this]
 refine (hp.map (·.2)).trans ?_
 rw [List.map_cons]
 refine ((h.perm.cons k)).trans ?_
 rw [List.range_succ]
 exact List.perm_append_comm (l₁ := [k]) (l₂ := List.range k)
theorem lay_fold {m : Nat} (hg : Good m) : ∀ (hs : List Int) (owner : Array (Option Nat)) (k : Nat), Own m owner k → k + hs.length ≤ m →
  ∃ owner', hs.foldl (fun (acc : Option (Array (Option Nat) × Nat)) h => do
   let (owner, k) ← acc
   let j ← SetTable.layClean.free m owner (SetTable.turns m) (SetTable.bits h % (m + 1)) (SetTable.bits h)
   pure (owner.setIfInBounds j (some k), k + 1)) (some (owner, k)) = some (owner', k + hs.length) ∧ Own m owner' (k + hs.length)
 | [], owner, k, h, _ => ⟨owner, rfl, h⟩
 | x :: hs, owner, k, h, hl => by
  rw [List.length_cons] at hl
  obtain ⟨j, hj, ho⟩ := own_free h (by lia)
  have t : SetTable := { mask := m, place := #[], dummies := #[], finger := 0, led := true, moves := 0, plain := true }
  have hb : SetTable.bits x < 2 ^ 64 := (start_ok (SetTable.fresh 0 0 true) x).2.1
  obtain ⟨n, hn, e⟩ := lpn_reach (t := { mask := m, place := #[], dummies := #[], finger := 0, led := true, moves := 0, plain := true }) (p := { j := 0, more := 0, i := SetTable.bits x % (m + 1), perturb := SetTable.bits x, dummy := none }) hg hb hj
  obtain ⟨j', hf, ho'⟩ := free_some ho n (SetTable.turns m) _ (by unfold SetTable.turns; have : n ≤ 13 + m := hn; lia) e
  have hf' : SetTable.layClean.free m owner (SetTable.turns m) (SetTable.bits x % (m + 1)) (SetTable.bits x) = some j' := hf
  obtain ⟨owner', h1, h2⟩ := lay_fold hg hs _ (k + 1) (own_put h ho') (by lia)
  refine ⟨owner', ?_, by rw [List.length_cons, show k + (hs.length + 1) = k + 1 + hs.length by lia]; exact h2⟩
  rw [List.foldl_cons]
  simp only [Option.bind_eq_bind, Option.bind_some, hf', Option.pure_def]
  rw [List.length_cons, show k + (hs.length + 1) = k + 1 + hs.length by lia]
  exact h1
theorem laid_ok {m : Nat} (hg : Good m) (fi mo : Nat) (led plain : Bool) (hs : Array Int) (hl : hs.size ≤ m) : ∃ t order, SetTable.laid m fi mo led plain hs = some (t, order) ∧ t.mask = m ∧ t.dummies = #[] ∧ t.place.size = hs.size ∧ order.toList.Perm (List.range hs.size) ∧ t.led = led ∧ t.plain = plain ∧ t.moves = mo ∧ t.place.toList.Pairwise (· < ·) := by
 have h0 : Own m (Array.replicate (m + 1) none) 0 := by
  refine ⟨Array.size_replicate, ?_⟩
  have : liveOf m (Array.replicate (m + 1) none) = [] := by
   unfold liveOf
   rw [List.filterMap_eq_nil_iff]
   intro j hj
   have : (Array.replicate (m + 1) (none : Option Nat)).getD j none = none := by
    simp [Array.getD]
   rw [this]
   rfl
  rw [this]
  exact List.Perm.refl _
 obtain ⟨owner, h1, h2⟩ := lay_fold hg hs.toList _ 0 h0 (by rw [Array.length_toList]; lia)
 rw [Nat.zero_add, Array.length_toList] at h1 h2
 have hc : SetTable.layClean m hs = some owner := by
  unfold SetTable.layClean
  rw [← Array.foldl_toList]
  have := congrArg (Option.map (·.1)) h1
  exact this
 refine ⟨{ mask := m, place := ((liveOf m owner).map (·.1)).toArray, dummies := #[], finger := fi, led := led, moves := mo, plain := plain }, ((liveOf m owner).map (·.2)).toArray, ?_, rfl, rfl, ?_, ?_, rfl, rfl, rfl, ?_⟩
 ·unfold SetTable.laid
  rw [hc]
  rfl
 ·show ((liveOf m owner).map (·.1)).toArray.size = _
  rw [List.size_toArray, List.length_map, own_len h2]
 ·show ((liveOf m owner).map (·.2)).toArray.toList.Perm _
  exact h2.perm
 ·show ((liveOf m owner).map (·.1)).toArray.toList.Pairwise (· < ·)
  have hsub : ((liveOf m owner).map (·.1)).Sublist (List.range (m + 1)) := by
   unfold liveOf
   generalize List.range (m + 1) = l
   induction l with
   | nil => exact List.Sublist.slnil
   | cons y l ih =>
    cases hy : owner.getD y none with
    | none =>
     rw [List.filterMap_cons_none (by rw [hy]; rfl)]
     exact ih.cons _
    | some v =>
     rw [List.filterMap_cons_some (b := (y, v)) (by rw [hy]; rfl)]
     exact ih.cons_cons y
  exact List.Pairwise.sublist hsub List.pairwise_lt_range
end Sts
namespace Sts
open PySem
def Ris (xs : Array Nat) : Prop := xs.toList.Pairwise (· < ·)
theorem ris_get {xs : Array Nat} (h : Ris xs) {i j : Nat} (hij : i < j) (hj : j < xs.size) : xs[i]'(Nat.lt_trans hij hj) < xs[j] := by
 have := List.pairwise_iff_getElem.mp h i j (by rw [Array.length_toList]; lia) (by rw [Array.length_toList]; exact hj) hij
 simpa using this
theorem below_go {xs : Array Nat} (h : Ris xs) (j : Nat) : ∀ (fuel lo hi : Nat), lo ≤ hi → hi ≤ xs.size → hi - lo ≤ fuel → (∀ i (hi' : i < xs.size), i < lo → xs[i] < j) → (∀ i (hi' : i < xs.size), hi ≤ i → ¬ xs[i] < j) →
  ∀ r, SetTable.below.go xs j fuel lo hi = r → r ≤ xs.size ∧ (∀ i (hi' : i < xs.size), i < r → xs[i] < j) ∧ (∀ i (hi' : i < xs.size), r ≤ i → ¬ xs[i] < j)
 | 0, lo, hi, h1, h2, h3, a, b, r, e => by
  have e' : lo = r := e
  subst e'
  have : lo = hi := by lia
  subst this
  exact ⟨h2, a, b⟩
 | fuel + 1, lo, hi, h1, h2, h3, a, b, r, e => by
  unfold SetTable.below.go at e
  by_cases hl : lo < hi
  ·rw [if_pos hl] at e
   dsimp only at e
   have hm : (lo + hi) / 2 < xs.size := by lia
   have hgd : xs.getD ((lo + hi) / 2) j = xs[(lo + hi) / 2] := by simp [Array.getD, hm]
   rw [hgd] at e
   by_cases hx : xs[(lo + hi) / 2] < j
   ·rw [if_pos hx] at e
    refine below_go h j fuel ((lo + hi) / 2 + 1) hi (by lia) h2 (by lia) (fun i hi' hlt => ?_) b r e
    by_cases e2 : i = (lo + hi) / 2
    ·subst e2; exact hx
    ·exact Nat.lt_trans (ris_get h (show i < (lo + hi) / 2 by lia) hm) hx
   ·rw [if_neg hx] at e
    refine below_go h j fuel lo ((lo + hi) / 2) (by lia) (by lia) (by lia) a (fun i hi' hle => ?_) r e
    by_cases e2 : i = (lo + hi) / 2
    ·subst e2; exact hx
    ·have := ris_get h (show (lo + hi) / 2 < i by lia) hi'
     lia
  ·rw [if_neg hl] at e
   subst e
   have : lo = hi := by lia
   subst this
   exact ⟨h2, a, b⟩
theorem below_spec {xs : Array Nat} (h : Ris xs) (j : Nat) : SetTable.below xs j ≤ xs.size ∧ (∀ i (hi' : i < xs.size), i < SetTable.below xs j → xs[i] < j) ∧ (∀ i (hi' : i < xs.size), SetTable.below xs j ≤ i → ¬ xs[i] < j) :=
 below_go h j xs.size 0 xs.size (Nat.zero_le _) (Nat.le_refl _) (by lia) (fun _ _ z => absurd z (Nat.not_lt_zero _)) (fun i hi' z => by lia) _ rfl
theorem insertAt_list {α : Type} (xs : Array α) (p : Nat) (x : α) : (SetTable.insertAt xs p x).toList = xs.toList.take p ++ x :: xs.toList.drop p := by
 unfold SetTable.insertAt
 simp [Array.toList_extract, List.extract]
 rw [List.take_of_length_le]
 simp
theorem ris_insert {xs : Array Nat} (h : Ris xs) {j : Nat} (hj : j ∉ xs.toList) : Ris (SetTable.insertAt xs (SetTable.below xs j) j) := by
 obtain ⟨h1, h2, h3⟩ := below_spec h j
 unfold Ris
 rw [insertAt_list, List.pairwise_append]
 refine ⟨List.Pairwise.sublist (List.take_sublist _ _) h, ?_, ?_⟩
 ·rw [List.pairwise_cons]
  refine ⟨fun y hy => ?_, List.Pairwise.sublist (List.drop_sublist _ _) h⟩
  obtain ⟨i, hi, e⟩ := List.mem_iff_getElem.mp hy
  rw [List.length_drop, Array.length_toList] at hi
  rw [List.getElem_drop] at e
  have := h3 (SetTable.below xs j + i) (by lia) (by lia)
  have e2 : y = xs[SetTable.below xs j + i]'(by lia) := by rw [← e]; simp
  have hne : y ≠ j := fun z => hj (z ▸ List.mem_of_mem_drop hy)
  lia
 ·intro a ha b hb
  obtain ⟨i, hi, e⟩ := List.mem_iff_getElem.mp ha
  rw [List.length_take, Array.length_toList] at hi
  rw [List.getElem_take] at e
  have h4 := h2 i (by lia) (by lia)
  have e2 : a = xs[i]'(by lia) := by rw [← e]; simp
  rcases List.mem_cons.mp hb with rfl | hb
  ·lia
  ·obtain ⟨k, hk, ek⟩ := List.mem_iff_getElem.mp hb
   rw [List.length_drop, Array.length_toList] at hk
   rw [List.getElem_drop] at ek
   have h5 := h3 (SetTable.below xs j + k) (by lia) (by lia)
   have e3 : b = xs[SetTable.below xs j + k]'(by lia) := by rw [← ek]; simp
   lia
theorem below_next {xs : Array Nat} (h : Ris xs) {i : Nat} (hi : i < xs.size) : SetTable.below xs (xs[i] + 1) = i + 1 := by
 obtain ⟨h1, h2, h3⟩ := below_spec h (xs[i] + 1)
 rcases Nat.lt_trichotomy (SetTable.below xs (xs[i] + 1)) (i + 1) with z | z | z
 ·exact absurd (Nat.lt_succ_self xs[i]) (h3 i hi (by lia))
 ·exact z
 ·exfalso
  have h4 := h2 (i + 1) (by lia) (by lia)
  have h5 := ris_get h (show i < i + 1 by lia) (show i + 1 < xs.size by lia)
  lia
theorem below_zero {xs : Array Nat} (h : Ris xs) : SetTable.below xs 0 = 0 := by
 obtain ⟨h1, h2, h3⟩ := below_spec h 0
 rcases Nat.eq_zero_or_pos (SetTable.below xs 0) with z | z
 ·exact z
 ·exact absurd (h2 0 (by lia) z) (Nat.not_lt_zero _)
theorem empty_new {t : SetTable} (h : Ris t.place) {j : Nat} (he : t.slot j = .empty) : j ∉ t.place.toList := fun hm => by
 obtain ⟨i, hi, e⟩ := List.mem_iff_getElem.mp hm
 rw [Array.length_toList] at hi
 have e2 : t.place[i] = j := by rw [← e]; simp
 obtain ⟨h1, h2, h3⟩ := below_spec h j
 have hb : SetTable.below t.place j = i := by
  rcases Nat.lt_trichotomy (SetTable.below t.place j) i with z | z | z
  ·have h4 := ris_get h z hi
   have h5 := h3 (SetTable.below t.place j) (by lia) (Nat.le_refl _)
   lia
  ·exact z
  ·have h4 := h2 i hi z
   lia
 unfold SetTable.slot at he
 dsimp only at he
 rw [hb, Array.getElem?_eq_getElem hi, e2] at he
 simp at he
end Sts
namespace Sts
open PySem
section
variable {prog : Program} {w : World} {K : Type} [DecidableEq K] {knd : KeyKind prog w K} {A : Around} {E : Value → Shared → Prop} {s : Shared}
theorem cls_item {n : Nat} {v : Value} (h : carriedByValue v = true) : ofAClassStatement n v = pure false := by
 cases v <;> first | (unfold ofAClassStatement; rfl) | (cases h)
theorem cls_tuple {ks : List K} {a : Addr} {Q : Bool → Shared → Prop} (hk : IsTupleKey knd s.heap ks a) (h : Q false s) : wpAny (model prog w) A (ofAClassStatement 8 (.ref a)) Q E s := by
 have hT := hk.typeIs
 obtain ⟨o, items, n, ho, hc, hd, hi⟩ := hk
 unfold ofAClassStatement
 refine wpAny_bind (wpAny_typeOf hT ?_)
 dsimp only
 rw [if_pos (by decide)]
 refine wpAny_bind (wpAny_pure ?_)
 rw [if_neg (by decide)]
 refine wpAny_bind (wpAny_seqItems ho hd ?_)
 dsimp only
 rw [← Array.forIn_toList]
 refine wpAny_bind (wpAny_forIn_list _ (fun rest r s' => r.1 = none ∧ s' = s ∧ ∀ v ∈ rest, carriedByValue v = true) _ ?_ ?_ _ _ ⟨rfl, rfl, hi.byValue⟩)
 ·rintro v rest r s' ⟨hr, rfl, hall⟩
  rw [cls_item (hall v List.mem_cons_self)]
  refine wpAny_bind (wpAny_pure ?_)
  rw [if_neg (by decide)]
  exact wpAny_pure ⟨rfl, rfl, fun u hu' => hall u (List.mem_cons_of_mem _ hu')⟩
 ·rintro ⟨r1, r2⟩ s' ⟨hr, rfl, _⟩
  obtain rfl : r1 = none := hr
  exact wpAny_pure h
theorem hbv_item {n : Nat} {v : Value} (h : carriedByValue v = true) : ∃ b, hashByValue n v = pure b := by
 cases v <;> first | exact ⟨_, by unfold hashByValue; rfl⟩ | (cases h)
theorem hbv_tuple {ks : List K} {a : Addr} {Q : Bool → Shared → Prop} (hk : IsTupleKey knd s.heap ks a) (h : ∀ b, Q b s) : wpAny (model prog w) A (hashByValue 8 (.ref a)) Q E s := by
 have hT := hk.typeIs
 obtain ⟨o, items, n, ho, hc, hd, hi⟩ := hk
 unfold hashByValue
 refine wpAny_bind (wpAny_specialOf hT F.slot_tuple_hash.lookup ?_)
 dsimp only
 refine wpAny_bind (wpAny_seqItems ho hd ?_)
 dsimp only [Option.getD_some]
 rw [← Array.forIn_toList]
 refine wpAny_bind (wpAny_forIn_list _ (fun rest r s' => r.1 = none ∧ s' = s ∧ ∀ v ∈ rest, carriedByValue v = true) _ ?_ ?_ _ _ ⟨rfl, rfl, hi.byValue⟩)
 ·rintro v rest r s' ⟨hr, rfl, hall⟩
  obtain ⟨b, hb⟩ := hbv_item (n := 7) (hall v List.mem_cons_self)
  rw [hb]
  refine wpAny_bind (wpAny_pure ?_)
  cases b with
  | true =>
   rw [if_neg (by decide)]
   exact wpAny_pure ⟨rfl, rfl, fun u hu' => hall u (List.mem_cons_of_mem _ hu')⟩
  | false =>
   rw [if_pos (by decide)]
   exact wpAny_pure (wpAny_pure (h _))
 ·rintro ⟨r1, r2⟩ s' ⟨hr, rfl, _⟩
  obtain rfl : r1 = none := hr
  exact wpAny_pure (h _)
theorem unseen {ks : List K} {a : Addr} (hk : IsTupleKey knd s.heap ks a) : ∀ (stored : List Value) {Q : Bool → Shared → Prop}, (∀ v ∈ stored, ∃ ks b, v = .ref b ∧ IsTupleKey knd s.heap ks b) → Q false s → wpAny (model prog w) A (searchCouldBeSeen (.ref a) stored) Q E s := by
 intro stored Q hs h
 unfold searchCouldBeSeen
 refine wpAny_bind (wpAny_forIn_list _ (fun rest r s' => r.1 = none ∧ s' = s ∧ ∀ v ∈ rest, ∃ ks b, v = Value.ref b ∧ IsTupleKey knd s.heap ks b) _ ?_ ?_ _ _ ⟨rfl, rfl, hs⟩)
 ·rintro v rest r s' ⟨hr, rfl, hall⟩
  obtain ⟨ks', b, rfl, hb⟩ := hall v List.mem_cons_self
  have hrest : ∀ v ∈ rest, ∃ ks b, v = Value.ref b ∧ IsTupleKey knd s'.heap ks b := fun v hv => hall v (List.mem_cons_of_mem _ hv)
  dsimp only
  split
  ·exact wpAny_pure ⟨rfl, rfl, hrest⟩
  ·refine wpAny_bind (wpAny_eqIsQuiet_tuple hk ?_)
   rw [if_neg (by decide)]
   refine wpAny_bind (wpAny_eqIsQuiet_tuple hb ?_)
   rw [if_neg (by decide)]
   refine wpAny_bind (cls_tuple hk ?_)
   rw [if_neg (by decide)]
   refine wpAny_bind (cls_tuple hb ?_)
   rw [if_neg (by decide)]
   exact wpAny_pure ⟨rfl, rfl, hrest⟩
 ·rintro ⟨r1, r2⟩ s' ⟨hr, rfl, _⟩
  obtain rfl : r1 = none := hr
  exact wpAny_pure h
def EK (knd : KeyKind prog w K) : Bool → Heap → Int × Value → Prop
 | true, _, e => ∃ i t, e.2 = Value.int i t ∧ e.1 = (intKind prog w).hash i
 | false, h, e => ∃ ks b, e.2 = .ref b ∧ IsTupleKey knd h ks b
def Ents (knd : KeyKind prog w K) (b : Bool) (h : Heap) (es : Array (Int × Value)) : Prop := ∀ e ∈ es.toList, EK knd b h e
structure Tab (es : Array (Int × Value)) (t : SetTable) : Prop where
 size : t.place.size = es.size
 none : t.dummies = #[]
 good : Good t.mask
 room : t.fill * 5 < t.mask * 3
 ris : Ris t.place
theorem Tab.fill_eq {es : Array (Int × Value)} {t : SetTable} (h : Tab es t) : t.fill = es.size := by
 unfold SetTable.fill
 rw [h.size, h.none]
 rfl
theorem Tab.fits {es : Array (Int × Value)} {t : SetTable} (h : Tab es t) : t.fits es.size = true := by
 have := h.room
 unfold SetTable.fits
 rw [h.size]
 simp
 lia
theorem good_odd {m : Nat} (h : Good m) : m % 2 = 1 := by
 rcases h with h | h | h | h | h | h | h | h | h | h <;> subst h <;> rfl
theorem advn_dummy (t : SetTable) : ∀ (n : Nat) (p : SetTable.Probe), p.dummy = none → (advn t n p).dummy = none
 | 0, _, h => h
 | n + 1, p, h => advn_dummy t n (t.advance p) (by
  unfold SetTable.advance
  split
  ·exact h
  ·exact h)
theorem live_at {t : SetTable} {j i : Nat} (h : t.slot j = .live i) : i < t.place.size := by
 unfold SetTable.slot at h
 dsimp only at h
 split at h
 ·rename_i h2
  cases h
  have h3 := eq_of_beq h2
  exact (Array.getElem?_eq_some_iff.mp h3).1
 ·split at h <;> cases h
end
end Sts
namespace Sts
open PySem
def aboveB (n : Nat) : Bool := (SetTable.sizeAbove n - 1 == 7 || SetTable.sizeAbove n - 1 == 15 || SetTable.sizeAbove n - 1 == 31 || SetTable.sizeAbove n - 1 == 63 || SetTable.sizeAbove n - 1 == 127 || SetTable.sizeAbove n - 1 == 255 || SetTable.sizeAbove n - 1 == 511 || SetTable.sizeAbove n - 1 == 1023 || SetTable.sizeAbove n - 1 == 2047 || SetTable.sizeAbove n - 1 == 4095) && decide (n < SetTable.sizeAbove n) && decide (SetTable.sizeAbove n ≤ 4096)
theorem above_all : (List.range 4096).all aboveB = true := by decide +kernel
theorem above {n : Nat} (h : n < 4096) : Good (SetTable.sizeAbove n - 1) ∧ n < SetTable.sizeAbove n ∧ SetTable.sizeAbove n ≤ 4096 := by
 have := List.all_eq_true.mp above_all n (List.mem_range.mpr h)
 unfold aboveB at this
 simp only [Bool.and_eq_true, Bool.or_eq_true, beq_iff_eq, decide_eq_true_eq] at this
 obtain ⟨⟨h1, h2⟩, h3⟩ := this
 refine ⟨?_, h2, h3⟩
 unfold Good
 simpa only [or_assoc] using h1
section
variable {prog : Program} {w : World} {K : Type} [DecidableEq K] {knd : KeyKind prog w K} {A : Around} {E : Value → Shared → Prop} {s : Shared}
theorem stored {h : Heap} {S : Addr} {o : Obj} {es : Array (Int × Value)} {ep : Nat} {t : SetTable} (ho : h.get? S = some o) (hd : o.data = .set es ep t) (es' : Array (Int × Value)) (t' : SetTable) :
  (h.update S (Obj.putSet es' t')).get? S = some { o with data := .set es' (ep + 1) t' } := by
 have := Heap.get?_update_self (Obj.putSet es' t') ho (by rw [putSet_of es' t' hd]; rfl)
 rw [putSet_of es' t' hd] at this
 exact this
theorem key_but {h h' : Heap} {S a : Addr} {o : Obj} {es : Array (Int × Value)} {ep : Nat} {t : SetTable} {ks : List K} (ho : h.get? S = some o) (hd : o.data = .set es ep t) (sb : Heap.SameBut S h h') (hk : IsTupleKey knd h ks a) : IsTupleKey knd h' ks a := by
 obtain ⟨o2, items, n, h1, h2, h3, h4⟩ := hk
 have hne : a ≠ S := fun z => by
  rw [z, ho] at h1
  cases h1
  rw [hd] at h3
  cases h3
 exact ⟨o2, items, n, (sb.2 a hne).trans h1, h2, h3, h4⟩
end
end Sts
namespace Sts
open PySem
section
variable {prog : Program} {w : World} {K : Type} [DecidableEq K] {knd : KeyKind prog w K} {A : Around} {E : Value → Shared → Prop} {s : Shared}
theorem start_reach {es : Array (Int × Value)} {t : SetTable} (hT : Tab es t) (h : Int) : ∃ n, n < 10 * SetTable.turns t.mask ∧ t.slot (advn t n (t.probeStart h)).j = .empty := by
 obtain ⟨a, b, c⟩ := start_ok t h
 have hr := hT.room
 obtain ⟨j, hj, he⟩ := some_empty hT.none (by lia)
 obtain ⟨n, hn, e⟩ := meets hT.good a b hj
 exact ⟨n, hn, by rw [e]; exact he⟩
theorem turns_small {m : Nat} (h : Good m) : 10 * SetTable.turns m < 100000 := by
 unfold SetTable.turns
 rcases h with h | h | h | h | h | h | h | h | h | h <;> subst h <;> decide
theorem go_free {t : SetTable} (hd : t.dummies = #[]) (ha : Nat → Int) (h : Int) (hne : ∀ i, (ha i == h) = false) : ∀ (n fuel : Nat) (p : SetTable.Probe), p.dummy = none → n < fuel → t.slot (advn t n p).j = .empty →
  ∃ j, SetTable.probe.go t ha h fuel p = some (.empty j none) ∧ t.slot j = .empty
 | n, 0, _, _, hn, _ => absurd hn (Nat.not_lt_zero _)
 | n, fuel + 1, p, hp, hn, he => by
  unfold SetTable.probe.go
  cases hs : t.slot p.j with
  | empty => exact ⟨p.j, by rw [hp], hs⟩
  | dummy =>
   exfalso
   unfold SetTable.slot at hs
   dsimp only at hs
   split at hs
   ·cases hs
   ·rw [hd] at hs
    exact SetTable.Slot.noConfusion hs
  | live i =>
   dsimp only
   cases n with
   | zero =>
    rw [show (advn t 0 p).j = p.j from rfl, hs] at he
    cases he
   | succ n =>
    rw [if_neg (by rw [hne i]; decide)]
    have hdm : (t.advance p).dummy = none := by
     unfold SetTable.advance
     split
     ·exact hp
     ·exact hp
    exact go_free hd ha h hne n fuel (t.advance p) hdm (by lia) he
theorem free_slot {es : Array (Int × Value)} {t : SetTable} (hT : Tab es t) (h : Int) : ∃ j, t.freeSlot h = some (j, false) ∧ t.slot j = .empty := by
 obtain ⟨n, hn, he⟩ := start_reach hT h
 obtain ⟨j, e, hj⟩ := go_free hT.none (fun _ => h + 1) h (fun _ => by simp; lia) n (10 * SetTable.turns t.mask) (t.probeStart h) (start_ok t h).2.2 hn he
 refine ⟨j, ?_, hj⟩
 unfold SetTable.freeSlot SetTable.probe
 rw [e]
 rfl
theorem lay_new {es : Array (Int × Value)} {t : SetTable} (hT : Tab es t) (h : Int) (x : Value) : ∃ j, t.slot j = .empty ∧ layNew t es h x = (SetTable.insertAt es (SetTable.below t.place j) (h, x), { t with place := SetTable.insertAt t.place (SetTable.below t.place j) j }, false, false) := by
 obtain ⟨j, e, hj⟩ := free_slot hT h
 refine ⟨j, hj, ?_⟩
 have hhas : SetTable.has t.dummies j = false := by rw [hT.none]; rfl
 have hput : t.put j = ({ t with place := SetTable.insertAt t.place (SetTable.below t.place j) j }, SetTable.below t.place j) := by
  unfold SetTable.put
  rw [hhas]
  rfl
 have hs1 : (SetTable.insertAt es (SetTable.below t.place j) (h, x)).size = es.size + 1 := by
  rw [← Array.length_toList, (SetTable.insertAt_perm es (SetTable.below t.place j) (h, x)).length_eq, Array.length_toList, Array.size_push]
 have hp1 : (SetTable.insertAt t.place (SetTable.below t.place j) j).size = es.size + 1 := by
  rw [← Array.length_toList, (SetTable.insertAt_perm t.place (SetTable.below t.place j) j).length_eq, Array.length_toList, Array.size_push, hT.size]
 have hr := hT.room
 have hfe := hT.fill_eq
 have hfits : ({ t with place := SetTable.insertAt t.place (SetTable.below t.place j) j } : SetTable).fits (SetTable.insertAt es (SetTable.below t.place j) (h, x)).size = true := by
  unfold SetTable.fits SetTable.fill
  rw [hs1]
  dsimp only
  rw [hp1, hT.none]
  simp
  lia
 unfold layNew
 rw [e]
 dsimp only
 rw [hput]
 dsimp only
 unfold SetTable.orStandIn
 rw [hfits]
 rfl
theorem relay_all {es : Array (Int × Value)} {t : SetTable} (h1 : 1 ≤ es.size) (hn : es.size ≤ 1000) : ∃ es' t' g, relayAll t es (SetTable.grown es.size) = (es', t', g) ∧ es'.toList.Perm es.toList ∧ Tab es' t' ∧ t'.led = t.led := by
 have hgr : SetTable.grown es.size = es.size * 4 := by unfold SetTable.grown; rw [if_neg (by lia)]
 rw [hgr]
 obtain ⟨g1, g2, g3⟩ := above (n := es.size * 4) (by lia)
 obtain ⟨t', order, e, m1, m2, m3, m4, m5, m6, m7, m8⟩ := laid_ok g1 t.finger (t.movedTo (SetTable.sizeAbove (es.size * 4) - 1)) t.led t.plain (es.map (·.1)) (by rw [Array.size_map]; lia)
 rw [Array.size_map] at m3 m4
 have e2 : t.relaid (es.map (·.1)) (es.size * 4) = some (t', order) := e
 have hperm : (order.filterMap (es[·]?)).toList.Perm es.toList := by
  rw [Array.toList_filterMap]
  exact (m4.filterMap _).trans (List.Perm.of_eq (filterMap_getElem?_range es))
 have hsz : (order.filterMap (es[·]?)).size = es.size := by
  rw [← Array.length_toList, hperm.length_eq, Array.length_toList]
 have hfill : t'.fill = es.size := by
  unfold SetTable.fill
  rw [m2, m3]
  rfl
 have hfits : t'.fits (order.filterMap (es[·]?)).size = true := by
  unfold SetTable.fits
  rw [hsz, m3, hfill, m1]
  simp
  lia
 have hcov : coversAll order es.size = true := by
  unfold coversAll
  exact List.isPerm_iff.mpr m4
 refine ⟨order.filterMap (es[·]?), t', false, ?_, hperm, ⟨by rw [m3, hsz], m2, by rw [m1]; exact g1, ?_, m8⟩, m5⟩
 ·unfold relayAll
  rw [e2]
  dsimp only
  rw [hcov, hfits]
  rfl
 ·rw [hfill, m1]
  lia
theorem ints_elems {h : Heap} {es : Array (Int × Value)} (hE : Ents knd true h es) : ElemsOf (intKind prog w) es.toList := fun e he => by
 obtain ⟨i, t, e1, e2⟩ := hE e he
 refine ⟨⟨i, ?_, e2⟩, ?_⟩
 ·rw [e1]
  exact intKind_is _ _ _ _
 ·rw [e1]
  rfl
end
end Sts
namespace Sts
open PySem PyProof.Rows
end Sts
namespace Sts
open PySem PyProof.Rows
section
variable {prog : Program} {w : World} {K : Type} [DecidableEq K] {knd : KeyKind prog w K} {A : Around} {E : Value → Shared → Prop} {s : Shared}
abbrev ledOf (w : World) : Bool := !w.params.followText "set-order"
abbrev freshSet (w : World) : Obj := { cls := .type "set", dict := none, data := .set #[] 0 (.fresh 0 0 (ledOf w)) }
theorem new_set1 (a : Value) {Q₁ : Value → Shared → Prop} (h : Q₁ (.ref s.heap.objs.size) { s with heap := s.heap.push (freshSet w) }) :
  codeAny (model prog w) A (.call (.builtin "set.__new__") ⟨[.type "set", a], []⟩) (wants Q₁ E) s := by
 refine codeAny_of_tree ?_
 change wpAny _ A.in1 (do checkBuiltinCall "set.__new__" ⟨[.type "set", a], []⟩; again (.builtin "set.__new__" ⟨[.type "set", a], []⟩)) _ _ s
 refine wpAny_bind (wpAny_of_eq (PySem.F.newCall_set_1 a) (wpAny_pure ⟨plainId_quiet PySem.F.plain_set_new _, codeAny_builtin PySem.F.entry_set_new ?_⟩))
 rw [Around.under_plainId PySem.F.plain_set_new _]
 unfold Builtin.«set.__new__» Builtin.Frozenset.newClass
 have isSelf := sub_set_self
 obtain ⟨hp, g, d, tk, os⟩ := s
 dsimp only
 wp_walk
 refine wpAny_askSetting (wpAny_pure ?_)
 dsimp only
 simp only [newObj]
 exact wpAny_bind (wpAny_alloc (wpAny_pure (wpAny_pure h)))
end
end Sts
namespace Sts
open PySem PyProof.Rows
theorem slot_si_next : Slot "set_iterator" "__next__" "set_iterator.__next__" :=
 .of (owner := "set_iterator") (n := "__next__") (by rw [typeLookup_type, builtinLookup_eq_fast]; kernel_rfl) (by decide +kernel) (by decide +kernel) (by decide +kernel) (by first | exact .inl (by decide +kernel) | exact .inr (by decide +kernel)) (by rw [isSubtype_type]; kernel_rfl)
theorem entry_si_next : entryFor table "set_iterator.__next__" = some Builtin.«set_iterator.__next__» := entryFor_of_tree (by kernel_rfl)
theorem owner_si : Manifest.owners.lookup (String.ofList ['r', 'o', 't', 'a', 'r', 'e', 't', 'i', '_', 't', 'e', 's'].reverse) = some Manifest.sig_set_iterator := by kernel_rfl
theorem args_si_next (a : Value) : argsOk "set_iterator.__next__" ⟨[a], []⟩ := by
 unfold argsOk; rw [signature?_of (id := "set_iterator.__next__") (n := ['_', '_', 't', 'x', 'e', 'n', '_', '_']) (o := ['r', 'o', 't', 'a', 'r', 'e', 't', 'i', '_', 't', 'e', 's']) (by kernel_rfl) owner_si]; kernel_rfl
theorem slot_si_iter : Slot "set_iterator" "__iter__" "set_iterator.__iter__" :=
 .of (owner := "set_iterator") (n := "__iter__") (by rw [typeLookup_type, builtinLookup_eq_fast]; kernel_rfl) (by decide +kernel) (by decide +kernel) (by decide +kernel) (by first | exact .inl (by decide +kernel) | exact .inr (by decide +kernel)) (by rw [isSubtype_type]; kernel_rfl)
theorem entry_si_iter : entryFor table "set_iterator.__iter__" = some Builtin.«dict_keyiterator.__iter__» := entryFor_alias (id' := "dict_keyiterator.__iter__") (by kernel_rfl) rfl (by decide +kernel) (by kernel_rfl)
theorem args_si_iter (a : Value) : argsOk "set_iterator.__iter__" ⟨[a], []⟩ := by
 unfold argsOk; rw [signature?_of (id := "set_iterator.__iter__") (n := ['_', '_', 'r', 'e', 't', 'i', '_', '_']) (o := ['r', 'o', 't', 'a', 'r', 'e', 't', 'i', '_', 't', 'e', 's']) (by kernel_rfl) owner_si]; kernel_rfl
theorem entry_s_iter : entryFor table "set.__iter__" = some Builtin.«frozenset.__iter__» := entryFor_alias (id' := "frozenset.__iter__") (by kernel_rfl) rfl (by decide +kernel) (by kernel_rfl)
theorem erase_perm {α : Type} : ∀ {l : List α} {i : Nat} (hi : i < l.length), (l[i] :: l.eraseIdx i).Perm l
 | x :: l, 0, _ => List.Perm.refl _
 | x :: l, i + 1, hi => by
  have hi' : i < l.length := by simpa using hi
  show (l[i] :: x :: l.eraseIdx i).Perm (x :: l)
  exact (List.Perm.swap ..).trans ((erase_perm hi').cons x)
section
variable {prog : Program} {w : World} {A : Around} {E : Value → Shared → Prop} {s : Shared}
theorem wp_choose {src : Source} {n : Nat} {Q : Nat → Shared → Prop} (hn : n ≠ 0) (h : ∀ i d, i < n → Q i { s with drawn := d }) : wpAny (model prog w) A (choose src n) Q E s := fun _ _ _ => ⟨hn, h _ _ (Nat.mod_lt _ (Nat.pos_of_ne_zero hn))⟩
theorem wp_draw {α : Type} : ∀ (n : Nat) (xs : List α) (s : Shared) {Q : List α → Shared → Prop}, xs.length = n → (∀ ys d, ys.Perm xs → Q ys { s with drawn := d }) → wpAny (model prog w) A (drawOrder n xs) Q E s
 | 0, xs, s, Q, hl, h => by
  obtain rfl := List.eq_nil_of_length_eq_zero hl
  unfold drawOrder
  exact wpAny_pure (h [] s.drawn (List.Perm.refl _))
 | n + 1, [], s, Q, hl, h => by simp at hl
 | n + 1, x :: xs, s, Q, hl, h => by
  unfold drawOrder
  refine wpAny_bind (wp_choose (by simp) fun i d hi => ?_)
  rw [List.getElem?_eq_getElem hi]
  dsimp only
  refine wpAny_bind (wp_draw n ((x :: xs).eraseIdx i) { s with drawn := d } (by rw [List.length_eraseIdx_of_lt hi, hl]; rfl) fun ys d' hp => wpAny_pure (h _ d' ?_))
  refine (hp.cons _).trans ?_
  exact (erase_perm hi)
theorem pick_perm {α : Type} (next : Nat → Nat) : ∀ (n k : Nat) (left : List α) (out : Array α), left.length = n → (pickOrder.go next n k left out).toList.Perm (out.toList ++ left)
 | 0, k, left, out, hl => by
  obtain rfl := List.eq_nil_of_length_eq_zero hl
  unfold pickOrder.go
  rw [List.append_nil]
 | n + 1, k, left, out, hl => by
  unfold pickOrder.go
  have hi : next k % left.length < left.length := Nat.mod_lt _ (by lia)
  rw [List.getElem?_eq_getElem hi]
  dsimp only
  refine (pick_perm next n (k + 1) _ _ (by rw [List.length_eraseIdx_of_lt hi, hl]; rfl)).trans ?_
  rw [Array.toList_push, List.append_assoc]
  exact List.Perm.append_left _ (erase_perm hi)
structure SIt (w : World) (h : Heap) (I S T : Addr) (es : Array (Int × Value)) (ep : Nat) (t : SetTable) (ys : List Value) (i : Nat) : Prop where
  set : ∃ o, h.get? S = some o ∧ o.data = .set es ep t
  tab : t.fits es.size = true
  at_ : ∃ first o, h.get? I = some o ∧ o.cls = .type "set_iterator" ∧ o.data = .fields #[first, .int i 0, .ref S, .int es.size 0, .int ep 0] ∧
    ((∃ sl : Nat, first = Value.int sl 0 ∧ w.params.followText "set-order" = true ∧ ys = (pickOrder (w.params.setOrder S ep) es).toList.map (·.2)) ∨
     (∃ sl : Nat, first = Value.int sl 0 ∧ w.params.followText "set-order" = false ∧ (!t.plain && decide (es.size > 1)) = false ∧ t.led = true ∧ SetTable.below t.place sl = i ∧ Ris t.place ∧ ys = es.toList.map (·.2)) ∨
     (∃ places n oT, first = Value.ref T ∧ h.get? T = some oT ∧ oT.data = .seq places n ∧ places.toList.length = es.size ∧ ∀ (k : Nat) (v : Value), places[k]? = some v → ∃ (j : Nat) (tk : Tok), v = Value.int (j : Nat) tk ∧ (es[j]?).map (·.2) = ys[k]? ∧ j < es.size))
end
end Sts
namespace Sts
open PySem PyProof.Rows
section
variable {prog : Program} {w : World} {A : Around} {E : Value → Shared → Prop} {s : Shared}
theorem SIt.ty {h : Heap} {I S T : Addr} {es : Array (Int × Value)} {ep : Nat} {t : SetTable} {ys : List Value} {i : Nat} {s : Shared} (x : SIt w s.heap I S T es ep t ys i) : s.TypeIs (.ref I) "set_iterator" := let ⟨_, o, ho, hc, _⟩ := x.at_; ⟨o, ho, hc⟩
theorem setEnts {S : Addr} {o : Obj} {es : Array (Int × Value)} {ep : Nat} {t : SetTable} {Q : Array (Int × Value) → Shared → Prop} (ho : s.heap.get? S = some o) (hd : o.data = .set es ep t) (hf : t.fits es.size = true) (h : Q es s) : wpAny (model prog w) A (setEntries S) Q E s := by
 unfold setEntries
 exact wpAny_bind (wpAny_setState_of ho hd hf (wpAny_pure h))
theorem byText {Q : Bool → Shared → Prop} (h : Q (w.params.followText "set-order") s) : wpAny (model prog w) A setsByText Q E s := by
 unfold setsByText
 exact wpAny_bind (wpAny_askSetting (wpAny_pure h))
theorem fld {I : Addr} {o : Obj} {fs : Array Value} {k : Nat} {v : Value} {Q : Unit → Shared → Prop} (ho : s.heap.get? I = some o) (hd : o.data = .fields fs) (hk : k < fs.size) (hc : o.cls = .type "set_iterator")
  (h : ∀ h' o', h'.get? I = some o' → o'.cls = .type "set_iterator" → o'.data = .fields (fs.setIfInBounds k v) → Heap.SameBut I s.heap h' → Q () { s with heap := h' }) : wpAny (model prog w) A (setField (.ref I) k v) Q E s :=
 wpAny_setField ho hd hk (h _ _ (Heap.get?_update_self _ ho (Obj.isFreed_of_fields (Obj.data_mapFields hd _))) ((Obj.cls_mapFields ..).trans hc) (Obj.data_mapFields hd _) (Heap.SameBut.update ..))
theorem next_text {S : Addr} {o : Obj} {es : Array (Int × Value)} {ep : Nat} {t : SetTable} {sl i : Nat} {Q : Option (Value × Nat) → Shared → Prop} (hT : w.params.followText "set-order" = true) (ho : s.heap.get? S = some o) (hd : o.data = .set es ep t) (hf : t.fits es.size = true)
  (h : Q (((pickOrder (w.params.setOrder S ep) es)[i]?).map fun e => (e.2, sl)) s) : wpAny (model prog w) A (setNext S sl i ep) Q E s := by
 unfold setNext
 refine wpAny_bind (wpAny_setState_of ho hd hf ?_)
 dsimp only
 refine wpAny_bind (byText ?_)
 rw [hT, if_pos rfl, if_neg (by simp)]
 unfold setWalk
 refine wpAny_bind (wpAny_bind (wpAny_setState_of ho hd hf ?_))
 dsimp only
 refine wpAny_bind (byText ?_)
 rw [hT, if_pos rfl]
 exact wpAny_bind (wpAny_askSetting (wpAny_pure (wpAny_pure h)))
theorem next_slot {S : Addr} {o : Obj} {es : Array (Int × Value)} {ep : Nat} {t : SetTable} {sl i : Nat} {Q : Option (Value × Nat) → Shared → Prop} (hT : w.params.followText "set-order" = false) (hp : (!t.plain && decide (es.size > 1)) = false) (hl : t.led = true) (ho : s.heap.get? S = some o) (hd : o.data = .set es ep t) (hf : t.fits es.size = true)
  (h : Q (match es[SetTable.below t.place sl]?, t.place[SetTable.below t.place sl]? with | some (_, x), some j => some (x, j + 1) | _, _ => none) s) : wpAny (model prog w) A (setNext S sl i ep) Q E s := by
 unfold setNext
 refine wpAny_bind (wpAny_setState_of ho hd hf ?_)
 dsimp only
 refine wpAny_bind (byText ?_)
 rw [hT, if_neg (by decide)]
 change wpAny _ _ (if (!t.plain && decide (es.size > 1)) = true then _ else _) _ _ _
 rw [hp, if_neg (by decide)]
 refine wpAny_bind ?_
 change wpAny _ _ (if (!t.led && !es.isEmpty) = true then _ else _) _ _ _
 rw [hl, if_neg (by simp)]
 exact wpAny_pure (wpAny_pure h)
set_option maxHeartbeats 1000000 in
theorem si_item {I S T : Addr} {es : Array (Int × Value)} {ep : Nat} {t : SetTable} {ys : List Value} {i : Nat} {Q : Option Value → Shared → Prop} (x : SIt w s.heap I S T es ep t ys i) (hy : ys.length = es.size) (hi : i < ys.length)
  (q : ∀ h', SIt w h' I S T es ep t ys (i + 1) → Heap.SameBut I s.heap h' → Q (some ys[i]) { s with heap := h' }) : wpAny (model prog w) A (pyNext (.ref I)) Q E s := by
 have hT := x.ty (h := s.heap)
 obtain ⟨⟨oS, hoS, hdS⟩, hf, first, o, ho, hc, hd, hmode⟩ := id x
 have hIS : S ≠ I := fun z => by
  rw [z, ho] at hoS
  cases hoS
  rw [hd] at hdS
  cases hdS
 unfold pyNext; refine wpAny_bind (wpAny_attempt (wpAny_callSpecial?_slot (name := Str.ofString "__next__") hT slot_si_next (wpAny_call_entry slot_si_next hT entry_si_next ?_ (args_si_next _))))
 unfold Builtin.«set_iterator.__next__»
 refine wpAny_bind (wpAny_pure (wpAny_bind (wpAny_fieldsOf ho hd ?_)))
 dsimp only
 refine wpAny_bind (setEnts hoS hdS hf ?_)
 rw [if_neg (by simp)]
 have key : ∀ nx : Nat, (∀ h', (∃ o', h'.get? I = some o' ∧ o'.cls = .type "set_iterator" ∧ o'.data = .fields #[Value.int nx 0, .int (i + 1 : Nat) 0, .ref S, .int es.size 0, .int ep 0]) → Heap.SameBut I s.heap h' → SIt w h' I S T es ep t ys (i + 1)) →
   wpAny (model prog w) A.in1 (do
     setField (Value.ref I) 0 (rawInt nx)
     setField (Value.ref I) 1 (rawInt ((i : Int) + 1))
     ret ys[i]) (fun fin s' => ∃ v, fin = Fin.done (Flow.ret v) ∧ wpAny (model prog w) A (pure (some v)) Q E s')
    (fun e s' => wpAny (model prog w) A (do
     let __do_lift ← isInstance e (Value.type "StopIteration")
     if __do_lift = true then pure none else throw e) Q E s') s := fun nx hS => by
  refine wpAny_bind (fld ho hd (by simp) hc fun h1 o1 ho1 hc1 hd1 sb1 => wpAny_bind (fld (s := { s with heap := h1 }) ho1 hd1 (by simp) hc1 fun h2 o2 ho2 hc2 hd2 sb2 => wpAny_pure ⟨_, rfl, wpAny_pure (q h2 (hS h2 ⟨o2, ho2, hc2, ?_⟩ (sb1.trans sb2)) (sb1.trans sb2))⟩))
  rw [hd2]
  rfl
 have hSk : ∀ h', Heap.SameBut I s.heap h' → ∃ o, h'.get? S = some o ∧ o.data = .set es ep t := fun h' sb => ⟨oS, (sb.2 S hIS).trans hoS, hdS⟩
 have hplace : t.place.size = es.size := by
  unfold SetTable.fits at hf
  rw [Bool.and_eq_true] at hf
  exact eq_of_beq hf.1
 rcases hmode with ⟨sl, rfl, hT1, e⟩ | ⟨sl, rfl, hT1, hpl, hld, hbl, hr, e⟩ | ⟨places, n, oT, rfl, hoT, hdT, hpn, hpv⟩
 ·dsimp only
  rw [Int.toNat_natCast, Int.toNat_natCast, Int.toNat_natCast]
  refine wpAny_bind (next_text hT1 hoS hdS hf ?_)
  have hpi : ((pickOrder (w.params.setOrder S ep) es)[i]?).map (fun e => (e.2, sl)) = some (ys[i], sl) := by
   have h1 : ((pickOrder (w.params.setOrder S ep) es).toList.map (·.2))[i]? = some ys[i] := by rw [← e]; exact List.getElem?_eq_getElem hi
   rw [List.getElem?_map, Array.getElem?_toList] at h1
   obtain ⟨x, hx, hx2⟩ := Option.map_eq_some_iff.mp h1
   rw [hx]
   show some (x.2, sl) = _
   rw [hx2]
  rw [hpi]
  dsimp only
  exact key sl fun h' ⟨o', a1, a2, a3⟩ sb => ⟨hSk h' sb, hf, _, o', a1, a2, a3, .inl ⟨sl, rfl, hT1, e⟩⟩
 ·dsimp only
  rw [Int.toNat_natCast, Int.toNat_natCast, Int.toNat_natCast]
  refine wpAny_bind (next_slot hT1 hpl hld hoS hdS hf ?_)
  have hie : i < es.size := by lia
  rw [hbl, Array.getElem?_eq_getElem hie, Array.getElem?_eq_getElem (show i < t.place.size by lia)]
  have hyi : ys[i] = es[i].2 := by
   have h1 : ys[i]? = some es[i].2 := by rw [e, List.getElem?_map, Array.getElem?_toList, Array.getElem?_eq_getElem hie]; rfl
   rw [List.getElem?_eq_getElem hi] at h1
   exact Option.some.inj h1
  dsimp only
  rw [← hyi]
  exact key (t.place[i] + 1) fun h' ⟨o', a1, a2, a3⟩ sb => ⟨hSk h' sb, hf, _, o', a1, a2, a3, .inr (.inl ⟨_, rfl, hT1, hpl, hld, below_next hr _, hr, e⟩)⟩
 ·dsimp only
  refine wpAny_bind (wpAny_seqItems hoT hdT ?_)
  dsimp only
  rw [Int.toNat_natCast, Int.toNat_natCast]
  have hpi : i < places.size := by rw [← Array.length_toList]; lia
  obtain ⟨j, tk, hv, hj, hjs⟩ := hpv i _ (Array.getElem?_eq_getElem hpi)
  rw [Array.getElem?_eq_getElem hpi, hv]
  dsimp only
  rw [Int.toNat_natCast]
  rw [List.getElem?_eq_getElem hi, Array.getElem?_eq_getElem hjs] at hj
  have hyi : es[j].2 = ys[i] := Option.some.inj hj
  unfold setNextDrawn
  refine wpAny_bind (wpAny_bind (wpAny_setState_of hoS hdS hf ?_))
  dsimp only
  rw [if_neg (by simp), Array.getElem?_eq_getElem hjs]
  refine wpAny_pure ?_
  rw [show (es.toList.get ⟨j, hjs⟩).snd = ys[i] from hyi]
  have hTI : T ≠ I := fun z => by
   rw [z, ho] at hoT
   cases hoT
   rw [hd] at hdT
   cases hdT
  refine wpAny_bind (fld ho hd (by simp) hc fun h2 o2 ho2 hc2 hd2 sb2 => wpAny_pure ⟨_, rfl, wpAny_pure (q h2 ⟨hSk h2 sb2, hf, _, o2, ho2, hc2, ?_, .inr (.inr ⟨places, n, oT, rfl, (sb2.2 T hTI).trans hoT, hdT, hpn, hpv⟩)⟩ sb2)⟩)
  rw [hd2]
  rfl
theorem si_stop {I : Addr} {o : Obj} {fs : Array Value} {Q : Option Value → Shared → Prop} (hh : A.handled = none) (ho : s.heap.get? I = some o) (hd : o.data = .fields fs) (hk : 2 < fs.size) (hc : o.cls = .type "set_iterator") (q : ∀ h', Heap.ExtBut I s.heap h' → Q none { s with heap := h' }) :
  wpAny (model prog w) A.in1 (do
    setField (Value.ref I) 2 Value.none
    let __do_lift ← newExc (Value.type "StopIteration") []
    raiseNew __do_lift) (fun fin s' => ∃ v, fin = Fin.done (Flow.ret v) ∧ wpAny (model prog w) A (pure (some v)) Q E s')
   (fun e s' => wpAny (model prog w) A (do
    let __do_lift ← isInstance e (Value.type "StopIteration")
    if __do_lift = true then pure none else throw e) Q E s') s := by
 refine wpAny_bind (fld ho hd hk hc fun h1 o1 ho1 hc1 hd1 sb1 => ?_)
 refine wpAny_bind ?_; simp only [newExc, newTuple]
 refine wpAny_bind (wpAny_newObj_type (wpAny_bind (m := firstArgMember _ _) (wpAny_of_eq (a := Value.none) (by first | rfl | (simp only [firstArgMember]; rfl)) (wpAny_newObj_type ?_ (by size_fits)))) (by size_fits))
 simp only [raiseNew]; refine wpAny_bind (wpAny_handled ?_)
 rw [show A.in1.handled = none from hh]; refine wpAny_bind (wpAny_pure (wpAny_throw ?_))
 refine wpAny_bind (wpAny_isInstance (T := "StopIteration") (b := true) (v := .ref _) (by exact ⟨_, Heap.get?_push_size _ rfl, rfl⟩) isSubtype_stop ?_)
 exact wpAny_pure (q _ ((sb1.extBut.push _).push _))
set_option maxHeartbeats 1000000 in
theorem si_end {I S T : Addr} {es : Array (Int × Value)} {ep : Nat} {t : SetTable} {ys : List Value} {Q : Option Value → Shared → Prop} (hh : A.handled = none) (x : SIt w s.heap I S T es ep t ys ys.length) (hy : ys.length = es.size)
  (q : ∀ h', Heap.ExtBut I s.heap h' → Q none { s with heap := h' }) : wpAny (model prog w) A (pyNext (.ref I)) Q E s := by
 have hT := x.ty (h := s.heap)
 obtain ⟨⟨oS, hoS, hdS⟩, hf, first, o, ho, hc, hd, hmode⟩ := id x
 unfold pyNext; refine wpAny_bind (wpAny_attempt (wpAny_callSpecial?_slot (name := Str.ofString "__next__") hT slot_si_next (wpAny_call_entry slot_si_next hT entry_si_next ?_ (args_si_next _))))
 unfold Builtin.«set_iterator.__next__»
 refine wpAny_bind (wpAny_pure (wpAny_bind (wpAny_fieldsOf ho hd ?_)))
 dsimp only
 refine wpAny_bind (setEnts hoS hdS hf ?_)
 rw [if_neg (by simp)]
 rcases hmode with ⟨sl, rfl, hT1, e⟩ | ⟨sl, rfl, hT1, hpl, hld, hbl, hr, e⟩ | ⟨places, n, oT, rfl, hoT, hdT, hpn, hpv⟩
 ·dsimp only
  rw [Int.toNat_natCast, Int.toNat_natCast, Int.toNat_natCast]
  refine wpAny_bind (next_text hT1 hoS hdS hf ?_)
  have hpi : (pickOrder (w.params.setOrder S ep) es)[ys.length]? = none := by
   have h1 : ys.length = (pickOrder (w.params.setOrder S ep) es).size := by
    rw [e, List.length_map, Array.length_toList]
   exact Array.getElem?_eq_none (Nat.le_of_eq h1.symm)
  rw [hpi]
  exact si_stop hh ho hd (by simp) hc q
 ·dsimp only
  rw [Int.toNat_natCast, Int.toNat_natCast, Int.toNat_natCast]
  refine wpAny_bind (next_slot hT1 hpl hld hoS hdS hf ?_)
  rw [hbl, Array.getElem?_eq_none (show es.size ≤ ys.length by lia)]
  exact si_stop hh ho hd (by simp) hc q
 ·dsimp only
  refine wpAny_bind (wpAny_seqItems hoT hdT ?_)
  dsimp only
  rw [Int.toNat_natCast]
  have hpi : places.size ≤ ys.length := by rw [← Array.length_toList]; lia
  rw [Array.getElem?_eq_none hpi]
  dsimp only
  refine wpAny_bind (fld ho hd (by simp) hc fun h1 o1 ho1 hc1 hd1 sb1 => si_stop (s := { s with heap := h1 }) hh ho1 hd1 (by simp) hc1 fun h' eb => q h' fun b o2 hb e2 => eb b o2 hb ((sb1.2 b hb).trans e2))
theorem si_walks {I S T : Addr} {es : Array (Int × Value)} {ep : Nat} {t : SetTable} {ys : List Value} (hh : A.handled = none) (hIS : S ≠ I) (hTI : T ≠ I) (hy : ys.length = es.size) : Walks prog w A I [I, S, T] [I] ys.length (fun i v => ys[i]? = some v) (fun i h => SIt w h I S T es ep t ys i) where
 sub := fun b hb => List.mem_cons.mpr (.inl (List.mem_singleton.mp hb))
 frame := fun i h h' x hk => by
  obtain ⟨⟨oS, hoS, hdS⟩, hf, first, o, ho, hc, hd, hmode⟩ := x
  refine ⟨⟨oS, hk S (by simp) oS hoS, hdS⟩, hf, first, o, hk I (by simp) o ho, hc, hd, ?_⟩
  rcases hmode with h1 | h1 | ⟨places, n, oT, e, hoT, r⟩
  ·exact .inl h1
  ·exact .inr (.inl h1)
  ·exact .inr (.inr ⟨places, n, oT, e, hk T (by simp) oT hoT, r⟩)
 item := fun i s Q E hi x hQ => si_item x hy hi fun h' x' sb => hQ _ h' s.toks (List.getElem?_eq_getElem hi) x' fun b o hb e => (sb.2 b (fun z => hb (List.mem_singleton.mpr z))).trans e
 done := fun s Q E x hQ => si_end hh x hy fun h' eb => hQ h' s.toks fun b o hb e => eb b o (fun z => hb (List.mem_singleton.mpr z)) e
 self := fun i s Q E x hQ => by
  have hT := x.ty (h := s.heap)
  refine wpAny_pyIter_slot hT slot_si_iter (wpAny_call_entry slot_si_iter hT entry_si_iter ?_ (args_si_iter _))
  change wpAny _ _ (ret (.ref I)) _ _ s
  exact wpAny_pure ⟨_, rfl, "set_iterator", _, hT, slot_si_next.lookup, hQ⟩
end
end Sts
namespace Sts
open PySem PyProof.Rows
section
variable {prog : Program} {w : World} {K : Type} [DecidableEq K] {knd : KeyKind prog w K} {A : Around} {E : Value → Shared → Prop} {s : Shared}
theorem drawn_q {S : Addr} {o : Obj} {es : Array (Int × Value)} {ep : Nat} {t : SetTable} {Q : Bool → Shared → Prop} (ho : s.heap.get? S = some o) (hd : o.data = .set es ep t) (hf : t.fits es.size = true) (h : Q (!w.params.followText "set-order" && (!t.plain && decide (es.size > 1))) s) : wpAny (model prog w) A (setDrawn S) Q E s := by
 unfold setDrawn
 refine wpAny_bind (wpAny_setState_of ho hd hf ?_)
 dsimp only
 exact wpAny_bind (byText (wpAny_pure h))
end
end Sts
namespace Sts
open PySem PyProof.Rows PySem.W
section
variable {prog : Program} {w : World} {K : Type} [DecidableEq K] {knd : KeyKind prog w K} {A : Around} {E : Value → Shared → Prop} {s : Shared}
theorem hint_set {r : Addr} {Q : Bool → Shared → Prop} (hT : s.TypeIs (.ref r) "set") (h : Q false s) : wpAny (model prog w) A (Builtin.List.listLengthHint (.ref r)) Q E s := by
 unfold Builtin.List.listLengthHint
 refine wpAny_bind (wpAny_specialOf hT PySem.F.slot_set_len.lookup ?_)
 generalize hid : ("set.__len__" : String) = id0
 wp_delta
 rw [show splitId id0 = some ("set", "__len__") from by subst hid; decide +kernel]
 subst hid
 refine wpAny_bind (wpAny_isInstance (T := "set") (b := true) hT (by rw [isSubtype_type]; kernel_rfl) (wpAny_ite_split (fun hab => absurd hab (by decide)) (fun _ => wpAny_ite_split (fun _ => ?_) (fun hab => absurd (by decide +kernel) hab))))
 exact wpAny_bind (wpAny_typeOf hT (wpAny_pure h))
end
end Sts
namespace Srt
open PySem PyProof.Rows PySem.W
end Srt
namespace Sts
open PySem PyProof.Rows PySem.W Srt
end Sts
namespace L2
open PySem PySem.Spec PyProof.Rows PySem.W
section
variable {X : Cx} {e : Expr} {te : TE} {p p' pos pos' : Pos}
theorem Inv.draws {pins : List (Addr × Obj)} {σ : St} {H : Hp} {s : Shared} {d : Drawn} (I : Inv X pins σ H s) : Inv X pins σ H { s with drawn := d } :=
 I.step (g' := s.gens) (d' := d) (t' := s.toks) (ch := []) (fun _ z => nomatch z) (fun _ _ _ _ _ e _ => e) (fun _ o _ _ _ e _ => ⟨o.slots, e⟩) (fun _ _ _ _ n => n) (fun _ o _ e => ⟨o, e⟩) (fun _ _ h => h) (fun _ _ _ h => h) (fun _ ps h => ⟨#[], by simpa using h⟩) (fun _ h => h) I.hok I.bare
theorem bt_set : bootBuiltins "set" = some (.type "set") := by decide +kernel
theorem bt_sorted1 : bootBuiltins "sorted" = some (.builtin "sorted") := by decide +kernel
end
end L2
namespace Srd
open PySem PyProof.Rows Srt
structure Swo (lt : Keyed → Keyed → Bool) : Prop where
 asym : ∀ x y, lt x y = true → lt y x = false
 neg : ∀ x y z, lt x y = false → lt y z = false → lt x z = false
def Le (lt : Keyed → Keyed → Bool) (x y : Keyed) : Prop := lt y x = false
section
variable {lt : Keyed → Keyed → Bool} (o : Swo lt) {x y z : Keyed}
include o
theorem Swo.le_trans (h1 : Le lt x y) (h2 : Le lt y z) : Le lt x z := o.neg z y x h2 h1
theorem Swo.le_of (h : lt x y = true) : Le lt x y := o.asym x y h
theorem Swo.lt_le (h1 : lt x y = true) (h2 : Le lt y z) : lt x z = true := by
 cases h : lt x z with
 | true => rfl
 | false => rw [o.neg x z y h h2] at h1; cases h1
theorem Swo.le_lt (h1 : Le lt x y) (h2 : lt y z = true) : lt x z = true := by
 cases h : lt x z with
 | true => rfl
 | false => rw [o.neg y x z h1 h] at h2; cases h2
theorem Swo.le_refl (x : Keyed) : Le lt x x := by
 show lt x x = false
 cases h : lt x x with
 | false => rfl
 | true => have := o.asym x x h; rw [h] at this; exact this
end
def CmpL (prog : Program) (w : World) (A : Around) (s : Shared) (κ : SortKind) (Ok : Keyed → Prop) (lt : Keyed → Keyed → Bool) : Prop :=
 ∀ x y, Ok x → Ok y → ∀ E : Value → Shared → Prop, wpAny (model prog w) A (keyLt' κ x.1 y.1) (fun b s' => s' = s ∧ b = lt x y) E s
def Up (lt : Keyed → Keyed → Bool) (arr : Array Keyed) (i j : Nat) : Prop := ∀ x y p q, i ≤ x → x < y → y < j → arr[x]? = some p → arr[y]? = some q → Le lt p q
def bv (lt : Keyed → Keyed → Bool) (l : Bool) (key p : Keyed) : Bool := if l = true then lt p key else !lt key p
def BV (lt : Keyed → Keyed → Bool) (l : Bool) (key : Keyed) (a : Array Keyed) (base i : Nat) : Bool := match a[base + i]? with | some p => bv lt l key p | none => false
theorem BV.anti {lt : Keyed → Keyed → Bool} (o : Swo lt) {l : Bool} {key : Keyed} {a : Array Keyed} {base n : Nat} (hb : base + n ≤ a.size) (hu : Up lt a base (base + n)) {i j : Nat} (hij : i ≤ j) (hj : j < n) (h : BV lt l key a base j = true) : BV lt l key a base i = true := by
 rcases Nat.eq_or_lt_of_le hij with rfl | hlt
 ·exact h
 have ei : a[base + i]? = some a[base + i] := getElem?_pos a _ (by lia)
 have ej : a[base + j]? = some a[base + j] := getElem?_pos a _ (by lia)
 have hle := hu (base + i) (base + j) _ _ (by lia) (by lia) (by lia) ei ej
 unfold BV at h ⊢
 rw [ej] at h
 rw [ei]
 dsimp only at h ⊢
 unfold bv at h ⊢
 cases l with
 | true =>
  rw [if_pos rfl] at h ⊢
  exact o.le_lt hle h
 | false =>
  rw [if_neg (by decide)] at h ⊢
  have h1 : lt key a[base + j] = false := by simpa using h
  have : lt key a[base + i] = false := o.le_trans (lt := lt) hle h1
  rw [this]
  rfl
section
variable {prog : Program} {w : World} {A : Around} {E : Value → Shared → Prop} {s : Shared} {κ : SortKind} {Ok : Keyed → Prop} {st : SortSt} {lt : Keyed → Keyed → Bool}
theorem wpS_ltL {x y : Keyed} {Q : Option Bool → SortSt → Prop} (hc : CmpL prog w A s κ Ok lt) (hk : kindOf st = κ) (hx : Ok x) (hy : Ok y) (h : Q (some (lt x y)) st) : wpS (model prog w) A E s (lt' x y) Q st := by
 rw [lt'_eq]
 refine wpS_bind (wpS_get ?_)
 rw [hk]
 refine wpS_bind (wpS_lift (wpAny_attempt (wpAny_mono (hc x y hx hy _) (fun b s' e => ⟨e.1, ?_⟩) fun _ _ z => z)))
 rw [e.2]
 exact wpS_pure h
theorem beyL {l : Bool} {key : Keyed} {a : Array Keyed} {base n i : Nat} {Q : Option Bool → SortSt → Prop} (hc : CmpL prog w A s κ Ok lt) (hk : kindOf st = κ) (hkey : Ok key) (ha : ∀ p ∈ a.toList, Ok p) (hb : base + n ≤ a.size) (hi : i < n) (h : Q (some (BV lt l key a base i)) st) :
  wpS (model prog w) A E s (elem' a (base + i) >>= fun x => if l = true then lt' x key else (lt' key x >>= fun r => pure (Option.map (fun z => !z) r))) Q st := by
 refine wpS_bind (wpS_elem (by lia) fun p hp e => ?_)
 unfold BV at h
 rw [e] at h
 dsimp only at h
 unfold bv at h
 cases l with
 | true =>
  rw [if_pos rfl] at h ⊢
  exact wpS_ltL hc hk (ha p hp) hkey h
 | false =>
  rw [if_neg Bool.false_ne_true] at h ⊢
  exact wpS_bind (wpS_ltL hc hk hkey (ha p hp) (wpS_pure h))
set_option maxHeartbeats 1000000 in
theorem wpS_gallopL {l : Bool} {key : Keyed} {a : Array Keyed} {base n hint : Nat} {Q : Option Nat → SortSt → Prop} (o : Swo lt) (hc : CmpL prog w A s κ Ok lt) (hk : kindOf st = κ) (hkey : Ok key) (ha : ∀ p ∈ a.toList, Ok p) (hb : base + n ≤ a.size) (hh : hint < n) (hu : Up lt a base (base + n))
  (h : ∀ k, k ≤ n → (∀ i, i < k → BV lt l key a base i = true) → (∀ i, k ≤ i → i < n → BV lt l key a base i = false) → Q (some k) st) : wpS (model prog w) A E s (gallop' l key a base n hint) Q st := by
 have up : ∀ {i j}, i ≤ j → j < n → BV lt l key a base j = true → BV lt l key a base i = true := fun hij hj h => BV.anti o hb hu hij hj h
 have dn : ∀ {i j}, i ≤ j → j < n → BV lt l key a base i = false → BV lt l key a base j = false := fun {i j} hij hj h => by
  cases e : BV lt l key a base j with
  | false => rfl
  | true => rw [up hij hj e] at h; cases h
 generalize hBB : BV lt l key a base = BB at up dn h
 have bey : ∀ {st' : SortSt} {i : Nat} {Q' : Option Bool → SortSt → Prop}, st' = st → i < n → Q' (some (BB i)) st' → wpS (model prog w) A E s (elem' a (base + i) >>= fun x => if l = true then lt' x key else (lt' key x >>= fun r => pure (Option.map (fun z => !z) r))) Q' st' := fun {st' i Q'} e hi hq => by
  subst e
  exact beyL hc hk hkey ha hb hi (by rw [hBB]; exact hq)
 refine wpS_bind (bey rfl hh ?_)
 cases hright : BB hint with
 | true =>
  dsimp only
  rw [if_pos rfl]
  refine wpS_bind (wpS_mono (wpS_forRange (I := fun x c st' => st' = st ∧ ∃ lo of, c = (none, lo, of) ∧ lo < n - hint ∧ lo < of ∧ BB (hint + lo) = true ∧ x + 1 ≤ of) (Q := fun c st' => st' = st ∧ ∃ lo of, c = (none, lo, of) ∧ lo < n - hint ∧ lo < of ∧ BB (hint + lo) = true ∧ (n - hint ≤ of ∨ BB (hint + of) = false)) ?_ ?_ ⟨rfl, 0, 1, rfl, by lia, by lia, hright, by lia⟩) ?_)
  ·rintro i c st' _ _ ⟨rfl, lo, of, rfl, h1, h2, h3, h4⟩
   dsimp only
   by_cases hlt : of ≥ n - hint
   ·rw [if_pos hlt]
    exact wpS_pure ⟨rfl, lo, of, rfl, h1, h2, h3, .inl hlt⟩
   ·rw [if_neg hlt]
    refine wpS_bind (bey rfl (by lia) ?_)
    cases hb2 : BB (hint + of) with
    | true => exact wpS_pure ⟨rfl, _, _, rfl, by lia, by lia, hb2, by lia⟩
    | false => exact wpS_pure ⟨rfl, lo, of, rfl, h1, h2, h3, .inr hb2⟩
  ·rintro c st' ⟨rfl, lo, of, rfl, h1, h2, h3, h4⟩
   exact ⟨rfl, lo, of, rfl, h1, h2, h3, .inl (by lia)⟩
  ·rintro c st'' ⟨rfl, lo, of, rfl, h1, h2, h3, h4⟩
   dsimp only
   have g1 : hint + lo + 1 ≤ hint + min of (n - hint) := by lia
   have g2 : hint + min of (n - hint) ≤ n := by lia
   have g3 : ∀ i, i < hint + lo + 1 → BB i = true := fun i hi => up (show i ≤ hint + lo by lia) (by lia) h3
   have g4 : ∀ i, hint + min of (n - hint) ≤ i → i < n → BB i = false := fun i hi hin => by
    rcases h4 with h4 | h4
    ·lia
    ·exact dn (show hint + of ≤ i by lia) hin h4
   generalize hint + lo + 1 = lo1 at g1 g3
   generalize hint + min of (n - hint) = hi1 at g1 g2 g4
   refine wpS_bind (wpS_mono (wpS_forRange (I := fun x c st' => st' = st'' ∧ ∃ lo hi, c = (none, lo, hi) ∧ lo ≤ hi ∧ hi ≤ n ∧ (∀ i, i < lo → BB i = true) ∧ (∀ i, hi ≤ i → i < n → BB i = false) ∧ hi - lo + x ≤ n) (Q := fun c st' => st' = st'' ∧ ∃ lo hi, c = (none, lo, hi) ∧ lo = hi ∧ hi ≤ n ∧ (∀ i, i < lo → BB i = true) ∧ (∀ i, hi ≤ i → i < n → BB i = false)) ?_ ?_ ⟨rfl, lo1, hi1, rfl, g1, g2, g3, g4, by lia⟩) ?_)
   ·rintro i c st' _ _ ⟨rfl, lo, hi, rfl, h1, h2, h3, h4, h5⟩
    dsimp only
    by_cases hlt : lo ≥ hi
    ·rw [if_pos hlt]
     exact wpS_pure ⟨rfl, lo, hi, rfl, by lia, h2, h3, h4⟩
    ·rw [if_neg hlt]
     refine wpS_bind (bey rfl (by lia) ?_)
     cases hb2 : BB (lo + (hi - lo) / 2) with
     | true => exact wpS_pure ⟨rfl, _, _, rfl, by lia, by lia, fun i hi' => up (show i ≤ lo + (hi - lo) / 2 by lia) (by lia) hb2, h4, by lia⟩
     | false => exact wpS_pure ⟨rfl, _, _, rfl, by lia, by lia, h3, fun i hi' hin => dn hi' hin hb2, by lia⟩
   ·rintro c st' ⟨rfl, lo, hi, rfl, h1, h2, h3, h4, h5⟩
    exact ⟨rfl, lo, hi, rfl, by lia, h2, h3, h4⟩
   ·rintro c st' ⟨rfl, lo, hi, rfl, h1, h2, h3, h4⟩
    exact wpS_pure (h hi h2 (fun i hi' => h3 i (by lia)) h4)
 | false =>
  dsimp only
  rw [if_neg Bool.false_ne_true]
  refine wpS_bind (wpS_mono (wpS_forRange (I := fun x c st' => st' = st ∧ ∃ lo of, c = (none, lo, of) ∧ lo < hint + 1 ∧ lo < of ∧ BB (hint - lo) = false ∧ x + 1 ≤ of) (Q := fun c st' => st' = st ∧ ∃ lo of, c = (none, lo, of) ∧ lo < hint + 1 ∧ lo < of ∧ BB (hint - lo) = false ∧ (hint + 1 ≤ of ∨ BB (hint - of) = true)) ?_ ?_ ⟨rfl, 0, 1, rfl, by lia, by lia, hright, by lia⟩) ?_)
  ·rintro i c st' _ _ ⟨rfl, lo, of, rfl, h1, h2, h3, h4⟩
   dsimp only
   by_cases hlt : of ≥ hint + 1
   ·rw [if_pos hlt]
    exact wpS_pure ⟨rfl, lo, of, rfl, h1, h2, h3, .inl hlt⟩
   ·rw [if_neg hlt]
    refine wpS_bind (bey rfl (by lia) ?_)
    cases hb2 : BB (hint - of) with
    | true => exact wpS_pure ⟨rfl, lo, of, rfl, h1, h2, h3, .inr hb2⟩
    | false => exact wpS_pure ⟨rfl, _, _, rfl, by lia, by lia, hb2, by lia⟩
  ·rintro c st' ⟨rfl, lo, of, rfl, h1, h2, h3, h4⟩
   exact ⟨rfl, lo, of, rfl, h1, h2, h3, .inl (by lia)⟩
  ·rintro c st'' ⟨rfl, lo, of, rfl, h1, h2, h3, h4⟩
   dsimp only
   have g1 : hint + 1 - min of (hint + 1) ≤ hint - lo := by lia
   have g2 : hint - lo ≤ n := by lia
   have g3 : ∀ i, i < hint + 1 - min of (hint + 1) → BB i = true := fun i hi => by
    rcases h4 with h4 | h4
    ·lia
    ·exact up (show i ≤ hint - of by lia) (by lia) h4
   have g4 : ∀ i, hint - lo ≤ i → i < n → BB i = false := fun i hi hin => dn hi hin h3
   generalize hint + 1 - min of (hint + 1) = lo1 at g1 g3
   generalize hint - lo = hi1 at g1 g2 g4
   refine wpS_bind (wpS_mono (wpS_forRange (I := fun x c st' => st' = st'' ∧ ∃ lo hi, c = (none, lo, hi) ∧ lo ≤ hi ∧ hi ≤ n ∧ (∀ i, i < lo → BB i = true) ∧ (∀ i, hi ≤ i → i < n → BB i = false) ∧ hi - lo + x ≤ n) (Q := fun c st' => st' = st'' ∧ ∃ lo hi, c = (none, lo, hi) ∧ lo = hi ∧ hi ≤ n ∧ (∀ i, i < lo → BB i = true) ∧ (∀ i, hi ≤ i → i < n → BB i = false)) ?_ ?_ ⟨rfl, lo1, hi1, rfl, g1, g2, g3, g4, by lia⟩) ?_)
   ·rintro i c st' _ _ ⟨rfl, lo, hi, rfl, h1, h2, h3, h4, h5⟩
    dsimp only
    by_cases hlt : lo ≥ hi
    ·rw [if_pos hlt]
     exact wpS_pure ⟨rfl, lo, hi, rfl, by lia, h2, h3, h4⟩
    ·rw [if_neg hlt]
     refine wpS_bind (bey rfl (by lia) ?_)
     cases hb2 : BB (lo + (hi - lo) / 2) with
     | true => exact wpS_pure ⟨rfl, _, _, rfl, by lia, by lia, fun i hi' => up (show i ≤ lo + (hi - lo) / 2 by lia) (by lia) hb2, h4, by lia⟩
     | false => exact wpS_pure ⟨rfl, _, _, rfl, by lia, by lia, h3, fun i hi' hin => dn hi' hin hb2, by lia⟩
   ·rintro c st' ⟨rfl, lo, hi, rfl, h1, h2, h3, h4, h5⟩
    exact ⟨rfl, lo, hi, rfl, by lia, h2, h3, h4⟩
   ·rintro c st' ⟨rfl, lo, hi, rfl, h1, h2, h3, h4⟩
    exact wpS_pure (h hi h2 (fun i hi' => h3 i (by lia)) h4)
end
end Srd
namespace Srd
open PySem PyProof.Rows Srt
section
variable {lt : Keyed → Keyed → Bool} {a b out : Array Keyed} {ia ib k : Nat} {p q : Keyed}
abbrev So (lt : Keyed → Keyed → Bool) (l : List Keyed) : Prop := l.Pairwise (Le lt)
theorem getD' (h : a[ia]? = some p) : a.toList[ia]? = some p := by rw [← h]; simp
theorem some_inj {i : Nat} {x y : Keyed} (h1 : a[i]? = some x) (h2 : a[i]? = some y) : x = y := by
 rw [h1] at h2
 exact Option.some.inj h2
theorem drop_head (h : a[ia]? = some p) : a.toList.drop ia = p :: a.toList.drop (ia + 1) := by
 obtain ⟨hi, e⟩ := List.getElem?_eq_some_iff.mp (getD' h)
 rw [List.drop_eq_getElem_cons hi, e]
theorem So.drop {l : List Keyed} (h : So lt l) (n : Nat) : So lt (l.drop n) := List.Pairwise.sublist (List.drop_sublist n l) h
theorem So.head (h : So lt a.toList) (hp : a[ia]? = some p) : ∀ y ∈ a.toList.drop (ia + 1), Le lt p y := by
 have := h.drop ia
 rw [drop_head hp] at this
 exact (List.pairwise_cons.mp this).1
theorem headLe (o : Swo lt) (h : So lt a.toList) (hp : a[ia]? = some p) {x : Keyed} (hx : Le lt x p) : ∀ y ∈ a.toList.drop ia, Le lt x y := fun y hy => by
 rw [drop_head hp] at hy
 rcases List.mem_cons.mp hy with rfl | hy
 ·exact hx
 ·exact o.le_trans hx (h.head hp y hy)
theorem up_of (h : So lt a.toList) (i j : Nat) : Up lt a i j := fun x y p q _ hxy _ ex ey => by
 obtain ⟨hx, rfl⟩ := List.getElem?_eq_some_iff.mp (getD' ex)
 obtain ⟨hy, rfl⟩ := List.getElem?_eq_some_iff.mp (getD' ey)
 exact (List.pairwise_iff_getElem.mp h) x y hx hy hxy
theorem so_of {n : Nat} (h : Up lt a 0 n) (hn : a.size ≤ n) : So lt a.toList := by
 refine List.pairwise_iff_getElem.mpr fun i j hi hj hij => ?_
 have hi' : i < a.size := by rw [← Array.length_toList]; exact hi
 have hj' : j < a.size := by rw [← Array.length_toList]; exact hj
 exact h i j _ _ (Nat.zero_le _) hij (by lia) (by rw [← Array.getElem?_toList]; exact List.getElem?_eq_getElem hi) (by rw [← Array.getElem?_toList]; exact List.getElem?_eq_getElem hj)
theorem mem_dropI {l : List Keyed} {n : Nat} {y : Keyed} (h : y ∈ l.drop n) : ∃ i, l[n + i]? = some y := by
 obtain ⟨i, hi⟩ := List.mem_iff_getElem?.mp h
 rw [List.getElem?_drop] at hi
 exact ⟨i, hi⟩
theorem galA (F : ∀ i, k ≤ i → i < a.size - ia → BV lt false p a ia i = false) (o : Swo lt) : ∀ y ∈ a.toList.drop (ia + k), Le lt p y := fun y hy => by
 obtain ⟨i, hi⟩ := mem_dropI hy
 obtain ⟨hl, _⟩ := List.getElem?_eq_some_iff.mp hi
 rw [Array.length_toList] at hl
 have h1 := F (k + i) (by lia) (by lia)
 unfold BV at h1
 rw [show ia + (k + i) = ia + k + i by lia, ← Array.getElem?_toList, hi] at h1
 have h2 : (!lt p y) = false := h1
 exact o.le_of (by simpa using h2)
theorem galA1 (F : ∀ i, i < k → BV lt false p a ia i = true) : ∀ x ∈ (a.toList.drop ia).take k, Le lt x p := fun x hx => by
 obtain ⟨i, hi⟩ := List.mem_iff_getElem?.mp hx
 have hik : i < k := by
  have := (List.getElem?_eq_some_iff.mp hi).1
  rw [List.length_take] at this
  lia
 rw [List.getElem?_take_of_lt hik, List.getElem?_drop] at hi
 have h1 := F i hik
 unfold BV at h1
 rw [← Array.getElem?_toList, hi] at h1
 have h2 : (!lt p x) = true := h1
 show lt p x = false
 simpa using h2
theorem galB (F : ∀ i, k ≤ i → i < b.size - ib → BV lt true q b ib i = false) : ∀ y ∈ b.toList.drop (ib + k), Le lt q y := fun y hy => by
 obtain ⟨i, hi⟩ := mem_dropI hy
 obtain ⟨hl, _⟩ := List.getElem?_eq_some_iff.mp hi
 rw [Array.length_toList] at hl
 have h1 := F (k + i) (by lia) (by lia)
 unfold BV at h1
 rw [show ib + (k + i) = ib + k + i by lia, ← Array.getElem?_toList, hi] at h1
 exact h1
theorem galB1 (F : ∀ i, i < k → BV lt true q b ib i = true) (o : Swo lt) : ∀ x ∈ (b.toList.drop ib).take k, Le lt x q := fun x hx => by
 obtain ⟨i, hi⟩ := List.mem_iff_getElem?.mp hx
 have hik : i < k := by
  have := (List.getElem?_eq_some_iff.mp hi).1
  rw [List.length_take] at this
  lia
 rw [List.getElem?_take_of_lt hik, List.getElem?_drop] at hi
 have h1 := F i hik
 unfold BV at h1
 rw [← Array.getElem?_toList, hi] at h1
 exact o.le_of h1
structure OutL (lt : Keyed → Keyed → Bool) (a b out : Array Keyed) (ia ib : Nat) : Prop where
 perm : Out a b out ia ib
 sort : So lt out.toList
 lowA : ∀ x ∈ out.toList, ∀ y ∈ a.toList.drop ia, Le lt x y
 lowB : ∀ x ∈ out.toList, ∀ y ∈ b.toList.drop ib, Le lt x y
structure Rs (lt : Keyed → Keyed → Bool) (a b r : Array Keyed) : Prop where
 perm : r.toList.Perm (a.toList ++ b.toList)
 sort : So lt r.toList
theorem mem_push {x : Keyed} (h : x ∈ (out.push p).toList) : x ∈ out.toList ∨ x = p := by
 rw [Array.toList_push] at h
 rcases List.mem_append.mp h with h | h
 ·exact .inl h
 ·exact .inr (List.mem_singleton.mp h)
theorem so_push (h : So lt out.toList) (hp : ∀ x ∈ out.toList, Le lt x p) : So lt (out.push p).toList := by
 rw [Array.toList_push]
 refine List.pairwise_append.mpr ⟨h, List.pairwise_singleton _ _, fun x hx y hy => ?_⟩
 rw [List.mem_singleton.mp hy]
 exact hp x hx
theorem drop_in {l : List Keyed} {i j : Nat} (h : i ≤ j) {y : Keyed} (hy : y ∈ l.drop j) : y ∈ l.drop i := by
 rw [show j = i + (j - i) by lia, ← List.drop_drop] at hy
 exact List.mem_of_mem_drop hy
theorem OutL.pushA (h : OutL lt a b out ia ib) (SA : So lt a.toList) (hp : a[ia]? = some p) (hb : ∀ y ∈ b.toList.drop ib, Le lt p y) : OutL lt a b (out.push p) (ia + 1) ib := by
 have hm : p ∈ a.toList.drop ia := by rw [drop_head hp]; exact List.mem_cons_self ..
 refine ⟨h.perm.pushA hp, so_push h.sort fun x hx => h.lowA x hx p hm, fun x hx y hy => ?_, fun x hx y hy => ?_⟩
 ·rcases mem_push hx with hx | rfl
  ·exact h.lowA x hx y (drop_in (by lia) hy)
  ·exact SA.head hp y hy
 ·rcases mem_push hx with hx | rfl
  ·exact h.lowB x hx y hy
  ·exact hb y hy
theorem OutL.pushB (h : OutL lt a b out ia ib) (SB : So lt b.toList) (hp : b[ib]? = some p) (ha : ∀ y ∈ a.toList.drop ia, Le lt p y) : OutL lt a b (out.push p) ia (ib + 1) := by
 have hm : p ∈ b.toList.drop ib := by rw [drop_head hp]; exact List.mem_cons_self ..
 refine ⟨h.perm.pushB hp, so_push h.sort fun x hx => h.lowB x hx p hm, fun x hx y hy => ?_, fun x hx y hy => ?_⟩
 ·rcases mem_push hx with hx | rfl
  ·exact h.lowA x hx y hy
  ·exact ha y hy
 ·rcases mem_push hx with hx | rfl
  ·exact h.lowB x hx y (drop_in (by lia) hy)
  ·exact SB.head hp y hy
theorem ext_list (a : Array Keyed) (i k : Nat) : (a.extract i (i + k)).toList = (a.toList.drop i).take k := by
 rw [Array.toList_extract, List.extract_eq_drop_take, show i + k - i = k by lia]
theorem ext_all (a : Array Keyed) (i : Nat) : (a.extract i a.size).toList = a.toList.drop i := by
 rw [Array.toList_extract, List.extract_eq_drop_take]
 apply List.take_of_length_le
 rw [List.length_drop, Array.length_toList]
 exact Nat.le_refl _
theorem take_drop_le {l : List Keyed} {i k : Nat} (h : So lt l) {x y : Keyed} (hx : x ∈ (l.drop i).take k) (hy : y ∈ l.drop (i + k)) : Le lt x y := by
 have h1 := h.drop i
 rw [← List.take_append_drop k (l.drop i), List.drop_drop] at h1
 exact (List.pairwise_append.mp h1).2.2 x hx y hy
theorem OutL.extA (h : OutL lt a b out ia ib) (SA : So lt a.toList) (hk : ia + k ≤ a.size) (hb : ∀ x ∈ (a.toList.drop ia).take k, ∀ y ∈ b.toList.drop ib, Le lt x y) : OutL lt a b (out ++ a.extract ia (ia + k)) (ia + k) ib := by
 have hm : ∀ x, x ∈ (out ++ a.extract ia (ia + k)).toList → x ∈ out.toList ∨ x ∈ (a.toList.drop ia).take k := fun x hx => by
  rw [Array.toList_append, ext_list] at hx
  exact List.mem_append.mp hx
 refine ⟨h.perm.extA hk, ?_, fun x hx y hy => ?_, fun x hx y hy => ?_⟩
 ·rw [Array.toList_append, ext_list]
  exact List.pairwise_append.mpr ⟨h.sort, List.Pairwise.sublist (List.take_sublist _ _) (SA.drop ia), fun x hx y hy => h.lowA x hx y (List.mem_of_mem_take hy)⟩
 ·rcases hm x hx with hx | hx
  ·exact h.lowA x hx y (drop_in (by lia) hy)
  ·exact take_drop_le SA hx hy
 ·rcases hm x hx with hx | hx
  ·exact h.lowB x hx y hy
  ·exact hb x hx y hy
theorem OutL.extB (h : OutL lt a b out ia ib) (SB : So lt b.toList) (hk : ib + k ≤ b.size) (ha : ∀ x ∈ (b.toList.drop ib).take k, ∀ y ∈ a.toList.drop ia, Le lt x y) : OutL lt a b (out ++ b.extract ib (ib + k)) ia (ib + k) := by
 have hm : ∀ x, x ∈ (out ++ b.extract ib (ib + k)).toList → x ∈ out.toList ∨ x ∈ (b.toList.drop ib).take k := fun x hx => by
  rw [Array.toList_append, ext_list] at hx
  exact List.mem_append.mp hx
 refine ⟨h.perm.extB hk, ?_, fun x hx y hy => ?_, fun x hx y hy => ?_⟩
 ·rw [Array.toList_append, ext_list]
  exact List.pairwise_append.mpr ⟨h.sort, List.Pairwise.sublist (List.take_sublist _ _) (SB.drop ib), fun x hx y hy => h.lowB x hx y (List.mem_of_mem_take hy)⟩
 ·rcases hm x hx with hx | hx
  ·exact h.lowA x hx y hy
  ·exact ha x hx y hy
 ·rcases hm x hx with hx | hx
  ·exact h.lowB x hx y (drop_in (by lia) hy)
  ·exact take_drop_le SB hx hy
theorem OutL.doneB (h : OutL lt a b out ia ib) (SA : So lt a.toList) (e : (ib == b.size) = true) : Rs lt a b (out ++ a.extract ia a.size ++ b.extract ib b.size) := by
 refine ⟨h.perm.done, ?_⟩
 have e' : b.toList.drop ib = [] := List.drop_eq_nil_of_le (by rw [Array.length_toList, eq_of_beq e]; exact Nat.le_refl _)
 rw [Array.toList_append, Array.toList_append, ext_all, ext_all, e', List.append_nil]
 exact List.pairwise_append.mpr ⟨h.sort, SA.drop ia, fun x hx y hy => h.lowA x hx y hy⟩
theorem OutL.doneA (h : OutL lt a b out ia ib) (SB : So lt b.toList) (e : (ia == a.size) = true) : Rs lt a b (out ++ a.extract ia a.size ++ b.extract ib b.size) := by
 refine ⟨h.perm.done, ?_⟩
 have e' : a.toList.drop ia = [] := List.drop_eq_nil_of_le (by rw [Array.length_toList, eq_of_beq e]; exact Nat.le_refl _)
 rw [Array.toList_append, Array.toList_append, ext_all, ext_all, e', List.append_nil]
 exact List.pairwise_append.mpr ⟨h.sort, SB.drop ib, fun x hx y hy => h.lowB x hx y hy⟩
theorem OutL.lastL (h : OutL lt a b out ia ib) (SA : So lt a.toList) (SB : So lt b.toList) (LA : ∀ x ∈ b.toList, ∀ q, a[a.size - 1]? = some q → Le lt x q) (e : (ia + 1 == a.size) = true) : Rs lt a b (out ++ b.extract ib b.size ++ a.extract ia a.size) := by
 refine ⟨h.perm.last, ?_⟩
 have e1 := eq_of_beq e
 rw [Array.toList_append, Array.toList_append, ext_all, ext_all]
 refine List.pairwise_append.mpr ⟨List.pairwise_append.mpr ⟨h.sort, SB.drop ib, fun x hx y hy => h.lowB x hx y hy⟩, SA.drop ia, fun x hx y hy => ?_⟩
 rcases List.mem_append.mp hx with hx | hx
 ·exact h.lowA x hx y hy
 ·refine LA x (List.mem_of_mem_drop hx) y ?_
  obtain ⟨i, hi⟩ := mem_dropI hy
  have hl := (List.getElem?_eq_some_iff.mp hi).1
  rw [Array.length_toList] at hl
  rw [show a.size - 1 = ia + i by lia, ← Array.getElem?_toList]
  exact hi
theorem outL0 (SB : So lt b.toList) (hp : b[0]? = some p) (hb0 : ∀ p, b[0]? = some p → ∀ y ∈ a.toList, Le lt p y) : OutL lt a b #[p] 0 1 := by
 refine ⟨out0 hp, List.pairwise_singleton _ _, fun x hx y hy => ?_, fun x hx y hy => ?_⟩
 ·obtain rfl : x = p := by simpa using hx
  exact hb0 x hp y hy
 ·obtain rfl : x = p := by simpa using hx
  exact SB.head hp y hy
end
end Srd
namespace Srd
open PySem PyProof.Rows Srt
section
variable {prog : Program} {w : World} {A : Around} {E : Value → Shared → Prop} {s : Shared} {κ : SortKind} {Ok : Keyed → Prop} {st : SortSt} {lt : Keyed → Keyed → Bool}
abbrev LoT := Option (Array Keyed) × Array Keyed × Nat × Nat × Nat × Nat × Nat
def lo3 (a b out : Array Keyed) (ia ib g ac bc : Nat) : StateT SortSt Sem (ForInStep LoT) :=
 elem' a ia >>= fun p => if (ia + 1 + 1 == a.size) = true then pure (.done (some (out.push p ++ b.extract ib b.size ++ a.extract (ia + 1) a.size), out.push p, ia + 1, ib, g, ac, bc))
  else if (decide (ac < 7) && decide (bc < 7)) = true then pure (.done (none, out.push p, ia + 1, ib, g, ac, bc)) else pure (.yield (none, out.push p, ia + 1, ib, g, ac, bc))
def LoP (lt : Keyed → Keyed → Bool) (a b : Array Keyed) (st : SortSt) (x : Nat) : ForInStep LoT → SortSt → Prop := fun r st' => match r with
 | .done c => Like st st' ∧ ((∃ r out ia ib g ac bc, c = (some r, out, ia, ib, g, ac, bc) ∧ Rs lt a b r) ∨ ∃ out ia ib g ac bc, c = (none, out, ia, ib, g, ac, bc) ∧ OutL lt a b out ia ib ∧ ia + 1 < a.size ∧ ib < b.size ∧ x + 2 ≤ ia + ib)
 | .yield c => Like st st' ∧ ∃ out ia ib g ac bc, c = (none, out, ia, ib, g, ac, bc) ∧ OutL lt a b out ia ib ∧ ia + 1 < a.size ∧ ib < b.size ∧ x + 2 ≤ ia + ib
structure LoQ (lt : Keyed → Keyed → Bool) (a b : Array Keyed) (st : SortSt) (N : Nat) (Q : ForInStep LoT → SortSt → Prop) : Prop where
 R : ∀ r out ia ib g ac bc, Rs lt a b r → Q (.done (some r, out, ia, ib, g, ac, bc)) st
 N : ∀ out ia ib g ac bc, OutL lt a b out ia ib → ia + 1 < a.size → ib < b.size → N ≤ ia + ib → Q (.done (none, out, ia, ib, g, ac, bc)) st ∧ Q (.yield (none, out, ia, ib, g, ac, bc)) st
section
variable {a b out : Array Keyed} {ia ib g ac bc N : Nat} {Q : ForInStep LoT → SortSt → Prop}
theorem lo3_ok (SA : So lt a.toList) (SB : So lt b.toList) (LA : ∀ x ∈ b.toList, ∀ q, a[a.size - 1]? = some q → Le lt x q) (q : LoQ lt a b st N Q) (ho : OutL lt a b out ia ib) (h1 : ia + 1 < a.size) (h2 : ib < b.size) (hN : N ≤ ia + ib) (hp : ∀ p, a[ia]? = some p → ∀ y ∈ b.toList.drop ib, Le lt p y) :
  wpS (model prog w) A E s (lo3 a b out ia ib g ac bc) Q st := by
 unfold lo3
 refine wpS_bind (wpS_elem (by lia) fun p4 h4 e4 => ?_)
 have o4 := ho.pushA SA e4 (hp p4 e4)
 by_cases f1 : (ia + 1 + 1 == a.size) = true
 ·rw [if_pos f1]
  exact wpS_pure (q.R _ _ _ _ _ _ _ (o4.lastL SA SB LA f1))
 rw [if_neg f1]
 have n4 : ia + 1 + 1 < a.size := by
  have : ¬ ia + 1 + 1 = a.size := fun e => f1 (by simp [← e])
  lia
 have z := q.N _ _ _ g ac bc o4 n4 h2 (by lia)
 by_cases f2 : (decide (ac < 7) && decide (bc < 7)) = true
 ·rw [if_pos f2]
  exact wpS_pure z.1
 ·rw [if_neg f2]
  exact wpS_pure z.2
theorem lo2_ok (o : Swo lt) (hc : CmpL prog w A s κ Ok lt) (hk : kindOf st = κ) (ha : ∀ p ∈ a.toList, Ok p) (hb : ∀ p ∈ b.toList, Ok p) (SA : So lt a.toList) (SB : So lt b.toList) (LA : ∀ x ∈ b.toList, ∀ q, a[a.size - 1]? = some q → Le lt x q) (q : LoQ lt a b st N Q) (ho : OutL lt a b out ia ib) (h1 : ia + 1 < a.size) (h2 : ib < b.size) (hN : N ≤ ia + ib) (hp : ∀ p, b[ib]? = some p → ∀ y ∈ a.toList.drop ia, Le lt p y)
  {T : Keyed → Option Nat → StateT SortSt Sem (ForInStep LoT)} (hT : ∀ p k, T p (some k) = if k > 0 then (if (ib + 1 + k == b.size) = true then pure (.done (some (out.push p ++ b.extract (ib + 1) (ib + 1 + k) ++ a.extract ia a.size ++ b.extract (ib + 1 + k) b.size), out.push p ++ b.extract (ib + 1) (ib + 1 + k), ia, ib + 1 + k, g, ac, k))
     else lo3 a b (out.push p ++ b.extract (ib + 1) (ib + 1 + k)) ia (ib + 1 + k) g ac k)
    else lo3 a b (out.push p) ia (ib + 1) g ac k) :
  wpS (model prog w) A E s (elem' b ib >>= fun p => if (ib + 1 == b.size) = true then pure (.done (some (out.push p ++ a.extract ia a.size ++ b.extract (ib + 1) b.size), out.push p, ia, ib + 1, g, ac, bc))
   else elem' a ia >>= fun q => gallop' true q b (ib + 1) (b.size - (ib + 1)) 0 >>= T p) Q st := by
 refine wpS_bind (wpS_elem (by lia) fun p3 h3 e3 => ?_)
 have o2 := ho.pushB SB e3 (hp p3 e3)
 by_cases c3 : (ib + 1 == b.size) = true
 ·rw [if_pos c3]
  exact wpS_pure (q.R _ _ _ _ _ _ _ (o2.doneB SA c3))
 rw [if_neg c3]
 have n3 : ib + 1 < b.size := by
  have : ¬ ib + 1 = b.size := fun e => c3 (by simp [← e])
  lia
 refine wpS_bind (wpS_elem (by lia) fun q3 g3 u3 => ?_)
 refine wpS_bind (wpS_gallopL o hc hk (ha q3 g3) hb (by lia) (by lia) (up_of SB _ _) fun k2 hk2 G1 G2 => ?_)
 rw [hT]
 by_cases k20 : k2 > 0
 ·rw [if_pos k20]
  have o3 := o2.extB SB (k := k2) (by lia) (fun x hx => headLe o SA u3 (galB1 G1 o x hx))
  by_cases c4 : (ib + 1 + k2 == b.size) = true
  ·rw [if_pos c4]
   exact wpS_pure (q.R _ _ _ _ _ _ _ (o3.doneB SA c4))
  rw [if_neg c4]
  have n5 : ib + 1 + k2 < b.size := by
   have : ¬ ib + 1 + k2 = b.size := fun e => c4 (by simp [← e])
   lia
  exact lo3_ok SA SB LA q o3 h1 n5 (by lia) fun p e => by rw [some_inj e u3]; exact galB G2
 ·rw [if_neg k20]
  exact lo3_ok SA SB LA q o2 h1 n3 (by lia) fun p e => by rw [some_inj e u3]; exact galB (k := 0) (fun i _ hi => G2 i (by lia) hi)
end
set_option maxHeartbeats 2000000 in
theorem wpS_mergeLoL {a b : Array Keyed} {Q : Array Keyed → SortSt → Prop} (o : Swo lt) (hc : CmpL prog w A s κ Ok lt) (hk : kindOf st = κ) (ha : ∀ p ∈ a.toList, Ok p) (hb : ∀ p ∈ b.toList, Ok p) (ha1 : 1 ≤ a.size) (hb1 : 1 ≤ b.size) (SA : So lt a.toList) (SB : So lt b.toList) (hb0 : ∀ p, b[0]? = some p → ∀ y ∈ a.toList, Le lt p y) (LA : ∀ x ∈ b.toList, ∀ q, a[a.size - 1]? = some q → Le lt x q)
  (h : ∀ r st', Like st st' → Rs lt a b r → Q r st') : wpS (model prog w) A E s (mergeLo' a b) Q st := by
 refine wpS_bind (wpS_lift (wpAny_rule ⟨rfl, ?_⟩))
 refine wpS_bind (wpS_elem (by lia) fun p hp he => ?_)
 try dsimp -zeta only
 have o0 : OutL lt a b #[p] 0 1 := outL0 SB he hb0
 by_cases c1 : (1 == b.size) = true
 ·rw [if_pos c1]
  exact wpS_pure (h _ _ (Like.refl _) (o0.doneB SA c1))
 rw [if_neg c1]
 by_cases c2 : (0 + 1 == a.size) = true
 ·rw [if_pos c2]
  exact wpS_pure (h _ _ (Like.refl _) (o0.lastL SA SB LA c2))
 rw [if_neg c2]
 have n1 : 1 < b.size := by
  have : ¬ 1 = b.size := fun e => c1 (by simp [← e])
  lia
 have n2 : 1 < a.size := by
  have : ¬ 1 = a.size := fun e => c2 (by simp [← e])
  lia
 refine wpS_bind (wpS_get ?_)
 refine wpS_bind (wpS_mono (wpS_forRange (I := fun x c st' => Like st st' ∧ ∃ out ia ib g, c = (none, out, ia, ib, g) ∧ OutL lt a b out ia ib ∧ ia + 1 < a.size ∧ ib < b.size ∧ x + 1 ≤ ia + ib)
  (Q := fun c st' => Like st st' ∧ ∃ r out ia ib g, c = (some r, out, ia, ib, g) ∧ Rs lt a b r) ?_ ?_ ⟨Like.refl _, _, 0, 1, _, rfl, o0, by lia, by lia, by lia⟩) ?_)
 ·rintro x c st1 _ hx ⟨lk, out, ia, ib, g, rfl, ho, hia, hib, hxx⟩
  try dsimp -zeta only
  refine wpS_bind (wpS_mono (wpS_forRange (I := fun y c st' => Like st st' ∧ ∃ out ia ib ac bc, c = (none, out, ia, ib, ac, bc) ∧ OutL lt a b out ia ib ∧ ia + 1 < a.size ∧ ib < b.size ∧ x + 1 + (if y = 0 then 0 else 1) ≤ ia + ib)
   (Q := fun c st' => Like st st' ∧ ((∃ r out ia ib ac bc, c = (some r, out, ia, ib, ac, bc) ∧ Rs lt a b r) ∨ ∃ out ia ib ac bc, c = (none, out, ia, ib, ac, bc) ∧ OutL lt a b out ia ib ∧ ia + 1 < a.size ∧ ib < b.size ∧ x + 2 ≤ ia + ib)) ?_ ?_ ⟨lk, out, ia, ib, 0, 0, rfl, ho, hia, hib, by simp; lia⟩) ?_)
  ·rintro y c st2 _ hy ⟨lk2, out, ia, ib, ac, bc, rfl, ho, hia, hib, hxx⟩
   dsimp only
   have hxx2 : x + 1 ≤ ia + ib := by split at hxx <;> lia
   refine wpS_bind (wpS_elem (by lia) fun p hp ep => ?_)
   refine wpS_bind (wpS_elem (by lia) fun q hq eq => ?_)
   refine wpS_bind (wpS_ltL hc (lk2.kind.trans hk) (hb p hp) (ha q hq) ?_)
   cases hbw : lt p q with
   | true =>
    try dsimp -zeta only
    rw [if_pos rfl]
    refine wpS_bind (wpS_elem (by lia) fun p2 hp2 ep2 => ?_)
    have o1 := ho.pushB SB ep2 (by rw [some_inj ep2 ep]; exact headLe o SA eq (o.le_of hbw))
    by_cases d1 : (ib + 1 == b.size) = true
    ·rw [if_pos d1]
     exact wpS_pure ⟨lk2, .inl ⟨_, _, _, _, _, _, rfl, (o1.doneB SA d1)⟩⟩
    rw [if_neg d1]
    have m1 : ib + 1 < b.size := by
     have : ¬ ib + 1 = b.size := fun e => d1 (by simp [← e])
     lia
    by_cases d2 : bc + 1 ≥ g
    ·rw [if_pos d2]
     exact wpS_pure ⟨lk2, .inr ⟨_, _, _, _, _, rfl, o1, hia, m1, by lia⟩⟩
    ·rw [if_neg d2]
     exact wpS_pure ⟨lk2, _, _, _, _, _, rfl, o1, hia, m1, by rw [if_neg (by lia)]; lia⟩
   | false =>
    try dsimp -zeta only
    rw [if_neg Bool.false_ne_true]
    refine wpS_bind (wpS_elem (by lia) fun p2 hp2 ep2 => ?_)
    have o1 := ho.pushA SA ep2 (by rw [some_inj ep2 eq]; exact headLe o SB ep hbw)
    by_cases d1 : (ia + 1 + 1 == a.size) = true
    ·rw [if_pos d1]
     exact wpS_pure ⟨lk2, .inl ⟨_, _, _, _, _, _, rfl, (o1.lastL SA SB LA d1)⟩⟩
    rw [if_neg d1]
    have m1 : ia + 1 + 1 < a.size := by
     have : ¬ ia + 1 + 1 = a.size := fun e => d1 (by simp [← e])
     lia
    by_cases d2 : ac + 1 ≥ g
    ·rw [if_pos d2]
     exact wpS_pure ⟨lk2, .inr ⟨_, _, _, _, _, rfl, o1, m1, hib, by lia⟩⟩
    ·rw [if_neg d2]
     exact wpS_pure ⟨lk2, _, _, _, _, _, rfl, o1, m1, hib, by rw [if_neg (by lia)]; lia⟩
  ·rintro c st2 ⟨lk2, out, ia, ib, ac, bc, rfl, ho, hia, hib, hxx⟩
   refine ⟨lk2, .inr ⟨_, _, _, _, _, rfl, ho, hia, hib, ?_⟩⟩
   rw [if_neg (by lia)] at hxx
   lia
  ·rintro c st2 ⟨lk2, ⟨r, out, ia, ib, ac, bc, rfl, hr⟩ | ⟨out, ia, ib, ac, bc, rfl, ho, hia, hib, hxx⟩⟩
   ·exact wpS_pure ⟨lk2, _, _, _, _, _, rfl, hr⟩
   try dsimp -zeta only
   refine wpS_bind (wpS_lift (wpAny_rule ⟨rfl, ?_⟩))
   try dsimp -zeta only
   refine wpS_bind (wpS_mono (wpS_forRange (I := fun y c st' => Like st st' ∧ ∃ out ia ib g ac bc, c = (none, out, ia, ib, g, ac, bc) ∧ OutL lt a b out ia ib ∧ ia + 1 < a.size ∧ ib < b.size ∧ x + 2 ≤ ia + ib)
    (Q := fun c st' => Like st st' ∧ ((∃ r out ia ib g ac bc, c = (some r, out, ia, ib, g, ac, bc) ∧ Rs lt a b r) ∨ ∃ out ia ib g ac bc, c = (none, out, ia, ib, g, ac, bc) ∧ OutL lt a b out ia ib ∧ ia + 1 < a.size ∧ ib < b.size ∧ x + 2 ≤ ia + ib)) ?_ ?_ ⟨lk2, out, ia, ib, _, _, _, rfl, ho, hia, hib, hxx⟩) ?_)
   ·rintro y c st3 _ hy ⟨lk3, out, ia, ib, g3, ac, bc, rfl, ho, hia, hib, hxx⟩
    dsimp only
    refine wpS_mono (Q := LoP lt a b st x) ?_ (fun r st' h => by cases r <;> exact h)
    have loq : ∀ {st4}, Like st st4 → LoQ lt a b st4 (ia + ib) (LoP lt a b st x) := fun lk4 => ⟨fun r out ia ib g ac bc hr => ⟨lk4, .inl ⟨r, out, ia, ib, g, ac, bc, rfl, hr⟩⟩, fun out ia ib g ac bc ho h1 h2 hN => ⟨⟨lk4, .inr ⟨out, ia, ib, g, ac, bc, rfl, ho, h1, h2, by lia⟩⟩, ⟨lk4, out, ia, ib, g, ac, bc, rfl, ho, h1, h2, by lia⟩⟩⟩
    by_cases g1 : g3 > 1
    ·rw [if_pos g1]
     refine wpS_bind (wpS_modify ?_)
     have lk4 := lk3.trans (like_gallop st3 (g3 - 1))
     refine wpS_bind (wpS_elem (by lia) fun p0 h0 e0 => ?_)
     refine wpS_bind (wpS_gallopL o hc (lk4.kind.trans hk) (hb p0 h0) ha (by lia) (by lia) (up_of SA _ _) fun k hk1 F1 F2 => ?_)
     try dsimp -zeta only
     by_cases k0 : k > 0
     ·rw [if_pos k0]
      have o1 := ho.extA SA (k := k) (by lia) (fun x hx => headLe o SB e0 (galA1 F1 x hx))
      by_cases c1 : (ia + k + 1 == a.size) = true
      ·rw [if_pos c1]
       exact wpS_pure ⟨lk4, .inl ⟨_, _, _, _, _, _, _, rfl, (o1.lastL SA SB LA c1)⟩⟩
      rw [if_neg c1]
      by_cases c2 : (ia + k == a.size) = true
      ·rw [if_pos c2]
       exact wpS_pure ⟨lk4, .inl ⟨_, _, _, _, _, _, _, rfl, (o1.doneA SB c2)⟩⟩
      rw [if_neg c2]
      have n1 : ia + k + 1 < a.size := by
       have h1 : ¬ ia + k + 1 = a.size := fun e => c1 (by simp [← e])
       have h2 : ¬ ia + k = a.size := fun e => c2 (by simp [← e])
       lia
      refine lo2_ok o hc (lk4.kind.trans hk) ha hb SA SB LA (N := ia + ib) (loq lk4) o1 n1 hib (by lia) (fun p e => by rw [some_inj e e0]; exact galA F2 o) ?_
      exact fun _ _ => rfl
     ·rw [if_neg k0]
      refine lo2_ok o hc (lk4.kind.trans hk) ha hb SA SB LA (N := ia + ib) (loq lk4) ho hia hib (Nat.le_refl _) (fun p e => by rw [some_inj e e0]; exact galA (k := 0) (fun i _ hi => F2 i (by lia) hi) o) ?_
      exact fun _ _ => rfl
    ·rw [if_neg g1]
     refine wpS_bind (wpS_modify ?_)
     have lk4 := lk3.trans (like_gallop st3 g3)
     refine wpS_bind (wpS_elem (by lia) fun p0 h0 e0 => ?_)
     refine wpS_bind (wpS_gallopL o hc (lk4.kind.trans hk) (hb p0 h0) ha (by lia) (by lia) (up_of SA _ _) fun k hk1 F1 F2 => ?_)
     try dsimp -zeta only
     by_cases k0 : k > 0
     ·rw [if_pos k0]
      have o1 := ho.extA SA (k := k) (by lia) (fun x hx => headLe o SB e0 (galA1 F1 x hx))
      by_cases c1 : (ia + k + 1 == a.size) = true
      ·rw [if_pos c1]
       exact wpS_pure ⟨lk4, .inl ⟨_, _, _, _, _, _, _, rfl, (o1.lastL SA SB LA c1)⟩⟩
      rw [if_neg c1]
      by_cases c2 : (ia + k == a.size) = true
      ·rw [if_pos c2]
       exact wpS_pure ⟨lk4, .inl ⟨_, _, _, _, _, _, _, rfl, (o1.doneA SB c2)⟩⟩
      rw [if_neg c2]
      have n1 : ia + k + 1 < a.size := by
       have h1 : ¬ ia + k + 1 = a.size := fun e => c1 (by simp [← e])
       have h2 : ¬ ia + k = a.size := fun e => c2 (by simp [← e])
       lia
      refine lo2_ok o hc (lk4.kind.trans hk) ha hb SA SB LA (N := ia + ib) (loq lk4) o1 n1 hib (by lia) (fun p e => by rw [some_inj e e0]; exact galA F2 o) ?_
      exact fun _ _ => rfl
     ·rw [if_neg k0]
      refine lo2_ok o hc (lk4.kind.trans hk) ha hb SA SB LA (N := ia + ib) (loq lk4) ho hia hib (Nat.le_refl _) (fun p e => by rw [some_inj e e0]; exact galA (k := 0) (fun i _ hi => F2 i (by lia) hi) o) ?_
      exact fun _ _ => rfl
   ·rintro c st3 ⟨lk3, out, ia, ib, g3, ac, bc, rfl, ho, hia, hib, hxx⟩
    exact ⟨lk3, .inr ⟨_, _, _, _, _, _, rfl, ho, hia, hib, hxx⟩⟩
   ·rintro c st3 ⟨lk3, ⟨r, out, ia, ib, g3, ac, bc, rfl, hr⟩ | ⟨out, ia, ib, g3, ac, bc, rfl, ho, hia, hib, hxx⟩⟩
    ·exact wpS_pure ⟨lk3, _, _, _, _, _, rfl, hr⟩
    ·try dsimp -zeta only
     refine wpS_bind (wpS_modify ?_)
     exact wpS_pure ⟨lk3.trans (like_gallop _ _), _, _, _, _, rfl, ho, hia, hib, by lia⟩
 ·rintro c st1 ⟨lk, out, ia, ib, g, rfl, ho, hia, hib, hx⟩
  exfalso
  lia
 ·rintro c st1 ⟨lk, r, out, ia, ib, g, rfl, hr⟩
  exact wpS_pure (h r st1 lk hr)
end
end Srd
namespace Srd
open PySem PyProof.Rows Srt
section
variable {lt : Keyed → Keyed → Bool} {a b out : Array Keyed} {na nb k : Nat} {p q : Keyed}
structure OutHL (lt : Keyed → Keyed → Bool) (a b out : Array Keyed) (na nb : Nat) : Prop where
 perm : OutH a b out na nb
 sort : So lt out.toList.reverse
 hiA : ∀ x ∈ out.toList, ∀ y ∈ a.toList.take na, Le lt y x
 hiB : ∀ x ∈ out.toList, ∀ y ∈ b.toList.take nb, Le lt y x
theorem take_last (h1 : 1 ≤ na) (hp : a[na - 1]? = some p) : a.toList.take na = a.toList.take (na - 1) ++ [p] := by
 have := take_one (getD' hp)
 rw [Nat.sub_add_cancel h1] at this
 exact this
theorem So.take {l : List Keyed} (h : So lt l) (n : Nat) : So lt (l.take n) := List.Pairwise.sublist (List.take_sublist n l) h
theorem So.last (h : So lt a.toList) (h1 : 1 ≤ na) (hp : a[na - 1]? = some p) : ∀ y ∈ a.toList.take (na - 1), Le lt y p := fun y hy => by
 have := h.take na
 rw [take_last h1 hp] at this
 exact (List.pairwise_append.mp this).2.2 y hy p (List.mem_singleton.mpr rfl)
theorem lastLe (o : Swo lt) (h : So lt a.toList) (h1 : 1 ≤ na) (hp : a[na - 1]? = some p) {x : Keyed} (hx : Le lt p x) : ∀ y ∈ a.toList.take na, Le lt y x := fun y hy => by
 rw [take_last h1 hp] at hy
 rcases List.mem_append.mp hy with hy | hy
 ·exact o.le_trans (h.last h1 hp y hy) hx
 ·rw [List.mem_singleton.mp hy]
  exact hx
theorem take_in {l : List Keyed} {i j : Nat} (h : i ≤ j) {y : Keyed} (hy : y ∈ l.take i) : y ∈ l.take j := by
 rw [show i = min i j by lia, ← List.take_take] at hy
 exact List.mem_of_mem_take hy
theorem mem_takeI {l : List Keyed} {n : Nat} {y : Keyed} (h : y ∈ l.take n) : ∃ i, i < n ∧ l[i]? = some y := by
 obtain ⟨i, hi⟩ := List.mem_iff_getElem?.mp h
 have hik : i < n := by
  have := (List.getElem?_eq_some_iff.mp hi).1
  rw [List.length_take] at this
  lia
 rw [List.getElem?_take_of_lt hik] at hi
 exact ⟨i, hik, hi⟩
theorem mem_exI {i j : Nat} {x : Keyed} (h : x ∈ (a.extract i j).toList) : ∃ m, i ≤ m ∧ m < j ∧ a[m]? = some x := by
 rw [Array.toList_extract, List.extract_eq_drop_take] at h
 obtain ⟨m, hm, e⟩ := mem_takeI h
 rw [List.getElem?_drop] at e
 exact ⟨i + m, by lia, by lia, by rw [← Array.getElem?_toList]; exact e⟩
theorem galHA (F : ∀ i, k ≤ i → i < na → BV lt false p a 0 i = false) (o : Swo lt) : ∀ x ∈ (a.extract k na).toList, Le lt p x := fun x hx => by
 obtain ⟨m, h1, h2, e⟩ := mem_exI hx
 have h3 := F m h1 h2
 unfold BV at h3
 rw [Nat.zero_add, e] at h3
 have h4 : (!lt p x) = false := h3
 exact o.le_of (by simpa using h4)
theorem galHA1 (F : ∀ i, i < k → BV lt false p a 0 i = true) : ∀ y ∈ a.toList.take k, Le lt y p := fun y hy => by
 obtain ⟨i, hi, e⟩ := mem_takeI hy
 have h3 := F i hi
 unfold BV at h3
 rw [Nat.zero_add, ← Array.getElem?_toList, e] at h3
 have h4 : (!lt p y) = true := h3
 show lt p y = false
 simpa using h4
theorem galHB (F : ∀ i, k ≤ i → i < nb → BV lt true q b 0 i = false) : ∀ x ∈ (b.extract k nb).toList, Le lt q x := fun x hx => by
 obtain ⟨m, h1, h2, e⟩ := mem_exI hx
 have h3 := F m h1 h2
 unfold BV at h3
 rw [Nat.zero_add, e] at h3
 exact h3
theorem galHB1 (F : ∀ i, i < k → BV lt true q b 0 i = true) (o : Swo lt) : ∀ y ∈ b.toList.take k, Le lt y q := fun y hy => by
 obtain ⟨i, hi, e⟩ := mem_takeI hy
 have h3 := F i hi
 unfold BV at h3
 rw [Nat.zero_add, ← Array.getElem?_toList, e] at h3
 exact o.le_of h3
theorem so_pushH (h : So lt out.toList.reverse) (hp : ∀ x ∈ out.toList, Le lt p x) : So lt (out.push p).toList.reverse := by
 rw [Array.toList_push, List.reverse_append]
 exact List.pairwise_cons.mpr ⟨fun x hx => hp x (List.mem_reverse.mp hx), h⟩
theorem OutHL.pushA (h : OutHL lt a b out na nb) (SA : So lt a.toList) (h1 : 1 ≤ na) (hp : a[na - 1]? = some p) (hb : ∀ y ∈ b.toList.take nb, Le lt y p) : OutHL lt a b (out.push p) (na - 1) nb := by
 have hm : p ∈ a.toList.take na := by rw [take_last h1 hp]; exact List.mem_append_right _ (List.mem_singleton.mpr rfl)
 refine ⟨h.perm.pushA h1 hp, so_pushH h.sort fun x hx => h.hiA x hx p hm, fun x hx y hy => ?_, fun x hx y hy => ?_⟩
 ·rcases mem_push hx with hx | rfl
  ·exact h.hiA x hx y (take_in (by lia) hy)
  ·exact SA.last h1 hp y hy
 ·rcases mem_push hx with hx | rfl
  ·exact h.hiB x hx y hy
  ·exact hb y hy
theorem OutHL.pushB (h : OutHL lt a b out na nb) (SB : So lt b.toList) (h1 : 1 ≤ nb) (hp : b[nb - 1]? = some p) (ha : ∀ y ∈ a.toList.take na, Le lt y p) : OutHL lt a b (out.push p) na (nb - 1) := by
 have hm : p ∈ b.toList.take nb := by rw [take_last h1 hp]; exact List.mem_append_right _ (List.mem_singleton.mpr rfl)
 refine ⟨h.perm.pushB h1 hp, so_pushH h.sort fun x hx => h.hiB x hx p hm, fun x hx y hy => ?_, fun x hx y hy => ?_⟩
 ·rcases mem_push hx with hx | rfl
  ·exact h.hiA x hx y hy
  ·exact ha y hy
 ·rcases mem_push hx with hx | rfl
  ·exact h.hiB x hx y (take_in (by lia) hy)
  ·exact SB.last h1 hp y hy
theorem so_ext (h : So lt a.toList) (i j : Nat) : So lt (a.extract i j).toList := by
 rw [Array.toList_extract, List.extract_eq_drop_take]
 exact (h.drop i).take _
theorem ex_take {i j : Nat} {x : Keyed} (h : x ∈ (a.extract i j).toList) : x ∈ a.toList.take j := by
 obtain ⟨m, h1, h2, e⟩ := mem_exI h
 rw [← Array.getElem?_toList] at e
 refine List.mem_iff_getElem?.mpr ⟨m, ?_⟩
 rw [List.getElem?_take_of_lt h2]
 exact e
theorem take_ex_le (h : So lt a.toList) {i j : Nat} {x y : Keyed} (hy : y ∈ a.toList.take i) (hx : x ∈ (a.extract i j).toList) : Le lt y x := by
 obtain ⟨m, h1, h2, e⟩ := mem_exI hx
 obtain ⟨l, hl, e2⟩ := mem_takeI hy
 rw [Array.getElem?_toList] at e2
 exact up_of h 0 (m + 1) l m _ _ (Nat.zero_le _) (by lia) (by lia) e2 e
theorem OutHL.extA (h : OutHL lt a b out na nb) (SA : So lt a.toList) (hk : k ≤ na) (hb : ∀ x ∈ (a.extract k na).toList, ∀ y ∈ b.toList.take nb, Le lt y x) : OutHL lt a b (out ++ (a.extract k na).reverse) k nb := by
 have hm : ∀ x, x ∈ (out ++ (a.extract k na).reverse).toList → x ∈ out.toList ∨ x ∈ (a.extract k na).toList := fun x hx => by
  rw [Array.toList_append, Array.toList_reverse] at hx
  rcases List.mem_append.mp hx with hx | hx
  ·exact .inl hx
  ·exact .inr (List.mem_reverse.mp hx)
 refine ⟨h.perm.extA hk, ?_, fun x hx y hy => ?_, fun x hx y hy => ?_⟩
 ·rw [Array.toList_append, Array.toList_reverse, List.reverse_append, List.reverse_reverse]
  exact List.pairwise_append.mpr ⟨so_ext SA _ _, h.sort, fun x hx y hy => h.hiA y (List.mem_reverse.mp hy) x (ex_take hx)⟩
 ·rcases hm x hx with hx | hx
  ·exact h.hiA x hx y (take_in (by lia) hy)
  ·exact take_ex_le SA hy hx
 ·rcases hm x hx with hx | hx
  ·exact h.hiB x hx y hy
  ·exact hb x hx y hy
theorem OutHL.extB (h : OutHL lt a b out na nb) (SB : So lt b.toList) (hk : k ≤ nb) (ha : ∀ x ∈ (b.extract k nb).toList, ∀ y ∈ a.toList.take na, Le lt y x) : OutHL lt a b (out ++ (b.extract k nb).reverse) na k := by
 have hm : ∀ x, x ∈ (out ++ (b.extract k nb).reverse).toList → x ∈ out.toList ∨ x ∈ (b.extract k nb).toList := fun x hx => by
  rw [Array.toList_append, Array.toList_reverse] at hx
  rcases List.mem_append.mp hx with hx | hx
  ·exact .inl hx
  ·exact .inr (List.mem_reverse.mp hx)
 refine ⟨h.perm.extB hk, ?_, fun x hx y hy => ?_, fun x hx y hy => ?_⟩
 ·rw [Array.toList_append, Array.toList_reverse, List.reverse_append, List.reverse_reverse]
  exact List.pairwise_append.mpr ⟨so_ext SB _ _, h.sort, fun x hx y hy => h.hiB y (List.mem_reverse.mp hy) x (ex_take hx)⟩
 ·rcases hm x hx with hx | hx
  ·exact h.hiA x hx y hy
  ·exact ha x hx y hy
 ·rcases hm x hx with hx | hx
  ·exact h.hiB x hx y (take_in (by lia) hy)
  ·exact take_ex_le SB hy hx
theorem OutHL.doneA (h : OutHL lt a b out na nb) (SB : So lt b.toList) (e : (na == 0) = true) : Rs lt a b (a.extract 0 na ++ b.extract 0 nb ++ out.reverse) := by
 refine ⟨h.perm.done, ?_⟩
 rw [Array.toList_append, Array.toList_append, ex0, ex0, Array.toList_reverse, eq_of_beq e, List.take_zero, List.nil_append]
 exact List.pairwise_append.mpr ⟨SB.take nb, h.sort, fun x hx y hy => h.hiB y (List.mem_reverse.mp hy) x hx⟩
theorem OutHL.doneB (h : OutHL lt a b out na nb) (SA : So lt a.toList) (e : (nb == 0) = true) : Rs lt a b (a.extract 0 na ++ b.extract 0 nb ++ out.reverse) := by
 refine ⟨h.perm.done, ?_⟩
 rw [Array.toList_append, Array.toList_append, ex0, ex0, Array.toList_reverse, eq_of_beq e, List.take_zero, List.append_nil]
 exact List.pairwise_append.mpr ⟨SA.take na, h.sort, fun x hx y hy => h.hiA y (List.mem_reverse.mp hy) x hx⟩
theorem OutHL.firstL (h : OutHL lt a b out na nb) (SA : So lt a.toList) (SB : So lt b.toList) (hb0 : ∀ p, b[0]? = some p → ∀ y ∈ a.toList, Le lt p y) (e : (nb == 1) = true) : Rs lt a b (b.extract 0 nb ++ a.extract 0 na ++ out.reverse) := by
 refine ⟨h.perm.first, ?_⟩
 rw [Array.toList_append, Array.toList_append, ex0, ex0, Array.toList_reverse]
 refine List.pairwise_append.mpr ⟨List.pairwise_append.mpr ⟨SB.take nb, SA.take na, fun x hx y hy => ?_⟩, h.sort, fun x hx y hy => ?_⟩
 ·obtain ⟨i, hi, e2⟩ := mem_takeI hx
  rw [eq_of_beq e] at hi
  obtain rfl : i = 0 := by lia
  rw [Array.getElem?_toList] at e2
  exact hb0 x e2 y (List.mem_of_mem_take hy)
 ·rcases List.mem_append.mp hx with hx | hx
  ·exact h.hiB y (List.mem_reverse.mp hy) x hx
  ·exact h.hiA y (List.mem_reverse.mp hy) x hx
theorem outHL0 (SA : So lt a.toList) (h1 : 1 ≤ a.size) (hp : a[a.size - 1]? = some p) (LA : ∀ x ∈ b.toList, ∀ q, a[a.size - 1]? = some q → Le lt x q) : OutHL lt a b #[p] (a.size - 1) b.size := by
 refine ⟨outH0 h1 hp, List.pairwise_singleton _ _, fun x hx y hy => ?_, fun x hx y hy => ?_⟩
 ·obtain rfl : x = p := by simpa using hx
  exact SA.last h1 hp y hy
 ·obtain rfl : x = p := by simpa using hx
  exact LA y (List.mem_of_mem_take hy) x hp
end
section
variable {prog : Program} {w : World} {A : Around} {E : Value → Shared → Prop} {s : Shared} {κ : SortKind} {Ok : Keyed → Prop} {st : SortSt} {lt : Keyed → Keyed → Bool}
abbrev HiT := Option (Array Keyed) × Nat × Nat × Array Keyed × Nat × Nat × Nat
def hi3 (a b : Array Keyed) (na nb : Nat) (out : Array Keyed) (g ac bc : Nat) : StateT SortSt Sem (ForInStep HiT) :=
 elem' a (na - 1) >>= fun p => if (na - 1 == 0) = true then pure (.done (some (a.extract 0 (na - 1) ++ b.extract 0 nb ++ (out.push p).reverse), na - 1, nb, out.push p, g, ac, bc))
  else if (decide (ac < 7) && decide (bc < 7)) = true then pure (.done (none, na - 1, nb, out.push p, g, ac, bc)) else pure (.yield (none, na - 1, nb, out.push p, g, ac, bc))
structure HiQ (lt : Keyed → Keyed → Bool) (a b : Array Keyed) (st : SortSt) (N : Nat) (Q : ForInStep HiT → SortSt → Prop) : Prop where
 R : ∀ r na nb out g ac bc, Rs lt a b r → Q (.done (some r, na, nb, out, g, ac, bc)) st
 N : ∀ na nb out g ac bc, OutHL lt a b out na nb → 1 ≤ na → na ≤ a.size → 2 ≤ nb → nb ≤ b.size → na + nb ≤ N → Q (.done (none, na, nb, out, g, ac, bc)) st ∧ Q (.yield (none, na, nb, out, g, ac, bc)) st
def HiP (lt : Keyed → Keyed → Bool) (a b : Array Keyed) (st : SortSt) (x : Nat) : ForInStep HiT → SortSt → Prop := fun r st' => match r with
 | .done c => Like st st' ∧ ((∃ r na nb out g ac bc, c = (some r, na, nb, out, g, ac, bc) ∧ Rs lt a b r) ∨ ∃ na nb out g ac bc, c = (none, na, nb, out, g, ac, bc) ∧ OutHL lt a b out na nb ∧ 1 ≤ na ∧ na ≤ a.size ∧ 2 ≤ nb ∧ nb ≤ b.size ∧ na + nb + x + 2 ≤ a.size + b.size)
 | .yield c => Like st st' ∧ ∃ na nb out g ac bc, c = (none, na, nb, out, g, ac, bc) ∧ OutHL lt a b out na nb ∧ 1 ≤ na ∧ na ≤ a.size ∧ 2 ≤ nb ∧ nb ≤ b.size ∧ na + nb + x + 2 ≤ a.size + b.size
section
variable {a b out : Array Keyed} {na nb g ac bc N : Nat} {Q : ForInStep HiT → SortSt → Prop}
theorem hi3_ok (SA : So lt a.toList) (SB : So lt b.toList) (q : HiQ lt a b st N Q) (ho : OutHL lt a b out na nb) (h1 : 1 ≤ na) (h2 : na ≤ a.size) (h3 : 2 ≤ nb) (h4 : nb ≤ b.size) (hN : na + nb ≤ N) (hp : ∀ p, a[na - 1]? = some p → ∀ y ∈ b.toList.take nb, Le lt y p) :
  wpS (model prog w) A E s (hi3 a b na nb out g ac bc) Q st := by
 unfold hi3
 refine wpS_bind (wpS_elem (by lia) fun p4 w4 e4 => ?_)
 have o4 := ho.pushA SA h1 e4 (hp p4 e4)
 by_cases f1 : (na - 1 == 0) = true
 ·rw [if_pos f1]
  exact wpS_pure (q.R _ _ _ _ _ _ _ (o4.doneA SB f1))
 rw [if_neg f1]
 have n4 : ¬ na - 1 = 0 := fun e => f1 (by simp [e])
 have z := q.N _ _ _ g ac bc o4 (by lia) (by lia) h3 h4 (by lia)
 by_cases f2 : (decide (ac < 7) && decide (bc < 7)) = true
 ·rw [if_pos f2]
  exact wpS_pure z.1
 ·rw [if_neg f2]
  exact wpS_pure z.2
theorem hi2_ok (o : Swo lt) (hc : CmpL prog w A s κ Ok lt) (hk : kindOf st = κ) (ha : ∀ p ∈ a.toList, Ok p) (hb : ∀ p ∈ b.toList, Ok p) (hb0 : ∀ p, b[0]? = some p → ∀ y ∈ a.toList, Le lt p y) (SA : So lt a.toList) (SB : So lt b.toList) (q : HiQ lt a b st N Q) (ho : OutHL lt a b out na nb) (h1 : 1 ≤ na) (h2 : na ≤ a.size) (h3 : 2 ≤ nb) (h4 : nb ≤ b.size) (hN : na + nb ≤ N) (hp : ∀ p, b[nb - 1]? = some p → ∀ y ∈ a.toList.take na, Le lt y p)
  {T : Keyed → Option Nat → StateT SortSt Sem (ForInStep HiT)} (hT : ∀ p k, T p (some k) = if nb - 1 - k > 0 then (if (k == 1) = true then pure (.done (some (b.extract 0 k ++ a.extract 0 na ++ (out.push p ++ (b.extract k (nb - 1)).reverse).reverse), na, k, out.push p ++ (b.extract k (nb - 1)).reverse, g, ac, nb - 1 - k))
     else if (k == 0) = true then pure (.done (some (a.extract 0 na ++ b.extract 0 k ++ (out.push p ++ (b.extract k (nb - 1)).reverse).reverse), na, k, out.push p ++ (b.extract k (nb - 1)).reverse, g, ac, nb - 1 - k))
     else hi3 a b na k (out.push p ++ (b.extract k (nb - 1)).reverse) g ac (nb - 1 - k))
    else hi3 a b na (nb - 1) (out.push p) g ac (nb - 1 - k)) :
  wpS (model prog w) A E s (elem' b (nb - 1) >>= fun p => if (nb - 1 == 1) = true then pure (.done (some (b.extract 0 (nb - 1) ++ a.extract 0 na ++ (out.push p).reverse), na, nb - 1, out.push p, g, ac, bc))
   else elem' a (na - 1) >>= fun q => gallop' true q b 0 (nb - 1) (nb - 1 - 1) >>= T p) Q st := by
 refine wpS_bind (wpS_elem (by lia) fun p3 w3 e3 => ?_)
 have o2 := ho.pushB SB (by lia) e3 (hp p3 e3)
 by_cases c3 : (nb - 1 == 1) = true
 ·rw [if_pos c3]
  exact wpS_pure (q.R _ _ _ _ _ _ _ (o2.firstL SA SB hb0 c3))
 rw [if_neg c3]
 have n3 : ¬ nb - 1 = 1 := fun e => c3 (by simp [e])
 refine wpS_bind (wpS_elem (by lia) fun q3 v3 u3 => ?_)
 refine wpS_bind (wpS_gallopL o hc hk (ha q3 v3) hb (by lia) (by lia) (up_of SB _ _) fun k2 hk2 G1 G2 => ?_)
 rw [hT]
 by_cases k20 : nb - 1 - k2 > 0
 ·rw [if_pos k20]
  have o3 := o2.extB SB (k := k2) (by lia) (fun x hx => lastLe o SA (by lia) u3 (galHB G2 x hx))
  by_cases c4 : (k2 == 1) = true
  ·rw [if_pos c4]
   exact wpS_pure (q.R _ _ _ _ _ _ _ (o3.firstL SA SB hb0 c4))
  rw [if_neg c4]
  by_cases c5 : (k2 == 0) = true
  ·rw [if_pos c5]
   exact wpS_pure (q.R _ _ _ _ _ _ _ (o3.doneB SA c5))
  rw [if_neg c5]
  have n5 : ¬ k2 = 1 := fun e => c4 (by simp [e])
  have n6 : ¬ k2 = 0 := fun e => c5 (by simp [e])
  exact hi3_ok SA SB q o3 h1 h2 (by lia) (by lia) (by lia) fun p e => by rw [some_inj e u3]; exact galHB1 G1 o
 ·rw [if_neg k20]
  exact hi3_ok SA SB q o2 h1 h2 (by lia) (by lia) (by lia) fun p e => by rw [some_inj e u3]; exact galHB1 (fun i hi => G1 i (by lia)) o
end
set_option maxHeartbeats 2000000 in
theorem wpS_mergeHiL {a b : Array Keyed} {Q : Array Keyed → SortSt → Prop} (o : Swo lt) (hc : CmpL prog w A s κ Ok lt) (hk : kindOf st = κ) (ha : ∀ p ∈ a.toList, Ok p) (hb : ∀ p ∈ b.toList, Ok p) (ha1 : 1 ≤ a.size) (hb1 : 1 ≤ b.size) (SA : So lt a.toList) (SB : So lt b.toList) (hb0 : ∀ p, b[0]? = some p → ∀ y ∈ a.toList, Le lt p y) (LA : ∀ x ∈ b.toList, ∀ q, a[a.size - 1]? = some q → Le lt x q)
  (h : ∀ r st', Like st st' → Rs lt a b r → Q r st') : wpS (model prog w) A E s (mergeHi' a b) Q st := by
 refine wpS_bind (wpS_lift (wpAny_rule ⟨rfl, ?_⟩))
 refine wpS_bind (wpS_elem (by lia) fun p hp he => ?_)
 try dsimp -zeta only
 have o0 : OutHL lt a b #[p] (a.size - 1) b.size := outHL0 SA ha1 he LA
 by_cases c1 : (a.size - 1 == 0) = true
 ·rw [if_pos c1]
  exact wpS_pure (h _ _ (Like.refl _) (o0.doneA SB c1))
 rw [if_neg c1]
 by_cases c2 : (b.size == 1) = true
 ·rw [if_pos c2]
  exact wpS_pure (h _ _ (Like.refl _) (o0.firstL SA SB hb0 c2))
 rw [if_neg c2]
 have n1 : 1 < b.size := by
  have : ¬ b.size = 1 := fun e => c2 (by simp [e])
  lia
 have n2 : 1 < a.size := by
  have : ¬ a.size - 1 = 0 := fun e => c1 (by simp [e])
  lia
 refine wpS_bind (wpS_get ?_)
 refine wpS_bind (wpS_mono (wpS_forRange (I := fun x c st' => Like st st' ∧ ∃ na nb out g, c = (none, na, nb, out, g) ∧ OutHL lt a b out na nb ∧ 1 ≤ na ∧ na ≤ a.size ∧ 2 ≤ nb ∧ nb ≤ b.size ∧ na + nb + x + 1 ≤ a.size + b.size)
  (Q := fun c st' => Like st st' ∧ ∃ r na nb out g, c = (some r, na, nb, out, g) ∧ Rs lt a b r) ?_ ?_ ⟨Like.refl _, _, _, _, _, rfl, o0, by lia, by lia, by lia, by lia, by lia⟩) ?_)
 ·rintro x c st1 _ hx ⟨lk, na, nb, out, g, rfl, ho, h1, h2, h3, h4, hxx⟩
  try dsimp -zeta only
  refine wpS_bind (wpS_mono (wpS_forRange (I := fun y c st' => Like st st' ∧ ∃ na nb out ac bc, c = (none, na, nb, out, ac, bc) ∧ OutHL lt a b out na nb ∧ 1 ≤ na ∧ na ≤ a.size ∧ 2 ≤ nb ∧ nb ≤ b.size ∧ na + nb + x + 1 + (if y = 0 then 0 else 1) ≤ a.size + b.size)
   (Q := fun c st' => Like st st' ∧ ((∃ r na nb out ac bc, c = (some r, na, nb, out, ac, bc) ∧ Rs lt a b r) ∨ ∃ na nb out ac bc, c = (none, na, nb, out, ac, bc) ∧ OutHL lt a b out na nb ∧ 1 ≤ na ∧ na ≤ a.size ∧ 2 ≤ nb ∧ nb ≤ b.size ∧ na + nb + x + 2 ≤ a.size + b.size)) ?_ ?_ ⟨lk, na, nb, out, 0, 0, rfl, ho, h1, h2, h3, h4, by simp; lia⟩) ?_)
  ·rintro y c st2 _ hy ⟨lk2, na, nb, out, ac, bc, rfl, ho, h1, h2, h3, h4, hxx⟩
   have hxx2 : na + nb + x + 1 ≤ a.size + b.size := by split at hxx <;> lia
   try dsimp only
   refine wpS_bind (wpS_elem (by lia) fun p hp ep => ?_)
   refine wpS_bind (wpS_elem (by lia) fun q hq eq => ?_)
   refine wpS_bind (wpS_ltL hc (lk2.kind.trans hk) (hb p hp) (ha q hq) ?_)
   cases hbw : lt p q with
   | true =>
    try dsimp only
    rw [if_pos rfl]
    refine wpS_bind (wpS_elem (by lia) fun p2 hp2 ep2 => ?_)
    have o1 := ho.pushA SA h1 ep2 (by rw [some_inj ep2 eq]; exact lastLe o SB (by lia) ep (o.le_of hbw))
    by_cases d1 : (na - 1 == 0) = true
    ·rw [if_pos d1]
     exact wpS_pure ⟨lk2, .inl ⟨_, _, _, _, _, _, rfl, (o1.doneA SB d1)⟩⟩
    rw [if_neg d1]
    have m1 : ¬ na - 1 = 0 := fun e => d1 (by simp [e])
    by_cases d2 : ac + 1 ≥ g
    ·rw [if_pos d2]
     exact wpS_pure ⟨lk2, .inr ⟨_, _, _, _, _, rfl, o1, by lia, by lia, h3, h4, by lia⟩⟩
    ·rw [if_neg d2]
     exact wpS_pure ⟨lk2, _, _, _, _, _, rfl, o1, by lia, by lia, h3, h4, by rw [if_neg (by lia)]; lia⟩
   | false =>
    try dsimp only
    rw [if_neg Bool.false_ne_true]
    refine wpS_bind (wpS_elem (by lia) fun p2 hp2 ep2 => ?_)
    have o1 := ho.pushB SB (by lia) ep2 (by rw [some_inj ep2 ep]; exact lastLe o SA h1 eq hbw)
    by_cases d1 : (nb - 1 == 1) = true
    ·rw [if_pos d1]
     exact wpS_pure ⟨lk2, .inl ⟨_, _, _, _, _, _, rfl, (o1.firstL SA SB hb0 d1)⟩⟩
    rw [if_neg d1]
    have m1 : ¬ nb - 1 = 1 := fun e => d1 (by simp [e])
    by_cases d2 : bc + 1 ≥ g
    ·rw [if_pos d2]
     exact wpS_pure ⟨lk2, .inr ⟨_, _, _, _, _, rfl, o1, h1, h2, by lia, by lia, by lia⟩⟩
    ·rw [if_neg d2]
     exact wpS_pure ⟨lk2, _, _, _, _, _, rfl, o1, h1, h2, by lia, by lia, by rw [if_neg (by lia)]; lia⟩
  ·rintro c st2 ⟨lk2, na, nb, out, ac, bc, rfl, ho, h1, h2, h3, h4, hxx⟩
   refine ⟨lk2, .inr ⟨_, _, _, _, _, rfl, ho, h1, h2, h3, h4, ?_⟩⟩
   rw [if_neg (by lia)] at hxx
   lia
  ·rintro c st2 ⟨lk2, ⟨r, na, nb, out, ac, bc, rfl, hr⟩ | ⟨na, nb, out, ac, bc, rfl, ho, h1, h2, h3, h4, hxx⟩⟩
   ·exact wpS_pure ⟨lk2, _, _, _, _, _, rfl, hr⟩
   try dsimp -zeta only
   refine wpS_bind (wpS_lift (wpAny_rule ⟨rfl, ?_⟩))
   try dsimp -zeta only
   refine wpS_bind (wpS_mono (wpS_forRange (I := fun y c st' => Like st st' ∧ ∃ na nb out g ac bc, c = (none, na, nb, out, g, ac, bc) ∧ OutHL lt a b out na nb ∧ 1 ≤ na ∧ na ≤ a.size ∧ 2 ≤ nb ∧ nb ≤ b.size ∧ na + nb + x + 2 ≤ a.size + b.size)
    (Q := fun c st' => Like st st' ∧ ((∃ r na nb out g ac bc, c = (some r, na, nb, out, g, ac, bc) ∧ Rs lt a b r) ∨ ∃ na nb out g ac bc, c = (none, na, nb, out, g, ac, bc) ∧ OutHL lt a b out na nb ∧ 1 ≤ na ∧ na ≤ a.size ∧ 2 ≤ nb ∧ nb ≤ b.size ∧ na + nb + x + 2 ≤ a.size + b.size)) ?_ ?_ ⟨lk2, na, nb, out, _, _, _, rfl, ho, h1, h2, h3, h4, hxx⟩) ?_)
   ·rintro y c st3 _ hy ⟨lk3, na, nb, out, g3, ac, bc, rfl, ho, h1, h2, h3, h4, hxx⟩
    try dsimp only
    refine wpS_mono (Q := HiP lt a b st x) ?_ (fun r st' h => by cases r <;> exact h)
    have hiq : ∀ {st4}, Like st st4 → HiQ lt a b st4 (na + nb) (HiP lt a b st x) := fun lk4 => ⟨fun r na nb out g ac bc hr => ⟨lk4, .inl ⟨r, na, nb, out, g, ac, bc, rfl, hr⟩⟩, fun na nb out g ac bc ho h1 h2 h3 h4 hN => ⟨⟨lk4, .inr ⟨na, nb, out, g, ac, bc, rfl, ho, h1, h2, h3, h4, by lia⟩⟩, ⟨lk4, na, nb, out, g, ac, bc, rfl, ho, h1, h2, h3, h4, by lia⟩⟩⟩
    by_cases g1 : g3 > 1
    ·rw [if_pos g1]
     refine wpS_bind (wpS_modify ?_)
     have lk4 := lk3.trans (like_gallop st3 (g3 - 1))
     refine wpS_bind (wpS_elem (by lia) fun p0 w0 e0 => ?_)
     refine wpS_bind (wpS_gallopL o hc (lk4.kind.trans hk) (hb p0 w0) ha (by lia) (by lia) (up_of SA _ _) fun k hk1 F1 F2 => ?_)
     dsimp only
     by_cases k0 : na - k > 0
     ·rw [if_pos k0]
      have o1 := ho.extA SA (k := k) (by lia) (fun x hx => lastLe o SB (by lia) e0 (galHA F2 o x hx))
      by_cases c1 : (k == 0) = true
      ·rw [if_pos c1]
       exact wpS_pure ⟨lk4, .inl ⟨_, _, _, _, _, _, _, rfl, (o1.doneA SB c1)⟩⟩
      rw [if_neg c1]
      have n1 : ¬ k = 0 := fun e => c1 (by simp [e])
      refine hi2_ok o hc (lk4.kind.trans hk) ha hb hb0 SA SB (N := na + nb) (hiq lk4) o1 (by lia) (by lia) h3 h4 (by lia) (fun p e => by rw [some_inj e e0]; exact galHA1 F1) ?_
      exact fun _ _ => rfl
     ·rw [if_neg k0]
      refine hi2_ok o hc (lk4.kind.trans hk) ha hb hb0 SA SB (N := na + nb) (hiq lk4) ho h1 h2 h3 h4 (Nat.le_refl _) (fun p e => by rw [some_inj e e0]; exact galHA1 fun i hi => F1 i (by lia)) ?_
      exact fun _ _ => rfl
    ·rw [if_neg g1]
     refine wpS_bind (wpS_modify ?_)
     have lk4 := lk3.trans (like_gallop st3 g3)
     refine wpS_bind (wpS_elem (by lia) fun p0 w0 e0 => ?_)
     refine wpS_bind (wpS_gallopL o hc (lk4.kind.trans hk) (hb p0 w0) ha (by lia) (by lia) (up_of SA _ _) fun k hk1 F1 F2 => ?_)
     dsimp only
     by_cases k0 : na - k > 0
     ·rw [if_pos k0]
      have o1 := ho.extA SA (k := k) (by lia) (fun x hx => lastLe o SB (by lia) e0 (galHA F2 o x hx))
      by_cases c1 : (k == 0) = true
      ·rw [if_pos c1]
       exact wpS_pure ⟨lk4, .inl ⟨_, _, _, _, _, _, _, rfl, (o1.doneA SB c1)⟩⟩
      rw [if_neg c1]
      have n1 : ¬ k = 0 := fun e => c1 (by simp [e])
      refine hi2_ok o hc (lk4.kind.trans hk) ha hb hb0 SA SB (N := na + nb) (hiq lk4) o1 (by lia) (by lia) h3 h4 (by lia) (fun p e => by rw [some_inj e e0]; exact galHA1 F1) ?_
      exact fun _ _ => rfl
     ·rw [if_neg k0]
      refine hi2_ok o hc (lk4.kind.trans hk) ha hb hb0 SA SB (N := na + nb) (hiq lk4) ho h1 h2 h3 h4 (Nat.le_refl _) (fun p e => by rw [some_inj e e0]; exact galHA1 fun i hi => F1 i (by lia)) ?_
      exact fun _ _ => rfl
   ·rintro c st3 ⟨lk3, na, nb, out, g3, ac, bc, rfl, ho, h1, h2, h3, h4, hxx⟩
    exact ⟨lk3, .inr ⟨_, _, _, _, _, _, rfl, ho, h1, h2, h3, h4, hxx⟩⟩
   ·rintro c st3 ⟨lk3, ⟨r, na, nb, out, g3, ac, bc, rfl, hr⟩ | ⟨na, nb, out, g3, ac, bc, rfl, ho, h1, h2, h3, h4, hxx⟩⟩
    ·exact wpS_pure ⟨lk3, _, _, _, _, _, rfl, hr⟩
    ·try dsimp only
     refine wpS_bind (wpS_modify ?_)
     exact wpS_pure ⟨lk3.trans (like_gallop _ _), _, _, _, _, rfl, ho, h1, h2, h3, h4, by lia⟩
 ·rintro c st1 ⟨lk, na, nb, out, g, rfl, ho, h1, h2, h3, h4, hx⟩
  exfalso
  lia
 ·rintro c st1 ⟨lk, r, na, nb, out, g, rfl, hr⟩
  exact wpS_pure (h r st1 lk hr)
end
end Srd
namespace Srd
open PySem PyProof.Rows Srt
structure Pl (lo hi : Nat) (st st' : SortSt) : Prop where
 pm : Pm st st'
 out : ∀ i, i < lo ∨ hi ≤ i → (arrOf st')[i]? = (arrOf st)[i]?
theorem Pl.refl (lo hi : Nat) (st : SortSt) : Pl lo hi st st := ⟨Pm.refl _, fun _ _ => rfl⟩
theorem Pl.trans {lo hi : Nat} {a b c : SortSt} (x : Pl lo hi a b) (y : Pl lo hi b c) : Pl lo hi a c := ⟨x.pm.trans y.pm, fun i h => (y.out i h).trans (x.out i h)⟩
theorem Pl.mirror {lo hi i j : Nat} (st : SortSt) (h1 : lo ≤ i) (h2 : j ≤ hi) (hj : j ≤ (arrOf st).size) : Pl lo hi st (setArr st (mirror (arrOf st) i j ((j - i) / 2))) := ⟨Pm.mirror st i j, fun k hk => by
 show (PyProof.Rows.mirror (arrOf st) i j ((j - i) / 2))[k]? = _
 rw [getElem?_mirror_all hj, if_neg (by lia)]⟩
theorem Pl.bubble {lo hi src dst : Nat} (st : SortSt) (h1 : lo ≤ dst) (h2 : dst ≤ src) (h3 : src < hi) (hs : src < (arrOf st).size) : Pl lo hi st (setArr st (bubble (arrOf st) src (src - dst))) := ⟨Pm.bubble st src dst, fun k hk => by
 show (PyProof.Rows.bubble (arrOf st) src (src - dst))[k]? = _
 rw [getElem?_bubble hs _ (by lia), if_neg (by lia), if_neg (by lia)]⟩
section
variable {lt : Keyed → Keyed → Bool} {arr : Array Keyed} {lo hi m : Nat} {p q : Keyed}
def Dn (lt : Keyed → Keyed → Bool) (arr : Array Keyed) (i j : Nat) : Prop := ∀ x y p q, i ≤ x → x < y → y < j → arr[x]? = some p → arr[y]? = some q → Le lt q p
def Eqv (lt : Keyed → Keyed → Bool) (arr : Array Keyed) (i j : Nat) : Prop := ∀ x y p q, i ≤ x → x < j → i ≤ y → y < j → arr[x]? = some p → arr[y]? = some q → Le lt p q
theorem up_one : Up lt arr lo (lo + 1) := fun x y _ _ h1 h2 h3 => by lia
theorem dn_one : Dn lt arr lo (lo + 1) := fun x y _ _ h1 h2 h3 => by lia
theorem Up.ext (o : Swo lt) (h : Up lt arr lo m) (hm : lo < m) (hp : arr[m - 1]? = some p) (hq : arr[m]? = some q) (hle : Le lt p q) : Up lt arr lo (m + 1) := fun x y u v h1 h2 h3 eu ev => by
 by_cases hy : y < m
 ·exact h x y u v h1 h2 hy eu ev
 obtain rfl : y = m := by lia
 rw [hq] at ev
 cases ev
 by_cases hx : x = y - 1
 ·rw [hx, hp] at eu
  cases eu
  exact hle
 ·exact o.le_trans (h x (y - 1) u p h1 (by lia) (by lia) eu hp) hle
theorem Dn.ext (o : Swo lt) (h : Dn lt arr lo m) (hm : lo < m) (hp : arr[m - 1]? = some p) (hq : arr[m]? = some q) (hle : Le lt q p) : Dn lt arr lo (m + 1) := fun x y u v h1 h2 h3 eu ev => by
 by_cases hy : y < m
 ·exact h x y u v h1 h2 hy eu ev
 obtain rfl : y = m := by lia
 rw [hq] at ev
 cases ev
 by_cases hx : x = y - 1
 ·rw [hx, hp] at eu
  cases eu
  exact hle
 ·exact o.le_trans hle (h x (y - 1) u p h1 (by lia) (by lia) eu hp)
theorem Dn.mirror (h : Dn lt arr lo hi) (hs : hi ≤ arr.size) : Up lt (mirror arr lo hi ((hi - lo) / 2)) lo hi := fun x y u v h1 h2 h3 eu ev => by
 rw [getElem?_mirror_all hs, if_pos (by lia)] at eu ev
 exact h (lo + hi - 1 - y) (lo + hi - 1 - x) v u (by lia) (by lia) (by lia) ev eu
theorem Up.mirror (h : Up lt arr lo hi) (hs : hi ≤ arr.size) : Dn lt (mirror arr lo hi ((hi - lo) / 2)) lo hi := fun x y u v h1 h2 h3 eu ev => by
 rw [getElem?_mirror_all hs, if_pos (by lia)] at eu ev
 exact h (lo + hi - 1 - y) (lo + hi - 1 - x) v u (by lia) (by lia) (by lia) ev eu
theorem Dn.turn (h : Dn lt arr lo hi) (he : Eqv lt arr m hi) (hm : lo ≤ m) (hs : hi ≤ arr.size) : Dn lt (PyProof.Rows.mirror arr m hi ((hi - m) / 2)) lo hi := fun x y u v h1 h2 h3 eu ev => by
 rw [getElem?_mirror_all hs] at eu ev
 by_cases hy : m ≤ y ∧ y < hi
 ·rw [if_pos hy] at ev
  by_cases hx : m ≤ x ∧ x < hi
  ·rw [if_pos hx] at eu
   exact he _ _ _ _ (by lia) (by lia) (by lia) (by lia) ev eu
  ·rw [if_neg hx] at eu
   exact h x (m + hi - 1 - y) u v h1 (by lia) (by lia) eu ev
 ·rw [if_neg hy] at ev
  rw [if_neg (by lia)] at eu
  exact h x y u v h1 h2 h3 eu ev
end
section
variable {prog : Program} {w : World} {A : Around} {E : Value → Shared → Prop} {s : Shared} {κ : SortKind} {Ok : Keyed → Prop} {st : SortSt} {lt : Keyed → Keyed → Bool}
theorem wpS_ltAtL {i j : Nat} {Q : Option Bool → SortSt → Prop} (hc : CmpL prog w A s κ Ok lt) (hk : kindOf st = κ) (ho : ∀ p ∈ (arrOf st).toList, Ok p) (hi : i < (arrOf st).size) (hj : j < (arrOf st).size) (h : ∀ p q, (arrOf st)[i]? = some p → (arrOf st)[j]? = some q → Q (some (lt p q)) st) : wpS (model prog w) A E s (ltAt' i j) Q st := by
 rw [ltAt'_eq]
 refine wpS_bind (wpS_get ?_)
 refine wpS_bind (wpS_elem hi fun p hp e1 => wpS_bind (wpS_elem hj fun q hq e2 => ?_))
 exact wpS_ltL hc hk (ho p hp) (ho q hq) (h p q e1 e2)
theorem wpS_revX {i j : Nat} {Q : PUnit → SortSt → Prop} (h : Q ⟨⟩ (setArr st (mirror (arrOf st) i j ((j - i) / 2)))) : wpS (model prog w) A E s (reverseSlice' i j) Q st := by
 rw [reverseSlice'_eq]
 exact wpS_modify h
theorem wpS_moveX {i j : Nat} {Q : PUnit → SortSt → Prop} (h : Q ⟨⟩ (setArr st (bubble (arrOf st) i (i - j)))) : wpS (model prog w) A E s (moveDown' i j) Q st := by
 rw [moveDown'_eq]
 exact wpS_modify h
theorem ins_up (o : Swo lt) {arr : Array Keyed} {lo k l : Nat} {pv : Keyed} (h : Up lt arr lo (lo + k)) (hs : lo + k < arr.size) (hl : l ≤ k) (ep : arr[lo + k]? = some pv) (h1 : ∀ i p, i < l → arr[lo + i]? = some p → Le lt p pv) (h2 : ∀ i p, l ≤ i → i < k → arr[lo + i]? = some p → lt pv p = true) :
  Up lt (bubble arr (lo + k) (lo + k - (lo + l))) lo (lo + k + 1) := fun x y u v a1 a2 a3 eu ev => by
 rw [getElem?_bubble hs _ (by lia)] at eu ev
 rw [show lo + k - (lo + k - (lo + l)) = lo + l by lia] at eu ev
 by_cases hy : y = lo + l
 ·rw [if_pos hy, ep] at ev
  cases ev
  rw [if_neg (by lia), if_neg (by lia)] at eu
  exact h1 (x - lo) u (by lia) (by rw [show lo + (x - lo) = x by lia]; exact eu)
 rw [if_neg hy] at ev
 by_cases hx : x = lo + l
 ·rw [if_pos hx, ep] at eu
  cases eu
  rw [if_pos (by lia)] at ev
  exact o.le_of (h2 (y - 1 - lo) v (by lia) (by lia) (by rw [show lo + (y - 1 - lo) = y - 1 by lia]; exact ev))
 rw [if_neg hx] at eu
 by_cases hy2 : lo + l < y ∧ y ≤ lo + k
 ·rw [if_pos hy2] at ev
  by_cases hx2 : lo + l < x ∧ x ≤ lo + k
  ·rw [if_pos hx2] at eu
   exact h (x - 1) (y - 1) u v (by lia) (by lia) (by lia) eu ev
  ·rw [if_neg hx2] at eu
   exact h x (y - 1) u v (by lia) (by lia) (by lia) eu ev
 ·rw [if_neg hy2] at ev
  rw [if_neg (by lia)] at eu
  exact h x y u v (by lia) (by lia) (by lia) eu ev
set_option maxHeartbeats 1000000 in
theorem wpS_binaryL {lo n ok : Nat} {Q : Bool → SortSt → Prop} (o : Swo lt) (hc : CmpL prog w A s κ Ok lt) (hk : kindOf st = κ) (ho : ∀ p ∈ (arrOf st).toList, Ok p) (hn : lo + n ≤ (arrOf st).size) (hok : ok ≤ n) (hn1 : 1 ≤ n) (hu : Up lt (arrOf st) lo (lo + ok)) (h : ∀ st', Pl lo (lo + n) st st' → Up lt (arrOf st') lo (lo + n) → Q true st') : wpS (model prog w) A E s (binarySort' lo n ok) Q st := by
 have hu0 : Up lt (arrOf st) lo (lo + max ok 1) := by
  by_cases h0 : ok = 0
  ·rw [h0]
   exact up_one
  ·rw [show max ok 1 = ok by lia]
   exact hu
 refine wpS_bind (wpS_mono (wpS_forRange (I := fun x c st' => c = (none, ()) ∧ Pl lo (lo + n) st st' ∧ Up lt (arrOf st') lo (lo + x)) (Q := fun c st' => c = (none, ()) ∧ Pl lo (lo + n) st st' ∧ Up lt (arrOf st') lo (lo + n)) ?_ ?_ ⟨rfl, Pl.refl _ _ _, hu0⟩) ?_)
 ·rintro k c st1 hk1 hkn ⟨rfl, pl, u1⟩
  try dsimp only
  have hsz := pl.pm.size
  obtain ⟨pv, epv⟩ : ∃ pv, (arrOf st1)[lo + k]? = some pv := ⟨_, getElem?_pos _ (lo + k) (by lia)⟩
  refine wpS_bind (wpS_mono (wpS_forRange (I := fun y c st' => st' = st1 ∧ ∃ l r, c = (none, l, r) ∧ l ≤ r ∧ r ≤ k ∧ (∀ i p, i < l → (arrOf st1)[lo + i]? = some p → Le lt p pv) ∧ (∀ i p, r ≤ i → i < k → (arrOf st1)[lo + i]? = some p → lt pv p = true) ∧ r - l + y ≤ k)
   (Q := fun c st' => st' = st1 ∧ ∃ l r, c = (none, l, r) ∧ l = r ∧ r ≤ k ∧ (∀ i p, i < l → (arrOf st1)[lo + i]? = some p → Le lt p pv) ∧ (∀ i p, r ≤ i → i < k → (arrOf st1)[lo + i]? = some p → lt pv p = true)) ?_ ?_ ⟨rfl, 0, k, rfl, by lia, by lia, fun i p hi => by lia, fun i p h1 h2 => by lia, by lia⟩) ?_)
  ·rintro y c st2 _ _ ⟨rfl, l, r, rfl, h1, h2, h3, h4, h5⟩
   try dsimp only
   by_cases hlr : l ≥ r
   ·rw [if_pos hlr]
    exact wpS_pure ⟨rfl, l, r, rfl, by lia, h2, h3, h4⟩
   rw [if_neg hlr]
   refine wpS_bind (wpS_ltAtL hc (pl.pm.kind.trans hk) (pl.pm.ok ho) (by lia) (by lia) fun p q e1 e2 => ?_)
   rw [epv] at e1
   cases e1
   cases hb : lt pv q with
   | true =>
    refine wpS_pure ⟨rfl, _, _, rfl, by lia, by lia, h3, fun i p hi1 hi2 ei => ?_, by lia⟩
    by_cases e : i = (l + r) / 2
    ·rw [e, e2] at ei
     cases ei
     exact hb
    ·exact o.lt_le hb (u1 _ _ q p (by lia) (show lo + (l + r) / 2 < lo + i by lia) (by lia) e2 ei)
   | false =>
    refine wpS_pure ⟨rfl, _, _, rfl, by lia, by lia, fun i p hi1 ei => ?_, h4, by lia⟩
    by_cases e : i = (l + r) / 2
    ·rw [e, e2] at ei
     cases ei
     exact hb
    ·exact o.le_trans (u1 _ _ p q (by lia) (show lo + i < lo + (l + r) / 2 by lia) (by lia) ei e2) hb
  ·rintro c st2 ⟨rfl, l, r, rfl, h1, h2, h3, h4, h5⟩
   exact ⟨rfl, l, r, rfl, by lia, h2, h3, h4⟩
  ·rintro c st2 ⟨rfl, l, r, rfl, rfl, h2, h3, h4⟩
   try dsimp only
   refine wpS_bind (wpS_moveX ?_)
   exact wpS_pure ⟨rfl, pl.trans (Pl.bubble st2 (by lia) (by lia) (by lia) (by lia)), ins_up o u1 (by lia) h2 epv h3 h4⟩
 ·rintro c st1 ⟨rfl, pl, u1⟩
  rw [show max (max ok 1) n = n by lia] at u1
  exact ⟨rfl, pl, u1⟩
 ·rintro c st1 ⟨rfl, pl, u1⟩
  exact wpS_pure (h st1 pl u1)
set_option maxHeartbeats 4000000 in
theorem wpS_countL {lo nrem : Nat} {Q : Option Nat → SortSt → Prop} (o : Swo lt) (hc : CmpL prog w A s κ Ok lt) (hk : kindOf st = κ) (ho : ∀ p ∈ (arrOf st).toList, Ok p) (h1 : 1 ≤ nrem) (hn : lo + nrem ≤ (arrOf st).size) (h : ∀ n st', 1 ≤ n → n ≤ nrem → Pl lo (lo + nrem) st st' → Up lt (arrOf st') lo (lo + n) → Q (some n) st') : wpS (model prog w) A E s (countRun' lo nrem) Q st := by
 refine wpS_bind (wpS_mono (wpS_forRange (I := fun x c st' => st' = st ∧ ∃ n, c = (none, n) ∧ n = x ∧ Up lt (arrOf st) lo (lo + n)) (Q := fun c st' => st' = st ∧ ∃ n, c = (none, n) ∧ 1 ≤ n ∧ n ≤ nrem ∧ Up lt (arrOf st) lo (lo + n) ∧ (n = nrem ∨ ∀ p q, (arrOf st)[lo + n]? = some p → (arrOf st)[lo + n - 1]? = some q → lt p q = true)) ?_ ?_ ⟨rfl, 1, rfl, rfl, up_one⟩) ?_)
 ·rintro x c st1 hx1 hx ⟨rfl, n, rfl, rfl, u1⟩
  try dsimp only
  refine wpS_bind (wpS_ltAtL hc hk ho (by lia) (by lia) fun p q e1 e2 => ?_)
  cases hb : lt p q with
  | true => exact wpS_pure ⟨rfl, n, rfl, by lia, by lia, u1, .inr fun p' q' f1 f2 => by rw [e1] at f1; rw [e2] at f2; cases f1; cases f2; exact hb⟩
  | false => exact wpS_pure ⟨rfl, n + 1, rfl, rfl, u1.ext (m := lo + n) o (by lia) e2 e1 hb⟩
 ·rintro c st1 ⟨rfl, n, rfl, rfl, u1⟩
  exact ⟨rfl, _, rfl, by lia, by lia, u1, .inl (by lia)⟩
 ·rintro c st1 ⟨rfl, n, rfl, n1, n2, u1, hstop⟩
  try dsimp only
  by_cases e1 : (n == nrem) = true
  ·rw [if_pos e1]
   exact wpS_pure (h n st1 n1 n2 (Pl.refl _ _ _) u1)
  rw [if_neg e1]
  have n3 : n < nrem := by
   have : ¬ n = nrem := fun e => e1 (by simp [e])
   lia
  have hstop2 := hstop.resolve_left (by lia)
  obtain ⟨pn, epn⟩ : ∃ p, (arrOf st1)[lo + n]? = some p := ⟨_, getElem?_pos _ (lo + n) (by lia)⟩
  obtain ⟨pm, epm⟩ : ∃ p, (arrOf st1)[lo + n - 1]? = some p := ⟨_, getElem?_pos _ (lo + n - 1) (by lia)⟩
  have hless := hstop2 pn pm epn epm
  by_cases e2 : n > 1
  ·rw [if_pos e2]
   refine wpS_bind (wpS_ltAtL hc hk ho (by lia) (by lia) fun p q f1 f2 => ?_)
   cases hb : lt p q with
   | true =>
    try dsimp only
    rw [if_pos rfl]
    exact wpS_pure (h n st1 n1 n2 (Pl.refl _ _ _) u1)
   | false =>
    try dsimp only
    rw [if_neg Bool.false_ne_true]
    refine wpS_bind (wpS_revX ?_)
    have p2 := Pl.mirror (lo := lo) (hi := lo + nrem) (i := lo) (j := lo + n) st1 (by lia) (by lia) (by lia)
    have d2 : Dn lt (arrOf (setArr st1 (mirror (arrOf st1) lo (lo + n) ((lo + n - lo) / 2)))) lo (lo + n) := u1.mirror (by lia)
    have d3 : Dn lt (arrOf (setArr st1 (mirror (arrOf st1) lo (lo + n) ((lo + n - lo) / 2)))) lo (lo + (n + 1)) := by
     refine d2.ext (m := lo + n) o (by lia) (p := p) (q := pn) ?_ ?_ ?_
     ·show (mirror (arrOf st1) lo (lo + n) ((lo + n - lo) / 2))[lo + n - 1]? = some p
      rw [getElem?_mirror_all (by lia), if_pos (by lia), show lo + (lo + n) - 1 - (lo + n - 1) = lo by lia]
      exact f1
     ·show (mirror (arrOf st1) lo (lo + n) ((lo + n - lo) / 2))[lo + n]? = some pn
      rw [getElem?_mirror_all (by lia), if_neg (by lia)]
      exact epn
     ·rw [epm] at f2
      cases f2
      exact o.le_trans (o.le_of hless) hb
    generalize setArr st1 (mirror (arrOf st1) lo (lo + n) ((lo + n - lo) / 2)) = st2 at p2 d3
    refine wpS_bind (wpS_lift (wpAny_rule ⟨rfl, ?_⟩))
    refine wpS_bind (wpS_mono (wpS_forRange (I := fun x c st' => Pl lo (lo + nrem) st1 st' ∧ ∃ n q, c = (none, n, q) ∧ n = x ∧ 1 ≤ n ∧ q + 1 ≤ n ∧ Dn lt (arrOf st') lo (lo + n) ∧ Eqv lt (arrOf st') (lo + n - (q + 1)) (lo + n)) (Q := fun c st' => Pl lo (lo + nrem) st1 st' ∧ ∃ n q, c = (none, n, q) ∧ 1 ≤ n ∧ n ≤ nrem ∧ q + 1 ≤ n ∧ Dn lt (arrOf st') lo (lo + n) ∧ Eqv lt (arrOf st') (lo + n - (q + 1)) (lo + n)) ?_ ?_ ⟨p2, n + 1, 0, rfl, rfl, by lia, by lia, d3, fun x y u v a1 a2 a3 a4 eu ev => by obtain rfl : x = y := (by lia); rw [eu] at ev; cases ev; exact o.le_refl _⟩) ?_)
    ·rintro x c st3 hx1 hx ⟨p3, n, q, rfl, rfl, m1, m2, d3, q3⟩
     have z3 := p3.pm.size
     try dsimp only
     refine wpS_bind (wpS_ltAtL hc (p3.pm.kind.trans hk) (p3.pm.ok ho) (by lia) (by lia) fun p1 p0 e1 e0 => ?_)
     cases hb : lt p1 p0 with
     | true =>
      try dsimp only
      rw [if_pos rfl]
      by_cases q0 : q > 0
      ·rw [if_pos q0]
       refine wpS_bind (wpS_revX ?_)
       have p4 := Pl.mirror (lo := lo) (hi := lo + nrem) (i := lo + n - (q + 1)) (j := lo + n) st3 (by lia) (by lia) (by lia)
       have d4 := d3.turn q3 (by lia) (by lia)
       refine wpS_pure ⟨p3.trans p4, n + 1, 0, rfl, rfl, by lia, by lia, ?_, fun x y u v a1 a2 a3 a4 eu ev => by obtain rfl : x = y := (by lia); rw [eu] at ev; cases ev; exact o.le_refl _⟩
       obtain ⟨p5, e5⟩ : ∃ p5, (arrOf (setArr st3 (mirror (arrOf st3) (lo + n - (q + 1)) (lo + n) ((lo + n - (lo + n - (q + 1))) / 2))))[lo + n - 1]? = some p5 := ⟨_, getElem?_pos _ (lo + n - 1) (by show _ < (mirror _ _ _ _).size; rw [mirror_size]; lia)⟩
       refine d4.ext (m := lo + n) o (by lia) e5 (q := p1) ?_ ?_
       ·show (mirror (arrOf st3) (lo + n - (q + 1)) (lo + n) ((lo + n - (lo + n - (q + 1))) / 2))[lo + n]? = some p1
        rw [getElem?_mirror_all (by lia), if_neg (by lia)]
        exact e1
       ·have e6 : (mirror (arrOf st3) (lo + n - (q + 1)) (lo + n) ((lo + n - (lo + n - (q + 1))) / 2))[lo + n - 1]? = some p5 := e5
        rw [getElem?_mirror_all (by lia), if_pos (by lia)] at e6
        exact o.le_trans (o.le_of hb) (q3 _ _ p0 p5 (show lo + n - (q + 1) ≤ lo + n - 1 by lia) (by lia) (by lia) (by lia) e0 e6)
      ·rw [if_neg q0]
       exact wpS_pure ⟨p3, n + 1, 0, rfl, rfl, by lia, by lia, d3.ext (m := lo + n) o (by lia) e0 e1 (o.le_of hb), fun x y u v a1 a2 a3 a4 eu ev => by obtain rfl : x = y := (by lia); rw [eu] at ev; cases ev; exact o.le_refl _⟩
     | false =>
      try dsimp only
      rw [if_neg Bool.false_ne_true]
      refine wpS_bind (wpS_ltAtL hc (p3.pm.kind.trans hk) (p3.pm.ok ho) (by lia) (by lia) fun p0' p1' e0' e1' => ?_)
      rw [e0] at e0'
      rw [e1] at e1'
      cases e0'
      cases e1'
      cases hb2 : lt p0 p1 with
      | true => exact wpS_pure ⟨p3, n, q, rfl, m1, by lia, m2, d3, q3⟩
      | false =>
       refine wpS_pure ⟨p3, n + 1, q + 1, rfl, rfl, by lia, by lia, d3.ext (m := lo + n) o (by lia) e0 e1 hb2, fun x y u v a1 a2 a3 a4 eu ev => ?_⟩
       have one : ∀ x u, lo + (n + 1) - (q + 1 + 1) ≤ x → x < lo + (n + 1) → (arrOf st3)[x]? = some u → Le lt u p0 ∧ Le lt p0 u := fun x u a1 a2 eu => by
        by_cases hx : x = lo + n
        ·rw [hx, e1] at eu
         cases eu
         exact ⟨hb2, hb⟩
        ·exact ⟨q3 x (lo + n - 1) u p0 (by lia) (by lia) (by lia) (by lia) eu e0, q3 (lo + n - 1) x p0 u (by lia) (by lia) (by lia) (by lia) e0 eu⟩
       exact o.le_trans (one x u a1 a2 eu).1 (one y v a3 a4 ev).2
    ·rintro c st3 ⟨p3, n', q, rfl, rfl, m1, m2, d3, q3⟩
     exact ⟨p3, _, q, rfl, m1, by lia, m2, d3, q3⟩
    ·rintro c st3 ⟨p3, n, q, rfl, m1, mn, m2, d3, q3⟩
     have z3 := p3.pm.size
     try dsimp only
     by_cases q0 : q > 0
     ·rw [if_pos q0]
      refine wpS_bind (wpS_revX ?_)
      have p4 := Pl.mirror (lo := lo) (hi := lo + nrem) (i := lo + n - (q + 1)) (j := lo + n) st3 (by lia) (by lia) (by lia)
      have d4 := d3.turn q3 (by lia) (by lia)
      have z4 := p4.pm.size
      generalize hst4 : setArr st3 (mirror (arrOf st3) (lo + n - (q + 1)) (lo + n) ((lo + n - (lo + n - (q + 1))) / 2)) = st4 at p4 z4
      have d5 : Dn lt (arrOf st4) lo (lo + n) := by rw [← hst4]; exact d4
      refine wpS_bind (wpS_revX ?_)
      have p6 := (p3.trans p4).trans (Pl.mirror (lo := lo) (hi := lo + nrem) (i := lo) (j := lo + n) st4 (by lia) (by lia) (by lia))
      have u6 : Up lt (arrOf (setArr st4 (mirror (arrOf st4) lo (lo + n) ((lo + n - lo) / 2)))) lo (lo + n) := d5.mirror (by lia)
      have z6 := p6.pm.size
      generalize setArr st4 (mirror (arrOf st4) lo (lo + n) ((lo + n - lo) / 2)) = st5 at p6 u6 z6
      refine wpS_bind (wpS_mono (wpS_forRange (I := fun x c st' => st' = st5 ∧ ∃ k, c = (none, k) ∧ k = x ∧ Up lt (arrOf st5) lo (lo + k)) (Q := fun c st' => st' = st5 ∧ ∃ k, c = (none, k) ∧ n ≤ k ∧ k ≤ nrem ∧ Up lt (arrOf st5) lo (lo + k)) ?_ ?_ ⟨rfl, n, rfl, rfl, u6⟩) ?_)
      ·rintro x c st7 hx1 hx2 ⟨rfl, k, rfl, rfl, u7⟩
       try dsimp only
       refine wpS_bind (wpS_ltAtL hc (p6.pm.kind.trans hk) (p6.pm.ok ho) (by lia) (by lia) fun p q e1 e2 => ?_)
       cases hb : lt p q with
       | true => exact wpS_pure ⟨rfl, k, rfl, by lia, by lia, u7⟩
       | false => exact wpS_pure ⟨rfl, k + 1, rfl, rfl, u7.ext (m := lo + k) o (by lia) e2 e1 hb⟩
      ·rintro c st7 ⟨rfl, k, rfl, rfl, u7⟩
       exact ⟨rfl, max n nrem, rfl, by lia, by lia, u7⟩
      ·rintro c st7 ⟨rfl, k, rfl, k1, k2, u7⟩
       exact wpS_pure (h k _ (by lia) k2 p6 u7)
     ·rw [if_neg q0]
      refine wpS_bind (wpS_revX ?_)
      have p6 := p3.trans (Pl.mirror (lo := lo) (hi := lo + nrem) (i := lo) (j := lo + n) st3 (by lia) (by lia) (by lia))
      have u6 : Up lt (arrOf (setArr st3 (mirror (arrOf st3) lo (lo + n) ((lo + n - lo) / 2)))) lo (lo + n) := d3.mirror (by lia)
      have z6 := p6.pm.size
      generalize setArr st3 (mirror (arrOf st3) lo (lo + n) ((lo + n - lo) / 2)) = st5 at p6 u6 z6
      refine wpS_bind (wpS_mono (wpS_forRange (I := fun x c st' => st' = st5 ∧ ∃ k, c = (none, k) ∧ k = x ∧ Up lt (arrOf st5) lo (lo + k)) (Q := fun c st' => st' = st5 ∧ ∃ k, c = (none, k) ∧ n ≤ k ∧ k ≤ nrem ∧ Up lt (arrOf st5) lo (lo + k)) ?_ ?_ ⟨rfl, n, rfl, rfl, u6⟩) ?_)
      ·rintro x c st7 hx1 hx2 ⟨rfl, k, rfl, rfl, u7⟩
       try dsimp only
       refine wpS_bind (wpS_ltAtL hc (p6.pm.kind.trans hk) (p6.pm.ok ho) (by lia) (by lia) fun p q e1 e2 => ?_)
       cases hb : lt p q with
       | true => exact wpS_pure ⟨rfl, k, rfl, by lia, by lia, u7⟩
       | false => exact wpS_pure ⟨rfl, k + 1, rfl, rfl, u7.ext (m := lo + k) o (by lia) e2 e1 hb⟩
      ·rintro c st7 ⟨rfl, k, rfl, rfl, u7⟩
       exact ⟨rfl, max n nrem, rfl, by lia, by lia, u7⟩
      ·rintro c st7 ⟨rfl, k, rfl, k1, k2, u7⟩
       exact wpS_pure (h k _ (by lia) k2 p6 u7)
  ·rw [if_neg e2]
   have p2 := Pl.refl lo (lo + nrem) st1
   have d3 : Dn lt (arrOf st1) lo (lo + (n + 1)) := by
    obtain rfl : n = 1 := by lia
    exact dn_one.ext (m := lo + 1) o (by lia) epm epn (o.le_of hless)
   refine wpS_bind (wpS_lift (wpAny_rule ⟨rfl, ?_⟩))
   refine wpS_bind (wpS_mono (wpS_forRange (I := fun x c st' => Pl lo (lo + nrem) st1 st' ∧ ∃ n q, c = (none, n, q) ∧ n = x ∧ 1 ≤ n ∧ q + 1 ≤ n ∧ Dn lt (arrOf st') lo (lo + n) ∧ Eqv lt (arrOf st') (lo + n - (q + 1)) (lo + n)) (Q := fun c st' => Pl lo (lo + nrem) st1 st' ∧ ∃ n q, c = (none, n, q) ∧ 1 ≤ n ∧ n ≤ nrem ∧ q + 1 ≤ n ∧ Dn lt (arrOf st') lo (lo + n) ∧ Eqv lt (arrOf st') (lo + n - (q + 1)) (lo + n)) ?_ ?_ ⟨p2, n + 1, 0, rfl, rfl, by lia, by lia, d3, fun x y u v a1 a2 a3 a4 eu ev => by obtain rfl : x = y := (by lia); rw [eu] at ev; cases ev; exact o.le_refl _⟩) ?_)
   ·rintro x c st3 hx1 hx ⟨p3, n, q, rfl, rfl, m1, m2, d3, q3⟩
    have z3 := p3.pm.size
    try dsimp only
    refine wpS_bind (wpS_ltAtL hc (p3.pm.kind.trans hk) (p3.pm.ok ho) (by lia) (by lia) fun p1 p0 e1 e0 => ?_)
    cases hb : lt p1 p0 with
    | true =>
     try dsimp only
     rw [if_pos rfl]
     by_cases q0 : q > 0
     ·rw [if_pos q0]
      refine wpS_bind (wpS_revX ?_)
      have p4 := Pl.mirror (lo := lo) (hi := lo + nrem) (i := lo + n - (q + 1)) (j := lo + n) st3 (by lia) (by lia) (by lia)
      have d4 := d3.turn q3 (by lia) (by lia)
      refine wpS_pure ⟨p3.trans p4, n + 1, 0, rfl, rfl, by lia, by lia, ?_, fun x y u v a1 a2 a3 a4 eu ev => by obtain rfl : x = y := (by lia); rw [eu] at ev; cases ev; exact o.le_refl _⟩
      obtain ⟨p5, e5⟩ : ∃ p5, (arrOf (setArr st3 (mirror (arrOf st3) (lo + n - (q + 1)) (lo + n) ((lo + n - (lo + n - (q + 1))) / 2))))[lo + n - 1]? = some p5 := ⟨_, getElem?_pos _ (lo + n - 1) (by show _ < (mirror _ _ _ _).size; rw [mirror_size]; lia)⟩
      refine d4.ext (m := lo + n) o (by lia) e5 (q := p1) ?_ ?_
      ·show (mirror (arrOf st3) (lo + n - (q + 1)) (lo + n) ((lo + n - (lo + n - (q + 1))) / 2))[lo + n]? = some p1
       rw [getElem?_mirror_all (by lia), if_neg (by lia)]
       exact e1
      ·have e6 : (mirror (arrOf st3) (lo + n - (q + 1)) (lo + n) ((lo + n - (lo + n - (q + 1))) / 2))[lo + n - 1]? = some p5 := e5
       rw [getElem?_mirror_all (by lia), if_pos (by lia)] at e6
       exact o.le_trans (o.le_of hb) (q3 _ _ p0 p5 (show lo + n - (q + 1) ≤ lo + n - 1 by lia) (by lia) (by lia) (by lia) e0 e6)
     ·rw [if_neg q0]
      exact wpS_pure ⟨p3, n + 1, 0, rfl, rfl, by lia, by lia, d3.ext (m := lo + n) o (by lia) e0 e1 (o.le_of hb), fun x y u v a1 a2 a3 a4 eu ev => by obtain rfl : x = y := (by lia); rw [eu] at ev; cases ev; exact o.le_refl _⟩
    | false =>
     try dsimp only
     rw [if_neg Bool.false_ne_true]
     refine wpS_bind (wpS_ltAtL hc (p3.pm.kind.trans hk) (p3.pm.ok ho) (by lia) (by lia) fun p0' p1' e0' e1' => ?_)
     rw [e0] at e0'
     rw [e1] at e1'
     cases e0'
     cases e1'
     cases hb2 : lt p0 p1 with
     | true => exact wpS_pure ⟨p3, n, q, rfl, m1, by lia, m2, d3, q3⟩
     | false =>
      refine wpS_pure ⟨p3, n + 1, q + 1, rfl, rfl, by lia, by lia, d3.ext (m := lo + n) o (by lia) e0 e1 hb2, fun x y u v a1 a2 a3 a4 eu ev => ?_⟩
      have one : ∀ x u, lo + (n + 1) - (q + 1 + 1) ≤ x → x < lo + (n + 1) → (arrOf st3)[x]? = some u → Le lt u p0 ∧ Le lt p0 u := fun x u a1 a2 eu => by
       by_cases hx : x = lo + n
       ·rw [hx, e1] at eu
        cases eu
        exact ⟨hb2, hb⟩
       ·exact ⟨q3 x (lo + n - 1) u p0 (by lia) (by lia) (by lia) (by lia) eu e0, q3 (lo + n - 1) x p0 u (by lia) (by lia) (by lia) (by lia) e0 eu⟩
      exact o.le_trans (one x u a1 a2 eu).1 (one y v a3 a4 ev).2
   ·rintro c st3 ⟨p3, n', q, rfl, rfl, m1, m2, d3, q3⟩
    exact ⟨p3, _, q, rfl, m1, by lia, m2, d3, q3⟩
   ·rintro c st3 ⟨p3, n, q, rfl, m1, mn, m2, d3, q3⟩
    have z3 := p3.pm.size
    try dsimp only
    by_cases q0 : q > 0
    ·rw [if_pos q0]
     refine wpS_bind (wpS_revX ?_)
     have p4 := Pl.mirror (lo := lo) (hi := lo + nrem) (i := lo + n - (q + 1)) (j := lo + n) st3 (by lia) (by lia) (by lia)
     have d4 := d3.turn q3 (by lia) (by lia)
     have z4 := p4.pm.size
     generalize hst4 : setArr st3 (mirror (arrOf st3) (lo + n - (q + 1)) (lo + n) ((lo + n - (lo + n - (q + 1))) / 2)) = st4 at p4 z4
     have d5 : Dn lt (arrOf st4) lo (lo + n) := by rw [← hst4]; exact d4
     refine wpS_bind (wpS_revX ?_)
     have p6 := (p3.trans p4).trans (Pl.mirror (lo := lo) (hi := lo + nrem) (i := lo) (j := lo + n) st4 (by lia) (by lia) (by lia))
     have u6 : Up lt (arrOf (setArr st4 (mirror (arrOf st4) lo (lo + n) ((lo + n - lo) / 2)))) lo (lo + n) := d5.mirror (by lia)
     have z6 := p6.pm.size
     generalize setArr st4 (mirror (arrOf st4) lo (lo + n) ((lo + n - lo) / 2)) = st5 at p6 u6 z6
     refine wpS_bind (wpS_mono (wpS_forRange (I := fun x c st' => st' = st5 ∧ ∃ k, c = (none, k) ∧ k = x ∧ Up lt (arrOf st5) lo (lo + k)) (Q := fun c st' => st' = st5 ∧ ∃ k, c = (none, k) ∧ n ≤ k ∧ k ≤ nrem ∧ Up lt (arrOf st5) lo (lo + k)) ?_ ?_ ⟨rfl, n, rfl, rfl, u6⟩) ?_)
     ·rintro x c st7 hx1 hx2 ⟨rfl, k, rfl, rfl, u7⟩
      try dsimp only
      refine wpS_bind (wpS_ltAtL hc (p6.pm.kind.trans hk) (p6.pm.ok ho) (by lia) (by lia) fun p q e1 e2 => ?_)
      cases hb : lt p q with
      | true => exact wpS_pure ⟨rfl, k, rfl, by lia, by lia, u7⟩
      | false => exact wpS_pure ⟨rfl, k + 1, rfl, rfl, u7.ext (m := lo + k) o (by lia) e2 e1 hb⟩
     ·rintro c st7 ⟨rfl, k, rfl, rfl, u7⟩
      exact ⟨rfl, max n nrem, rfl, by lia, by lia, u7⟩
     ·rintro c st7 ⟨rfl, k, rfl, k1, k2, u7⟩
      exact wpS_pure (h k _ (by lia) k2 p6 u7)
    ·rw [if_neg q0]
     refine wpS_bind (wpS_revX ?_)
     have p6 := p3.trans (Pl.mirror (lo := lo) (hi := lo + nrem) (i := lo) (j := lo + n) st3 (by lia) (by lia) (by lia))
     have u6 : Up lt (arrOf (setArr st3 (mirror (arrOf st3) lo (lo + n) ((lo + n - lo) / 2)))) lo (lo + n) := d3.mirror (by lia)
     have z6 := p6.pm.size
     generalize setArr st3 (mirror (arrOf st3) lo (lo + n) ((lo + n - lo) / 2)) = st5 at p6 u6 z6
     refine wpS_bind (wpS_mono (wpS_forRange (I := fun x c st' => st' = st5 ∧ ∃ k, c = (none, k) ∧ k = x ∧ Up lt (arrOf st5) lo (lo + k)) (Q := fun c st' => st' = st5 ∧ ∃ k, c = (none, k) ∧ n ≤ k ∧ k ≤ nrem ∧ Up lt (arrOf st5) lo (lo + k)) ?_ ?_ ⟨rfl, n, rfl, rfl, u6⟩) ?_)
     ·rintro x c st7 hx1 hx2 ⟨rfl, k, rfl, rfl, u7⟩
      try dsimp only
      refine wpS_bind (wpS_ltAtL hc (p6.pm.kind.trans hk) (p6.pm.ok ho) (by lia) (by lia) fun p q e1 e2 => ?_)
      cases hb : lt p q with
      | true => exact wpS_pure ⟨rfl, k, rfl, by lia, by lia, u7⟩
      | false => exact wpS_pure ⟨rfl, k + 1, rfl, rfl, u7.ext (m := lo + k) o (by lia) e2 e1 hb⟩
     ·rintro c st7 ⟨rfl, k, rfl, rfl, u7⟩
      exact ⟨rfl, max n nrem, rfl, by lia, by lia, u7⟩
     ·rintro c st7 ⟨rfl, k, rfl, k1, k2, u7⟩
      exact wpS_pure (h k _ (by lia) k2 p6 u7)
end
end Srd
namespace Srd
open PySem PyProof.Rows Srt
theorem cov_ge : ∀ {l : List (Nat × Nat × Nat)} {lo hi : Nat}, Cov l lo hi → ∀ z ∈ l, lo ≤ z.1
 | [], _, _, _, z, hz => (nomatch hz)
 | x :: r, lo, hi, ⟨a, b, c⟩, z, hz => by
  rcases List.mem_cons.mp hz with rfl | hz
  ·lia
  ·have := cov_ge c z hz
   lia
theorem cov_hi : ∀ {l : List (Nat × Nat × Nat)} {lo hi : Nat}, Cov l lo hi → ∀ z ∈ l, z.1 + z.2.1 ≤ hi
 | [], _, _, _, z, hz => (nomatch hz)
 | x :: r, lo, hi, ⟨a, b, c⟩, z, hz => by
  rcases List.mem_cons.mp hz with rfl | hz
  ·have := c.le
   lia
  ·exact cov_hi c z hz
theorem cov_others : ∀ {l : List (Nat × Nat × Nat)} {i lo hi sa na p sb nb q : Nat}, Cov l lo hi → l[i]? = some (sa, na, p) → l[i + 1]? = some (sb, nb, q) →
  ∀ z ∈ (l.set i (sa, na + nb, p)).eraseIdx (i + 1), z = (sa, na + nb, p) ∨ z ∈ l ∧ (z.1 + z.2.1 ≤ sa ∨ sb + nb ≤ z.1)
 | x :: y :: r, 0, lo, hi, sa, na, p, sb, nb, q, ⟨a, b, c1, c2, c3⟩, h1, h2, z, hz => by
  have e1 : x = (sa, na, p) := by simpa using h1
  have e2 : y = (sb, nb, q) := by simpa using h2
  subst e1
  subst e2
  have hz' : z ∈ (sa, na + nb, p) :: r := hz
  rcases List.mem_cons.mp hz' with hz | hz
  ·exact .inl hz
  ·refine .inr ⟨List.mem_cons_of_mem _ (List.mem_cons_of_mem _ hz), .inr ?_⟩
   have := cov_ge c3 z hz
   have c1' : sb = lo + na := c1
   have this' : lo + na + nb ≤ z.1 := this
   lia
 | x :: r, i + 1, lo, hi, sa, na, p, sb, nb, q, ⟨a, b, c⟩, h1, h2, z, hz => by
  have h1' : r[i]? = some (sa, na, p) := by simpa using h1
  have hz' : z ∈ x :: ((r.set i (sa, na + nb, p)).eraseIdx (i + 1)) := hz
  rcases List.mem_cons.mp hz' with rfl | hz
  ·refine .inr ⟨List.mem_cons_self .., .inl ?_⟩
   have := cov_ge c _ (List.mem_of_getElem? h1')
   have this' : lo + z.2.1 ≤ sa := this
   lia
  ·rcases cov_others (l := r) (i := i) c h1' (by simpa using h2) z hz with h | ⟨h, h'⟩
   ·exact .inl h
   ·exact .inr ⟨List.mem_cons_of_mem _ h, h'⟩
 | [x], 0, _, _, _, _, _, _, _, _, _, _, h2, _, _ => by simp at h2
 | [], _, _, _, _, _, _, _, _, _, _, h1, _, _, _ => by simp at h1
theorem splice_get {L r : List Keyed} {m : Nat} (h : m + r.length ≤ L.length) (x : Nat) : (L.take m ++ r ++ L.drop (m + r.length))[x]? = if x < m then L[x]? else if x < m + r.length then r[x - m]? else L[x]? := by
 have hm : (L.take m).length = m := by rw [List.length_take]; lia
 by_cases h1 : x < m
 ·rw [if_pos h1, List.append_assoc, List.getElem?_append_left (by lia), List.getElem?_take_of_lt h1]
 rw [if_neg h1]
 by_cases h2 : x < m + r.length
 ·rw [if_pos h2, List.getElem?_append_left (by rw [List.length_append]; lia), List.getElem?_append_right (by lia), hm]
 ·rw [if_neg h2, List.getElem?_append_right (by rw [List.length_append]; lia), List.getElem?_drop, List.length_append, hm]
  congr 1
  lia
section
variable {lt : Keyed → Keyed → Bool} {κ : SortKind}
structure SBL (lt : Keyed → Keyed → Bool) (a₀ : Array Keyed) (κ : SortKind) (hi : Nat) (st : SortSt) : Prop where
 sb : SB a₀ κ hi st
 ups : ∀ z ∈ (pendingOf st).toList, Up lt (arrOf st) z.1 (z.1 + z.2.1)
theorem Up.same {arr arr' : Array Keyed} {i j : Nat} (h : Up lt arr i j) (e : ∀ x, i ≤ x → x < j → arr'[x]? = arr[x]?) : Up lt arr' i j := fun x y p q h1 h2 h3 ep eq => by
 rw [e x (by lia) (by lia)] at ep
 rw [e y (by lia) (by lia)] at eq
 exact h x y p q h1 h2 h3 ep eq
theorem SBL.pl {a₀ : Array Keyed} {hi hi' : Nat} {st st' : SortSt} (x : SBL lt a₀ κ hi st) (p : Pl hi hi' st st') : SBL lt a₀ κ hi st' := ⟨x.sb.pm p.pm, fun z hz => by
 rw [p.pm.pend] at hz
 have h1 := cov_hi x.sb.cov z hz
 exact (x.ups z hz).same fun i _ h => p.out i (.inl (by lia))⟩
end
end Srd
namespace Srd
open PySem PyProof.Rows Srt
section
variable {prog : Program} {w : World} {A : Around} {E : Value → Shared → Prop} {s : Shared} {κ : SortKind} {Ok : Keyed → Prop} {st : SortSt} {lt : Keyed → Keyed → Bool}
set_option maxHeartbeats 4000000 in
theorem wpS_mergeAtL {a₀ : Array Keyed} {hi i : Nat} {Q : Bool → SortSt → Prop} (o : Swo lt) (hc : CmpL prog w A s κ Ok lt) (h0 : ∀ p ∈ a₀.toList, Ok p) (hL : SBL lt a₀ κ hi st) (hh : hi ≤ a₀.size) (hi1 : i + 1 < (pendingOf st).size)
  (h : ∀ st', SBL lt a₀ κ hi st' → (∀ x, hi ≤ x → (arrOf st')[x]? = (arrOf st)[x]?) → (pendingOf st').size + 1 = (pendingOf st).size → Q true st') : wpS (model prog w) A E s (mergeAt' i) Q st := by
 have hB := hL.sb
 refine wpS_bind (wpS_get ?_)
 obtain ⟨⟨sa, na, p⟩, e1⟩ : ∃ x, (pendingOf st)[i]? = some x := ⟨_, getElem?_pos _ i (by lia)⟩
 obtain ⟨⟨sb, nb, q⟩, e2⟩ : ∃ x, (pendingOf st)[i + 1]? = some x := ⟨_, getElem?_pos _ (i + 1) hi1⟩
 obtain ⟨k1, k2, k3, k4, k5⟩ := hB.cov.at (i := i) (by rw [← e1]; simp) (by rw [← e2]; simp)
 have e3 : ((pendingOf st)[i]?, (pendingOf st)[i + 1]?) = (some (sa, na, p), some (sb, nb, q)) := by rw [e1, e2]
 have hsz := hB.size
 have l1 : (pendingOf st).toList[i]? = some (sa, na, p) := by rw [← e1]; simp
 have l2 : (pendingOf st).toList[i + 1]? = some (sb, nb, q) := by rw [← e2]; simp
 have ua : Up lt (arrOf st) sa (sa + na) := hL.ups _ (List.mem_of_getElem? l1)
 have ub : Up lt (arrOf st) sb (sb + nb) := hL.ups _ (List.mem_of_getElem? l2)
 have oth := cov_others hB.cov l1 l2
 show wpS _ _ _ _ (match ((pendingOf st)[i]?, (pendingOf st)[i + 1]?) with | (some (sa, na, power), some (sb, nb, _)) => _ | _ => _) Q st
 rw [e1, e2]
 dsimp only
 have hpl : (((pendingOf st).setIfInBounds i (sa, na + nb, p)).eraseIdxIfInBounds (i + 1)).toList = ((pendingOf st).toList.set i (sa, na + nb, p)).eraseIdx (i + 1) := by
  simp
 have hps : ((((pendingOf st).setIfInBounds i (sa, na + nb, p)).eraseIdxIfInBounds (i + 1)).size + 1 = (pendingOf st).size) := by
  have := congrArg List.length hpl
  rw [Array.length_toList, List.length_eraseIdx, List.length_set, Array.length_toList, if_pos hi1] at this
  lia
 have hB1 : SB a₀ κ hi (SortSt.mk' (kindOf st) (arrOf st) (((pendingOf st).setIfInBounds i (sa, na + nb, p)).eraseIdxIfInBounds (i + 1)) (gallopOf st) (failedOf st)) := ⟨hB.arr, hB.kind, hB.fail, by
  show Cov (((pendingOf st).setIfInBounds i (sa, na + nb, p)).eraseIdxIfInBounds (i + 1)).toList 0 hi
  rw [hpl]
  exact k5⟩
 have hok := hB.ok h0
 have fin : ∀ st' : SortSt, SB a₀ κ hi st' → (pendingOf st').toList = ((pendingOf st).toList.set i (sa, na + nb, p)).eraseIdx (i + 1) → (∀ x, x < sa ∨ sb + nb ≤ x → (arrOf st')[x]? = (arrOf st)[x]?) → Up lt (arrOf st') sa (sa + (na + nb)) → SBL lt a₀ κ hi st' := fun st' hB' hp he hu => ⟨hB', fun z hz => by
  rw [hp] at hz
  rcases oth z hz with rfl | ⟨hz, hd⟩
  ·exact hu
  ·exact (hL.ups z hz).same fun x h1 h2 => he x (by lia)⟩
 have exm : ∀ (arr : Array Keyed) (x y : Nat) {p : Keyed}, p ∈ (arr.extract x y).toList → p ∈ arr.toList := fun arr x y p hp => by
  rw [Array.toList_extract, List.extract_eq_drop_take] at hp
  exact List.mem_of_mem_drop (List.mem_of_mem_take hp)
 refine wpS_bind (wpS_set ?_)
 refine wpS_bind (wpS_elem (arr := arrOf st) (by lia) fun p1 m1 ep1 => ?_)
 refine wpS_bind (wpS_gallopL (a := arrOf st) o hc hB1.kind (hok p1 m1) hok (by lia) (by lia) ua fun k hk F1 F2 => ?_)
 dsimp only
 have low1 : ∀ i u, i < k → (arrOf st)[sa + i]? = some u → Le lt u p1 := fun i u hi eu => by
  have h3 := F1 i hi
  unfold BV at h3
  rw [eu] at h3
  have h4 : (!lt p1 u) = true := h3
  show lt p1 u = false
  simpa using h4
 have hig1 : ∀ i u, k ≤ i → i < na → (arrOf st)[sa + i]? = some u → Le lt p1 u := fun i u h1 h2 eu => by
  have h3 := F2 i h1 h2
  unfold BV at h3
  rw [eu] at h3
  have h4 : (!lt p1 u) = false := h3
  exact o.le_of (by simpa using h4)
 have p1le : ∀ y v, sb ≤ y → y < sb + nb → (arrOf st)[y]? = some v → Le lt p1 v := fun y v h1 h2 ev => by
  by_cases e : y = sb
  ·rw [e, ep1] at ev
   cases ev
   exact o.le_refl _
  ·exact ub sb y p1 v (by lia) (by lia) h2 ep1 ev
 by_cases c1 : (na - k == 0) = true
 ·rw [if_pos c1]
  have ek : k = na := by
   have := eq_of_beq c1
   lia
  refine wpS_pure (h _ (fin _ hB1 hpl (fun _ _ => rfl) ?_) (fun _ _ => rfl) hps)
  intro x y u v a1 a2 a3 eu ev
  have eu' : (arrOf st)[x]? = some u := eu
  have ev' : (arrOf st)[y]? = some v := ev
  by_cases hy : y < sb
  ·exact ua x y u v a1 a2 (by lia) eu' ev'
  by_cases hx : sb ≤ x
  ·exact ub x y u v hx a2 (by lia) eu' ev'
  exact o.le_trans (low1 (x - sa) u (by lia) (by rw [show sa + (x - sa) = x by lia]; exact eu')) (p1le y v (by lia) (by lia) ev')
 rw [if_neg c1]
 have n1 : ¬ na - k = 0 := fun e => c1 (by simp [e])
 refine wpS_bind (wpS_elem (arr := arrOf st) (by lia) fun p2 m2 ep2 => ?_)
 refine wpS_bind (wpS_gallopL (a := arrOf st) o hc hB1.kind (hok p2 m2) hok (by lia) (by lia) ub fun nb' hnb G1 G2 => ?_)
 dsimp only
 have ep2' : (arrOf st)[sb - 1]? = some p2 := by
  rw [← ep2]
  congr 1
  lia
 have lep2 : ∀ x u, sa ≤ x → x < sb → (arrOf st)[x]? = some u → Le lt u p2 := fun x u h1 h2 eu => by
  by_cases e : x = sb - 1
  ·rw [e, ep2'] at eu
   cases eu
   exact o.le_refl _
  ·exact ua x (sb - 1) u p2 h1 (by lia) (by lia) eu ep2'
 have low2 : ∀ i u, i < nb' → (arrOf st)[sb + i]? = some u → Le lt u p2 := fun i u hi eu => by
  have h3 := G1 i hi
  unfold BV at h3
  rw [eu] at h3
  exact o.le_of h3
 have hig2 : ∀ i u, nb' ≤ i → i < nb → (arrOf st)[sb + i]? = some u → Le lt p2 u := fun i u h1 h2 eu => by
  have h3 := G2 i h1 h2
  unfold BV at h3
  rw [eu] at h3
  exact h3
 by_cases c2 : (nb' == 0) = true
 ·rw [if_pos c2]
  have ek : nb' = 0 := eq_of_beq c2
  refine wpS_pure (h _ (fin _ hB1 hpl (fun _ _ => rfl) ?_) (fun _ _ => rfl) hps)
  intro x y u v a1 a2 a3 eu ev
  have eu' : (arrOf st)[x]? = some u := eu
  have ev' : (arrOf st)[y]? = some v := ev
  by_cases hy : y < sb
  ·exact ua x y u v a1 a2 (by lia) eu' ev'
  by_cases hx : sb ≤ x
  ·exact ub x y u v hx a2 (by lia) eu' ev'
  exact o.le_trans (lep2 x u a1 (by lia) eu') (hig2 (y - sb) v (by lia) (by lia) (by rw [show sb + (y - sb) = y by lia]; exact ev'))
 rw [if_neg c2]
 have n2 : ¬ nb' = 0 := fun e => c2 (by simp [e])
 have xs : ((arrOf st).extract (sa + k) sb).size = na - k := by
  rw [Array.size_extract]
  lia
 have ys : ((arrOf st).extract sb (sb + nb')).size = nb' := by
  rw [Array.size_extract]
  lia
 have SX : So lt ((arrOf st).extract (sa + k) sb).toList := List.pairwise_iff_getElem.mpr fun x y hx hy hxy => by
  rw [Array.length_toList] at hx hy
  have ex : ((arrOf st).extract (sa + k) sb)[x]? = (arrOf st)[sa + k + x]? := by rw [Array.getElem?_extract, if_pos (by lia)]
  have ey : ((arrOf st).extract (sa + k) sb)[y]? = (arrOf st)[sa + k + y]? := by rw [Array.getElem?_extract, if_pos (by lia)]
  rw [← Array.getElem?_toList, List.getElem?_eq_getElem (by rw [Array.length_toList]; exact hx)] at ex
  rw [← Array.getElem?_toList, List.getElem?_eq_getElem (by rw [Array.length_toList]; exact hy)] at ey
  exact ua _ _ _ _ (by lia) (show sa + k + x < sa + k + y by lia) (by lia) ex.symm ey.symm
 have SY : So lt ((arrOf st).extract sb (sb + nb')).toList := List.pairwise_iff_getElem.mpr fun x y hx hy hxy => by
  rw [Array.length_toList] at hx hy
  have ex : ((arrOf st).extract sb (sb + nb'))[x]? = (arrOf st)[sb + x]? := by rw [Array.getElem?_extract, if_pos (by lia)]
  have ey : ((arrOf st).extract sb (sb + nb'))[y]? = (arrOf st)[sb + y]? := by rw [Array.getElem?_extract, if_pos (by lia)]
  rw [← Array.getElem?_toList, List.getElem?_eq_getElem (by rw [Array.length_toList]; exact hx)] at ex
  rw [← Array.getElem?_toList, List.getElem?_eq_getElem (by rw [Array.length_toList]; exact hy)] at ey
  exact ub _ _ _ _ (by lia) (show sb + x < sb + y by lia) (by lia) ex.symm ey.symm
 have HB0 : ∀ p, ((arrOf st).extract sb (sb + nb'))[0]? = some p → ∀ y ∈ ((arrOf st).extract (sa + k) sb).toList, Le lt p y := fun p ep y hy => by
  rw [Array.getElem?_extract, if_pos (by lia), Nat.add_zero, ep1] at ep
  cases ep
  obtain ⟨m, h1, h2, e⟩ := mem_exI hy
  exact hig1 (m - sa) y (by lia) (by lia) (by rw [show sa + (m - sa) = m by lia]; exact e)
 have HLA : ∀ x ∈ ((arrOf st).extract sb (sb + nb')).toList, ∀ q, ((arrOf st).extract (sa + k) sb)[((arrOf st).extract (sa + k) sb).size - 1]? = some q → Le lt x q := fun x hx q eq => by
  rw [xs, Array.getElem?_extract, if_pos (by lia), show sa + k + (na - k - 1) = sb - 1 by lia, ep2'] at eq
  cases eq
  obtain ⟨m, h1, h2, e⟩ := mem_exI hx
  exact low2 (m - sb) x (by lia) (by rw [show sb + (m - sb) = m by lia]; exact e)
 have whole : ∀ (r : Array Keyed) (arr' : Array Keyed), Rs lt ((arrOf st).extract (sa + k) sb) ((arrOf st).extract sb (sb + nb')) r → r.toList.length = (na - k) + nb' → arr'.toList = (arrOf st).toList.take (sa + k) ++ r.toList ++ (arrOf st).toList.drop (sa + k + r.toList.length) →
   (∀ x, x < sa ∨ sb + nb ≤ x → arr'[x]? = (arrOf st)[x]?) ∧ Up lt arr' sa (sa + (na + nb)) := fun r arr' hr hrl ha => by
  have get : ∀ x, arr'[x]? = if x < sa + k then (arrOf st)[x]? else if x < sa + k + r.toList.length then r.toList[x - (sa + k)]? else (arrOf st)[x]? := fun x => by
   rw [← Array.getElem?_toList, ha, splice_get (by have hll : (arrOf st).toList.length = (arrOf st).size := Array.length_toList; lia), Array.getElem?_toList]
  have inr : ∀ u, u ∈ r.toList → (∃ m, sa + k ≤ m ∧ m < sb ∧ (arrOf st)[m]? = some u) ∨ ∃ m, sb ≤ m ∧ m < sb + nb' ∧ (arrOf st)[m]? = some u := fun u hu => by
   rcases List.mem_append.mp (hr.perm.mem_iff.mp hu) with hu | hu
   ·exact .inl (mem_exI hu)
   ·exact .inr (mem_exI hu)
  refine ⟨fun x hx => ?_, fun x y u v a1 a2 a3 eu ev => ?_⟩
  ·rw [get]
   by_cases h1 : x < sa + k
   ·rw [if_pos h1]
   ·rw [if_neg h1, if_neg (by lia)]
  rw [get] at eu ev
  by_cases hx1 : x < sa + k
  ·rw [if_pos hx1] at eu
   have hu1 := low1 (x - sa) u (by lia) (by rw [show sa + (x - sa) = x by lia]; exact eu)
   by_cases hy1 : y < sa + k
   ·rw [if_pos hy1] at ev
    exact ua x y u v a1 a2 (by lia) eu ev
   rw [if_neg hy1] at ev
   by_cases hy2 : y < sa + k + r.toList.length
   ·rw [if_pos hy2] at ev
    rcases inr v (List.mem_of_getElem? ev) with ⟨m, b1, b2, e⟩ | ⟨m, b1, b2, e⟩
    ·exact ua x m u v a1 (by lia) (by lia) eu e
    ·exact o.le_trans hu1 (p1le m v b1 (by lia) e)
   ·rw [if_neg hy2] at ev
    exact o.le_trans hu1 (p1le y v (by lia) (by lia) ev)
  rw [if_neg hx1] at eu
  rw [if_neg (by lia)] at ev
  by_cases hx2 : x < sa + k + r.toList.length
  ·rw [if_pos hx2] at eu
   by_cases hy2 : y < sa + k + r.toList.length
   ·rw [if_pos hy2] at ev
    obtain ⟨hx3, rfl⟩ := List.getElem?_eq_some_iff.mp eu
    obtain ⟨hy3, rfl⟩ := List.getElem?_eq_some_iff.mp ev
    exact (List.pairwise_iff_getElem.mp hr.sort) _ _ hx3 hy3 (by lia)
   ·rw [if_neg hy2] at ev
    rcases inr u (List.mem_of_getElem? eu) with ⟨m, b1, b2, e⟩ | ⟨m, b1, b2, e⟩
    ·exact o.le_trans (lep2 m u (by lia) b2 e) (hig2 (y - sb) v (by lia) (by lia) (by rw [show sb + (y - sb) = y by lia]; exact ev))
    ·exact ub m y u v b1 (by lia) (by lia) e ev
  ·rw [if_neg hx2] at eu
   rw [if_neg (by lia)] at ev
   exact ub x y u v (by lia) a2 (by lia) eu ev
 by_cases c3 : na - k ≤ nb'
 ·rw [if_pos c3]
  refine wpS_bind (wpS_mergeLoL (a := (arrOf st).extract (sa + k) sb) (b := (arrOf st).extract sb (sb + nb')) o hc hB1.kind (fun p hp => hok p (exm _ _ _ hp)) (fun p hp => hok p (exm _ _ _ hp)) (by rw [xs]; lia) (by rw [ys]; lia) SX SY HB0 HLA fun r st2 lk hr => ?_)
  refine wpS_bind (wpS_modify ?_)
  refine wpS_bind (wpS_get ?_)
  have hf : failedOf st2 = none := lk.fail.trans hB.fail
  have hr2 : r.toList.Perm (((arrOf st).toList.drop (sa + k)).take ((na - k) + nb')) := by
   refine hr.perm.trans (List.Perm.of_eq ?_)
   rw [Array.toList_extract, Array.toList_extract, ex_mid _ (by lia) (by lia)]
   congr 1
   lia
  have hrl : r.toList.length = (na - k) + nb' := by
   rw [hr2.length_eq, List.length_take, List.length_drop, Array.length_toList]
   lia
  show wpS _ _ _ _ (pure (failedOf st2).isNone) Q _
  rw [hf]
  have hnew : (List.foldl (fun (a : Array Keyed) (x : Keyed × Nat) => a.setIfInBounds (sa + k + x.2) x.1) (arrOf st2) r.toList.zipIdx).toList = (arrOf st).toList.take (sa + k) ++ r.toList ++ (arrOf st).toList.drop (sa + k + r.toList.length) := by
   rw [lk.arr, splice2 _ _ _ (by show sa + k + r.toList.length ≤ (arrOf st).size; lia)]
  obtain ⟨w1, w2⟩ := whole r _ hr hrl hnew
  refine wpS_pure (h _ (fin _ ⟨?_, lk.kind.trans hB.kind, hf, ?_⟩ (by show (pendingOf st2).toList = _; rw [lk.pend]; exact hpl) w1 w2) (fun x hx => w1 x (.inr (by lia))) ?_)
  ·show (List.foldl (fun (a : Array Keyed) (x : Keyed × Nat) => a.setIfInBounds (sa + k + x.2) x.1) (arrOf st2) r.toList.zipIdx).toList.Perm a₀.toList
   rw [hnew]
   exact (perm_mid hr2 hrl).trans hB.arr
  ·show Cov (pendingOf st2).toList 0 hi
   rw [lk.pend]
   exact hB1.cov
  ·show (pendingOf st2).size + 1 = _
   rw [lk.pend]
   exact hps
 ·rw [if_neg c3]
  refine wpS_bind (wpS_mergeHiL (a := (arrOf st).extract (sa + k) sb) (b := (arrOf st).extract sb (sb + nb')) o hc hB1.kind (fun p hp => hok p (exm _ _ _ hp)) (fun p hp => hok p (exm _ _ _ hp)) (by rw [xs]; lia) (by rw [ys]; lia) SX SY HB0 HLA fun r st2 lk hr => ?_)
  refine wpS_bind (wpS_modify ?_)
  refine wpS_bind (wpS_get ?_)
  have hf : failedOf st2 = none := lk.fail.trans hB.fail
  have hr2 : r.toList.Perm (((arrOf st).toList.drop (sa + k)).take ((na - k) + nb')) := by
   refine hr.perm.trans (List.Perm.of_eq ?_)
   rw [Array.toList_extract, Array.toList_extract, ex_mid _ (by lia) (by lia)]
   congr 1
   lia
  have hrl : r.toList.length = (na - k) + nb' := by
   rw [hr2.length_eq, List.length_take, List.length_drop, Array.length_toList]
   lia
  show wpS _ _ _ _ (pure (failedOf st2).isNone) Q _
  rw [hf]
  have hnew : (List.foldl (fun (a : Array Keyed) (x : Keyed × Nat) => a.setIfInBounds (sa + k + x.2) x.1) (arrOf st2) r.toList.zipIdx).toList = (arrOf st).toList.take (sa + k) ++ r.toList ++ (arrOf st).toList.drop (sa + k + r.toList.length) := by
   rw [lk.arr, splice2 _ _ _ (by show sa + k + r.toList.length ≤ (arrOf st).size; lia)]
  obtain ⟨w1, w2⟩ := whole r _ hr hrl hnew
  refine wpS_pure (h _ (fin _ ⟨?_, lk.kind.trans hB.kind, hf, ?_⟩ (by show (pendingOf st2).toList = _; rw [lk.pend]; exact hpl) w1 w2) (fun x hx => w1 x (.inr (by lia))) ?_)
  ·show (List.foldl (fun (a : Array Keyed) (x : Keyed × Nat) => a.setIfInBounds (sa + k + x.2) x.1) (arrOf st2) r.toList.zipIdx).toList.Perm a₀.toList
   rw [hnew]
   exact (perm_mid hr2 hrl).trans hB.arr
  ·show Cov (pendingOf st2).toList 0 hi
   rw [lk.pend]
   exact hB1.cov
  ·show (pendingOf st2).size + 1 = _
   rw [lk.pend]
   exact hps
end
end Srd
namespace Srd
open PySem PyProof.Rows Srt
section
variable {prog : Program} {w : World} {A : Around} {E : Value → Shared → Prop} {s : Shared} {κ : SortKind} {Ok : Keyed → Prop} {st : SortSt} {lt : Keyed → Keyed → Bool}
set_option maxHeartbeats 4000000 in
theorem wpS_runsL {a₀ : Array Keyed} {Q : Unit → SortSt → Prop} (o : Swo lt) (hc : CmpL prog w A s κ Ok lt) (h0 : ∀ p ∈ a₀.toList, Ok p) (hB : SBL lt a₀ κ 0 st) (h : ∀ st', (arrOf st').toList.Perm a₀.toList → So lt (arrOf st').toList → failedOf st' = none → Q () st') : wpS (model prog w) A E s sortRuns' Q st := by
 refine wpS_bind (wpS_get ?_)
 have hsz := hB.sb.size
 show wpS _ _ _ _ (forIn [:(arrOf st).size] _ _ >>= _) Q st
 rw [hsz]
 refine wpS_bind (wpS_mono (wpS_forRange (I := fun x c st' => ∃ lo, c = (none, lo) ∧ lo ≤ a₀.size ∧ SBL lt a₀ κ lo st' ∧ x ≤ lo) (Q := fun c st' => ∃ lo, c = (none, lo) ∧ lo = a₀.size ∧ SBL lt a₀ κ lo st') ?_ (fun c st' ⟨lo, z1, z2, z3, z4⟩ => ⟨lo, z1, by lia, z3⟩) ⟨0, rfl, Nat.zero_le _, hB, Nat.le_refl _⟩) ?_)
 ·rintro x c st1 _ hx ⟨lo, rfl, hlo, hB1, hxl⟩
  try dsimp only
  by_cases c1 : lo ≥ a₀.size
  ·rw [if_pos c1]
   exact wpS_pure ⟨lo, rfl, by lia, hB1⟩
  rw [if_neg c1]
  have hs1 := hB1.sb.size
  refine wpS_bind (wpS_countL o hc hB1.sb.kind (hB1.sb.ok h0) (by lia) (by lia) fun n st2 n1 n2 p2 u2 => ?_)
  have hB2 := hB1.pl p2
  have hs2 := hB2.sb.size
  try dsimp only
  show wpS _ _ _ _ (if n < minRun' a₀.size a₀.size 0 then _ else _) _ st2
  by_cases c2 : n < minRun' a₀.size a₀.size 0
  ·rw [if_pos c2]
   refine wpS_bind (wpS_lift (wpAny_rule ⟨rfl, ?_⟩))
   refine wpS_bind (wpS_binaryL o hc hB2.sb.kind (hB2.sb.ok h0) (by show lo + min (a₀.size - lo) (minRun' a₀.size a₀.size 0) ≤ _; lia) (by show n ≤ min (a₀.size - lo) (minRun' a₀.size a₀.size 0); lia) (by show 1 ≤ min (a₀.size - lo) (minRun' a₀.size a₀.size 0); lia) u2 fun st3 p3 u3 => ?_)
   rw [if_neg (by decide)]
   have hB3 := hB2.pl p3
   have u3' : Up lt (arrOf st3) lo (lo + min (a₀.size - lo) (minRun' a₀.size a₀.size 0)) := u3
   have hN : 1 ≤ min (a₀.size - lo) (minRun' a₀.size a₀.size 0) := by lia
   refine wpS_bind (wpS_get ?_)
   cases hb : (pendingOf st3).back? with
   | none =>
    dsimp only
    refine wpS_bind (wpS_modify ?_)
    refine wpS_pure ⟨lo + min (a₀.size - lo) (minRun' a₀.size a₀.size 0), rfl, by lia, ⟨⟨hB3.sb.arr, hB3.sb.kind, hB3.sb.fail, ?_⟩, fun z hz => ?_⟩, by lia⟩
    ·show Cov ((pendingOf st3).push (lo, min (a₀.size - lo) (minRun' a₀.size a₀.size 0), 0)).toList 0 (lo + min (a₀.size - lo) (minRun' a₀.size a₀.size 0))
     rw [Array.toList_push]
     exact hB3.sb.cov.push hN
    ·have hz' : z ∈ ((pendingOf st3).push (lo, min (a₀.size - lo) (minRun' a₀.size a₀.size 0), 0)).toList := hz
     rw [Array.toList_push] at hz'
     rcases List.mem_append.mp hz' with hz' | hz'
     ·exact hB3.ups z hz'
     ·rw [List.mem_singleton.mp hz']
      exact u3'
   | some t =>
    obtain ⟨s1, n1, q⟩ := t
    dsimp only
    refine wpS_bind (wpS_mono (wpS_forRange (I := fun _ c st' => c = (none, ()) ∧ SBL lt a₀ κ lo st' ∧ ∀ x, lo ≤ x → (arrOf st')[x]? = (arrOf st3)[x]?) (Q := fun c st' => c = (none, ()) ∧ SBL lt a₀ κ lo st' ∧ ∀ x, lo ≤ x → (arrOf st')[x]? = (arrOf st3)[x]?) ?_ (fun _ _ z => z) ⟨rfl, hB3, fun _ _ => rfl⟩) ?_)
    ·rintro y c st4 _ _ ⟨rfl, hB4, hO4⟩
     refine wpS_bind (wpS_get ?_)
     by_cases g1 : (pendingOf st4).size > 1
     ·rw [if_pos g1]
      obtain ⟨⟨a1, a2, older⟩, e⟩ : ∃ x, (pendingOf st4)[(pendingOf st4).size - 2]? = some x := ⟨_, getElem?_pos _ _ (by lia)⟩
      rw [e]
      dsimp only
      split
      ·exact wpS_pure ⟨rfl, hB4, hO4⟩
      ·refine wpS_bind (wpS_mergeAtL o hc h0 hB4 hlo (by show (pendingOf st4).size - 2 + 1 < (pendingOf st4).size; lia) fun st5 hB5 hO5 _ => ?_)
       rw [if_neg (by decide)]
       exact wpS_pure ⟨rfl, hB5, fun x hx => (hO5 x hx).trans (hO4 x hx)⟩
     ·rw [if_neg g1]
      exact wpS_pure ⟨rfl, hB4, hO4⟩
    ·rintro c st4 ⟨rfl, hB4, hO4⟩
     dsimp only
     refine wpS_bind (wpS_modify ?_)
     refine wpS_bind (wpS_modify ?_)
     refine wpS_pure ⟨lo + min (a₀.size - lo) (minRun' a₀.size a₀.size 0), rfl, by lia, ⟨⟨hB4.sb.arr, hB4.sb.kind, hB4.sb.fail, ?_⟩, fun z hz => ?_⟩, by lia⟩
     ·show Cov (Array.push ((pendingOf st4).modify _ _) (lo, min (a₀.size - lo) (minRun' a₀.size a₀.size 0), 0)).toList 0 (lo + min (a₀.size - lo) (minRun' a₀.size a₀.size 0))
      rw [Array.toList_push, Array.toList_modify]
      refine Cov.push ?_ hN
      refine Cov.last _ (fun x => ?_) _ hB4.sb.cov
      exact ⟨rfl, rfl⟩
     ·change z ∈ (Array.push ((pendingOf st4).modify _ _) (lo, min (a₀.size - lo) (minRun' a₀.size a₀.size 0), 0)).toList at hz
      rw [Array.toList_push, Array.toList_modify] at hz
      rcases List.mem_append.mp hz with hz | hz
      ·obtain ⟨i, hi⟩ := List.mem_iff_getElem?.mp hz
       rw [List.getElem?_modify] at hi
       obtain ⟨z0, hz0, rfl⟩ := Option.map_eq_some_iff.mp hi
       have h1 := hB4.ups z0 (List.mem_of_getElem? hz0)
       split
       ·exact h1
       ·exact h1
      ·rw [List.mem_singleton.mp hz]
       exact u3'.same fun x h1 _ => hO4 x h1
  ·rw [if_neg c2]
   have hB3 := hB2
   have hN := n1
   have u3' := u2
   refine wpS_bind (wpS_get ?_)
   cases hb : (pendingOf st2).back? with
   | none =>
    dsimp only
    refine wpS_bind (wpS_modify ?_)
    refine wpS_pure ⟨lo + n, rfl, by lia, ⟨⟨hB3.sb.arr, hB3.sb.kind, hB3.sb.fail, ?_⟩, fun z hz => ?_⟩, by lia⟩
    ·show Cov ((pendingOf st2).push (lo, n, 0)).toList 0 (lo + n)
     rw [Array.toList_push]
     exact hB3.sb.cov.push hN
    ·have hz' : z ∈ ((pendingOf st2).push (lo, n, 0)).toList := hz
     rw [Array.toList_push] at hz'
     rcases List.mem_append.mp hz' with hz' | hz'
     ·exact hB3.ups z hz'
     ·rw [List.mem_singleton.mp hz']
      exact u3'
   | some t =>
    obtain ⟨s1, n1, q⟩ := t
    dsimp only
    refine wpS_bind (wpS_mono (wpS_forRange (I := fun _ c st' => c = (none, ()) ∧ SBL lt a₀ κ lo st' ∧ ∀ x, lo ≤ x → (arrOf st')[x]? = (arrOf st2)[x]?) (Q := fun c st' => c = (none, ()) ∧ SBL lt a₀ κ lo st' ∧ ∀ x, lo ≤ x → (arrOf st')[x]? = (arrOf st2)[x]?) ?_ (fun _ _ z => z) ⟨rfl, hB3, fun _ _ => rfl⟩) ?_)
    ·rintro y c st4 _ _ ⟨rfl, hB4, hO4⟩
     refine wpS_bind (wpS_get ?_)
     by_cases g1 : (pendingOf st4).size > 1
     ·rw [if_pos g1]
      obtain ⟨⟨a1, a2, older⟩, e⟩ : ∃ x, (pendingOf st4)[(pendingOf st4).size - 2]? = some x := ⟨_, getElem?_pos _ _ (by lia)⟩
      rw [e]
      dsimp only
      split
      ·exact wpS_pure ⟨rfl, hB4, hO4⟩
      ·refine wpS_bind (wpS_mergeAtL o hc h0 hB4 hlo (by show (pendingOf st4).size - 2 + 1 < (pendingOf st4).size; lia) fun st5 hB5 hO5 _ => ?_)
       rw [if_neg (by decide)]
       exact wpS_pure ⟨rfl, hB5, fun x hx => (hO5 x hx).trans (hO4 x hx)⟩
     ·rw [if_neg g1]
      exact wpS_pure ⟨rfl, hB4, hO4⟩
    ·rintro c st4 ⟨rfl, hB4, hO4⟩
     dsimp only
     refine wpS_bind (wpS_modify ?_)
     refine wpS_bind (wpS_modify ?_)
     refine wpS_pure ⟨lo + n, rfl, by lia, ⟨⟨hB4.sb.arr, hB4.sb.kind, hB4.sb.fail, ?_⟩, fun z hz => ?_⟩, by lia⟩
     ·show Cov (Array.push ((pendingOf st4).modify _ _) (lo, n, 0)).toList 0 (lo + n)
      rw [Array.toList_push, Array.toList_modify]
      refine Cov.push ?_ hN
      refine Cov.last _ (fun x => ?_) _ hB4.sb.cov
      exact ⟨rfl, rfl⟩
     ·change z ∈ (Array.push ((pendingOf st4).modify _ _) (lo, n, 0)).toList at hz
      rw [Array.toList_push, Array.toList_modify] at hz
      rcases List.mem_append.mp hz with hz | hz
      ·obtain ⟨i, hi⟩ := List.mem_iff_getElem?.mp hz
       rw [List.getElem?_modify] at hi
       obtain ⟨z0, hz0, rfl⟩ := Option.map_eq_some_iff.mp hi
       have h1 := hB4.ups z0 (List.mem_of_getElem? hz0)
       split
       ·exact h1
       ·exact h1
      ·rw [List.mem_singleton.mp hz]
       exact u3'.same fun x h1 _ => hO4 x h1
 ·rintro c st1 ⟨lo, rfl, rfl, hB1⟩
  try dsimp only
  refine wpS_bind (wpS_mono (wpS_forRange (I := fun x c st' => c = (none, ()) ∧ SBL lt a₀ κ a₀.size st' ∧ (pendingOf st').size + x ≤ a₀.size + 1) (Q := fun c st' => c = (none, ()) ∧ SBL lt a₀ κ a₀.size st' ∧ (pendingOf st').size ≤ 1) ?_ (fun c st' ⟨z1, z2, z3⟩ => ⟨z1, z2, by lia⟩) ⟨rfl, hB1, by have := hB1.sb.cov.le; rw [Array.length_toList] at this; lia⟩) ?_)
  ·rintro x c st2 _ _ ⟨rfl, hB2, hp2⟩
   try dsimp only
   refine wpS_bind (wpS_get ?_)
   try dsimp only
   by_cases c2 : (pendingOf st2).size ≤ 1
   ·rw [if_pos c2]
    exact wpS_pure ⟨rfl, hB2, c2⟩
   ·rw [if_neg c2]
    have hx : ∀ b : Bool, (if b = true then (pendingOf st2).size - 2 - 1 else (pendingOf st2).size - 2) + 1 < (pendingOf st2).size := fun b => by
     cases b
     ·rw [if_neg Bool.false_ne_true]; lia
     ·rw [if_pos rfl]; lia
    refine wpS_bind (wpS_mergeAtL o hc h0 hB2 (Nat.le_refl _) (hx _) fun st3 hB3 _ hs3 => ?_)
    rw [if_neg (by decide)]
    exact wpS_pure ⟨rfl, hB3, by lia⟩
  ·rintro c st2 ⟨rfl, hB2, hp2⟩
   refine wpS_pure (h st2 hB2.sb.arr ?_ hB2.sb.fail)
   have hz2 := hB2.sb.size
   have hcov := hB2.sb.cov
   have hups := hB2.ups
   have hpl : (pendingOf st2).toList.length ≤ 1 := by rw [Array.length_toList]; exact hp2
   match hl : (pendingOf st2).toList, hpl with
   | [], _ =>
    rw [hl] at hcov
    have h0 : 0 = a₀.size := hcov
    refine so_of (n := 0) (fun x y _ _ _ _ h3 => by lia) (by lia)
   | [z], _ =>
    rw [hl] at hcov hups
    obtain ⟨z1, z2, z3⟩ := hcov
    have z3' : 0 + z.2.1 = a₀.size := z3
    have hu := hups z (List.mem_singleton.mpr rfl)
    rw [z1, z3'] at hu
    exact so_of hu (by lia)
end
end Srd
namespace Srd
open PySem PyProof.Rows Srt PySem.W
section
variable {prog : Program} {w : World} {A : Around} {E : Value → Shared → Prop} {s : Shared}
def SortableL (prog : Program) (w : World) (A : Around) (lv : Value → Value → Bool) (vs : List Value) (s : Shared) : Prop :=
 ∃ κ, (∀ (Q : SortKind → Shared → Prop) (E : Value → Shared → Prop), Q κ s → wpAny (model prog w) A (keyKind' vs.toArray) Q E s) ∧ CmpL prog w A s κ (fun p => p ∈ (pairsOf vs).toList) fun x y => lv x.1 y.1
theorem zip_self_eq {vs : List Value} {p : Keyed} (h : p ∈ (pairsOf vs).toList) : p.1 = p.2 := by
 rw [pairsOf_toList] at h
 obtain ⟨i, hi⟩ := List.mem_iff_getElem?.mp h
 rw [List.getElem?_zip_eq_some] at hi
 have := hi.1.symm.trans hi.2
 exact Option.some.inj this
theorem so_short {lt : Keyed → Keyed → Bool} {vs : List Value} (h : vs.length < 2) : So lt (pairsOf vs).toList := List.pairwise_iff_getElem.mpr fun i j hi hj hij => by
 rw [Array.length_toList, pairsOf_size] at hi hj
 lia
theorem snds_so {lv : Value → Value → Bool} {vs : List Value} {xs : Array Keyed} (hp : xs.toList.Perm (pairsOf vs).toList) (h : So (fun x y => lv x.1 y.1) xs.toList) : (xs.map (·.2)).toList.Pairwise (fun u v => lv v u = false) := by
 rw [Array.toList_map, List.pairwise_map]
 refine List.Pairwise.imp_of_mem (fun {x y} hx hy hxy => ?_) h
 have hxy' : lv y.1 x.1 = false := hxy
 rw [zip_self_eq (hp.mem_iff.mp hx), zip_self_eq (hp.mem_iff.mp hy)] at hxy'
 exact hxy'
theorem list_sort_L {lv : Value → Value → Bool} (o : Swo fun x y => lv x.1 y.1) {a : Addr} {vs : List Value} {n : Nat} {P : Fin → Shared → Prop} (ho : s.heap.get? a = some (seqObj "list" vs.toArray n)) (hlen : vs.length ≤ 90000)
  (hc : ∀ h6 : Heap, (∀ b o, b ≠ a → s.heap.get? b = some o → h6.get? b = some o) → 2 ≤ vs.length → SortableL prog w A lv vs { s with heap := h6 })
  (h : ∀ out : Array Value, out.toList.Perm vs → out.toList.Pairwise (fun u v => lv v u = false) → P (.done (.ret .none)) { s with heap := sortedHeap s.heap a vs out }) : wpAny (model prog w) A (Builtin.«list.sort» ⟨[.ref a], []⟩) P E s := by
 have hv : vs.toArray.size ≤ sizeLine := by rw [List.size_toArray, sizeLine_eq]; lia
 have ha : a < s.heap.objs.size := Heap.lt_size ho
 obtain ⟨e1, ho1⟩ : ∃ e1, (s.heap.update a (Obj.mapSeq fun _ => #[])).get? a = some (seqObj "list" #[] e1) := ⟨_, get?_update_seq ho (fun _ => #[])⟩
 rw [list_sort_plain]
 refine wpAny_bind (listItems_at ho rfl (wpAny_bind (listUpdate_at ho rfl (wpAny_bind (seqEpoch_at ho1 rfl (wpAny_bind (wpAny_newTuple (wpAny_bind (wpAny_newList (wpAny_holding ?_)))))))  hv (Nat.zero_le _))))
 have nT : a ≠ (s.heap.update a (Obj.mapSeq fun _ => #[])).objs.size := by rw [Heap.size_update]; exact Nat.ne_of_lt ha
 have nL : a ≠ ((s.heap.update a (Obj.mapSeq fun _ => #[])).push (seqObj "tuple" vs.toArray 0)).objs.size := by rw [size_push', Heap.size_update]; exact Nat.ne_of_lt (Nat.lt_succ_of_lt ha)
 have ho6 : (((s.heap.update a (Obj.mapSeq fun _ => #[])).push (seqObj "tuple" vs.toArray 0)).push (seqObj "list" #[] 0)).get? a = some (seqObj "list" #[] e1) := by
  rw [Heap.get?_push_ne _ _ _ nL, Heap.get?_push_ne _ _ _ nT]
  exact ho1
 have hkeep : ∀ b o, b ≠ a → s.heap.get? b = some o → (((s.heap.update a (Obj.mapSeq fun _ => #[])).push (seqObj "tuple" vs.toArray 0)).push (seqObj "list" #[] 0)).get? b = some o := fun b o hb e => by
  refine Heap.get?_push_of_some _ (Heap.get?_push_of_some _ ?_)
  rw [Heap.get?_update_other _ _ hb.symm]
  exact e
 show wpAny (model prog w) A _ P E { s with heap := ((s.heap.update a (Obj.mapSeq fun _ => #[])).push (seqObj "tuple" vs.toArray 0)).push (seqObj "list" #[] 0) }
 dsimp only
 by_cases h2 : vs.toArray.size < 2
 ·rw [if_pos h2, if_pos h2]
  refine wpAny_bind (wpAny_pure ?_)
  rw [StateT.run_pure]
  refine wpAny_bind (wpAny_pure (wpAny_bind (seqEpoch_at ho6 rfl (wpAny_bind (listUpdate_at ho6 rfl ?_ (Nat.zero_le _) ?_)))))
  ·simp only [bne_self_eq_false, Bool.false_eq_true, if_false]
   exact wpAny_pure (h _ (snds_perm (xs := pairsOf vs) (List.Perm.refl _)) (snds_so (xs := pairsOf vs) (List.Perm.refl _) (so_short (by rw [List.size_toArray] at h2; exact h2))))
  ·show ((pairsOf vs).map (·.2)).size ≤ _
   rw [Array.size_map, pairsOf_size, sizeLine_eq]
   lia
 ·rw [if_neg h2, if_neg h2]
  rw [List.size_toArray] at h2
  obtain ⟨κ, hkk, hcm⟩ := hc _ hkeep (by lia)
  refine wpAny_bind (hkk _ _ ?_)
  refine wpAny_bind (wpAny_mono (wpS_runsL (a₀ := pairsOf vs) (Q := fun _ st' => (arrOf st').toList.Perm (pairsOf vs).toList ∧ So (fun x y => lv x.1 y.1) (arrOf st').toList ∧ failedOf st' = none) o hcm (fun p hp => hp) ⟨⟨List.Perm.refl _, rfl, rfl, rfl⟩, fun z hz => (nomatch hz)⟩ fun st' a1 a3 a2 => ⟨a1, a3, a2⟩) ?_ fun _ _ e => e)
  rintro ⟨⟨⟩, st'⟩ s' ⟨rfl, hp, hso, hf⟩
  dsimp only
  refine wpAny_bind (seqEpoch_at ho6 rfl (wpAny_bind (listUpdate_at ho6 rfl ?_ (Nat.zero_le _) ?_)))
  ·rw [hf]
   simp only [bne_self_eq_false, Bool.false_eq_true, if_false]
   exact wpAny_pure (h _ (snds_perm hp) (snds_so hp hso))
  ·have hp' : (arrOf st').toList.Perm (pairsOf vs).toList := hp
   have := hp'.length_eq
   rw [Array.length_toList, Array.length_toList, pairsOf_size] at this
   show ((arrOf st').map (·.2)).size ≤ _
   rw [Array.size_map, sizeLine_eq]
   lia
theorem sorted_colL {lv : Value → Value → Bool} (o : Swo fun x y => lv x.1 y.1) {v : Value} {C : List Value → Prop} {Q : Value → Shared → Prop}
  (hcol : ∀ (Q' : List Value → Shared → Prop) (E' : Value → Shared → Prop), (∀ (ys : List Value) (h' : Heap) (tk : Nat) (d : Drawn), (∀ b o, s.heap.get? b = some o → h'.get? b = some o) → C ys → ys.length ≤ 90000 → s.heap.objs.size ≤ h'.objs.size → Q' ys { s with heap := h', toks := tk, drawn := d }) → wpAny (model prog w) A.in1 (collect v) Q' E' s)
  (hc : ∀ (ys : List Value) (h6 : Heap) (tk : Nat) (d : Drawn), C ys → (∀ b o, s.heap.get? b = some o → h6.get? b = some o) → 2 ≤ ys.length → SortableL prog w A.in1.in1 lv ys { s with heap := h6, toks := tk, drawn := d })
  (q : ∀ (p : Addr) (ys : List Value) (out : Array Value) (h' : Heap) (tk : Nat) (d : Drawn) (c : Nat), C ys → out.toList.Perm ys → out.toList.Pairwise (fun u v => lv v u = false) → (∀ b o, s.heap.get? b = some o → h'.get? b = some o) → h'.get? p = some (seqObj "list" out c) → s.heap.objs.size ≤ p → out.size ≤ 90000 → Q (.ref p) { s with heap := h', toks := tk, drawn := d }) :
  wpAny (model prog w) A (call (.builtin "sorted") [v]) Q E s := by
 refine Calls.call_function_entry kind_sorted plain_sorted entry_sorted (args_sorted1 _) ?_
 unfold Builtin.«sorted»
 refine wpAny_bind (m := checkCount "sorted" 1 1 _) (wpAny_pure (wpAny_bind (hcol _ _ fun ys h1 tk d k1 hC hyl hle => wpAny_bind (wpAny_newList ?_ (by rw [sizeLine_eq]; lia)))))
 have hoL : (h1.push (seqObj "list" ys.toArray 0)).get? h1.objs.size = some (seqObj "list" ys.toArray 0) := Heap.get?_push_size _ rfl
 have keep : ∀ b o, s.heap.get? b = some o → (h1.push (seqObj "list" ys.toArray 0)).get? b = some o := fun b o e => Heap.get?_push_of_some _ (k1 b o e)
 have hbp : ∀ b o, s.heap.get? b = some o → h1.objs.size ≠ b := fun b o e => Nat.ne_of_gt (Nat.lt_of_lt_of_le (Heap.lt_size e) hle)
 change wpAny _ _ _ _ _ { s with heap := h1.push (seqObj "list" ys.toArray 0), toks := tk, drawn := d }
 refine wpAny_bind (wpAny_holding (wpAny_call_entry slot_list_sort ⟨_, hoL, rfl⟩ entry_list_sort (list_sort_L (s := { s with heap := h1.push (seqObj "list" ys.toArray 0), toks := tk, drawn := d }) o hoL (by lia) (fun h6 k6 h2 => hc ys h6 tk d hC (fun b o e => k6 b o (hbp b o e).symm (keep b o e)) h2) fun out hp hso => ⟨_, rfl, ?_⟩) (args_list_sort _)))
 generalize h1.push (seqObj "list" ys.toArray 0) = h5 at hoL keep
 obtain ⟨e1, ho1⟩ : ∃ e1, (h5.update h1.objs.size (Obj.mapSeq fun _ => #[])).get? h1.objs.size = some (seqObj "list" #[] e1) := ⟨_, get?_update_seq hoL (fun _ => #[])⟩
 have ho6 := Heap.get?_push_of_some (seqObj "list" #[] 0) (Heap.get?_push_of_some (seqObj "tuple" ys.toArray 0) ho1)
 have hol : out.size ≤ 90000 := by rw [← Array.length_toList, hp.length_eq]; exact hyl
 refine wpAny_pure ⟨_, rfl, q h1.objs.size ys out (sortedHeap h5 h1.objs.size ys out) tk d _ hC hp hso (fun b o e => ?_) (get?_update_seq ho6 (fun _ => out)) hle hol⟩
 unfold sortedHeap
 rw [Heap.get?_update_other _ _ (hbp b o e)]
 refine Heap.get?_push_of_some _ (Heap.get?_push_of_some _ ?_)
 rw [Heap.get?_update_other _ _ (hbp b o e)]
 exact keep b o e
def iKey : Value → Int
 | .int i _ => i
 | _ => 0
def iLt (u v : Value) : Bool := decide (iKey u < iKey v)
theorem iLt_swo : Swo fun x y => iLt x.1 y.1 := ⟨fun x y h => decide_eq_false (by have := of_decide_eq_true h; lia), fun x y z h1 h2 => decide_eq_false (by have := of_decide_eq_false h1; have := of_decide_eq_false h2; lia)⟩
theorem ints_sortableL {vs : List Value} (hv : ∀ v ∈ vs, ∃ i t, v = Value.int i t) (h2 : 2 ≤ vs.length) : SortableL prog w A iLt vs s := by
 refine ⟨oneType', fun Q E hq => kas_kind (T := .type "int") h2 (fun v hm => ?_) rfl rfl hq, ?_⟩
 ·obtain ⟨i, t, rfl⟩ := hv v hm
  exact Looks.of_pure rfl
 ·intro x y hx hy E
  rw [pairsOf_toList] at hx hy
  obtain ⟨i, t, e⟩ := hv _ (mem_zip_self hx).2
  obtain ⟨i', t', e'⟩ := hv _ (mem_zip_self hy).2
  rw [e, e', keyLt'_oneType]
  refine oneLt_int ⟨rfl, ?_⟩
  show decide (i < i') = decide (iKey x.1 < iKey y.1)
  rw [e, e']
  rfl
end
end Srd
namespace Srd
open PySem PyProof.Rows
end Srd
namespace Srd
open PySem PyProof.Rows
end Srd
namespace L2
open PySem PySem.Spec PyProof.Rows PySem.W
section
variable {X : Cx}
theorem vals_mem2 : ∀ {vs : List V} {us : List Value}, Vals vs us → ∀ v ∈ vs, ∃ u ∈ us, RelV v u
 | _, _, .cons a t, v, hv => by
  rcases List.mem_cons.mp hv with rfl | hv
  ·exact ⟨_, List.mem_cons_self .., a⟩
  ·obtain ⟨u, hu, r⟩ := vals_mem2 t v hv
   exact ⟨u, List.mem_cons_of_mem _ hu, r⟩
theorem rising : ∀ {ms : List Int} {us : List Value}, Vals (ms.map V.int) us → us.Pairwise (fun u v => Srd.iLt v u = false) → ms.Pairwise (· ≤ ·)
 | [], _, _, _ => .nil
 | m :: ms, us, r, h => by
  cases r with
  | cons r rr =>
   obtain ⟨t, rfl⟩ := r
   obtain ⟨h1, h2⟩ := List.pairwise_cons.mp h
   refine List.pairwise_cons.mpr ⟨fun m' hm => ?_, rising rr h2⟩
   obtain ⟨u, hu, ru⟩ := vals_mem2 rr (V.int m') (List.mem_map.mpr ⟨m', hm, rfl⟩)
   obtain ⟨t', rfl⟩ := ru
   have := of_decide_eq_false (h1 _ hu)
   have h3 : ¬ m' < m := this
   lia
theorem strictly {ms : List Int} (h : ms.Pairwise (· ≤ ·)) (hn : ms.Nodup) : ms.Pairwise (· < ·) := by
 refine List.pairwise_iff_getElem.mpr fun i j hi hj hij => ?_
 have h1 := (List.pairwise_iff_getElem.mp h) i j hi hj hij
 have h2 := (List.pairwise_iff_getElem.mp hn) i j hi hj hij
 lia
end
end L2
namespace L2
open PySem PySem.Spec PyProof.Rows
end L2
namespace L2
open PySem PySem.Spec PyProof.Rows
end L2
namespace Stg
open PySem Sts
def tm (m : Nat) : SetTable := { mask := m, place := #[], dummies := #[], finger := 0, led := true, moves := 0, plain := true }
theorem adv_mask {t t' : SetTable} (e : t.mask = t'.mask) (p : SetTable.Probe) : t.advance p = t'.advance p := by
 unfold SetTable.advance
 rw [e]
theorem advn_mask {t t' : SetTable} (e : t.mask = t'.mask) : ∀ (n : Nat) (p : SetTable.Probe), advn t n p = advn t' n p
 | 0, _ => rfl
 | n + 1, p => by
  show advn t n (t.advance p) = advn t' n (t'.advance p)
  rw [adv_mask e, advn_mask e n]
theorem start_mask {t t' : SetTable} (e : t.mask = t'.mask) (h : Int) : t.probeStart h = t'.probeStart h := by
 unfold SetTable.probeStart
 rw [e]
def jn (m : Nat) (h : Int) (n : Nat) : Nat := (advn (tm m) n ((tm m).probeStart h)).j
theorem jn_of (t : SetTable) (h : Int) (n : Nat) : (advn t n (t.probeStart h)).j = jn t.mask h n := by
 unfold jn
 rw [start_mask (t := t) (t' := tm t.mask) rfl, advn_mask (t := t) (t' := tm t.mask) rfl]
theorem runEnd_le {m i : Nat} (h : i ≤ m) : SetTable.runEnd m i ≤ m := by
 unfold SetTable.runEnd
 split <;> lia
theorem run_ge (m i : Nat) : i ≤ SetTable.runEnd m i := by
 unfold SetTable.runEnd
 split <;> lia
theorem adv_le {m : Nat} {p : SetTable.Probe} (h : p.j + p.more ≤ m) : ((tm m).advance p).j + ((tm m).advance p).more ≤ m := by
 unfold SetTable.advance
 split
 ·show p.j + 1 + (p.more - 1) ≤ m
  lia
 ·have h1 : (p.i * 5 + 1 + p.perturb / 32) % (m + 1) ≤ m := Nat.le_of_lt_succ (Nat.mod_lt _ (Nat.succ_pos m))
  have h2 := runEnd_le h1
  have h3 := run_ge m ((p.i * 5 + 1 + p.perturb / 32) % (m + 1))
  show (p.i * 5 + 1 + p.perturb / 32) % (m + 1) + (SetTable.runEnd m ((p.i * 5 + 1 + p.perturb / 32) % (m + 1)) - (p.i * 5 + 1 + p.perturb / 32) % (m + 1)) ≤ m
  lia
theorem advn_le {m : Nat} : ∀ (n : Nat) {p : SetTable.Probe}, p.j + p.more ≤ m → (advn (tm m) n p).j + (advn (tm m) n p).more ≤ m
 | 0, _, h => h
 | n + 1, p, h => advn_le n (adv_le h)
theorem start_le (m : Nat) (h : Int) : ((tm m).probeStart h).j + ((tm m).probeStart h).more ≤ m := by
 have h1 : SetTable.bits h % (m + 1) ≤ m := Nat.le_of_lt_succ (Nat.mod_lt _ (Nat.succ_pos m))
 have h2 := runEnd_le h1
 have h3 := run_ge m (SetTable.bits h % (m + 1))
 show SetTable.bits h % (m + 1) + (SetTable.runEnd m (SetTable.bits h % (m + 1)) - SetTable.bits h % (m + 1)) ≤ m
 lia
theorem jn_le (m : Nat) (h : Int) (n : Nat) : jn m h n ≤ m := by
 have := advn_le n (start_le m h)
 unfold jn
 lia
def Way (m : Nat) (U : Nat → Prop) (h : Int) (j : Nat) : Prop := ∃ n, jn m h n = j ∧ ∀ k, k < n → U (jn m h k)
theorem Way.mono {m : Nat} {U U' : Nat → Prop} {h : Int} {j : Nat} (w : Way m U h j) (hu : ∀ y, y ≤ m → U y → U' y) : Way m U' h j := by
 obtain ⟨n, e, hk⟩ := w
 exact ⟨n, e, fun k hkn => hu _ (jn_le _ _ _) (hk k hkn)⟩
theorem run_j (t : SetTable) : ∀ (k : Nat) (p : SetTable.Probe), k ≤ p.more → (advn t k p).j = p.j + k
 | 0, _, _ => rfl
 | k + 1, p, h => by
  show (advn t k (t.advance p)).j = p.j + (k + 1)
  have e : t.advance p = { p with j := p.j + 1, more := p.more - 1 } := by
   unfold SetTable.advance
   rw [if_pos (by lia)]
  rw [e, run_j t k _ (show k ≤ p.more - 1 by lia)]
  show p.j + 1 + k = _
  lia
theorem free_way {m : Nat} {owner : Array (Option Nat)} : ∀ (fuel : Nat) (p : SetTable.Probe) (j : Nat), SetTable.layClean.free m owner fuel p.i p.perturb = some j → p.j = p.i → p.more = SetTable.runEnd m p.i - p.i →
  ∃ n, (advn (tm m) n p).j = j ∧ ∀ k, k < n → owner.getD (advn (tm m) k p).j (some 0) ≠ none
 | 0, p, j, h, _, _ => by
  unfold SetTable.layClean.free at h
  cases h
 | fuel + 1, p, j, h, hj, hm => by
  unfold SetTable.layClean.free at h
  have hge := run_ge m p.i
  cases hf : (List.range (SetTable.runEnd m p.i + 1 - p.i)).find? fun k => (owner.getD (p.i + k) (some 0)).isNone with
  | some k' =>
   rw [hf] at h
   have e : p.i + k' = j := Option.some.inj h
   obtain ⟨h1, h2, h3⟩ := List.find?_range_eq_some.mp hf
   have hk' : k' ≤ p.more := by
    have := List.mem_range.mp h2
    lia
   refine ⟨k', by rw [run_j _ _ _ hk', hj]; exact e, fun k hk hn => ?_⟩
   rw [run_j _ _ _ (by lia), hj] at hn
   have h4 := h3 k hk
   rw [hn] at h4
   cases h4
  | none =>
   rw [hf] at h
   have h' : SetTable.layClean.free m owner fuel (lp (tm m) p).i (lp (tm m) p).perturb = some j := h
   obtain ⟨n', e, hk⟩ := free_way fuel (lp (tm m) p) j h' rfl rfl
   have hadv := adv_lp (tm m) p.more p rfl
   refine ⟨p.more + 1 + n', by rw [advn_add, hadv]; exact e, fun k hkn => ?_⟩
   by_cases hlt : k ≤ p.more
   ·rw [run_j _ _ _ hlt, hj]
    have := List.find?_eq_none.mp hf k (List.mem_range.mpr (by lia))
    intro hn
    rw [hn] at this
    exact this rfl
   ·have e2 : k = p.more + 1 + (k - (p.more + 1)) := by lia
    rw [e2, advn_add, hadv]
    exact hk _ (by lia)
def WO (m : Nat) (all : List Int) (owner : Array (Option Nat)) : Prop := ∀ j k, owner.getD j none = some k → ∃ x, all[k]? = some x ∧ Way m (fun y => owner.getD y (some 0) ≠ none) x j
theorem getD_set {owner : Array (Option Nat)} {j y : Nat} {v d : Option Nat} (hy : y ≠ j) : (owner.setIfInBounds j v).getD y d = owner.getD y d := by
 simp only [Array.getD, Array.size_setIfInBounds]
 split
 ·rename_i hy2
  exact Array.getElem_setIfInBounds_ne (by simpa using hy2) (Ne.symm hy)
 ·rfl
theorem lay_fold2 {m : Nat} (hg : Good m) (all : List Int) : ∀ (hs pre : List Int) (owner : Array (Option Nat)), all = pre ++ hs → Own m owner pre.length → WO m all owner → pre.length + hs.length ≤ m →
  ∃ owner', hs.foldl (fun (acc : Option (Array (Option Nat) × Nat)) h => do
   let (owner, k) ← acc
   let j ← SetTable.layClean.free m owner (SetTable.turns m) (SetTable.bits h % (m + 1)) (SetTable.bits h)
   pure (owner.setIfInBounds j (some k), k + 1)) (some (owner, pre.length)) = some (owner', pre.length + hs.length) ∧ Own m owner' (pre.length + hs.length) ∧ WO m all owner'
 | [], pre, owner, _, h, hw, _ => ⟨owner, rfl, h, hw⟩
 | x :: hs, pre, owner, ha, h, hw, hl => by
  rw [List.length_cons] at hl
  obtain ⟨j, hj, ho⟩ := own_free h (by lia)
  have hb : SetTable.bits x < 2 ^ 64 := (start_ok (SetTable.fresh 0 0 true) x).2.1
  obtain ⟨n, hn, e⟩ := lpn_reach (t := tm m) (p := { j := 0, more := 0, i := SetTable.bits x % (m + 1), perturb := SetTable.bits x, dummy := none }) hg hb hj
  obtain ⟨j', hf, ho'⟩ := free_some ho n (SetTable.turns m) _ (by unfold SetTable.turns; have : n ≤ 13 + m := hn; lia) e
  have hf' : SetTable.layClean.free m owner (SetTable.turns m) (SetTable.bits x % (m + 1)) (SetTable.bits x) = some j' := hf
  obtain ⟨nw, ew, hkw⟩ := free_way (m := m) (owner := owner) (SetTable.turns m) ((tm m).probeStart x) j' hf' rfl rfl
  have hs' : j' < owner.size := by
   apply Classical.byContradiction
   intro hn
   rw [Array.getD, dif_neg hn] at ho'
   cases ho'
  have grow : ∀ y, owner.getD y (some 0) ≠ none → (owner.setIfInBounds j' (some pre.length)).getD y (some 0) ≠ none := fun y hy => by
   by_cases ey : y = j'
   ·rw [ey] at hy
    exact absurd ho' hy
   ·rw [getD_set ey]
    exact hy
  have hw' : WO m all (owner.setIfInBounds j' (some pre.length)) := fun y k hyk => by
   by_cases ey : y = j'
   ·subst ey
    have hk : k = pre.length := by
     have : (owner.setIfInBounds y (some pre.length)).getD y none = some pre.length := by simp [Array.getD, hs']
     rw [this] at hyk
     exact (Option.some.inj hyk).symm
    subst hk
    refine ⟨x, by rw [ha]; simp, nw, ew, fun k hk => grow _ (hkw k hk)⟩
   ·rw [getD_set ey] at hyk
    obtain ⟨z, e1, e2⟩ := hw y k hyk
    exact ⟨z, e1, e2.mono fun y _ hy => grow y hy⟩
  have hlen : (pre ++ [x]).length = pre.length + 1 := by rw [List.length_append, List.length_singleton]
  obtain ⟨owner', h1, h2, h3⟩ := lay_fold2 hg all hs (pre ++ [x]) _ (by rw [ha]; simp) (by rw [hlen]; exact own_put h ho') hw' (by rw [hlen]; lia)
  rw [hlen] at h1 h2
  refine ⟨owner', ?_, by rw [List.length_cons, show pre.length + (hs.length + 1) = pre.length + 1 + hs.length by lia]; exact h2, h3⟩
  rw [List.foldl_cons]
  simp only [Option.bind_eq_bind, Option.bind_some, hf', Option.pure_def]
  rw [List.length_cons, show pre.length + (hs.length + 1) = pre.length + 1 + hs.length by lia]
  exact h1
theorem mem_live {m : Nat} {owner : Array (Option Nat)} {j k : Nat} : (j, k) ∈ liveOf m owner ↔ j ≤ m ∧ owner.getD j none = some k := by
 unfold liveOf
 rw [List.mem_filterMap]
 constructor
 ·rintro ⟨y, hy, e⟩
  cases ho : owner.getD y none with
  | none => rw [ho] at e; cases e
  | some v =>
   rw [ho] at e
   have e' : (y, v) = (j, k) := Option.some.inj e
   cases e'
   exact ⟨Nat.le_of_lt_succ (List.mem_range.mp hy), ho⟩
 ·rintro ⟨hj, ho⟩
  exact ⟨j, List.mem_range.mpr (Nat.lt_succ_of_le hj), by rw [ho]; rfl⟩
theorem laid_way {m : Nat} (hg : Good m) (fi mo : Nat) (led plain : Bool) (hs : Array Int) (hl : hs.size ≤ m) {t : SetTable} {order : Array Nat} (e : SetTable.laid m fi mo led plain hs = some (t, order)) :
  ∀ (i j k : Nat), t.place[i]? = some j → order[i]? = some k → ∃ x, hs[k]? = some x ∧ Way m (· ∈ t.place.toList) x j := by
 have h0 : Own m (Array.replicate (m + 1) none) 0 := by
  refine ⟨Array.size_replicate, ?_⟩
  have : liveOf m (Array.replicate (m + 1) none) = [] := by
   unfold liveOf
   rw [List.filterMap_eq_nil_iff]
   intro j hj
   have : (Array.replicate (m + 1) (none : Option Nat)).getD j none = none := by
    simp [Array.getD]
   rw [this]
   rfl
  rw [this]
  exact List.Perm.refl _
 have hw0 : WO m hs.toList (Array.replicate (m + 1) none) := fun j k hjk => by
  have : (Array.replicate (m + 1) (none : Option Nat)).getD j none = none := by simp [Array.getD]
  rw [this] at hjk
  cases hjk
 obtain ⟨owner, h1, h2, h3⟩ := lay_fold2 hg hs.toList hs.toList [] _ rfl h0 hw0 (by show 0 + hs.toList.length ≤ m; rw [Array.length_toList]; lia)
 have hc : SetTable.layClean m hs = some owner := by
  unfold SetTable.layClean
  rw [← Array.foldl_toList]
  have := congrArg (Option.map (·.1)) h1
  exact this
 have e2 : t = { mask := m, place := ((liveOf m owner).map (·.1)).toArray, dummies := #[], finger := fi, led := led, moves := mo, plain := plain } ∧ order = ((liveOf m owner).map (·.2)).toArray := by
  unfold SetTable.laid at e
  rw [hc] at e
  have e' := Option.some.inj e
  exact ⟨(congrArg Prod.fst e').symm, (congrArg Prod.snd e').symm⟩
 obtain ⟨rfl, rfl⟩ := e2
 intro i j k hj hk
 have hj' : (liveOf m owner)[i]?.map (·.1) = some j := by
  rw [← List.getElem?_map, ← hj]
  simp
 have hk' : (liveOf m owner)[i]?.map (·.2) = some k := by
  rw [← List.getElem?_map, ← hk]
  simp
 cases hp : (liveOf m owner)[i]? with
 | none => rw [hp] at hj'; cases hj'
 | some pr =>
  rw [hp] at hj' hk'
  have ej : pr.1 = j := Option.some.inj hj'
  have ek : pr.2 = k := Option.some.inj hk'
  have hm : (j, k) ∈ liveOf m owner := by
   rw [← ej, ← ek]
   exact List.mem_of_getElem? hp
  obtain ⟨x, e1, w⟩ := h3 j k (mem_live.mp hm).2
  refine ⟨x, by rw [← Array.getElem?_toList]; exact e1, w.mono fun y hy hu => ?_⟩
  show y ∈ ((liveOf m owner).map (·.1)).toArray.toList
  have hsz := h2.size
  have hlt : y < owner.size := by lia
  cases ho : owner.getD y none with
  | none =>
   exfalso
   apply hu
   simp only [Array.getD, hlt, dif_pos] at ho ⊢
   exact ho
  | some v => exact List.mem_map.mpr ⟨(y, v), mem_live.mpr ⟨hy, ho⟩, rfl⟩
end Stg
namespace Stg
open PySem Sts
theorem gm2 {t : SetTable} (hd : t.dummies = #[]) (ha : Nat → Int) (h : Int) : ∀ (n fuel : Nat) (p : SetTable.Probe), p.dummy = none → n < fuel → t.slot (advn t n p).j = .empty →
  (∃ k, k ≤ n ∧ SetTable.probe.go t ha h fuel p = some (.empty (advn t k p).j none) ∧ t.slot (advn t k p).j = .empty ∧ ∀ m, m < k → ∃ i, t.slot (advn t m p).j = .live i ∧ (ha i == h) = false) ∨
  ∃ k i, k < n ∧ SetTable.probe.go t ha h fuel p = some (.candidate (advn t k p).j i (advn t (k + 1) p)) ∧ t.slot (advn t k p).j = .live i ∧ ∀ m, m < k → ∃ i, t.slot (advn t m p).j = .live i ∧ (ha i == h) = false
 | n, 0, _, _, hn, _ => absurd hn (Nat.not_lt_zero _)
 | n, fuel + 1, p, hp, hn, he => by
  unfold SetTable.probe.go
  cases hs : t.slot p.j with
  | empty => exact .inl ⟨0, Nat.zero_le _, by rw [hp]; rfl, hs, fun m hm => absurd hm (Nat.not_lt_zero _)⟩
  | dummy =>
   exfalso
   unfold SetTable.slot at hs
   dsimp only at hs
   split at hs
   ·cases hs
   ·rw [hd] at hs
    exact SetTable.Slot.noConfusion hs
  | live i =>
   dsimp only
   cases n with
   | zero =>
    rw [show (advn t 0 p).j = p.j from rfl, hs] at he
    cases he
   | succ n =>
    by_cases hh : (ha i == h) = true
    ·rw [if_pos hh]
     exact .inr ⟨0, i, Nat.succ_pos _, rfl, hs, fun m hm => absurd hm (Nat.not_lt_zero _)⟩
    ·rw [if_neg hh]
     have hh' : (ha i == h) = false := by
      cases e : (ha i == h) with
      | true => exact absurd e hh
      | false => rfl
     have hdm : (t.advance p).dummy = none := by
      unfold SetTable.advance
      split
      ·exact hp
      ·exact hp
     have ext : ∀ k, (∀ m, m < k → ∃ i, t.slot (advn t m (t.advance p)).j = .live i ∧ (ha i == h) = false) → ∀ m, m < k + 1 → ∃ i, t.slot (advn t m p).j = .live i ∧ (ha i == h) = false := fun k hk m hm => by
      cases m with
      | zero => exact ⟨i, hs, hh'⟩
      | succ m => exact hk m (by lia)
     rcases gm2 hd ha h n fuel (t.advance p) hdm (by lia) he with ⟨k, hk, e, h1, h2⟩ | ⟨k, i', hk, e, h1, h2⟩
     ·exact .inl ⟨k + 1, by lia, e, h1, ext k h2⟩
     ·exact .inr ⟨k + 1, i', by lia, e, h1, ext k h2⟩
theorem slot_at {t : SetTable} {j i : Nat} (h : t.slot j = .live i) : t.place[i]? = some j := by
 unfold SetTable.slot at h
 dsimp only at h
 split at h
 ·rename_i h2
  cases h
  exact eq_of_beq h2
 ·split at h <;> cases h
section
variable {prog : Program} {w : World} {K : Type} [DecidableEq K] {knd : KeyKind prog w K} {A : Around} {E : Value → Shared → Prop} {s : Shared}
theorem key_inj {h : Heap} {x y : List K} {b : Addr} (h1 : IsTupleKey knd h x b) (h2 : IsTupleKey knd h y b) : x = y := by
 obtain ⟨o, its, n, e1, _, e3, e4⟩ := h1
 obtain ⟨o', its', n', f1, _, f3, f4⟩ := h2
 rw [e1] at f1
 cases f1
 rw [e3] at f3
 cases f3
 exact e4.inj f4
def Bears (knd : KeyKind prog w K) (h : Heap) (ks : List K) (e : Int × Value) : Prop := ∃ b, e.2 = .ref b ∧ IsTupleKey knd h ks b
structure TabS (knd : KeyKind prog w K) (h : Heap) (es : Array (Int × Value)) (t : SetTable) : Prop where
 tab : Tab es t
 ent : ∀ e ∈ es.toList, ∃ ks, Bears knd h ks e ∧ e.1 = tupleKeyHash knd ks
 way : ∀ (i : Nat) e j, es[i]? = some e → t.place[i]? = some j → Way t.mask (· ∈ t.place.toList) e.1 j
 one : es.toList.Pairwise fun e e' => ∀ ks, Bears knd h ks e → ¬ Bears knd h ks e'
theorem TabS.ents {h : Heap} {es : Array (Int × Value)} {t : SetTable} (x : TabS knd h es t) : Ents knd false h es := fun e he => by
 obtain ⟨ks, ⟨b, e1, e2⟩, _⟩ := x.ent e he
 exact ⟨ks, b, e1, e2⟩
theorem TabS.none {h : Heap} {es : Array (Int × Value)} {t : SetTable} (x : TabS knd h es t) {ks : List K} {N : Nat} (he : t.slot (jn t.mask (tupleKeyHash knd ks) N) = .empty)
  (hp : ∀ m, m < N → ∃ i e, t.slot (jn t.mask (tupleKeyHash knd ks) m) = .live i ∧ es[i]? = some e ∧ ¬ Bears knd h ks e) : ∀ e ∈ es.toList, ¬ Bears knd h ks e := fun e hem hb => by
 obtain ⟨i0, hi0⟩ := List.mem_iff_getElem?.mp hem
 rw [Array.getElem?_toList] at hi0
 have hlt := (Array.getElem?_eq_some_iff.mp hi0).1
 obtain ⟨ks', hb', hh⟩ := x.ent e hem
 have ek : ks' = ks := by
  obtain ⟨b, e1, e2⟩ := hb
  obtain ⟨b', f1, f2⟩ := hb'
  rw [e1] at f1
  cases f1
  exact key_inj f2 e2
 subst ek
 have hsz := x.tab.size
 have hj : t.place[i0]? = some t.place[i0] := Array.getElem?_eq_getElem (by lia)
 obtain ⟨n, en, hn⟩ := x.way i0 e _ hi0 hj
 rw [hh] at en hn
 have hmem : t.place[i0] ∈ t.place.toList := Array.getElem_mem_toList (by lia)
 rcases Nat.lt_trichotomy n N with hlt2 | heq | hgt
 ·obtain ⟨i, e', h1, h2, h3⟩ := hp n hlt2
  have h4 := slot_at h1
  rw [en] at h4
  have hi : i = i0 := by
   have l1 := (Array.getElem?_eq_some_iff.mp h4).1
   have e5 : t.place[i] = t.place[i0] := (Array.getElem?_eq_some_iff.mp h4).2
   rcases Nat.lt_trichotomy i i0 with z | z | z
   ·have := ris_get x.tab.ris z (by lia)
    lia
   ·exact z
   ·have := ris_get x.tab.ris z l1
    lia
  rw [hi, hi0] at h2
  cases h2
  exact h3 hb
 ·rw [← heq, en] at he
  exact empty_new x.tab.ris he hmem
 ·exact empty_new x.tab.ris he (hn N hgt)
set_option maxHeartbeats 1000000 in
theorem search2 {S a : Addr} {o : Obj} {es : Array (Int × Value)} {ep : Nat} {t : SetTable} {ks : List K} (hu : A.units < cLine) (ho : s.heap.get? S = some o) (hd : o.data = .set es ep t) (hT2 : TabS knd s.heap es t) (hk : IsTupleKey knd s.heap ks a) {Q : SetFound → Shared → Prop}
  (q0 : (∃ e ∈ es.toList, Bears knd s.heap ks e) → Q (.there none) s) (q1 : ∀ j, t.slot j = .empty → (∀ e ∈ es.toList, ¬ Bears knd s.heap ks e) → Way t.mask (· ∈ t.place.toList) (tupleKeyHash knd ks) j → Q (.free j false) s) :
  ∀ (fuel n c : Nat) (stand : Option SetTable.Probe), stand.getD (t.probeStart (tupleKeyHash knd ks)) = advn t c (t.probeStart (tupleKeyHash knd ks)) → (∀ m, m < c → ∃ i e, t.slot (jn t.mask (tupleKeyHash knd ks) m) = .live i ∧ es[i]? = some e ∧ ¬ Bears knd s.heap ks e) →
   t.slot (advn t n (stand.getD (t.probeStart (tupleKeyHash knd ks)))).j = .empty → n < 10 * SetTable.turns t.mask → n < fuel →
  wpAny (model prog w) A (setSearchFrom S (.ref a) (tupleKeyHash knd ks) true fuel stand) Q E s
 | 0, n, _, _, _, _, _, _, hn => absurd hn (Nat.not_lt_zero _)
 | fuel + 1, n, c, stand, hst0, hpass, he, hn1, hn => by
  have hT := hT2.tab
  have hE := hT2.ents
  have hdm : (stand.getD (t.probeStart (tupleKeyHash knd ks))).dummy = none := by rw [hst0]; exact advn_dummy t c _ (start_ok t _).2.2
  unfold setSearchFrom
  refine wpAny_bind (wpAny_setState_of ho hd hT.fits ?_)
  dsimp only
  have hgw : t.gaveWay = false := by
   unfold SetTable.gaveWay
   rw [good_odd hT.good]
   rfl
  rw [hgw, if_neg (by decide)]
  have hat : ∀ m, (advn t m (stand.getD (t.probeStart (tupleKeyHash knd ks)))).j = jn t.mask (tupleKeyHash knd ks) (c + m) := fun m => by rw [hst0, ← advn_add, jn_of]
  have live_es : ∀ {j i}, t.slot j = .live i → ∃ e, es[i]? = some e := fun {j i} hl => ⟨_, Array.getElem?_eq_getElem (by have := live_at hl; rw [hT.size] at this; exact this)⟩
  have hne : ∀ {i : Nat} {e : Int × Value}, es[i]? = some e → (((es[i]?.map (·.1)).getD 0 == tupleKeyHash knd ks) = false) → ¬ Bears knd s.heap ks e := fun {i e} hie hh hb => by
   rw [hie] at hh
   obtain ⟨ks', hb', e2⟩ := hT2.ent e (by rw [← Array.getElem?_toList] at hie; exact List.mem_of_getElem? hie)
   have ek : ks' = ks := by
    obtain ⟨b, f1, f2⟩ := hb
    obtain ⟨b', g1, g2⟩ := hb'
    rw [f1] at g1
    cases g1
    exact key_inj g2 f2
   rw [ek] at e2
   have hh' : (e.1 == tupleKeyHash knd ks) = false := hh
   rw [e2] at hh'
   simp at hh'
  generalize hst : stand.getD (t.probeStart (tupleKeyHash knd ks)) = p at hdm he hat hst0
  split
  ·rename_i met hm
   unfold SetTable.probe at hm
   rcases gm2 hT.none _ (tupleKeyHash knd ks) n _ p hdm hn1 he with ⟨k, hkn, e, hj, hpk⟩ | ⟨k, i, hkn, e, hl, hpk⟩
   ·rw [e] at hm
    cases hm
    rw [hat k] at hj
    have hall : ∀ m, m < c + k → ∃ i e, t.slot (jn t.mask (tupleKeyHash knd ks) m) = .live i ∧ es[i]? = some e ∧ ¬ Bears knd s.heap ks e := fun m hm => by
     by_cases hmc : m < c
     ·exact hpass m hmc
     ·obtain ⟨i, h1, h2⟩ := hpk (m - c) (by lia)
      rw [hat, show c + (m - c) = m by lia] at h1
      obtain ⟨e, he2⟩ := live_es h1
      exact ⟨i, e, h1, he2, hne he2 h2⟩
    refine wpAny_pure ?_
    rw [hat k]
    refine q1 _ hj (hT2.none hj hall) ⟨c + k, rfl, fun m hm => ?_⟩
    obtain ⟨i, _, h1, _⟩ := hall m hm
    have := slot_at h1
    rw [← Array.getElem?_toList] at this
    exact List.mem_of_getElem? this
   ·rw [e] at hm
    cases hm
    have hi := live_at hl
    rw [hT.size] at hi
    obtain ⟨ks', b, hb2, hb⟩ := hE es[i] (Array.getElem_mem_toList hi)
    have hmemi : es[i] ∈ es.toList := Array.getElem_mem_toList hi
    have hes : es[i]? = some (es[i].1, Value.ref b) := by rw [Array.getElem?_eq_getElem hi, ← hb2]
    have hsm : t.sameMemory t.moves t.mask = some true := by
     unfold SetTable.sameMemory
     rw [if_pos (beq_self_eq_true _)]
    have again : ks' ≠ ks → wpAny (model prog w) A (setSearchFrom S (.ref a) (tupleKeyHash knd ks) true fuel (some (advn t (k + 1) p))) Q E s := fun hneq => by
     refine search2 hu ho hd hT2 hk q0 q1 fuel (n - (k + 1)) (c + (k + 1)) (some (advn t (k + 1) p)) (by show advn t (k + 1) p = _; rw [hst0, ← advn_add]) (fun m hm => ?_) (by
      show t.slot (advn t (n - (k + 1)) (advn t (k + 1) p)).j = .empty
      rw [← advn_add, show k + 1 + (n - (k + 1)) = n by lia]
      exact he) (by lia) (by lia)
     by_cases hmc : m < c
     ·exact hpass m hmc
     by_cases hmk : m < c + k
     ·obtain ⟨i', h1, h2⟩ := hpk (m - c) (by lia)
      rw [hat, show c + (m - c) = m by lia] at h1
      obtain ⟨e, he2⟩ := live_es h1
      exact ⟨i', e, h1, he2, hne he2 h2⟩
     ·have em : m = c + k := by lia
      rw [hat k, ← em] at hl
      refine ⟨i, es[i], hl, Array.getElem?_eq_getElem hi, fun ⟨b', f1, f2⟩ => ?_⟩
      rw [hb2] at f1
      cases f1
      exact hneq (key_inj hb f2)
    dsimp only
    rw [hes]
    dsimp only
    have hst2 : ∀ v ∈ (Array.filter (fun x => x.fst == tupleKeyHash knd ks) es).toList.map (fun x => x.snd), ∃ ks b, v = Value.ref b ∧ IsTupleKey knd s.heap ks b := fun v hv => by
     obtain ⟨x, hx, rfl⟩ := List.mem_map.mp hv
     rw [Array.toList_filter] at hx
     exact hE x (List.mem_filter.mp hx).1
    cases hled : t.led with
    | false =>
     rw [if_pos (by decide)]
     refine wpAny_bind (unseen hk _ hst2 ?_)
     rw [if_neg (by decide)]
     refine wpAny_bind (wpAny_holding (wpAny_eqBool_tuple hu hb hk (wpAny_bind (wpAny_setState_of ho hd hT.fits ?_))))
     by_cases heq : ks' = ks
     ·rw [decide_eq_true heq, if_pos (by decide)]
      exact wpAny_pure (q0 ⟨es[i], hmemi, b, hb2, heq ▸ hb⟩)
     ·rw [decide_eq_false heq, if_neg (by decide)]
      dsimp only
      rw [hsm]
      dsimp only
      rw [if_pos rfl, hl]
      dsimp only
      rw [hes]
      dsimp only
      refine wpAny_bind (wpAny_isSame_ref_self (wpAny_bind (wpAny_pure ?_)))
      rw [if_pos rfl]
      dsimp only
      rw [if_neg (by decide)]
      exact again heq
    | true =>
     rw [if_neg (by decide)]
     refine wpAny_bind (wpAny_holding (wpAny_eqBool_tuple hu hb hk (wpAny_bind (wpAny_setState_of ho hd hT.fits ?_))))
     by_cases heq : ks' = ks
     ·rw [decide_eq_true heq, if_pos (by decide)]
      exact wpAny_pure (q0 ⟨es[i], hmemi, b, hb2, heq ▸ hb⟩)
     ·rw [decide_eq_false heq, if_neg (by decide)]
      dsimp only
      rw [hsm]
      dsimp only
      rw [if_pos rfl, hl]
      dsimp only
      rw [hes]
      dsimp only
      refine wpAny_bind (wpAny_isSame_ref_self (wpAny_bind (wpAny_pure ?_)))
      rw [if_pos rfl]
      dsimp only
      rw [if_neg (by decide)]
      exact again heq
  ·rename_i hm
   exfalso
   unfold SetTable.probe at hm
   rcases gm2 hT.none _ (tupleKeyHash knd ks) n _ p hdm hn1 he with ⟨k, hkn, e, hj, hpk⟩ | ⟨k, i, hkn, e, hl, hpk⟩
   ·exact hm _ e
   ·exact hm _ e
end
end Stg
namespace Stg
open PySem Sts
theorem ins_get {α : Type} (xs : Array α) {p : Nat} (hp : p ≤ xs.size) (x : α) (i : Nat) : (SetTable.insertAt xs p x)[i]? = if i < p then xs[i]? else if i = p then some x else xs[i - 1]? := by
 have hl : (xs.toList.take p).length = p := by rw [List.length_take, Array.length_toList]; lia
 rw [← Array.getElem?_toList, insertAt_list]
 by_cases h1 : i < p
 ·rw [if_pos h1, List.getElem?_append_left (by lia), List.getElem?_take_of_lt h1, Array.getElem?_toList]
 rw [if_neg h1, List.getElem?_append_right (by lia), hl]
 by_cases h2 : i = p
 ·rw [if_pos h2, h2, Nat.sub_self]
  rfl
 ·rw [if_neg h2, show i - p = (i - 1 - p) + 1 by lia, List.getElem?_cons_succ, List.getElem?_drop, show p + (i - 1 - p) = i - 1 by lia, Array.getElem?_toList]
section
variable {prog : Program} {w : World} {K : Type} [DecidableEq K] {knd : KeyKind prog w K} {A : Around} {E : Value → Shared → Prop} {s : Shared}
abbrev One (knd : KeyKind prog w K) (h : Heap) (l : List (Int × Value)) : Prop := l.Pairwise fun e e' => ∀ ks, Bears knd h ks e → ¬ Bears knd h ks e'
theorem One.perm {h : Heap} {l l' : List (Int × Value)} (x : One knd h l) (p : l'.Perm l) : One knd h l' := (p.pairwise_iff fun {a b} hab ks hb ha => hab ks ha hb).mpr x
theorem bears_but {h h' : Heap} {S : Addr} {o o' : Obj} {es es' : Array (Int × Value)} {ep ep' : Nat} {t t' : SetTable} (ho : h.get? S = some o) (hd : o.data = .set es ep t) (ho' : h'.get? S = some o') (hd' : o'.data = .set es' ep' t') (sb : Heap.SameBut S h h') (ks : List K) (e : Int × Value) : Bears knd h ks e ↔ Bears knd h' ks e := by
 constructor
 ·rintro ⟨b, e1, e2⟩
  exact ⟨b, e1, key_but ho hd sb e2⟩
 ·rintro ⟨b, e1, o2, items, n, h1, h2, h3, h4⟩
  have hne : b ≠ S := fun z => by
   rw [z, ho'] at h1
   cases h1
   rw [hd'] at h3
   cases h3
  exact ⟨b, e1, o2, items, n, (sb.2 b hne).symm.trans h1, h2, h3, h4⟩
def TSetS (knd : KeyKind prog w K) (h : Heap) (S : Addr) (vs : Value → Prop) (P : List K → Prop) (n : Nat) (led : Bool) : Prop :=
 ∃ o es ep t, h.get? S = some o ∧ o.ExactSet ∧ o.data = .set es ep t ∧ TabS knd h es t ∧ es.size ≤ n ∧ t.led = led ∧ (∀ e ∈ es.toList, vs e.2) ∧ ∀ ks, (∃ e ∈ es.toList, Bears knd h ks e) ↔ P ks
theorem fm_get {order : Array Nat} {es : Array (Int × Value)} (hall : ∀ k ∈ order.toList, k < es.size) (i : Nat) : (order.filterMap (es[·]?))[i]? = order[i]?.bind (es[·]?) := by
 rw [← Array.getElem?_toList, Array.toList_filterMap, ← Array.getElem?_toList]
 generalize order.toList = l at hall
 induction l generalizing i with
 | nil => simp
 | cons k l ih =>
  have hk := hall k (List.mem_cons_self ..)
  rw [List.filterMap_cons_some (b := es[k]) (Array.getElem?_eq_getElem hk)]
  cases i with
  | zero =>
   rw [List.getElem?_cons_zero, List.getElem?_cons_zero]
   exact (Array.getElem?_eq_getElem hk).symm
  | succ i =>
   rw [List.getElem?_cons_succ, List.getElem?_cons_succ]
   exact ih i fun z hz => hall z (List.mem_cons_of_mem _ hz)
set_option maxHeartbeats 1000000 in
theorem relay2 {S : Addr} {o : Obj} {es : Array (Int × Value)} {ep : Nat} {t : SetTable} {Q : Unit → Shared → Prop} (ho : s.heap.get? S = some o) (hd : o.data = .set es ep t) (hf : t.fits es.size = true) (h1 : 1 ≤ es.size) (hn : es.size ≤ 1000)
  (h : ∀ (es' : Array (Int × Value)) (t' : SetTable) (h' : Heap), es'.toList.Perm es.toList → Tab es' t' → (∀ (i : Nat) e j, es'[i]? = some e → t'.place[i]? = some j → Way t'.mask (· ∈ t'.place.toList) e.1 j) → t'.led = t.led → h'.get? S = some { o with data := .set es' (ep + 1) t' } → Heap.SameBut S s.heap h' → Q () { s with heap := h' }) :
  wpAny (model prog w) A (setRelay S (SetTable.grown es.size)) Q E s := by
 have hgr : SetTable.grown es.size = es.size * 4 := by unfold SetTable.grown; rw [if_neg (by lia)]
 rw [hgr]
 obtain ⟨g1, g2, g3⟩ := above (n := es.size * 4) (by lia)
 unfold setRelay
 refine wpAny_bind (wpAny_setState_of ho hd hf ?_)
 dsimp only
 rw [if_neg (by rw [sizeLine_eq]; lia)]
 obtain ⟨t', order, e, m1, m2, m3, m4, m5, m6, m7, m8⟩ := laid_ok g1 t.finger (t.movedTo (SetTable.sizeAbove (es.size * 4) - 1)) t.led t.plain (es.map (·.1)) (by rw [Array.size_map]; lia)
 have hway := laid_way g1 t.finger (t.movedTo (SetTable.sizeAbove (es.size * 4) - 1)) t.led t.plain (es.map (·.1)) (by rw [Array.size_map]; lia) e
 rw [Array.size_map] at m3 m4
 have e2 : t.relaid (es.map (·.1)) (es.size * 4) = some (t', order) := e
 rw [e2]
 have hperm : (order.filterMap (es[·]?)).toList.Perm es.toList := by
  rw [Array.toList_filterMap]
  exact (m4.filterMap _).trans (List.Perm.of_eq (filterMap_getElem?_range es))
 have hsz : (order.filterMap (es[·]?)).size = es.size := by
  rw [← Array.length_toList, hperm.length_eq, Array.length_toList]
 have hw2 : ∀ (i : Nat) e j, (order.filterMap (es[·]?))[i]? = some e → t'.place[i]? = some j → Way t'.mask (· ∈ t'.place.toList) e.1 j := fun i e j hi hj => by
  rw [fm_get (fun k hk => List.mem_range.mp (m4.mem_iff.mp hk))] at hi
  cases ho2 : order[i]? with
  | none => rw [ho2] at hi; cases hi
  | some k =>
   rw [ho2] at hi
   have hi' : es[k]? = some e := hi
   obtain ⟨x, hx, hwx⟩ := hway i j k hj ho2
   rw [Array.getElem?_map, hi'] at hx
   have ex : e.1 = x := Option.some.inj hx
   rw [m1, ex]
   exact hwx
 refine wpAny_bind (wpAny_of_eq (a := (order.filterMap (es[·]?), t')) ?_ ?_)
 ·change (ite (((order.filterMap (es[·]?)).size != es.size) = true) _ _ : Sem (Array (Int × Value) × SetTable)) = _
  rw [if_neg (by rw [hsz]; simp)]
 dsimp only
 refine wpAny_storeSet_of ho hd (h _ t' _ hperm ⟨by rw [m3, hsz], m2, by rw [m1]; exact g1, ?_, m8⟩ hw2 m5 (Sts.stored ho hd _ _) (Heap.SameBut.update ..)) (by rw [hsz, sizeLine_eq]; lia)
 unfold SetTable.fill
 rw [m1, m2, m3]
 show (es.size + 0) * 5 < _
 lia
set_option maxHeartbeats 2000000 in
theorem addTail2 {S a : Addr} {o : Obj} {es : Array (Int × Value)} {ep : Nat} {t t2 : SetTable} {vs : Value → Prop} {P : List K → Prop} {n j : Nat} {led : Bool} {ks : List K} {Q : Bool → Shared → Prop} (ho : s.heap.get? S = some o) (hx : o.ExactSet) (hd : o.data = .set es ep t) (hTS : TabS knd s.heap es t) (hsz : es.size ≤ n) (hled : t.led = led) (hvs : ∀ e ∈ es.toList, vs e.2)
  (hP : ∀ ks, (∃ e ∈ es.toList, Bears knd s.heap ks e) ↔ P ks) (hn : n ≤ 900) (hk : IsTupleKey knd s.heap ks a) (hv : vs (.ref a)) (hj : t.slot j = .empty) (hnone : ∀ e ∈ es.toList, ¬ Bears knd s.heap ks e) (hway : Way t.mask (· ∈ t.place.toList) (tupleKeyHash knd ks) j) (e1 : t2.mask = t.mask) (e2 : t2.place = SetTable.insertAt t.place (SetTable.below t.place j) j) (e3 : t2.dummies = #[]) (e4 : t2.led = t.led)
  (q : ∀ b h', Heap.SameBut S s.heap h' → TSetS knd h' S vs (fun k => P k ∨ k = ks) (n + 1) led → Q b { s with heap := h' }) :
  wpAny (model prog w) A (do
   storeSet S (SetTable.insertAt es (SetTable.below t.place j) (tupleKeyHash knd ks, Value.ref a)) t2
   if (!false && t2.tooFull) = true then do
     setRelay S (SetTable.grown (es.size + 1))
     pure true
    else pure true) Q E s := by
 have hT := hTS.tab
 have hr := hT.room
 have hfe := hT.fill_eq
 have hbl := (below_spec hT.ris j).1
 have hins := SetTable.insertAt_perm es (SetTable.below t.place j) (tupleKeyHash knd ks, Value.ref a)
 have hpl : (SetTable.insertAt es (SetTable.below t.place j) (tupleKeyHash knd ks, Value.ref a)).toList.Perm ((tupleKeyHash knd ks, Value.ref a) :: es.toList) := by
  refine hins.trans ?_
  rw [Array.toList_push]
  exact List.perm_append_comm (l₁ := es.toList) (l₂ := [_])
 have hs1 : (SetTable.insertAt es (SetTable.below t.place j) (tupleKeyHash knd ks, Value.ref a)).size = es.size + 1 := by
  rw [← Array.length_toList, hins.length_eq, Array.length_toList, Array.size_push]
 have hp1 : t2.place.size = es.size + 1 := by
  have := (SetTable.insertAt_perm t.place (SetTable.below t.place j) j).length_eq
  rw [Array.length_toList, Array.length_toList, Array.size_push, hT.size] at this
  rw [e2]
  exact this
 have hfill : t2.fill = es.size + 1 := by
  unfold SetTable.fill
  rw [hp1, e3]
  rfl
 have hris : Ris t2.place := by
  rw [e2]
  exact ris_insert hT.ris (empty_new hT.ris hj)
 have hgrow : ∀ y, y ∈ t.place.toList → y ∈ t2.place.toList := fun y hy => by
  rw [e2]
  refine (SetTable.insertAt_perm t.place (SetTable.below t.place j) j).mem_iff.mpr ?_
  rw [Array.toList_push]
  exact List.mem_append_left _ hy
 have hway2 : ∀ (i : Nat) e y, (SetTable.insertAt es (SetTable.below t.place j) (tupleKeyHash knd ks, Value.ref a))[i]? = some e → t2.place[i]? = some y → Way t2.mask (· ∈ t2.place.toList) e.1 y := fun i e y hi hy => by
  rw [ins_get es (by rw [← hT.size]; exact hbl)] at hi
  rw [e2, ins_get t.place hbl] at hy
  rw [e1]
  by_cases c1 : i < SetTable.below t.place j
  ·rw [if_pos c1] at hi hy
   exact (hTS.way i e y hi hy).mono fun z _ hz => hgrow z hz
  rw [if_neg c1] at hi hy
  by_cases c2 : i = SetTable.below t.place j
  ·rw [if_pos c2] at hi hy
   cases hi
   cases hy
   exact hway.mono fun z _ hz => hgrow z hz
  ·rw [if_neg c2] at hi hy
   exact (hTS.way (i - 1) e y hi hy).mono fun z _ hz => hgrow z hz
 generalize SetTable.insertAt es (SetTable.below t.place j) (tupleKeyHash knd ks, Value.ref a) = es1 at hpl hs1 hway2
 have hself : Bears knd s.heap ks (tupleKeyHash knd ks, Value.ref a) := ⟨a, rfl, hk⟩
 have hone1 : One knd s.heap es1.toList := by
  refine One.perm (List.pairwise_cons.mpr ⟨fun e he ks' hb1 hb2 => ?_, hTS.one⟩) hpl
  obtain ⟨b, f1, f2⟩ := hb1
  cases f1
  have : ks' = ks := key_inj f2 hk
  subst this
  exact hnone e he hb2
 have hent1 : ∀ e ∈ es1.toList, ∃ ks, Bears knd s.heap ks e ∧ e.1 = tupleKeyHash knd ks := fun e he => by
  rcases List.mem_cons.mp (hpl.mem_iff.mp he) with rfl | he
  ·exact ⟨ks, hself, rfl⟩
  ·exact hTS.ent e he
 have hvs1 : ∀ e ∈ es1.toList, vs e.2 := fun e he => by
  rcases List.mem_cons.mp (hpl.mem_iff.mp he) with rfl | he
  ·exact hv
  ·exact hvs e he
 have hP1 : ∀ k, (∃ e ∈ es1.toList, Bears knd s.heap k e) ↔ (P k ∨ k = ks) := fun k => by
  constructor
  ·rintro ⟨e, he, hb⟩
   rcases List.mem_cons.mp (hpl.mem_iff.mp he) with rfl | he
   ·obtain ⟨b, f1, f2⟩ := hb
    cases f1
    exact .inr (key_inj f2 hk)
   ·exact .inl ((hP k).mp ⟨e, he, hb⟩)
  ·rintro (hk' | rfl)
   ·obtain ⟨e, he, hb⟩ := (hP k).mpr hk'
    exact ⟨e, hpl.mem_iff.mpr (List.mem_cons_of_mem _ he), hb⟩
   ·exact ⟨_, hpl.mem_iff.mpr (List.mem_cons_self ..), hself⟩
 have fin : ∀ (h' : Heap) (o' : Obj) (es' : Array (Int × Value)) (ep' : Nat) (t' : SetTable), Heap.SameBut S s.heap h' → h'.get? S = some o' → o'.ExactSet → o'.data = .set es' ep' t' → es'.toList.Perm es1.toList → Tab es' t' → (∀ (i : Nat) e j, es'[i]? = some e → t'.place[i]? = some j → Way t'.mask (· ∈ t'.place.toList) e.1 j) → t'.led = led → TSetS knd h' S vs (fun k => P k ∨ k = ks) (n + 1) led := fun h' o' es' ep' t' sb ho' hx' hd' hp hT' hw' hl' => by
  have biff := fun k e => bears_but (knd := knd) ho hd ho' hd' sb k e
  have hl : es'.size = es1.size := by rw [← Array.length_toList, hp.length_eq, Array.length_toList]
  refine ⟨o', es', ep', t', ho', hx', hd', ⟨hT', fun e he => ?_, hw', ?_⟩, by lia, hl', fun e he => hvs1 e (hp.mem_iff.mp he), fun k => ?_⟩
  ·obtain ⟨k, hb, e5⟩ := hent1 e (hp.mem_iff.mp he)
   exact ⟨k, (biff k e).mp hb, e5⟩
  ·refine (hone1.perm hp).imp fun {x y} hxy k h1 h2 => hxy k ((biff k x).mpr h1) ((biff k y).mpr h2)
  ·refine Iff.trans ?_ (hP1 k)
   constructor
   ·rintro ⟨e, he, hb⟩
    exact ⟨e, hp.mem_iff.mp he, (biff k e).mpr hb⟩
   ·rintro ⟨e, he, hb⟩
    exact ⟨e, hp.mem_iff.mpr he, (biff k e).mp hb⟩
 refine wpAny_bind (wpAny_storeSet_of ho hd ?_ (by rw [hs1, sizeLine_eq]; lia))
 have ho1 := Sts.stored ho hd es1 t2
 have sb1 : Heap.SameBut S s.heap (s.heap.update S (Obj.putSet es1 t2)) := Heap.SameBut.update ..
 generalize s.heap.update S (Obj.putSet es1 t2) = h1 at ho1 sb1
 have hfits : t2.fits es1.size = true := by
  unfold SetTable.fits
  rw [hp1, hs1, hfill, e1]
  simp
  lia
 by_cases hfull : t2.tooFull = true
 ·rw [hfull, if_pos (by decide), ← hs1]
  refine wpAny_bind (relay2 (s := { s with heap := h1 }) ho1 rfl hfits (by lia) (by lia) fun es' t' h' hp hT' hw' hl' ho' sb' => wpAny_pure ?_)
  exact q true h' (sb1.trans sb') (fin h' _ es' _ t' (sb1.trans sb') ho' hx rfl hp hT' hw' (by rw [hl', e4, hled]))
 ·have hnf : t2.tooFull = false := by
   cases hc : t2.tooFull with
   | true => exact absurd hc hfull
   | false => rfl
  rw [hnf, if_neg (by decide)]
  refine wpAny_pure (q true h1 sb1 (fin h1 _ es1 _ t2 sb1 ho1 hx rfl (List.Perm.refl _) ⟨by rw [hp1, hs1], e3, by rw [e1]; exact hT.good, ?_, hris⟩ hway2 (by rw [e4, hled])))
  unfold SetTable.tooFull at hnf
  have := of_decide_eq_false hnf
  lia
set_option maxHeartbeats 2000000 in
theorem addHashed2 {S a : Addr} {vs : Value → Prop} {P : List K → Prop} {n : Nat} {led : Bool} {ks : List K} {Q : Bool → Shared → Prop} (hu : A.units < cLine) (hS : TSetS knd s.heap S vs P n led) (hn : n ≤ 900) (hk : IsTupleKey knd s.heap ks a) (hv : vs (.ref a))
  (q : ∀ b h', Heap.SameBut S s.heap h' → TSetS knd h' S vs (fun k => P k ∨ k = ks) (n + 1) led → Q b { s with heap := h' }) : wpAny (model prog w) A (setAddHashed S (.ref a) (tupleKeyHash knd ks)) Q E s := by
 obtain ⟨o, es, ep, t, ho, hx, hd, hTS, hsz, hled, hvs, hP⟩ := hS
 have hT := hTS.tab
 have hr := hT.room
 have hfe := hT.fill_eq
 unfold setAddHashed
 refine wpAny_holding ?_
 unfold setAddHashedIn
 refine wpAny_bind (wpAny_setState_of ho hd hT.fits ?_)
 have hbs : byScan (.ref a) es = false := rfl
 dsimp only
 rw [hbs, if_neg (by decide)]
 obtain ⟨m, hm1, hm2⟩ := start_reach hT (tupleKeyHash knd ks)
 have hsm := turns_small hT.good
 unfold setSearch
 refine wpAny_bind (search2 (knd := knd) hu ho hd hTS hk (fun hex => ?_) (fun j hj hnone hway => ?_) 100000 m 0 none rfl (fun m hm => absurd hm (Nat.not_lt_zero _)) hm2 hm1 (by lia))
 ·refine wpAny_pure (q false s.heap (Heap.SameBut.refl ..) ⟨o, es, ep, t, ho, hx, hd, hTS, by lia, hled, hvs, fun k => (hP k).trans ⟨.inl, fun z => ?_⟩⟩)
  rcases z with z | rfl
  ·exact z
  ·exact (hP k).mp hex
 dsimp only
 refine wpAny_bind (wpAny_setState_of ho hd hT.fits ?_)
 dsimp only
 have hhas : SetTable.has t.dummies j = false := by rw [hT.none]; rfl
 have hput : t.put j = ({ t with place := SetTable.insertAt t.place (SetTable.below t.place j) j }, SetTable.below t.place j) := by
  unfold SetTable.put
  rw [hhas]
  rfl
 rw [hput]
 dsimp only
 cases hpl : t.plain with
 | true =>
  rw [if_pos rfl]
  refine wpAny_bind (hbv_tuple hk fun b => ?_)
  cases b with
  | true =>
   rw [if_pos rfl]
   exact addTail2 ho hx hd hTS hsz hled hvs hP hn hk hv hj hnone hway rfl rfl hT.none rfl q
  | false =>
   rw [if_neg (by decide)]
   exact addTail2 ho hx hd hTS hsz hled hvs hP hn hk hv hj hnone hway rfl rfl hT.none rfl q
 | false =>
  rw [if_neg (by decide)]
  refine wpAny_bind (wpAny_pure ?_)
  rw [if_pos rfl]
  exact addTail2 ho hx hd hTS hsz hled hvs hP hn hk hv hj hnone hway rfl rfl hT.none rfl q
theorem add2 {S a : Addr} {vs : Value → Prop} {P : List K → Prop} {n : Nat} {led : Bool} {ks : List K} {Q : Bool → Shared → Prop} (hu : A.units < cLine) (hS : TSetS knd s.heap S vs P n led) (hn : n ≤ 900) (hk : IsTupleKey knd s.heap ks a) (hv : vs (.ref a))
  (q : ∀ b h' tk, s.toks ≤ tk → Heap.SameBut S s.heap h' → TSetS knd h' S vs (fun k => P k ∨ k = ks) (n + 1) led → Q b { s with heap := h', toks := tk }) : wpAny (model prog w) A (setAdd S (.ref a)) Q E s := by
 unfold setAdd
 refine wpAny_holding (wpAny_bind (wpAny_pyHash_tuple hu hk ?_))
 exact addHashed2 (s := { s with toks := _ }) hu hS hn hk hv fun b h' sb hS' => q b h' _ (Nat.le_add_right _ _) sb hS'
end
end Stg
namespace Srd
open PySem PyProof.Rows Srt PySem.W
structure Sto {α : Type} (lt : α → α → Bool) : Prop where
 irr : ∀ a, lt a a = false
 trans : ∀ a b c, lt a b = true → lt b c = true → lt a c = true
 tri : ∀ a b, lt a b = false → lt b a = false → a = b
section
variable {α β : Type} {lt : α → α → Bool} {lt2 : β → β → Bool}
theorem Sto.asym (o : Sto lt) {a b : α} (h : lt a b = true) : lt b a = false := by
 cases e : lt b a with
 | false => rfl
 | true =>
  have := o.trans a b a h e
  rw [o.irr] at this
  cases this
theorem Sto.neg (o : Sto lt) {x y z : α} (h1 : lt x y = false) (h2 : lt y z = false) : lt x z = false := by
 cases e : lt x z with
 | false => rfl
 | true =>
  cases e2 : lt y x with
  | true => rw [o.trans y x z e2 e] at h2; cases h2
  | false =>
   have := o.tri x y h1 e2
   subst this
   rw [e] at h2
   cases h2
theorem Sto.swo (o : Sto lt) (f : Value → α) : Swo fun x y => lt (f x.1) (f y.1) := ⟨fun _ _ h => o.asym h, fun _ _ _ h1 h2 => o.neg h1 h2⟩
def lexB [DecidableEq α] (lt : α → α → Bool) (lt2 : β → β → Bool) (x y : α × β) : Bool := lt x.1 y.1 || (decide (x.1 = y.1) && lt2 x.2 y.2)
theorem Sto.lex [DecidableEq α] (o : Sto lt) (o2 : Sto lt2) : Sto (lexB lt lt2) where
 irr := fun a => by unfold lexB; rw [o.irr, o2.irr]; simp
 trans := fun a b c h1 h2 => by
  unfold lexB at *
  simp only [Bool.or_eq_true, Bool.and_eq_true, decide_eq_true_eq] at *
  rcases h1 with h1 | ⟨e1, h1⟩
  ·rcases h2 with h2 | ⟨e2, h2⟩
   ·exact .inl (o.trans _ _ _ h1 h2)
   ·exact .inl (e2 ▸ h1)
  ·rcases h2 with h2 | ⟨e2, h2⟩
   ·exact .inl (e1.symm ▸ h2)
   ·exact .inr ⟨e1.trans e2, o2.trans _ _ _ h1 h2⟩
 tri := fun a b h1 h2 => by
  unfold lexB at *
  simp only [Bool.or_eq_false_iff, Bool.and_eq_false_imp, decide_eq_true_eq] at *
  have e1 := o.tri _ _ h1.1 h2.1
  have e2 := o2.tri _ _ (h1.2 e1) (h2.2 e1.symm)
  exact Prod.ext e1 e2
theorem sto_int : Sto fun a b : Int => decide (a < b) := ⟨fun a => by simp, fun a b c h1 h2 => by simp only [decide_eq_true_eq] at *; lia, fun a b h1 h2 => by simp only [decide_eq_false_iff_not] at *; lia⟩
theorem list_lt_tri : ∀ a b : List Nat, ¬ a < b → ¬ b < a → a = b
 | [], [], _, _ => rfl
 | [], b :: bs, h, _ => absurd (List.nil_lt_cons b bs) h
 | a :: as, [], _, h => absurd (List.nil_lt_cons a as) h
 | a :: as, b :: bs, h1, h2 => by
  rw [List.cons_lt_cons_iff] at h1 h2
  have e : a = b := by
   rcases Nat.lt_trichotomy a b with z | z | z
   ·exact absurd (.inl z) h1
   ·exact z
   ·exact absurd (.inl z) h2
  subst e
  rw [list_lt_tri as bs (fun z => h1 (.inr ⟨rfl, z⟩)) (fun z => h2 (.inr ⟨rfl, z⟩))]
theorem list_lt_irr : ∀ a : List Nat, ¬ a < a
 | [], h => by cases h
 | a :: as, h => by
  rw [List.cons_lt_cons_iff] at h
  rcases h with h | ⟨_, h⟩
  ·lia
  ·exact list_lt_irr as h
theorem list_lt_trans : ∀ a b c : List Nat, a < b → b < c → a < c
 | [], _, [], _, h2 => by cases h2
 | [], _, c :: cs, _, _ => List.nil_lt_cons c cs
 | a :: as, [], _, h1, _ => by cases h1
 | a :: as, b :: bs, [], _, h2 => by cases h2
 | a :: as, b :: bs, c :: cs, h1, h2 => by
  rw [List.cons_lt_cons_iff] at *
  rcases h1 with h1 | ⟨e1, h1⟩
  ·rcases h2 with h2 | ⟨e2, h2⟩
   ·exact .inl (by lia)
   ·exact .inl (by lia)
  ·rcases h2 with h2 | ⟨e2, h2⟩
   ·exact .inl (by lia)
   ·exact .inr ⟨by lia, list_lt_trans as bs cs h1 h2⟩
theorem str_ext {x y : Str} (h : x.cps.toList = y.cps.toList) : x = y := by
 cases x
 cases y
 congr 1
 exact Array.toList_inj.mp h
theorem sto_str : Sto fun a b : Str => decide (a.cps.toList < b.cps.toList) := ⟨fun a => decide_eq_false (list_lt_irr _), fun a b c h1 h2 => decide_eq_true (list_lt_trans _ _ _ (of_decide_eq_true h1) (of_decide_eq_true h2)), fun a b h1 h2 => str_ext (list_lt_tri _ _ (of_decide_eq_false h1) (of_decide_eq_false h2))⟩
end
abbrev Qd := Int × Str × Int × Int
def qLt : Qd → Qd → Bool := lexB (fun a b : Int => decide (a < b)) (lexB (fun a b : Str => decide (a.cps.toList < b.cps.toList)) (lexB (fun a b : Int => decide (a < b)) fun a b : Int => decide (a < b)))
theorem qLt_sto : Sto qLt := sto_int.lex (sto_str.lex (sto_int.lex sto_int))
def IsQ (h : Heap) (v : Value) (q : Qd) : Prop := ∃ a o t u t2 t3 n, v = .ref a ∧ h.get? a = some o ∧ o.cls = .type "tuple" ∧ o.data = .seq #[.int q.1 t, .str q.2.1 u, .int q.2.2.1 t2, .int q.2.2.2 t3] n
theorem IsQ.inj {h : Heap} {v : Value} {q q' : Qd} (x : IsQ h v q) (y : IsQ h v q') : q = q' := by
 obtain ⟨a, o, t, u, t2, t3, n, rfl, h1, _, h3⟩ := x
 obtain ⟨a', o', t', u', t2', t3', n', e, h1', _, h3'⟩ := y
 cases e
 rw [h1] at h1'
 cases h1'
 rw [h3] at h3'
 obtain ⟨q1, q2, q3, q4⟩ := q
 obtain ⟨r1, r2, r3, r4⟩ := q'
 simp only [Data.seq.injEq, Array.mk.injEq, List.cons.injEq, Value.int.injEq, Value.str.injEq, and_true] at h3'
 obtain ⟨⟨⟨e1, _⟩, ⟨e2, _⟩, ⟨e3, _⟩, ⟨e4, _⟩⟩, _⟩ := h3'
 rw [e1, e2, e3, e4]
theorem IsQ.keep {h h' : Heap} {v : Value} {q : Qd} (x : IsQ h v q) (k : ∀ b o, h.get? b = some o → h'.get? b = some o) : IsQ h' v q := by
 obtain ⟨a, o, t, u, t2, t3, n, rfl, h1, r⟩ := x
 exact ⟨a, o, t, u, t2, t3, n, rfl, k _ _ h1, r⟩
open Classical in
noncomputable def kq (h : Heap) (v : Value) : Qd := if x : ∃ q, IsQ h v q then x.choose else (0, Str.empty, 0, 0)
theorem kq_of {h : Heap} {v : Value} {q : Qd} (x : IsQ h v q) : kq h v = q := by
 unfold kq
 rw [dif_pos ⟨q, x⟩]
 exact (Exists.choose_spec (⟨q, x⟩ : ∃ q, IsQ h v q)).inj x
section
variable {prog : Program} {w : World} {A : Around} {s : Shared}
theorem qs_tups {h : Heap} : ∀ {vs : List Value}, (∀ v ∈ vs, ∃ q, IsQ h v q) → ∃ fs, KatTups h vs fs ∧ fs.length = vs.length ∧ ∀ f ∈ fs, ∃ i t, f = .int i t
 | [], _ => ⟨[], trivial, rfl, fun _ h => nomatch h⟩
 | v :: vs, hv => by
  obtain ⟨q, a, o, t, u, t2, t3, n, rfl, ho, hc, hd⟩ := hv v (List.mem_cons_self ..)
  obtain ⟨fs, kt, hl, hf⟩ := qs_tups (vs := vs) fun x hx => hv x (List.mem_cons_of_mem _ hx)
  refine ⟨.int q.1 t :: fs, KatTups.cons ho hc hd rfl kt, by simp [hl], fun f hm => ?_⟩
  rcases List.mem_cons.mp hm with rfl | hm
  ·exact ⟨_, t, rfl⟩
  ·exact hf f hm
theorem qs_sortableL {h0 : Heap} {vs : List Value} (hv : ∀ v ∈ vs, ∃ q, IsQ h0 v q) (k0 : ∀ b o, h0.get? b = some o → s.heap.get? b = some o) (h2 : 2 ≤ vs.length) : SortableL prog w A (fun u v => qLt (kq h0 u) (kq h0 v)) vs s := by
 have hv' : ∀ v ∈ vs, ∃ q, IsQ s.heap v q := fun v hm => let ⟨q, x⟩ := hv v hm; ⟨q, x.keep k0⟩
 obtain ⟨fs, k, hl, hf⟩ := qs_tups hv'
 refine ⟨tuples' true, fun Q E hq => ?_, ?_⟩
 ·refine kat_kind (T := .type "int") k (by lia) (fun v hm => ?_) rfl hq
  obtain ⟨i, t, rfl⟩ := hf v hm
  exact Looks.of_pure rfl
 ·intro x y hx hy E
  rw [pairsOf_toList] at hx hy
  obtain ⟨q, xq⟩ := hv _ (mem_zip_self hx).2
  obtain ⟨q', yq⟩ := hv _ (mem_zip_self hy).2
  have e1 : (fun x y : Keyed => qLt (kq h0 x.1) (kq h0 y.1)) x y = qLt q q' := by
   show qLt (kq h0 x.1) (kq h0 y.1) = _
   have hx1 := (mem_zip_self hx)
   have hy1 := (mem_zip_self hy)
   rw [kq_of xq, kq_of yq]
  rw [e1]
  obtain ⟨a, o, t, u, t2, t3, n, e, ho, hc, hd⟩ := xq.keep k0
  obtain ⟨a', o', t', u', t2', t3', n', e', ho', hc', hd'⟩ := yq.keep k0
  rw [e, e']
  obtain ⟨q1, q2, q3, q4⟩ := q
  obtain ⟨r1, r2, r3, r4⟩ := q'
  refine kat_lt ho hd ho' hd' ?_
  have unf : qLt (q1, q2, q3, q4) (r1, r2, r3, r4) = (decide (q1 < r1) || (decide (q1 = r1) && (decide (q2.cps.toList < r2.cps.toList) || (decide (q2 = r2) && (decide (q3 < r3) || (decide (q3 = r3) && decide (q4 < r4))))))) := rfl
  rw [unf]
  refine kat_cons (wpAny_eqBool_int (kat_go (fun c1 => kat_yes ?_) (fun c1 => kat_no ?_)))
  ·have c1' : q1 = r1 := eq_of_beq c1
   refine kat_cons (wpAny_eqBool_str (kat_go (fun c2 => kat_yes ?_) (fun c2 => kat_no ?_)))
   ·have c2' : q2 = r2 := of_decide_eq_true c2
    refine kat_cons (wpAny_eqBool_int (kat_go (fun c3 => kat_yes ?_) (fun c3 => kat_no ?_)))
    ·have c3' : q3 = r3 := eq_of_beq c3
     refine kat_cons (wpAny_eqBool_int (kat_go (fun c4 => kat_yes (kat_nil ⟨rfl, ?_⟩)) (fun c4 => kat_no ?_)))
     ·have c4' : q4 = r4 := eq_of_beq c4
      subst c1' c2' c3' c4'
      rw [decide_eq_false (list_lt_irr q2.cps.toList)]
      simp
     ·refine kat_one _ _ (wpAny_lt_int ⟨rfl, ?_⟩)
      subst c1' c2' c3'
      rw [decide_eq_false (list_lt_irr q2.cps.toList)]
      simp
    ·refine kat_one _ _ (wpAny_lt_int ⟨rfl, ?_⟩)
     have c3' : ¬ q3 = r3 := fun z => by rw [z] at c3; simp at c3
     subst c1' c2'
     rw [decide_eq_false (list_lt_irr q2.cps.toList)]
     simp [c3']
   ·refine kat_one _ _ (PyProof.Rows.lt_str ⟨rfl, ?_⟩)
    have c2' : ¬ q2 = r2 := of_decide_eq_false c2
    subst c1'
    simp [c2']
  ·refine oneLt_int ⟨rfl, ?_⟩
   have c1' : ¬ q1 = r1 := fun z => by rw [z] at c1; simp at c1
   simp [c1']
end
end Srd
namespace Stg
open PySem PyProof.Rows PySem.W Sts
section
variable {prog : Program} {w : World} {A : Around} {E : Value → Shared → Prop} {s : Shared}
theorem range_map (es : Array (Int × Value)) : (List.range es.size).map (fun j => (es.getD j (0, .none)).2) = es.toList.map (·.2) := by
 refine List.ext_getElem? fun i => ?_
 rw [List.getElem?_map, List.getElem?_map]
 by_cases hi : i < es.size
 ·rw [List.getElem?_range hi, Array.getElem?_toList, Array.getElem?_eq_getElem hi]
  simp [Array.getD, hi]
 ·rw [List.getElem?_eq_none (by rw [List.length_range]; lia), List.getElem?_eq_none (by rw [Array.length_toList]; lia)]
  rfl
set_option maxHeartbeats 1000000 in
theorem s_iter2 {S : Addr} {o : Obj} {es : Array (Int × Value)} {ep : Nat} {t : SetTable} {Q : Value → Shared → Prop} (ho : s.heap.get? S = some o) (hx : o.ExactSet) (hd : o.data = .set es ep t) (hT : Tab es t) (hled : t.led = ledOf w) (hn : es.size ≤ 900)
  (q : ∀ (I T : Addr) (ys : List Value) (h' : Heap) (d : Drawn), (∀ b o, s.heap.get? b = some o → h'.get? b = some o) → SIt w h' I S T es ep t ys 0 → ys.length = es.size → S ≠ I → T ≠ I → ys.Perm (es.toList.map (·.2)) → s.heap.objs.size ≤ I → (T = S ∨ s.heap.objs.size ≤ T) → Q (.ref I) { s with heap := h', drawn := d }) :
  wpAny (model prog w) A (pyIter (.ref S)) Q E s := by
 have hty : s.TypeIs (.ref S) "set" := ⟨o, ho, hx.1⟩
 have hf := hT.fits
 refine wpAny_pyIter_slot hty PySem.F.slot_set_iter (wpAny_call_entry PySem.F.slot_set_iter hty entry_s_iter ?_ (PySem.F.args_set_iter_1 _))
 unfold Builtin.«frozenset.__iter__»
 refine wpAny_bind ?_
 unfold Builtin.Frozenset.slot0
 refine wpAny_bind (wpAny_pure ?_)
 change wpAny _ A.in1 (pure S) _ _ s
 refine wpAny_pure (wpAny_bind ?_)
 unfold Builtin.Frozenset.sizeOf
 refine wpAny_bind (setEnts ho hd hf (wpAny_pure (wpAny_bind (drawn_q ho hd hf ?_))))
 have ep_ : ∀ {s1 : Shared} {Q1 : Nat → Shared → Prop} {E1 : Value → Shared → Prop}, s1.heap.get? S = some o → Q1 ep s1 → wpAny (model prog w) A.in1 (setEpoch S) Q1 E1 s1 := fun ho1 h => by
  unfold setEpoch
  exact wpAny_bind (wpAny_setState_of ho1 hd hf (wpAny_pure h))
 cases hdr : (!w.params.followText "set-order" && (!t.plain && decide (es.size > 1))) with
 | true =>
  rw [if_pos rfl]
  have hf0 : w.params.followText "set-order" = false := by
   cases hc : w.params.followText "set-order" with
   | false => rfl
   | true => rw [hc] at hdr; cases hdr
  refine wpAny_bind (wp_draw es.size (List.range es.size) s List.length_range fun perm d hp => ?_)
  have hpl : perm.length = es.size := by rw [hp.length_eq, List.length_range]
  refine wpAny_bind (wpAny_newTuple ?_ (by rw [List.length_map, hpl, sizeLine_eq]; lia))
  dsimp only
  refine wpAny_bind (ep_ (Heap.get?_push_of_some _ ho) ?_)
  unfold newFields
  refine wpAny_bind (wpAny_newObj_type (wpAny_pure ⟨_, rfl, "set_iterator", _, ⟨_, Heap.get?_push_size _ rfl, rfl⟩, slot_si_next.lookup, ?_⟩))
  have hsz1 : (s.heap.push { cls := .type "tuple", data := .seq (perm.map fun (i : Nat) => rawInt (i : Int)).toArray }).objs.size = s.heap.objs.size + 1 := Heap.size_push ..
  refine q _ s.heap.objs.size (perm.map fun j => (es.getD j (0, .none)).2) _ d (fun b o e => Heap.get?_push_of_some _ (Heap.get?_push_of_some _ e)) ⟨⟨o, Heap.get?_push_of_some _ (Heap.get?_push_of_some _ ho), hd⟩, hf, _, _, Heap.get?_push_size _ rfl, rfl, rfl, .inr (.inr ⟨_, _, _, rfl, Heap.get?_push_of_some _ (Heap.get?_push_size _ rfl), rfl, ?_, fun k v hk => ?_⟩)⟩ (by rw [List.length_map, hpl]) ?_ ?_ ?_ ?_ (.inr (Nat.le_refl _))
  ·rw [List.length_map, hpl]
  ·have hk' : (perm.map fun (i : Nat) => rawInt (i : Int))[k]? = some v := by rw [← hk]; simp
   rw [List.getElem?_map] at hk'
   obtain ⟨j, hj, rfl⟩ := Option.map_eq_some_iff.mp hk'
   have hjs : j < es.size := List.mem_range.mp (hp.mem_iff.mp (List.mem_of_getElem? hj))
   refine ⟨j, 0, rfl, ?_, hjs⟩
   rw [List.getElem?_map, hj, Array.getElem?_eq_getElem hjs]
   simp [Array.getD, hjs]
  ·rw [hsz1]
   exact Nat.ne_of_lt (Nat.lt_succ_of_lt (Heap.lt_size ho))
  ·rw [hsz1]
   exact Nat.ne_of_lt (Nat.lt_succ_self _)
  ·exact (hp.map _).trans (List.Perm.of_eq (range_map es))
  ·rw [hsz1]
   exact Nat.le_succ _
 | false =>
  rw [if_neg (by decide)]
  refine wpAny_bind (wpAny_pure ?_)
  dsimp only
  refine wpAny_bind (ep_ ho ?_)
  unfold newFields
  refine wpAny_bind (wpAny_newObj_type (wpAny_pure ⟨_, rfl, "set_iterator", _, ⟨_, Heap.get?_push_size _ rfl, rfl⟩, slot_si_next.lookup, ?_⟩))
  have nI : S ≠ s.heap.objs.size := Nat.ne_of_lt (Heap.lt_size ho)
  cases hft : w.params.followText "set-order" with
  | true =>
   have hpk : (pickOrder (w.params.setOrder S ep) es).toList.Perm es.toList := by
    have := pick_perm (w.params.setOrder S ep) es.size 0 es.toList #[] (Array.length_toList)
    simpa [pickOrder] using this
   refine q _ S ((pickOrder (w.params.setOrder S ep) es).toList.map (·.2)) _ s.drawn (fun b o e => Heap.get?_push_of_some _ e) ⟨⟨o, Heap.get?_push_of_some _ ho, hd⟩, hf, _, _, Heap.get?_push_size _ rfl, rfl, rfl, .inl ⟨0, rfl, hft, rfl⟩⟩ (by rw [List.length_map, hpk.length_eq, Array.length_toList]) nI nI (hpk.map _) (Nat.le_refl _) (.inl rfl)
  | false =>
   rw [hft] at hdr
   have hl1 : t.led = true := by rw [hled]; show (!w.params.followText "set-order") = true; rw [hft]; rfl
   refine q _ S (es.toList.map (·.2)) _ s.drawn (fun b o e => Heap.get?_push_of_some _ e) ⟨⟨o, Heap.get?_push_of_some _ ho, hd⟩, hf, _, _, Heap.get?_push_size _ rfl, rfl, rfl, .inr (.inl ⟨0, rfl, hft, hdr, hl1, below_zero hT.ris, hT.ris, rfl⟩)⟩ (by rw [List.length_map, Array.length_toList]) nI nI (List.Perm.refl _) (Nat.le_refl _) (.inl rfl)
set_option maxHeartbeats 1000000 in
theorem collect_set2 {S : Addr} {oS : Obj} {es : Array (Int × Value)} {ep : Nat} {t : SetTable} {Q : List Value → Shared → Prop} (hh : A.handled = none) (hoS : s.heap.get? S = some oS) (hxS : oS.ExactSet) (hd : oS.data = .set es ep t) (hT : Tab es t) (hled : t.led = ledOf w) (hn : es.size ≤ 900)
  (q : ∀ (ys : List Value) (h' : Heap) (tk : Nat) (d : Drawn), (∀ b o, s.heap.get? b = some o → h'.get? b = some o) → ys.Perm (es.toList.map (·.2)) → s.heap.objs.size ≤ h'.objs.size → Q ys { s with heap := h', toks := tk, drawn := d }) : wpAny (model prog w) A (collect (.ref S)) Q E s := by
 unfold collect
 refine wpAny_bind (wpAny_runValue (codeAny_builtin entry_proto_collect' ?_))
 change wpAny _ _ (do again (.builtin "list.__iadd__" ⟨[← newList [], .ref S], []⟩)) _ _ s
 refine wpAny_bind (wpAny_newList (wpAny_pure ⟨Code.quiet_builtin _ (by decide +kernel), codeAny_builtin entry_list_iadd' ?_⟩))
 change wpAny _ _ (Builtin.List.listExtendWith (.ref s.heap.objs.size) (.ref S) (.ref s.heap.objs.size)) _ _ { s with heap := s.heap.push (seqObj "list" #[] 0) }
 have hSlt := Heap.lt_size hoS
 have hL : (s.heap.push (seqObj "list" #[] 0)).get? s.heap.objs.size = some (seqObj "list" #[] 0) := Heap.get?_push_size _ rfl
 have hty : Shared.TypeIs { s with heap := s.heap.push (seqObj "list" #[] 0) } (.ref S) "set" := ⟨oS, Heap.get?_push_of_some _ hoS, hxS.1⟩
 unfold Builtin.List.listExtendWith
 refine wpAny_bind (wpAny_typeOf (T := "set") hty ?_)
 have nLS : s.heap.objs.size ≠ S := Nat.ne_of_gt hSlt
 have h1 : Builtin.List.listSameRef (.ref s.heap.objs.size) (.ref S) = false := by simp [Builtin.List.listSameRef, nLS]
 rw [h1, if_neg (by decide)]
 refine wpAny_bind (s_iter2 (s := { s with heap := s.heap.push (seqObj "list" #[] 0) }) (Heap.get?_push_of_some _ hoS) hxS hd hT hled hn fun I T ys h2 d k2 x hy nSI nTI hvs hI hTp => ?_)
 have hIlt : s.heap.objs.size < I := by
  refine Nat.lt_of_lt_of_le ?_ hI
  show s.heap.objs.size < (s.heap.push (seqObj "list" #[] 0)).objs.size
  rw [Heap.size_push]
  exact Nat.lt_succ_self _
 have hL2 := k2 _ _ hL
 have nTL : s.heap.objs.size ≠ T := by
  rcases hTp with rfl | hTp
  ·exact nLS
  ·refine Nat.ne_of_lt (Nat.lt_of_lt_of_le ?_ hTp)
   show s.heap.objs.size < (s.heap.push (seqObj "list" #[] 0)).objs.size
   rw [Heap.size_push]
   exact Nat.lt_succ_self _
 have hLf : s.heap.objs.size ∉ [I, S, T] := by
  simp only [List.mem_cons, List.not_mem_nil, or_false, not_or]
  exact ⟨Nat.ne_of_lt hIlt, nLS, nTL⟩
 have W := si_walks (prog := prog) (w := w) (A := A.in1) (t := t) (ep := ep) hh nSI nTI hy
 have keep0 : ∀ b o, s.heap.get? b = some o → h2.get? b = some o := fun b o e => k2 b o (Heap.get?_push_of_some _ e)
 have hb1 : ∀ b o, s.heap.get? b = some o → b ≠ s.heap.objs.size := fun b o e => Nat.ne_of_lt (Heap.lt_size e)
 have hbI : ∀ b o, s.heap.get? b = some o → b ≠ I := fun b o e => Nat.ne_of_lt (Nat.lt_trans (Heap.lt_size e) hIlt)
 have key : ∀ (h : Heap) (c₁ tk : Nat), SIt w h I S T es ep t ys 0 → (∀ b o, b ≠ s.heap.objs.size → h2.get? b = some o → h.get? b = some o) → h.get? s.heap.objs.size = some { cls := .type "list", data := .seq #[] c₁ } →
   codeAny (model prog w) A (.builtin "list.extend.loop" ⟨[.ref s.heap.objs.size, .ref I, .ref s.heap.objs.size], []⟩) (wants (fun v s' => wpAny (model prog w) A (match v with
     | Value.ref a => do
      let o ← load a
      match o.data with
      | .seq xs _ => pure xs.toList
      | _ => unsupported "internal:collect"
     | _ => unsupported "internal:collect") Q E s') E) { s with heap := h, drawn := d, toks := tk } := by
  intro h c₁ tk hst hk hL3
  refine codeAny_extend_loopS W.toS (by rw [sizeLine_eq]; lia) s.heap.objs.size hLf _ ys.length 0 _ #[] c₁ rfl (Nat.zero_le _) hst hL3 (ItemsOf.nil _) fun s' acc' c' hm hL4 hacc => ?_
  rw [Moved.eq_with hm]
  refine wpAny_bind (wpAny_load hL4 ?_)
  refine wpAny_pure ?_
  have hacc2 : acc'.toList = ys := by
   refine List.ext_getElem? fun j => ?_
   rw [Array.getElem?_toList]
   cases hj : acc'[j]? with
   | none =>
    have h3 : acc'.size ≤ j := Array.getElem?_eq_none_iff.mp hj
    rw [hacc.1] at h3
    rw [List.getElem?_eq_none h3]
   | some v => rw [hacc.2 j v hj]
  rw [hacc2]
  refine q ys s'.heap s'.toks d (fun b o e => hm.heap b o (fun hmem => ?_) (hk b o (hb1 b o e) (keep0 b o e))) hvs (Nat.le_of_lt (Heap.lt_size hL4))
  rcases List.mem_cons.mp hmem with z | z
  ·exact hb1 b o e z
  ·exact hbI b o e (List.mem_singleton.mp z)
 refine wpAny_bind (wpAny_holding (hint_set ⟨oS, k2 S oS (Heap.get?_push_of_some _ hoS), hxS.1⟩ ?_))
 refine wpAny_ite_split (fun _ => ?_) (fun _ => wpAny_pure ⟨plainId_quiet PySem.F.plain_extend_loop _, key h2 0 _ x (fun b o _ e => e) hL2⟩)
 refine wpAny_bind (wpAny_rule (wpAny_bind ?_))
 change wpAny _ _ (updateSeq s.heap.objs.size (·.push .none) >>= fun _ => updateSeq s.heap.objs.size (·.pop)) _ _ _
 refine wpAny_bind (wpAny_updateSeq hL2 rfl ?_)
 have hL3 := Heap.get?_update_self (Obj.mapSeq (·.push Value.none)) hL2 rfl
 refine wpAny_updateSeq (hz := by seq_fits) hL3 rfl ?_
 have hL4 := Heap.get?_update_self (Obj.mapSeq (·.pop)) hL3 rfl
 have oth : ∀ b o, b ≠ s.heap.objs.size → h2.get? b = some o → ((h2.update s.heap.objs.size (Obj.mapSeq (·.push Value.none))).update s.heap.objs.size (Obj.mapSeq (·.pop))).get? b = some o := fun b o hb e => (Heap.get?_update_other _ _ (Ne.symm hb)).trans ((Heap.get?_update_other _ _ (Ne.symm hb)).trans e)
 exact wpAny_pure ⟨plainId_quiet PySem.F.plain_extend_loop _, key _ _ _ (W.frame 0 _ _ x fun b hb o e => oth b o (fun z => hLf (z ▸ hb)) e) oth hL4⟩
end
end Stg
namespace Stg
open PySem PyProof.Rows Sts
section
variable {prog : Program} {w : World} {K : Type} [DecidableEq K] {knd : KeyKind prog w K} {A : Around} {E : Value → Shared → Prop} {s : Shared}
def TSetG (knd : KeyKind prog w K) (h : Heap) (S : Addr) (G : List (Int × Value) → Prop) (n : Nat) (led : Bool) : Prop :=
 ∃ o es ep t, h.get? S = some o ∧ o.ExactSet ∧ o.data = .set es ep t ∧ Ents knd true h es ∧ Tab es t ∧ es.size ≤ n ∧ t.led = led ∧ G es.toList
set_option maxHeartbeats 1000000 in
theorem addTailG {g : Bool → Sem Unit} (hg : ∀ (b : Bool) (s₁ : Shared) (Q' : Unit → Shared → Prop), Q' () s₁ → wpAny (model prog w) A (g b) Q' E s₁)
  {S : Addr} {o : Obj} {es es1 : Array (Int × Value)} {ep : Nat} {t t2 : SetTable} {G : List (Int × Value) → Prop} (gp : ∀ l l', List.Perm l' l → G l → G l') {n : Nat} {led : Bool} {Q : Option Bool → Shared → Prop} (ho : s.heap.get? S = some o) (hx : o.ExactSet) (hd : o.data = .set es ep t)
  (hE : Ents knd true s.heap es1) (hvs : G es1.toList) (h1 : 1 ≤ es1.size) (hn : es1.size ≤ 1000) (hsz : es1.size ≤ n) (hp : t2.place.size = es1.size) (hd2 : t2.dummies = #[]) (hg2 : Good t2.mask) (hris : Ris t2.place) (hled : t2.led = led)
  (q : ∀ h', Heap.SameBut S s.heap h' → TSetG knd h' S G n led → Q (some true) { s with heap := h' }) :
  wpAny (model prog w) A (do
   storeSet S es1 t2
   if (!false && t2.tooFull) = true then do
     g (relayAll t2 es1 (SetTable.grown es1.size)).2.2
     storeSet S (relayAll t2 es1 (SetTable.grown es1.size)).1 (relayAll t2 es1 (SetTable.grown es1.size)).2.1
     pure (some true)
    else pure (some true)) Q E s := by
 refine wpAny_bind (wpAny_storeSet_of ho hd ?_ (by rw [sizeLine_eq]; lia))
 have ho1 := stored ho hd es1 t2
 have sb1 : Heap.SameBut S s.heap (s.heap.update S (Obj.putSet es1 t2)) := Heap.SameBut.update ..
 generalize s.heap.update S (Obj.putSet es1 t2) = hp1 at ho1 sb1
 by_cases hfull : t2.tooFull = true
 ·rw [hfull, if_pos (by decide)]
  obtain ⟨es2, t3, gv, e, hpm, hT3, hl3⟩ := relay_all (t := t2) h1 hn
  rw [e]
  dsimp only
  have hz2 : es2.size = es1.size := by rw [← Array.length_toList, hpm.length_eq, Array.length_toList]
  refine wpAny_bind (hg _ _ _ (wpAny_bind (wpAny_storeSet_of (s := { s with heap := hp1 }) ho1 rfl ?_ (by rw [hz2, sizeLine_eq]; lia))))
  have ho2 := stored ho1 rfl es2 t3
  have sb2 : Heap.SameBut S hp1 (hp1.update S (Obj.putSet es2 t3)) := Heap.SameBut.update ..
  exact wpAny_pure (q _ (sb1.trans sb2) ⟨_, es2, _, t3, ho2, hx, rfl, fun e he => hE e (hpm.mem_iff.mp he), hT3, by lia, by rw [hl3, hled], gp _ _ hpm hvs⟩)
 ·have hnf : t2.tooFull = false := by
   cases hc : t2.tooFull with
   | true => exact absurd hc hfull
   | false => rfl
  rw [hnf, if_neg (by decide)]
  refine wpAny_pure (q hp1 sb1 ⟨_, es1, _, t2, ho1, hx, rfl, hE, ⟨hp, hd2, hg2, ?_, hris⟩, hsz, hled, hvs⟩)
  unfold SetTable.tooFull at hnf
  have := of_decide_eq_false hnf
  lia
set_option maxHeartbeats 2000000 in
theorem addHashedG {S : Addr} {G G' : List (Int × Value) → Prop} (gp : ∀ l l', List.Perm l' l → G' l → G' l') {n i tk : Nat} {k : Int} {led : Bool} {Q : Bool → Shared → Prop} (hS : TSetG knd s.heap S G n led) (hn : n ≤ 900) (g0 : ∀ l, G l → (∃ e ∈ l, (intKind prog w).is k e.2 = true) → G' l) (g1 : ∀ l x, G l → (∀ e ∈ l, (intKind prog w).is k e.2 = false) → G' ((x, Value.int k tk) :: l))
  (q : ∀ b h', Heap.SameBut S s.heap h' → TSetG knd h' S G' (n + 1) led → Q b { s with heap := h' }) : wpAny (model prog w) A (setAddHashed S (.int k tk) ((intKind prog w).hash k)) Q E s := by
 obtain ⟨o, es, ep, t, ho, hx, hd, hE, hT, hsz, hled, hvs⟩ := hS
 have hkey : (intKind prog w).is k (Value.int k tk) = true := intKind_is _ _ _ _
 have hb : es.size < scanBound := by show es.size < 4096; lia
 unfold setAddHashed setAddHashedIn
 refine wpAny_holding (wpAny_bind (wpAny_setState_of ho hd hT.fits ?_))
 dsimp only
 rw [byScan_of (knd := intKind prog w) rfl hb (ints_elems hE)]
 simp only [↓reduceIte]
 unfold setAddByScan
 refine wpAny_bind ?_
 refine wpAny_bind (wpAny_rule ?_)
 refine wpAny_bind (wpAny_setScan_of (knd := intKind prog w) hkey ho hd hT.fits (ints_elems hE) ?_)
 cases hr : List.findIdx? (fun e => (intKind prog w).is k e.2) es.toList with
 | some j =>
  dsimp only
  obtain ⟨hj, hpj, _⟩ := List.findIdx?_eq_some_iff_getElem.mp hr
  exact wpAny_pure (wpAny_pure (q false s.heap (Heap.SameBut.refl ..) ⟨o, es, ep, t, ho, hx, hd, hE, hT, by lia, hled, g0 _ hvs ⟨es.toList[j], List.getElem_mem hj, hpj⟩⟩))
 | none =>
  dsimp only
  obtain ⟨j, hj, eL⟩ := lay_new hT ((intKind prog w).hash k) (Value.int k tk)
  rw [eL]
  dsimp only
  have hins := SetTable.insertAt_perm es (SetTable.below t.place j) ((intKind prog w).hash k, Value.int k tk)
  have hmem : ∀ e ∈ (SetTable.insertAt es (SetTable.below t.place j) ((intKind prog w).hash k, Value.int k tk)).toList, e ∈ es.toList ∨ e = ((intKind prog w).hash k, Value.int k tk) := fun e he => by
   have := hins.mem_iff.mp he
   rw [Array.toList_push] at this
   rcases List.mem_append.mp this with z | z
   ·exact .inl z
   ·exact .inr (List.mem_singleton.mp z)
  have hG1 : G' (SetTable.insertAt es (SetTable.below t.place j) ((intKind prog w).hash k, Value.int k tk)).toList := by
   refine gp _ _ ?_ (g1 es.toList ((intKind prog w).hash k) hvs fun e he => ?_)
   ·refine hins.trans ?_
    rw [Array.toList_push]
    exact List.perm_append_comm (l₁ := es.toList) (l₂ := [_])
   ·exact List.findIdx?_eq_none_iff.mp hr e he
  have hs1 : (SetTable.insertAt es (SetTable.below t.place j) ((intKind prog w).hash k, Value.int k tk)).size = es.size + 1 := by
   rw [← Array.length_toList, hins.length_eq, Array.length_toList, Array.size_push]
  have hp1 : (SetTable.insertAt t.place (SetTable.below t.place j) j).size = es.size + 1 := by
   rw [← Array.length_toList, (SetTable.insertAt_perm t.place (SetTable.below t.place j) j).length_eq, Array.length_toList, Array.size_push, hT.size]
  have hris : Ris (SetTable.insertAt t.place (SetTable.below t.place j) j) := ris_insert hT.ris (empty_new hT.ris hj)
  generalize SetTable.insertAt es (SetTable.below t.place j) ((intKind prog w).hash k, Value.int k tk) = es1 at hmem hs1 hG1
  have hE1 : Ents knd true s.heap es1 := fun e he => by
   rcases hmem e he with z | z
   ·exact hE e z
   ·subst z
    exact ⟨k, tk, rfl, rfl⟩
  refine wpAny_bind (wpAny_pure ?_)
  split
  ·refine wpAny_bind ?_
   rw [hashByValue_scannable 8 (x := Value.int k tk) rfl]
   refine wpAny_pure ?_
   refine addTailG (gp := gp) (fun b s₁ Q' hq => by cases b <;> first | exact wpAny_pure hq | exact wpAny_rule hq) ho hx hd hE1 hG1 (by lia) (by lia) (show es1.size ≤ n + 1 by lia) (by rw [hs1]; exact hp1) hT.none hT.good hris hled fun h' sb hS' => ?_
   exact wpAny_pure (q true h' sb hS')
  ·refine wpAny_bind (wpAny_pure ?_)
   refine addTailG (gp := gp) (fun b s₁ Q' hq => by cases b <;> first | exact wpAny_pure hq | exact wpAny_rule hq) ho hx hd hE1 hG1 (by lia) (by lia) (show es1.size ≤ n + 1 by lia) (by rw [hs1]; exact hp1) hT.none hT.good hris hled fun h' sb hS' => ?_
   exact wpAny_pure (q true h' sb hS')
theorem addG {S : Addr} {k : Int} {tk : Nat} {G G' : List (Int × Value) → Prop} (gp : ∀ l l', List.Perm l' l → G' l → G' l') {n : Nat} {led : Bool} {Q : Bool → Shared → Prop} (hS : TSetG knd s.heap S G n led) (hn : n ≤ 900) (g0 : ∀ l, G l → (∃ e ∈ l, (intKind prog w).is k e.2 = true) → G' l) (g1 : ∀ l x, G l → (∀ e ∈ l, (intKind prog w).is k e.2 = false) → G' ((x, Value.int k tk) :: l))
  (q : ∀ r h' tk, s.toks ≤ tk → Heap.SameBut S s.heap h' → TSetG knd h' S G' (n + 1) led → Q r { s with heap := h', toks := tk }) : wpAny (model prog w) A (setAdd S (.int k tk)) Q E s := by
 unfold setAdd
 refine wpAny_holding (wpAny_bind ((intKind prog w).pyHash (intKind_is _ _ _ _) ?_))
 exact addHashedG gp (i := 0) (s := { s with toks := _ }) hS hn g0 g1 fun b h' sb hS' => q b h' _ (Nat.le_add_right _ _) sb hS'
end
section
variable {prog : Program} {w : World} {A : Around} {R : Result → Shared → Prop}
structure Goes (prog : Program) (w : World) (A : Around) (S : Addr) (items : Array Value) (J : Nat → Heap → Prop) : Prop where
 keep : ∀ i h h', J i h → (∀ b o, b ≤ S → h.get? b = some o → h'.get? b = some o) → J i h'
 add : ∀ (i : Nat) v (s : Shared) (Q : Bool → Shared → Prop) (E : Value → Shared → Prop), items[i]? = some v → J i s.heap → (∀ b h' tk, Heap.SameBut S s.heap h' → J (i + 1) h' → Q b { s with heap := h', toks := tk }) → wpAny (model prog w) A (setAdd S v) Q E s
theorem upd_loopJ {S I l : Addr} {items : Array Value} {J : Nat → Heap → Prop} (hh : A.in1.handled = none) (g : Goes prog w A.in1 S items J) (hSI : S < I) (hlI : l ≠ I) : ∀ (k i : Nat) (s : Shared), items.size - i = k → i ≤ items.size → (s.heap.IsListIter I l i ∧ s.heap.IsList l items) → l < S → J i s.heap →
   (∀ h' tk, J items.size h' → (∀ b o, b < S → s.heap.get? b = some o → h'.get? b = some o) → R (.ok (.ret .none)) { s with heap := h', toks := tk }) → codeAny (model prog w) A (.builtin "set.update.loop" ⟨[.ref S, .ref I], []⟩) R s := by
 have W := Walks.list (prog := prog) (w := w) (A := A.in1) hh I l hlI items
 intro k
 induction k with
 | zero =>
  intro i s hk hi hst hlS hw hR
  obtain rfl : i = items.size := by lia
  refine codeAny_builtin F.entry_set_update_loop ?_
  rw [Around.under_plainId F.plain_set_update_loop _]
  change wpAny _ A.in1 (pyNext (.ref I) >>= _) _ _ s
  refine wpAny_bind (W.done s _ _ hst fun h' tk hm => ?_)
  change wpAny _ A.in1 (ret Value.none) _ _ _
  have hkk : ∀ b o, b ≤ S → s.heap.get? b = some o → h'.get? b = some o := fun b o hb e => hm b o (fun z => Nat.lt_irrefl _ (Nat.lt_of_le_of_lt (List.mem_singleton.mp z ▸ hb) hSI)) e
  exact wpAny_pure (hR h' tk (g.keep _ _ _ hw hkk) fun b o hb e => hkk b o (Nat.le_of_lt hb) e)
 | succ k ih =>
  intro i s hk hi hst hlS hw hR
  have hlt : i < items.size := by lia
  refine codeAny_builtin F.entry_set_update_loop ?_
  rw [Around.under_plainId F.plain_set_update_loop _]
  change wpAny _ A.in1 (pyNext (.ref I) >>= _) _ _ s
  refine wpAny_bind (W.item i s _ _ hlt hst fun v h' tk hP hst' hm => ?_)
  have hkk : ∀ b o, b ≤ S → s.heap.get? b = some o → h'.get? b = some o := fun b o hb e => hm b o (fun z => Nat.lt_irrefl _ (Nat.lt_of_le_of_lt (List.mem_singleton.mp z ▸ hb) hSI)) e
  have hw' := g.keep _ _ _ hw hkk
  change wpAny _ A.in1 (holding [v] (setAdd S v) >>= _) _ _ _
  refine wpAny_bind (wpAny_holding (g.add i v { s with heap := h', toks := tk } _ _ hP hw' fun b1 h2 tk2 sb hS2 => ?_))
  have hk2 : ∀ b o, b ≠ S → h'.get? b = some o → h2.get? b = some o := fun b o hb e => (sb.2 b hb).trans e
  refine wpAny_pure ⟨plainId_quiet F.plain_set_update_loop _, ih (i + 1) _ (by lia) hlt ?_ hlS hS2 fun h3 tk3 hw3 hb3 => hR h3 tk3 hw3 fun b o hb e => hb3 b o hb (hk2 b o (Nat.ne_of_lt hb) (hkk b o (Nat.le_of_lt hb) e))⟩
  refine W.frame _ h' h2 hst' fun b hb o e => hk2 b o (fun z => ?_) e
  simp only [List.mem_cons, List.not_mem_nil, or_false] at hb
  rcases hb with rfl | rfl
  ·exact Nat.lt_irrefl _ (z ▸ hSI)
  ·exact Nat.lt_irrefl _ (z ▸ hlS)
end
section
variable {prog : Program} {w : World} {A : Around} {E : Value → Shared → Prop} {s : Shared}
set_option maxRecDepth 100000 in
set_option maxHeartbeats 3200000 in
theorem call_setJ {l : Addr} {items : Array Value} {J : Nat → Heap → Prop} {Q : Value → Shared → Prop} (hh : A.handled = none) (hu : A.units + 100 < cLine) (hl : s.heap.IsList l items) (g : ∀ B : Around, B.units < cLine → Goes prog w B s.heap.objs.size items J) (j0 : ∀ h : Heap, h.get? s.heap.objs.size = some (freshSet w) → (∀ b o, b < s.heap.objs.size → s.heap.get? b = some o → h.get? b = some o) → J 0 h)
  (q : ∀ (h' : Heap) (tk : Nat), J items.size h' → (∀ b o, b < s.heap.objs.size → s.heap.get? b = some o → h'.get? b = some o) → Q (.ref s.heap.objs.size) { s with heap := h', toks := tk }) :
  wpAny (model prog w) A (call (.type "set") [.ref l]) Q E s := by
 obtain ⟨c, tl, hmro⟩ := PySem.F.called_set.mro
 have hmade := PySem.F.called_set.made
 have hsub := PySem.F.called_set.sub
 refine wpAny_call (codeAny_of_tree ?_)
 change wpAny _ _ (callAny (.type "set") _) _ _ _
 refine wpAny_pure ⟨Code.quiet_builtin _ (by decide +kernel), codeAny_builtin PySem.F.entry_type_call ?_⟩
 rw [Around.under_plain (weight_type_call_type "set" [.ref l] []) rfl]
 have noType := PySem.F.called_set.notType
 have canMake := PySem.F.called_set.canCreate
 have ctOk := PySem.F.typeCall_set_1 (.ref l)
 repeat (any_goals (first | assumption | wp_step))
 refine codeAny_mono (new_set1 (.ref l) (E := E) (Q₁ := fun obj s₁ => obj = .ref s.heap.objs.size ∧ s₁ = { s with heap := s.heap.push (freshSet w) }) ⟨rfl, rfl⟩) fun r s₁ hr => ?_
 cases r with
 | error e => exact hr
 | ok fl =>
  cases fl with
  | ret obj =>
   obtain ⟨rfl, rfl⟩ := hr
   have hS : (s.heap.push (freshSet w)).get? s.heap.objs.size = some (freshSet w) := Heap.get?_push_size _ rfl
   have hT : Shared.TypeIs { s with heap := s.heap.push (freshSet w) } (.ref s.heap.objs.size) "set" := ⟨_, hS, rfl⟩
   have hli := PySem.F.called_set.init.lookup
   have hbi := PySem.F.called_set.init.bind (.ref s.heap.objs.size)
   repeat (any_goals (first | assumption | wp_step))
   refine codeAny_mono (codeAny_call_builtin (R := wants (fun r s₂ => r = .none ∧ ∃ h' tk, s₂ = { s with heap := h', toks := tk } ∧ J items.size h' ∧ ∀ b o, b < s.heap.objs.size → s.heap.get? b = some o → h'.get? b = some o) E) PySem.F.called_set.init.plain PySem.F.entry_set_init (check_set_init_1 hT ?_)) fun r₂ s₂ hr₂ => ?_
   ·obtain ⟨ol, hol, hcl, nl, hdl⟩ := hl
    obtain ⟨ocls, odict, odata, oslots⟩ := ol
    simp only at hcl hdl
    subst hcl; subst hdl
    have hol2 : (s.heap.push (freshSet w)).get? l = some { cls := .type "list", dict := odict, data := .seq items nl, slots := oslots } := Heap.get?_push_of_some _ hol
    have hsls := PySem.F.sub_list_set
    have hslf := PySem.F.sub_list_frozenset
    have hne : (Value.type "list" == Value.type "dict") = false := by decide
    have hl1 : (s.heap.push (freshSet w)).IsList l items := ⟨_, hol2, rfl, nl, rfl⟩
    unfold Builtin.«set.__init__» noKeywords Builtin.Frozenset.updateFrom
    generalize hPI : pyIter = PI
    wp_walk
    subst hPI
    refine wpAny_pyIter_list hl1 (wpAny_bind (wpAny_runValue ?_))
    have hlS : l < s.heap.objs.size := Heap.lt_size hol
    have hsz : (s.heap.push (freshSet w)).objs.size = s.heap.objs.size + 1 := Heap.size_push ..
    have hS0 : ((s.heap.push (freshSet w)).push { cls := .type "list_iterator", data := .fields #[.ref l, .int 0 0] }).get? s.heap.objs.size = some (freshSet w) := Heap.get?_push_of_some _ hS
    have kk : ∀ b o, b < s.heap.objs.size → s.heap.get? b = some o → ((s.heap.push (freshSet w)).push { cls := .type "list_iterator", data := .fields #[.ref l, .int 0 0] }).get? b = some o := fun b o hb e => Heap.get?_push_of_some _ (Heap.get?_push_of_some _ e)
    refine upd_loopJ (J := J) (by simp [hh]) (g _ (by simp only [Around.in1_units]; lia)) (by rw [hsz]; exact Nat.lt_succ_self _) (by rw [hsz]; exact Nat.ne_of_lt (Nat.lt_succ_of_lt hlS)) (items.size - 0) 0 _ rfl (Nat.zero_le _)
     ⟨⟨_, Heap.get?_push_size _ rfl, rfl, rfl⟩, hl1.push _⟩ hlS (j0 _ hS0 kk) fun h' tk hw hb => ?_
    change wpAny _ _ _ _ _ _
    refine wpAny_pure ?_
    change wpAny _ _ (ret Value.none) _ _ _
    exact wpAny_pure ⟨rfl, h', tk, rfl, hw, fun b o hlt e => hb b o hlt (kk b o hlt e)⟩
   ·cases r₂ with
    | error e => exact hr₂
    | ok fl₂ =>
     cases fl₂ with
     | ret r =>
      obtain ⟨rfl, h', tk, rfl, hw⟩ := hr₂
      repeat (any_goals (first | assumption | wp_step))
      exact q _ _ hw.1 hw.2
     | _ => exact hr₂.elim
  | _ => exact hr.elim
end
end Stg
namespace Srd
theorem Sto.one {α : Type} {lt : α → α → Bool} (o : Sto lt) : ∀ {l m : List α}, l.Pairwise (fun a b => lt a b = true) → m.Pairwise (fun a b => lt a b = true) → (∀ x, x ∈ l ↔ x ∈ m) → l = m
 | [], [], _, _, _ => rfl
 | [], b :: m, _, _, h => absurd ((h b).mpr (List.mem_cons_self ..)) (by simp)
 | a :: l, [], _, _, h => absurd ((h a).mp (List.mem_cons_self ..)) (by simp)
 | a :: l, b :: m, hl, hm, h => by
  obtain ⟨l1, l2⟩ := List.pairwise_cons.mp hl
  obtain ⟨m1, m2⟩ := List.pairwise_cons.mp hm
  have e : a = b := by
   rcases List.mem_cons.mp ((h a).mp (List.mem_cons_self ..)) with z | z
   ·exact z
   ·rcases List.mem_cons.mp ((h b).mpr (List.mem_cons_self ..)) with y | y
    ·exact y.symm
    ·have h1 := m1 a z
     have h2 := l1 b y
     rw [o.asym h1] at h2
     cases h2
  subst e
  rw [Sto.one o l2 m2 fun x => ?_]
  constructor
  ·intro hx
   rcases List.mem_cons.mp ((h x).mp (List.mem_cons_of_mem _ hx)) with z | z
   ·subst z
    have := l1 x hx
    rw [o.irr] at this
    cases this
   ·exact z
  ·intro hx
   rcases List.mem_cons.mp ((h x).mpr (List.mem_cons_of_mem _ hx)) with z | z
   ·subst z
    have := m1 x hx
    rw [o.irr] at this
    cases this
   ·exact z
theorem Sto.strict {α : Type} {lt : α → α → Bool} (o : Sto lt) {l : List α} (h : l.Pairwise (fun a b => lt b a = false)) (hn : l.Nodup) : l.Pairwise (fun a b => lt a b = true) := by
 refine List.pairwise_iff_getElem.mpr fun i j hi hj hij => ?_
 have h1 := (List.pairwise_iff_getElem.mp h) i j hi hj hij
 have h2 := (List.pairwise_iff_getElem.mp hn) i j hi hj hij
 cases e : lt l[i] l[j] with
 | true => rfl
 | false => exact absurd (o.tri _ _ e h1) h2
end Srd
namespace L2
open PySem PySem.Spec PyProof.Rows PySem.W Srd Sts Stg
def tq (q : Qd) : HO := .tup [.int q.1, .str q.2.1, .int q.2.2.1, .int q.2.2.2]
def QL (H : Hp) (zs : List V) (qs : List Qd) : Prop := Paired (fun z q => ∃ p, z = V.ref p ∧ H p = some (tq q)) zs qs
def kOf (q : Qd) : List Key := [Sum.inl q.1, Sum.inr q.2.1, Sum.inl q.2.2.1, Sum.inl q.2.2.2]
theorem kOf_inj {q q' : Qd} (h : kOf q = kOf q') : q = q' := by
 obtain ⟨a, b, c, d⟩ := q
 obtain ⟨a', b', c', d'⟩ := q'
 simp only [kOf, List.cons.injEq, Sum.inl.injEq, Sum.inr.injEq, and_true] at h
 obtain ⟨rfl, rfl, rfl, rfl⟩ := h
 rfl
theorem QL.mem {H : Hp} : ∀ {zs : List V} {qs : List Qd}, QL H zs qs → ∀ z ∈ zs, ∃ p, ∃ q ∈ qs, z = V.ref p ∧ H p = some (tq q)
 | _, _, .cons ⟨p, e1, e2⟩ t, z, hz => by
  rcases List.mem_cons.mp hz with rfl | hz
  ·exact ⟨p, _, List.mem_cons_self .., e1, e2⟩
  ·obtain ⟨p', q', h1, h2⟩ := QL.mem t z hz
   exact ⟨p', q', List.mem_cons_of_mem _ h1, h2⟩
theorem QL.length {H : Hp} : ∀ {zs : List V} {qs : List Qd}, QL H zs qs → zs.length = qs.length
 | _, _, .nil => rfl
 | _, _, .cons _ t => by rw [List.length_cons, List.length_cons, QL.length t]
theorem QL.get {H : Hp} : ∀ {zs : List V} {qs : List Qd}, QL H zs qs → ∀ (i : Nat) z, zs[i]? = some z → ∃ p q, qs[i]? = some q ∧ z = V.ref p ∧ H p = some (tq q)
 | _, _, .cons ⟨p, e1, e2⟩ t, i, z, hz => by
  cases i with
  | zero =>
   injection hz with hz
   subst hz
   exact ⟨p, _, rfl, e1, e2⟩
  | succ i => exact QL.get t i z hz
theorem QL.keep {H H' : Hp} : ∀ {zs : List V} {qs : List Qd}, QL H zs qs → (∀ b xs, H b = some (.tup xs) → H' b = some (.tup xs)) → QL H' zs qs
 | _, _, .nil, _ => .nil
 | _, _, .cons ⟨p, e1, e2⟩ t, k => .cons ⟨p, e1, k _ _ e2⟩ (QL.keep t k)
theorem vals_get : ∀ {vs : List V} {us : List Value}, Vals vs us → ∀ (i : Nat) u, us[i]? = some u → ∃ v, vs[i]? = some v ∧ RelV v u
 | _, _, .cons r t, i, u, h => by
  cases i with
  | zero =>
   injection h with h
   subst h
   exact ⟨_, rfl, r⟩
  | succ i => exact vals_get t i u h
section
variable {X : Cx} {e : Expr} {te : TE} {p p' pos pos' : Pos}
theorem isQ_of {P : Program} {w : World} {H : Hp} {h : Heap} {t : Addr} {q : Qd} (ok : HOk P w H h) (e : H t = some (tq q)) : IsQ h (.ref t) q := by
 obtain ⟨_, us, rus, o, ho, hc', n, hd⟩ := ok t _ e
 obtain ⟨u1, us, rfl, r1, rus⟩ := Vals.inv rus
 obtain ⟨u2, us, rfl, r2, rus⟩ := Vals.inv rus
 obtain ⟨u3, us, rfl, r3, rus⟩ := Vals.inv rus
 obtain ⟨u4, us, rfl, r4, rus⟩ := Vals.inv rus
 obtain rfl := Vals.end_ rus
 obtain ⟨t1, rfl⟩ := r1
 obtain ⟨t2, rfl⟩ := r2
 obtain ⟨t3, rfl⟩ := r3
 obtain ⟨t4, rfl⟩ := r4
 exact ⟨t, o, t1, t2, t3, t4, n, rfl, ho, hc', hd⟩
theorem bears_at {P : Program} {w : World} {h0 h : Heap} {S t : Addr} {q : Qd} {x : Int} (hk : IsTupleKey (mixKind P w) h0 (kOf q) t) (hlt : t < S) (k : ∀ b o, b < S → h0.get? b = some o → h.get? b = some o) (ks : List Key) : Bears (mixKind P w) h ks (x, .ref t) ↔ ks = kOf q := by
 obtain ⟨o, its, n, h1, h2⟩ := hk
 have hk' : IsTupleKey (mixKind P w) h (kOf q) t := ⟨o, its, n, k t o hlt h1, h2⟩
 constructor
 ·rintro ⟨b, e, hb⟩
  cases e
  exact key_inj hb hk'
 ·rintro rfl
  exact ⟨t, rfl, hk'⟩
def QIt (P : Program) (w : World) (h0 : Heap) (items : List Value) (qs : List Qd) : Prop := items.length = qs.length ∧ ∀ (i : Nat) v q, items[i]? = some v → qs[i]? = some q → ∃ t, v = .ref t ∧ IsTupleKey (mixKind P w) h0 (kOf q) t ∧ IsQ h0 v q
theorem QIt.of {P : Program} {w : World} {H : Hp} {h : Heap} {zs : List V} {qs : List Qd} {us : List Value} (ok : HOk P w H h) (r : Vals zs us) (ql : QL H zs qs) : QIt P w h us qs := by
 refine ⟨by rw [← r.length, ql.length], fun i v q hv hq => ?_⟩
 obtain ⟨z, hz, rz⟩ := vals_get r i v hv
 obtain ⟨t, q', h1, rfl, h3⟩ := ql.get i z hz
 rw [hq] at h1
 cases h1
 obtain rfl : v = Value.ref t := rz
 exact ⟨t, rfl, key_of ok (ks := kOf q) h3, isQ_of ok h3⟩
theorem QIt.mem {P : Program} {w : World} {h0 : Heap} {items : List Value} {qs : List Qd} (x : QIt P w h0 items qs) {v : Value} (hv : v ∈ items) : ∃ t, ∃ q ∈ qs, v = .ref t ∧ IsTupleKey (mixKind P w) h0 (kOf q) t ∧ IsQ h0 v q := by
 obtain ⟨i, hi⟩ := List.mem_iff_getElem?.mp hv
 have hlt := (List.getElem?_eq_some_iff.mp hi).1
 rw [x.1] at hlt
 obtain ⟨t, h1, h2, h3⟩ := x.2 i v qs[i] hi (List.getElem?_eq_getElem hlt)
 exact ⟨t, qs[i], List.getElem_mem hlt, h1, h2, h3⟩
def JQ (P : Program) (w : World) (h0 : Heap) (S : Addr) (items : Array Value) (qs : List Qd) (i : Nat) (h : Heap) : Prop :=
 TSetS (mixKind P w) h S (· ∈ items.toList) (fun ks => ∃ (j : Nat) (q : Qd), j < i ∧ qs[j]? = some q ∧ ks = kOf q) i (ledOf w) ∧ ∀ b o, b < S → h0.get? b = some o → h.get? b = some o
theorem JQ.goes {P : Program} {w : World} {A : Around} {h0 : Heap} {S : Addr} {items : Array Value} {qs : List Qd} (hu : A.units < cLine) (x : QIt P w h0 items.toList qs) (hS : h0.objs.size ≤ S) (hn : items.size ≤ 900) : Goes P w A S items (JQ P w h0 S items qs) where
 keep := fun i h h' ⟨⟨o, es, ep, t, ho, hx, hd, hT, hsz, hl, hv, hP⟩, hb⟩ k => by
  have hb' : ∀ b o, b < S → h0.get? b = some o → h'.get? b = some o := fun b o hlt e => k b o (Nat.le_of_lt hlt) (hb b o hlt e)
  have key : ∀ e ∈ es.toList, ∀ ks, Bears (mixKind P w) h ks e ↔ Bears (mixKind P w) h' ks e := fun e he ks => by
   obtain ⟨tt, q, _, h1, h2, _⟩ := x.mem (hv e he)
   obtain ⟨e1, e2⟩ := e
   dsimp only at h1
   subst h1
   have hlt : tt < S := by
    obtain ⟨o2, _, _, g1, _⟩ := h2
    exact Nat.lt_of_lt_of_le (Heap.lt_size g1) hS
   rw [bears_at h2 hlt hb, bears_at h2 hlt hb']
  refine ⟨⟨o, es, ep, t, k S o (Nat.le_refl _) ho, hx, hd, ⟨hT.tab, fun e he => ?_, hT.way, ?_⟩, hsz, hl, hv, fun ks => ?_⟩, hb'⟩
  ·obtain ⟨ks, h1, h2⟩ := hT.ent e he
   exact ⟨ks, (key e he ks).mp h1, h2⟩
  ·exact List.Pairwise.imp_of_mem (fun {a b} ha hb' hab ks h1 h2 => hab ks ((key a ha ks).mpr h1) ((key b hb' ks).mpr h2)) hT.one
  ·rw [← hP ks]
   constructor
   ·rintro ⟨e, he, h1⟩
    exact ⟨e, he, (key e he ks).mpr h1⟩
   ·rintro ⟨e, he, h1⟩
    exact ⟨e, he, (key e he ks).mp h1⟩
 add := fun i v s Q E hi ⟨hS1, hb⟩ q => by
  have hil : i < items.size := (Array.getElem?_eq_some_iff.mp hi).1
  have hiq : i < qs.length := by rw [← x.1, Array.length_toList]; exact hil
  have hi' : items.toList[i]? = some v := by rw [Array.getElem?_toList]; exact hi
  obtain ⟨t, rfl, h2, _⟩ := x.2 i v qs[i] hi' (List.getElem?_eq_getElem hiq)
  obtain ⟨o2, its2, n2, g1, g2⟩ := h2
  have hlt : t < S := Nat.lt_of_lt_of_le (Heap.lt_size g1) hS
  have hk : IsTupleKey (mixKind P w) s.heap (kOf qs[i]) t := ⟨o2, its2, n2, hb t o2 hlt g1, g2⟩
  refine add2 hu hS1 (by lia) hk (List.mem_of_getElem? hi') fun b h' tk _ sb hS2 => q b h' tk sb ⟨?_, fun b o hlt e => (sb.2 b (Nat.ne_of_lt hlt)).trans (hb b o hlt e)⟩
  have e : (fun ks => (∃ (j : Nat) (q : Qd), j < i ∧ qs[j]? = some q ∧ ks = kOf q) ∨ ks = kOf qs[i]) = fun ks => ∃ (j : Nat) (q : Qd), j < i + 1 ∧ qs[j]? = some q ∧ ks = kOf q := funext fun ks => propext (by
   constructor
   ·rintro (⟨j, q, h1, h2, h3⟩ | h)
    ·exact ⟨j, q, by lia, h2, h3⟩
    ·exact ⟨i, qs[i], by lia, List.getElem?_eq_getElem hiq, h⟩
   ·rintro ⟨j, q, h1, h2, h3⟩
    by_cases c : j < i
    ·exact .inl ⟨j, q, c, h2, h3⟩
    ·have : j = i := by lia
     subst this
     rw [List.getElem?_eq_getElem hiq] at h2
     cases h2
     exact .inr h3)
  rw [← e]
  exact hS2
theorem JQ.zero {P : Program} {w : World} {h0 h : Heap} {S : Addr} {items : Array Value} {qs : List Qd} (hS : h.get? S = some (freshSet w)) (k : ∀ b o, b < S → h0.get? b = some o → h.get? b = some o) : JQ P w h0 S items qs 0 h :=
 ⟨⟨_, #[], 0, _, hS, ⟨rfl, rfl, rfl⟩, rfl, ⟨⟨rfl, rfl, .inl rfl, (by show (0 : Nat) * 5 < 7 * 3; decide), List.Pairwise.nil⟩, (fun _ h => (nomatch h)), (fun i e j h => (nomatch h)), List.Pairwise.nil⟩, Nat.le_refl _, rfl, (fun _ h => (nomatch h)), fun ks => ⟨fun ⟨_, h, _⟩ => (nomatch h), fun ⟨_, _, h, _⟩ => absurd h (Nat.not_lt_zero _)⟩⟩, k⟩
end
end L2
namespace L2
open PySem PySem.Spec PyProof.Rows PySem.W Srd Sts Stg
def GI (P : Int → Prop) (l : List (Int × Value)) : Prop := l.Pairwise (fun e e' => iKey e.2 ≠ iKey e'.2) ∧ ∀ i, (∃ e ∈ l, iKey e.2 = i) ↔ P i
theorem GI.perm {P : Int → Prop} (l l' : List (Int × Value)) (p : l'.Perm l) (h : GI P l) : GI P l' :=
 ⟨(p.pairwise_iff fun {a b} hab e => hab e.symm).mpr h.1, fun i => Iff.trans ⟨fun ⟨e, h1, h2⟩ => ⟨e, p.mem_iff.mp h1, h2⟩, fun ⟨e, h1, h2⟩ => ⟨e, p.mem_iff.mpr h1, h2⟩⟩ (h.2 i)⟩
def GN (l : List (Int × Value)) : Prop := ∀ e ∈ l, ∃ i t, e.2 = Value.int i t
section
variable {X : Cx} {e : Expr} {te : TE} {p p' pos pos' : Pos}
theorem is_iff {P : Program} {w : World} {k i : Int} {t : Nat} : (intKind P w).is k (Value.int i t) = true ↔ i = k := by
 constructor
 ·intro h
  exact (intKind P w).inj _ _ _ (intKind_is _ _ _ _) h
 ·rintro rfl
  exact intKind_is _ _ _ _
def JI (P : Program) (w : World) (h0 : Heap) (S : Addr) (ns : List Int) (i : Nat) (h : Heap) : Prop :=
 TSetG (mixKind P w) h S (fun l => GN l ∧ GI (fun k => ∃ j : Nat, j < i ∧ ns[j]? = some k) l) i (ledOf w) ∧ ∀ b o, b < S → h0.get? b = some o → h.get? b = some o
theorem JI.goes {P : Program} {w : World} {A : Around} {h0 : Heap} {S : Addr} {items : Array Value} {ns : List Int} (x : Vals (ns.map V.int) items.toList) (hn : items.size ≤ 900) : Goes P w A S items (JI P w h0 S ns) where
 keep := fun i h h' ⟨⟨o, es, ep, t, ho, hx, hd, hE, hT, hsz, hl, hG⟩, hb⟩ k =>
  ⟨⟨o, es, ep, t, k S o (Nat.le_refl _) ho, hx, hd, hE, hT, hsz, hl, hG⟩, fun b o hlt e => k b o (Nat.le_of_lt hlt) (hb b o hlt e)⟩
 add := fun i v s Q E hi ⟨hS1, hb⟩ q => by
  have hi' : items.toList[i]? = some v := by rw [Array.getElem?_toList]; exact hi
  have hil : i < items.size := (Array.getElem?_eq_some_iff.mp hi).1
  obtain ⟨z, hz, rz⟩ := vals_get x i v hi'
  rw [List.getElem?_map] at hz
  obtain ⟨k, hk, rfl⟩ := Option.map_eq_some_iff.mp hz
  obtain ⟨tk0, rfl⟩ := rz
  have eP : ∀ m : Int, (∃ j : Nat, j < i + 1 ∧ ns[j]? = some m) ↔ ((∃ j : Nat, j < i ∧ ns[j]? = some m) ∨ m = k) := fun m => by
   constructor
   ·rintro ⟨j, h1, h2⟩
    by_cases c : j < i
    ·exact .inl ⟨j, c, h2⟩
    ·have : j = i := by lia
     subst this
     rw [hk] at h2
     cases h2
     exact .inr rfl
   ·rintro (⟨j, h1, h2⟩ | rfl)
    ·exact ⟨j, by lia, h2⟩
    ·exact ⟨i, by lia, hk⟩
  refine addG (G' := fun l => GN l ∧ GI (fun k => ∃ j : Nat, j < i + 1 ∧ ns[j]? = some k) l) (fun l l' pp ⟨g1, g2⟩ => ⟨fun e he => g1 e (pp.mem_iff.mp he), GI.perm l l' pp g2⟩) hS1 (by lia) (fun l ⟨hN, g1, g2⟩ hex => ⟨hN, g1, fun m => ?_⟩) (fun l x ⟨hN, g1, g2⟩ hno => ⟨fun e he => ?_, List.pairwise_cons.mpr ⟨fun e he z => ?_, g1⟩, fun m => ?_⟩) fun b h' tk _ sb hS2 => q b h' tk sb ⟨hS2, fun b o hlt e => (sb.2 b (Nat.ne_of_lt hlt)).trans (hb b o hlt e)⟩
  ·refine Iff.trans ?_ (Iff.trans (or_congr (g2 m) Iff.rfl) (eP m).symm)
   constructor
   ·exact .inl
   ·rintro (h | rfl)
    ·exact h
    ·obtain ⟨e, he, h1⟩ := hex
     obtain ⟨i', t', h2⟩ := hN e he
     rw [h2] at h1
     exact ⟨e, he, by rw [h2]; exact is_iff.mp h1⟩
  ·rcases List.mem_cons.mp he with rfl | he
   ·exact ⟨k, tk0, rfl⟩
   ·exact hN e he
  ·obtain ⟨i', t', h2⟩ := hN e he
   have h3 := hno e he
   rw [h2] at h3 z
   have : i' = k := z.symm
   rw [is_iff.mpr this] at h3
   cases h3
  ·refine Iff.trans ?_ (Iff.trans (or_congr (g2 m) Iff.rfl) (eP m).symm)
   constructor
   ·rintro ⟨e, he, h1⟩
    rcases List.mem_cons.mp he with rfl | he
    ·exact .inr h1.symm
    ·exact .inl ⟨e, he, h1⟩
   ·rintro (⟨e, he, h1⟩ | rfl)
    ·exact ⟨e, List.mem_cons_of_mem _ he, h1⟩
    ·exact ⟨_, List.mem_cons_self .., rfl⟩
theorem JI.zero {P : Program} {w : World} {h0 h : Heap} {S : Addr} {ns : List Int} (hS : h.get? S = some (freshSet w)) (k : ∀ b o, b < S → h0.get? b = some o → h.get? b = some o) : JI P w h0 S ns 0 h :=
 ⟨⟨_, #[], 0, _, hS, ⟨rfl, rfl, rfl⟩, rfl, (fun _ h => (nomatch h)), ⟨rfl, rfl, .inl rfl, (by show (0 : Nat) * 5 < 7 * 3; decide), List.Pairwise.nil⟩, Nat.le_refl _, rfl, ⟨(fun _ h => (nomatch h)), List.Pairwise.nil, fun ks => ⟨fun ⟨_, h, _⟩ => (nomatch h), fun ⟨_, h, _⟩ => absurd h (Nat.not_lt_zero _)⟩⟩⟩, k⟩
def rSortSetS (K : PySem.W.Frag) (v : V) (H : Hp) (Q : VK) : Prop :=
 (∃ l ys qs, v = .ref l ∧ SqL K H l ys ∧ ys.length ≤ 900 ∧ QL H ys qs ∧ ∀ r zs ms, H r = none → ms.Pairwise (fun a b => qLt a b = true) → (∀ q, q ∈ ms ↔ q ∈ qs) → QL H zs ms → Q (.ref r) (upd H r (.lst zs))) ∨
 (∃ (l : Addr) (ns : List Int), v = .ref l ∧ SqL K H l (ns.map V.int) ∧ ns.length ≤ 900 ∧ ∀ r (ms : List Int), H r = none → ms.Pairwise (· < ·) → (∀ i, i ∈ ms ↔ i ∈ ns) → Q (.ref r) (upd H r (.lst (ms.map V.int))))
theorem ql_sub {P : Program} {w : World} {H : Hp} {h0 : Heap} (ok : HOk P w H h0) {ys : List V} {its : List Value} {qs : List Qd} (rv : Vals ys its) (ql : QL H ys qs) : ∀ us : List Value, (∀ u ∈ us, u ∈ its) → ∃ zs, Vals zs us ∧ QL H zs (us.map (kq h0))
 | [], _ => ⟨[], .nil, .nil⟩
 | u :: us, h => by
  obtain ⟨y, hy, ry⟩ := vals_mem rv u (h u (List.mem_cons_self ..))
  obtain ⟨zs, rz, hz⟩ := ql_sub ok rv ql us fun x hx => h x (List.mem_cons_of_mem _ hx)
  obtain ⟨t, q, _, rfl, e2⟩ := ql.mem y hy
  have hu : u = Value.ref t := ry
  subst hu
  exact ⟨_, .cons ry rz, .cons ⟨t, rfl, by rw [kq_of (isQ_of ok e2)]; exact e2⟩ hz⟩
theorem JQ.out {P : Program} {w : World} {h0 h : Heap} {S : Addr} {items : Array Value} {qs : List Qd} (x : QIt P w h0 items.toList qs) (hS : h0.objs.size ≤ S) (j : JQ P w h0 S items qs items.size h) :
  ∃ o es ep t, h.get? S = some o ∧ o.ExactSet ∧ o.data = .set es ep t ∧ Tab es t ∧ es.size ≤ items.size ∧ t.led = ledOf w ∧ (∀ e ∈ es.toList, e.2 ∈ items.toList) ∧ (es.toList.map fun e => kq h0 e.2).Nodup ∧ ∀ q, q ∈ (es.toList.map fun e => kq h0 e.2) ↔ q ∈ qs := by
 obtain ⟨⟨o, es, ep, t, ho, hx, hd, hT, hsz, hl, hv, hP⟩, hb⟩ := j
 have key : ∀ e ∈ es.toList, ∀ ks, Bears (mixKind P w) h ks e ↔ ks = kOf (kq h0 e.2) := fun e he ks => by
  obtain ⟨tt, q, _, h1, h2, h3⟩ := x.mem (hv e he)
  have hq := kq_of h3
  obtain ⟨e1, e2⟩ := e
  dsimp only at h1 hq ⊢
  subst h1
  have hlt : tt < S := by
   obtain ⟨o2, _, _, g1, _⟩ := h2
   exact Nat.lt_of_lt_of_le (Heap.lt_size g1) hS
  rw [bears_at h2 hlt hb, hq]
 refine ⟨o, es, ep, t, ho, hx, hd, hT.tab, hsz, hl, hv, ?_, fun q => ?_⟩
 ·refine List.pairwise_map.mpr (List.Pairwise.imp_of_mem (fun {a b} ha hb' hab z => ?_) hT.one)
  exact hab _ ((key a ha _).mpr rfl) ((key b hb' _).mpr (by rw [z]))
 ·have h1 := hP (kOf q)
  constructor
  ·intro hq
   obtain ⟨e, he, rfl⟩ := List.mem_map.mp hq
   obtain ⟨j, q', _, h2, h3⟩ := h1.mp ⟨e, he, (key e he _).mpr rfl⟩
   rw [kOf_inj h3]
   exact List.mem_of_getElem? h2
  ·intro hq
   obtain ⟨j, hj⟩ := List.mem_iff_getElem?.mp hq
   have hjl := (List.getElem?_eq_some_iff.mp hj).1
   obtain ⟨e, he, hbr⟩ := h1.mpr ⟨j, q, by rw [← Array.length_toList, x.1]; exact hjl, hj, rfl⟩
   exact List.mem_map.mpr ⟨e, he, (kOf_inj ((key e he _).mp hbr)).symm⟩
set_option maxHeartbeats 1000000 in
theorem pe_sort_setS (hc : X.calm = true) (hu : X.A.units + 200 < cLine) (hg : Gl X "sorted") (hm : X.mg "sorted" = none) (hg' : Gl X "set") (hm' : X.mg "set" = none) (pa : PA X [e] (tCons te tNil))
  (hs : starEach [e] X.env = [(false, eval e X.env)] := by rfl) (hs' : starEach [.Call (.Name "set" p') [e] [] pos'] X.env = [(false, eval (.Call (.Name "set" p') [e] [] pos') X.env)] := by rfl) :
  PE X (.Call (.Name "sorted" p) [.Call (.Name "set" p') [e] [] pos'] [] pos) (fun σ H Q => te σ H fun v H1 => rSortSetS X.K v H1 Q) := by
 intro pins s σ H Q I h
 refine wpAny_Call_Name_kw (ld_blt I hg hm bt_sorted1 ?_)
 refine PyProof.Rows.callWith_builtin1 ?_ hs' rfl
 rw [hs']
 refine Calls.spliced_cons ?_
 refine wpAny_Call_Name_kw (ld_blt I hg' hm' bt_set ?_)
 refine PyProof.Rows.callWith_type1 (thn (pa pos' pins s σ H (fun vs H1 => match vs with | [v] => rSortSetS X.K v H1 Q | _ => False) I h) fun us s1 ⟨vs, H1, I1, r, q⟩ => ?_) hs rfl
 match vs, r, q with
 | [v], r, q =>
  obtain ⟨u, rfl, ru⟩ := r.one
  rcases q with ⟨l, ys, qs, rfl, hq, hl9, hql, q⟩ | ⟨l, ns, rfl, hq, hl9, q⟩
  ·cases ru
   obtain ⟨its, rv, pl, hz⟩ := I1.list hq
   have hlen := rv.length
   have x : QIt X.prog X.w s1.heap its.toArray.toList qs := QIt.of I1.hok rv hql
   refine call_setJ (J := JQ X.prog X.w s1.heap s1.heap.objs.size its.toArray qs) (I1.ok.hd hc) (by lia) pl.isList (fun B hB => JQ.goes hB x (Nat.le_refl _) (by rw [List.size_toArray]; lia)) (fun h h1 h2 => JQ.zero h1 h2) fun h2 tk hJ k2 => ?_
   refine Calls.spliced_nil ?_
   have k2' : ∀ b o, s1.heap.get? b = some o → h2.get? b = some o := fun b o e => k2 b o (Heap.lt_size e) e
   obtain ⟨o, es, ep, t, ho, hx, hd, hT, hsz, hled, hv, hnd, hmem⟩ := hJ.out x (Nat.le_refl _)
   have hsz' : es.size ≤ its.length := by simpa using hsz
   refine sorted_colL (lv := fun u v => qLt (kq s1.heap u) (kq s1.heap v)) (s := { s1 with heap := h2, toks := tk }) (C := fun ys => ys.Perm (es.toList.map (·.2))) (qLt_sto.swo (kq s1.heap)) (fun Q' E' hq' => ?_) (fun ys' h6 tk6 d6 hC k6 h2l => ?_) fun pa ys' out h3 tk3 d3 c hC hperm hso k3 e3 hle hos => ?_
   ·refine collect_set2 (I1.ok.hd hc) ho hx hd hT hled (by lia) fun ys' h' tk' d' k' hp hle => hq' ys' h' tk' d' k' hp ?_ hle
    rw [hp.length_eq, List.length_map, Array.length_toList]
    lia
   ·refine qs_sortableL (h0 := s1.heap) (fun v hv' => ?_) (fun b o e => k6 b o (k2' b o e)) h2l
    obtain ⟨e, he, rfl⟩ := List.mem_map.mp (hC.mem_iff.mp hv')
    obtain ⟨tt, q, _, h1, _, h3⟩ := x.mem (hv e he)
    exact ⟨q, h3⟩
   ·have hpm : out.toList.Perm (es.toList.map (·.2)) := hperm.trans hC
    obtain ⟨zs, rz, hzq⟩ := ql_sub I1.hok rv hql out.toList fun u hu => by
     obtain ⟨e, he, rfl⟩ := List.mem_map.mp (hpm.mem_iff.mp hu)
     exact hv e he
    have hzl : zs.length = out.size := rz.length.trans (Array.length_toList ..)
    have hS0 : s1.heap.objs.size ≤ pa := Nat.le_trans (Nat.le_of_lt (Heap.lt_size ho)) hle
    have I2 := I1.laid (h' := h3) (t' := tk3) (a := pa) (o := .lst zs) (fun b o e => k3 b o (k2' b o e)) hS0 (show ObjOk X.prog X.w _ h3 _ (.lst zs) from ⟨by rw [sizeLine_eq]; lia, out.toList, c, rz, e3⟩)
    have hmp : (out.toList.map (kq s1.heap)).Perm (es.toList.map fun e => kq s1.heap e.2) := by
     have := hpm.map (kq s1.heap)
     rw [List.map_map] at this
     exact this
    refine ⟨.ref pa, _, I2.draws (d := d3), rfl, q pa zs _ (I1.hok.fresh hS0) (qLt_sto.strict ?_ (hmp.nodup_iff.mpr hnd)) (fun q => hmp.mem_iff.trans (hmem q)) hzq⟩
    exact List.pairwise_map.mpr hso
  ·cases ru
   obtain ⟨its, rv, pl, hz⟩ := I1.list hq
   have hlen := rv.length
   rw [List.length_map] at hlen
   refine call_setJ (J := JI X.prog X.w s1.heap s1.heap.objs.size ns) (I1.ok.hd hc) (by lia) pl.isList (fun B hB => JI.goes rv (by rw [List.size_toArray]; lia)) (fun h h1 h2 => JI.zero h1 h2) fun h2 tk hJ k2 => ?_
   refine Calls.spliced_nil ?_
   have k2' : ∀ b o, s1.heap.get? b = some o → h2.get? b = some o := fun b o e => k2 b o (Heap.lt_size e) e
   obtain ⟨⟨o, es, ep, t, ho, hx, hd, hE, hT, hsz, hled, hN, hnd, hmem⟩, hb⟩ := hJ
   have hsz' : es.size ≤ its.length := by simpa using hsz
   refine sorted_colL (s := { s1 with heap := h2, toks := tk }) (C := fun ys => ys.Perm (es.toList.map (·.2))) iLt_swo (fun Q' E' hq' => ?_) (fun ys' h6 tk6 d6 hC k6 h2l => ?_) fun pa ys' out h3 tk3 d3 c hC hperm hso k3 e3 hle hos => ?_
   ·refine collect_set2 (I1.ok.hd hc) ho hx hd hT hled (by lia) fun ys' h' tk' d' k' hp hle => hq' ys' h' tk' d' k' hp ?_ hle
    rw [hp.length_eq, List.length_map, Array.length_toList]
    lia
   ·refine ints_sortableL (fun v hv' => ?_) h2l
    obtain ⟨e, he, rfl⟩ := List.mem_map.mp (hC.mem_iff.mp hv')
    exact hN e he
   ·have hpm : out.toList.Perm (es.toList.map (·.2)) := hperm.trans hC
    have hon : ∀ us : List Value, (∀ u ∈ us, ∃ i t, u = Value.int i t) → Vals ((us.map iKey).map V.int) us := fun us => by
     induction us with
     | nil => exact fun _ => .nil
     | cons u us ih =>
      intro hu
      obtain ⟨i, t, rfl⟩ := hu u (List.mem_cons_self ..)
      exact .cons ⟨t, rfl⟩ (ih fun x hx => hu x (List.mem_cons_of_mem _ hx))
    have rz := hon out.toList fun u hu => by
     obtain ⟨e, he, rfl⟩ := List.mem_map.mp (hpm.mem_iff.mp hu)
     exact hN e he
    have hS0 : s1.heap.objs.size ≤ pa := Nat.le_trans (Nat.le_of_lt (Heap.lt_size ho)) hle
    have I2 := I1.laid (h' := h3) (t' := tk3) (a := pa) (o := .lst ((out.toList.map iKey).map V.int)) (fun b o e => k3 b o (k2' b o e)) hS0 (show ObjOk X.prog X.w _ h3 _ (.lst ((out.toList.map iKey).map V.int)) from ⟨by rw [List.length_map, List.length_map, Array.length_toList, sizeLine_eq]; lia, out.toList, c, rz, e3⟩)
    have hmp : (out.toList.map iKey).Perm (es.toList.map fun e => iKey e.2) := by
     have := hpm.map iKey
     rw [List.map_map] at this
     exact this
    refine ⟨.ref pa, _, I2.draws (d := d3), rfl, q pa _ (I1.hok.fresh hS0) (strictly (rising rz hso) (hmp.nodup_iff.mpr (List.pairwise_map.mpr hnd))) (fun i => hmp.mem_iff.trans (Iff.trans ?_ ((hmem i).trans ?_)))⟩
    ·constructor
     ·intro hi
      obtain ⟨e, he, rfl⟩ := List.mem_map.mp hi
      exact ⟨e, he, rfl⟩
     ·rintro ⟨e, he, rfl⟩
      exact List.mem_map.mpr ⟨e, he, rfl⟩
    ·constructor
     ·rintro ⟨j, _, h2⟩
      exact List.mem_of_getElem? h2
     ·intro hi
      obtain ⟨j, hj⟩ := List.mem_iff_getElem?.mp hi
      exact ⟨j, by have := (List.getElem?_eq_some_iff.mp hj).1; simp; lia, hj⟩
end
end L2
namespace L2
open PySem PySem.Spec PyProof.Rows
end L2
namespace L2
open PySem PySem.Spec PyProof.Rows PySem.W Srd
end L2
namespace L2
open PySem PySem.Spec PyProof.Rows
end L2
namespace L2
open PySem PySem.Spec PyProof.Rows
end L2
namespace L2
open PySem PySem.Spec PyProof.Rows PySem.W Srd Sts Stg
end L2
namespace Stg
open PySem PyProof.Rows Sts
end Stg
namespace L2
open PySem PySem.Spec PyProof.Rows PySem.W Srd Sts Stg
end L2
namespace L2
open PySem PySem.Spec PyProof.Rows
end L2
namespace Fg
open PySem L2 FgM
theorem pg_tupK {X : Cx} {K : PySem.W.Frag} {es : List Expr} {k : Nat} {t : TGs} {n : Nat} {pos : Pos} (hK : X.K = K) (hc : X.calm = true) (h : PGs X es t) (hn : (assignEach es X.env).length = n := by rfl) (hst : (assignEach es X.env).findIdx? (·.1) = none := by rfl) : PG X (.Tuple es k pos) (gTup K n t) := by
 subst hK
 exact pg_tup hc h hn hst
theorem comp_range {lo : Int} {n : Nat} {p : Addr} {g : TG} {te : TE} {R : Hp → Prop} {σ0 : St} {H0 : Hp} (Pv : Nat → List V → St → Hp → Prop) (h0 : Pv 0 [] σ0 H0)
  (hl : ∀ i ys σ H, i ≤ n → Pv i ys σ H → H p = some (.lst ys))
  (hs : ∀ i ys σ H, i < n → Pv i ys σ H → g (.int (lo + i)) σ H fun σ3 H4 => te σ3 H4 fun v H5 => H5 p = some (.lst ys) ∧ ys.length < sizeLine ∧ ∃ m', m' < n - i ∧ CW n Pv (i + 1) m' (ys ++ [v]) σ3 (upd H5 p (.lst (ys ++ [v]))))
  (hd : ∀ ys σ H, Pv n ys σ H → R H) :
  ∃ W : Nat → Nat → List V → St → Hp → Prop, (∃ m, W 0 m [] σ0 H0) ∧ ∀ i m ys σc H2, W i m ys σc H2 → H2 p = some (.lst ys) ∧ (((Itr lo n).stop i H2 ∧ R H2) ∨ ((Itr lo n).go i H2 ∧ ∀ x H3, (Itr lo n).yld i H2 x H3 → g x σc H3 fun σ3 H4 => te σ3 H4 fun v H5 =>
   H5 p = some (.lst ys) ∧ ys.length < sizeLine ∧ ∃ m', m' < m ∧ W (i + 1) m' (ys ++ [v]) σ3 (upd H5 p (.lst (ys ++ [v]))))) := by
 refine ⟨CW n Pv, ⟨_, rfl, Nat.zero_le _, h0⟩, ?_⟩
 rintro i m ys σ H ⟨rfl, hi, hp⟩
 refine ⟨hl i ys σ H hi hp, ?_⟩
 by_cases hlt : i < n
 ·refine .inr ⟨hlt, ?_⟩
  rintro x H3 ⟨rfl, rfl⟩
  exact hs i ys σ _ hlt hp
 ·have e : i = n := by lia
  subst e
  exact .inl ⟨Nat.le_refl _, hd ys σ H hp⟩
theorem ix_listK {X : Cx} {K : PySem.W.Frag} (h : X.K = K) : IxR X (rIxL K) := h ▸ ix_list
theorem tup_upd {H : Hp} {p : Addr} {ys zs : List V} (hp : H p = some (.lst ys)) : ∀ b xs, H b = some (.tup xs) → (upd H p (.lst zs)) b = some (.tup xs) := fun b xs h => by
 rw [upd_ne (fun e => by rw [e, hp] at h; cases h)]
 exact h
def spCell17 (K : PySem.W.Frag) : Sp := fun vs H Q _ => ∃ (a : Addr) (ns : List Int) (k : Int), vs = [.ref a, .int k] ∧ SqL K H a (ns.map V.int) ∧ ns.length ≤ 63 ∧ 0 ≤ k ∧ k ≤ 1000 ∧ ∀ v : Int, 0 ≤ v → v < 2147483647 → Q (.int v) H
structure FQ where
 n : Int
 hs : List Int
 ts : List Int
 qs : List Srd.Qd
abbrev Rise (l : List Int) : Prop := l.Pairwise (· < ·)
abbrev RiseQ (l : List Srd.Qd) : Prop := l.Pairwise (fun a b => Srd.qLt a b = true)
def FmQ (H : Hp) (a : Addr) (f : FQ) : Prop := ∃ (h1 h2 h3 : Addr) (zs : List V), H a = some (.tup [.int f.n, .ref h1, .ref h2, .ref h3]) ∧ H h1 = some (.tup (f.hs.map V.int)) ∧ H h2 = some (.tup (f.ts.map V.int)) ∧ H h3 = some (.tup zs) ∧ QL H zs f.qs
theorem QL.snoc {H : Hp} {q : Srd.Qd} {p : Addr} (e : H p = some (tq q)) : ∀ {zs : List V} {qs : List Srd.Qd}, QL H zs qs → QL H (zs ++ [.ref p]) (qs ++ [q])
 | _, _, .nil => .cons ⟨p, rfl, e⟩ .nil
 | _, _, .cons r t => .cons r (QL.snoc e t)
theorem riseQ_nodup {l : List Srd.Qd} (h : RiseQ l) : l.Nodup := h.imp fun {a b} hab e => by
 subst e
 rw [Srd.qLt_sto.irr] at hab
 cases hab
theorem rise_one {l m : List Int} (hl : Rise l) (hm : Rise m) (h : ∀ x, x ∈ l ↔ x ∈ m) : l = m :=
 Srd.sto_int.one (hl.imp fun h => decide_eq_true h) (hm.imp fun h => decide_eq_true h) h
theorem modB (x : Int) {n : Int} (h : 1 ≤ n) : 0 ≤ x % n ∧ x % n < n := ⟨Int.emod_nonneg _ (by lia), Int.emod_lt_of_pos _ (by lia)⟩
def QB (n : Int) (qs : List Srd.Qd) : Prop := ∀ q ∈ qs, (0 ≤ q.1 ∧ q.1 < n) ∧ (0 ≤ q.2.2.1 ∧ q.2.2.1 < n) ∧ 0 ≤ q.2.2.2 ∧ q.2.2.2 < n
def IB (n : Int) (xs : List Int) : Prop := ∀ x ∈ xs, 0 ≤ x ∧ x < n
theorem IB.snoc {n x : Int} {xs : List Int} (h : IB n xs) (hx : 0 ≤ x ∧ x < n) : IB n (xs ++ [x]) := fun y hy => by
 rcases List.mem_append.mp hy with hy | hy
 ·exact h y hy
 ·rw [List.mem_singleton.mp hy]
  exact hx
structure IsF (n' : Int) (hs' ts' : List Int) (qs' : List Srd.Qd) (h : FQ) : Prop where
 n : h.n = n'
 hs : Rise h.hs
 ts : Rise h.ts
 qs : RiseQ h.qs
 hm : ∀ x, x ∈ h.hs ↔ x ∈ hs'
 tm : ∀ x, x ∈ h.ts ↔ x ∈ ts'
 qm : ∀ x, x ∈ h.qs ↔ x ∈ qs'
end Fg
namespace Fg
open PySem L2 FgM
end Fg
namespace Fg
open PySem L2 FgM
end Fg
namespace Fg
open PySem L2 FgM
end Fg
namespace L2
open PySem PySem.Spec PyProof.Rows
end L2
namespace Fg
open PySem L2 FgM
end Fg
namespace L2
open PySem PySem.Spec PyProof.Rows
end L2
namespace L2
open PySem PySem.Spec PyProof.Rows PySem.W
end L2
namespace Srd
open PySem PyProof.Rows Srt PySem.W
end Srd
namespace L2
open PySem PySem.Spec PyProof.Rows PySem.W Srd
end L2
namespace L2
open PySem PySem.Spec PyProof.Rows PySem.W Srd
end L2
namespace L2
open PySem PySem.Spec PyProof.Rows PySem.W Srd
end L2
namespace L2
open PySem PySem.Spec PyProof.Rows
end L2
namespace Fg
open PySem L2 FgM
end Fg
namespace L2
open PySem PySem.Spec PyProof.Rows Srd
section
variable {X : Cx}
def rInsert : V → List V → Hp → VK → Prop := fun x vs H Q => ∃ (l : Addr) (xs : List V) (i : Int) (k : Nat) (y : V), x = .ref l ∧ vs = [.int i, y] ∧ i = (k : Int) ∧ H l = some (.lst xs) ∧ k ≤ xs.length ∧ xs.length < sizeLine ∧ Q .non (upd H l (.lst (xs.take k ++ y :: xs.drop k)))
theorem mt_insert : MtM X "list.insert" rInsert := by
 intro pins s σ H x vs v us Q I rx rv h
 obtain ⟨l, xs, i, k, y, rfl, rfl, hi, hH, hk, hz, q⟩ := h
 cases rx
 obtain ⟨u, us', rfl, ru, rv⟩ := rv.inv
 obtain ⟨u2, rfl, ru2⟩ := rv.one
 obtain ⟨t, rfl⟩ := ru
 obtain ⟨z, its, n, r, hl, e⟩ := I.lstM hH
 have hf : Builtin.List.listFitsIndex i = true := by
  have h1 : sizeLine < 9223372036854775808 := by unfold sizeLine; lia
  exact fitsIndex_both (by lia) (by lia)
 refine call_meets F.slot_list_insert ⟨_, e, rfl⟩ F.entry_list_insert (F.args_list_insert_3 _ _ _)
  (@AutoSeq1.list_insert_list_int_val_1 l its.toArray n i t u2 (by simp [hf]) (by rw [List.size_toArray, ← hl]; exact z)) ⟨e, ?_⟩
 refine ⟨.non, _, I.lset (its' := its.take k ++ u2 :: its.drop k) hH e ?_ ((r.take k).append (.cons ru2 (r.drop k))) ?_, rfl, q⟩
 ·have e1 : ¬ (i < 0) := by lia
  have e2 : min i.toNat its.length = k := by lia
  simp only [if_neg e1, List.size_toArray, e2]
  apply Array.toList_inj.mp
  simp only [List.extract_toArray, List.push_toArray, List.append_toArray, List.extract_eq_take_drop, List.drop_zero, Nat.sub_zero]
  rw [List.take_of_length_le (l := its.drop k) (by rw [List.length_drop]; exact Nat.le_refl _)]
  simp
 ·rw [List.length_append, List.length_cons, List.length_take, List.length_drop]
  lia
end
end L2
namespace L2
open PySem PySem.Spec PyProof.Rows
end L2
namespace Stg
open PySem PyProof.Rows Sts
end Stg
namespace L2
open PySem PySem.Spec PyProof.Rows PySem.W Srd Sts Stg
end L2
namespace L2
open PySem PySem.Spec PyProof.Rows
end L2
namespace L2
open PySem PySem.Spec PyProof.Rows
end L2
namespace Fg
open PySem L2 FgM
end Fg
namespace Fg
open PySem L2 FgM
end Fg
namespace L2
open PySem PySem.Spec PyProof.Rows
end L2
namespace L2
open PySem PySem.Spec PyProof.Rows
end L2
namespace Fg
open PySem L2 FgM
end Fg
namespace Fg
open PySem L2 FgM
end Fg
namespace Fg
open PySem L2 FgM
end Fg
namespace L2
open PySem PySem.Spec PyProof.Rows PySem.W Srd Sts Stg
end L2
namespace Fg
open PySem L2 FgM
end Fg
namespace Fg
open PySem L2 FgM
end Fg
namespace L2
open PySem PySem.Spec PyProof.Rows
end L2
namespace L2
open PySem PySem.Spec PyProof.Rows
theorem call_list_ofK {X : Cx} {K : PySem.W.Frag} (hK : X.K = K) : CallR X (.type "list") (fun xs H Q => ∃ p ys, xs = [.ref p] ∧ (SqL K H p ys ∨ SqT K H p ys) ∧ ∀ l, H l = none → Q (.ref l) (upd H l (.lst ys))) := hK ▸ call_list_of
end L2
namespace Fg
open PySem L2 FgM
theorem eq_data {K : PySem.W.Frag} {H : Hp} {a b : V} {d : PyData} {neg : Bool} {Q : VK} (ha : Dp K H a d) (hb : Dp K H b d) (hl : d.canLay0 = true) (hd : d.depth ≤ 200) (q : Q (.bl (!neg)) H) : rEqD K neg a b H Q := by
 refine ⟨d, d, ha, hb, hl, hl, by lia, ?_⟩
 rw [PySem.SeqAt.eqv_refl _ hl]
 cases neg <;> exact q
end Fg
namespace L2
open PySem PySem.Spec PyProof.Rows PySem.W Srd Sts Stg
end L2
namespace L2
open PySem PySem.Spec PyProof.Rows
end L2
namespace L2
open PySem PySem.Spec PyProof.Rows PySem.SeqAt
end L2
namespace Fg
open PySem L2 FgM
end Fg
namespace Fg
open PySem L2 FgM
end Fg
namespace L2
open PySem PySem.Spec PyProof.Rows
end L2
namespace Fg
open PySem L2 FgM
end Fg
namespace Fg
open PySem L2 FgM
end Fg
namespace Fg
open PySem L2 FgM
end Fg
namespace Srd
open PySem PyProof.Rows
end Srd
namespace L2
open PySem PySem.Spec PyProof.Rows PySem.W Srd
end L2
namespace Srd
open PySem PyProof.Rows Srt PySem.W
end Srd
namespace L2
open PySem PySem.Spec PyProof.Rows PySem.W Srd
end L2
namespace L2
open PySem PySem.Spec PyProof.Rows PySem.W
end L2
namespace Fg
open PySem L2 FgM
namespace Pa
end Pa
theorem tagB_letsS {z : Str} (h : Lets z) (h8 : z.length ≤ 8) : tagB z = true := by
 have h1 : 1 ≤ z.length := by
  have : 0 < z.cps.toList.length := List.length_pos_iff.mpr h.1
  rw [Array.length_toList] at this
  exact this
 unfold tagB
 rw [decide_eq_true h1, decide_eq_true h8, Bool.true_and, Bool.true_and, List.all_eq_true]
 intro c hc
 have := h.2 c hc
 unfold azB
 simp; lia
end Fg
namespace L2
open PySem PySem.Spec PyProof.Rows PySem.W
theorem takes_no {X : Cx} : Takes X (fun _ _ _ _ => False) := fun _ _ _ _ _ _ _ _ _ _ _ h => h.elim
structure XNot (K : Frag) (C D : Addr) : Prop where
 ca : findIn K (.ref C) "__class__" = some (some (.builtin "object.__class__"))
 gt : specialIn K (.builtin "object.__class__") "__get__" = some (some (.builtin "getset_descriptor.__get__"))
 tk : takesIn K (.builtin "object.__class__") = some true
 ob : mroIn K C (.type "object") = some true
 ty : typeIn K (.ref D) = some (.type "type")
section
variable {prog : Program} {w : World} {A : Around} {E : Value → Shared → Prop} {s : Shared} {K : Frag} {x C D : Addr} {ox od : Obj} {f : Str}
theorem xclass {Q : Option Value → Shared → Prop} (X : K.In s.heap) (I : InstAt s.heap x ox C (some od)) (Y : XFld K C f) (N : XNot K C D) (h : Q (some (.ref C)) { s with toks := s.toks + 1 }) : wpAny (model prog w) A (getAttr? (.ref x) "__class__") Q E s := by
 have hf : findObj K C (some od) "__class__" = some (.bind (.builtin "getset_descriptor.__get__") (.builtin "object.__class__")) := findObj_data (by obtain ⟨cd, hc, _⟩ := any_some Y.hd; rw [hc]; rfl) N.ca N.gt N.tk
 obtain ⟨hp, g, d, t, os⟩ := s
 have L0 := I.type (M := model prog w)
 have L1 := looks_findIn (M := model prog w) X Y.ga
 have L2 := looks_find (M := model prog w) X I hf
 have L3 : Looks (model prog w) hp (hookBefore (.ref C)) none := looks_hook X ((if_pos (show onTheHeap (Value.ref C) = true from rfl)).trans Y.gt)
 have L4 : Looks (model prog w) hp (isInstance (.ref x) (.type "BaseException")) true := L0.andThen (looks_mroIn X Y.mb)
 have F0 := F.excAttr_ValueError
 unfold getAttr? getAttrBy? getAttrBy
 refine wpAny_bind (wpAny_mkText (wpAny_bind (wpAny_attempt (wpAny_holding (wpAny_bind (L0.at (wpAny_bind (L1.at ?_))))))))
 have hne : (onTheHeap (Value.ref C) && Value.builtin "BaseException.__getattribute__" == Value.builtin "object.__getattribute__") = false := by
  rw [show (Value.builtin "BaseException.__getattribute__" == Value.builtin "object.__getattribute__") = false by decide +kernel, Bool.and_false]
 dsimp only
 rw [hne, if_neg Bool.false_ne_true]
 unfold getAttrByItsOwn
 refine wpAny_bind (L3.at (wpAny_bind (wpAny_attempt (wpAny_holding ?_))))
 unfold callGetattribute boundAndCalled
 rw [show (false && onTheHeap (Value.builtin "BaseException.__getattribute__")) = false from rfl, if_neg Bool.false_ne_true, F0.ga.bind]
 refine wpAny_bind (wpAny_pure ?_)
 show wpAny _ _ (call (.builtin "BaseException.__getattribute__") [.ref x, .str "__class__" t]) _ _ _
 refine wpAny_call (codeAny_call_builtin F0.ga.plain F.entry_bexc_ga ?_)
 refine @check_slot (model prog w) _ _ ⟨hp, g, d, t + 1, os⟩ "BaseException.__getattribute__" "BaseException" "__getattribute__" (.ref x) [.str "__class__" t] [] _ (by decide +kernel) (by decide +kernel) L4 (bga_args _ _) ?_
 show wpAny _ _ (Builtin.«object.__getattribute__» _) _ _ _
 unfold Builtin.«object.__getattribute__»
 refine wpAny_bind (wpAny_pure (wpAny_bind (wpAny_pure (wpAny_bind (L0.at (wpAny_bind (L2.at ?_)))))))
 refine wpAny_bind (wpAny_holding (wpAny_call (class_get (s := ⟨hp, g, d, t + 1, os⟩) (ox := ox) (od := some od) X I N.ob (wpAny_pure ?_))))
 show wpAny _ _ (handedOut (.ref C)) _ _ _
 rw [handedOut_of rfl]
 exact wpAny_pure (wpAny_pure h)
theorem xis_false {c : Value} {Q : Value → Shared → Prop} (X : K.In s.heap) (I : InstAt s.heap x ox C (some od)) (Y : XFld K C f) (N : XNot K C D) (hne : (Value.ref C == c) = false) (e : kitCls K (.ref C) c = some false)
  (h : Q (.bool false) { s with toks := s.toks + 1 }) : wpAny (model prog w) A (call (.builtin "isinstance") [.ref x, c]) Q E s := by
 obtain ⟨cdD, hcD, _⟩ := any_some Y.hd
 refine call_isinstance (S := fun _ R s => (K.In s.heap ∧ InstAt s.heap x ox C (some od)) ∧ R (.ok (.ret (.bool false))) { s with toks := s.toks + 1 }) (fun prog w A R s hs => isinstance_outer ?_ (fun z => nomatch z)) ⟨⟨X, I⟩, h⟩
 obtain ⟨⟨X, I⟩, hq⟩ := hs
 have hisD : Looks (model prog w) s.heap (isType (.ref C)) true := by
  unfold clsIn at hcD
  split at hcD
  ·rename_i c' d' cd' sl' ho
   intro A' Q' E' s' k q
   unfold isType loadHead
   exact wpAny_bind (wpAny_loadPart (k _ _ (X _ _ ho)) (wpAny_pure q))
  ·cases hcD
 obtain ⟨h0, g, d, tt, os⟩ := s
 have L0 := I.type (M := model prog w)
 unfold Builtin.«isinstance.nested»
 refine wpAny_bind (L0.at ?_)
 rw [if_neg (by rw [hne]; decide)]
 obtain ⟨hty, his, hsub⟩ := kit_cls (M := model prog w) X e
 refine wpAny_bind (hty.at ?_)
 rw [if_pos (by decide)]
 k_delta "plainIsInstance"
 refine wpAny_bind (wpAny_bind (his.at ?_))
 simp only [Bool.not_true, Bool.false_eq_true, if_false]
 refine wpAny_bind ((L0.andThen hsub).at ?_)
 simp only [Bool.false_eq_true, if_false]
 refine wpAny_bind (xclass X I Y N ?_)
 refine wpAny_bind (hisD.at ?_)
 simp only [Bool.not_true, Bool.false_eq_true, if_false]
 refine wpAny_bind (wpAny_rule ?_)
 refine hsub.at ?_
 first
  | exact wpAny_pure hq
  | exact wpAny_pure (wpAny_pure hq)
  | exact wpAny_bind (wpAny_pure (wpAny_pure hq))
theorem xis_same {Q : Value → Shared → Prop} (ty : ∀ M, Looks M s.heap (typeOf (.ref x)) (.ref C)) (h : Q (.bool true) s) : wpAny (model prog w) A (call (.builtin "isinstance") [.ref x, .ref C]) Q E s := by
 refine call_isinstance (S := fun _ R s => (∀ M, Looks M s.heap (typeOf (.ref x)) (.ref C)) ∧ R (.ok (.ret (.bool true))) s) (fun prog w A R s hs => isinstance_outer ?_ (fun z => nomatch z)) ⟨ty, h⟩
 obtain ⟨LT, hq⟩ := hs
 obtain ⟨h0, g, d, tt, os⟩ := s
 unfold Builtin.«isinstance.nested»
 refine wpAny_bind ((LT _).at ?_)
 rw [if_pos (beq_self_eq_true _)]
 first
  | exact wpAny_bind (wpAny_rule (wpAny_pure hq))
  | exact wpAny_bind (wpAny_rule hq)
  | ((repeat lk); exact hq)
end
section
variable {X : Cx}
theorem call_xisAK {K : Frag} (hK : X.K = K) : CallR X (.builtin "isinstance") (fun xs H Q => ∃ a oe C D b, xs = [.ref a, .ref D] ∧ H a = some (Known a oe) ∧ oe.cls = .ref C ∧
    ((C = D ∧ b = true) ∨ (C ≠ D ∧ isClsIn K D = true ∧ typeIn K (.ref D) = some (.type "type") ∧ mroIn K C (.ref D) = some true ∧ b = true) ∨
     (C ≠ D ∧ isClsIn K D = true ∧ mroIn K C (.ref D) = some false ∧ b = false ∧ ∃ dx fs f, oe.dict = some dx ∧ (∃ vs, oe.data = .fields vs) ∧ H dx = some (.xd fs) ∧ XFld K C f ∧ XNot K C D)) ∧ Q (.bl b) H) := by
  subst hK
  intro pins s σ H xs us Q I r h
  obtain ⟨a, oe, C, D, b, rfl, hk, hc, h1, q⟩ := h
  rcases h1 with ⟨rfl, rfl⟩ | ⟨h1, h2, h3, h4, rfl⟩ | ⟨h1, h2, h3, rfl, dx, fs, f, hd, ⟨vs, hf⟩, hx, Y, N⟩
  · obtain ⟨u, v, rfl, rx, ry⟩ := Vals.two r
    obtain rfl : u = Value.ref a := rx
    obtain rfl : v = Value.ref C := ry
    have ho : s.heap.get? a = some oe := (I.hok a _ hk).1
    exact xis_same (fun M => hc ▸ (Looks.ld ho).andThen .now) ⟨.bl true, H, I, rfl, q⟩
  · exact call_xisR pins s σ H _ us Q I r ⟨a, oe, C, D, rfl, hk, hc, h1, h2, h3, h4, q⟩
  · obtain ⟨u, v, rfl, rx, ry⟩ := Vals.two r
    obtain rfl : u = Value.ref a := rx
    obtain rfl : v = Value.ref D := ry
    have ho : s.heap.get? a = some oe := (I.hok a _ hk).1
    obtain ⟨mA, n, hr⟩ := (show ObjOk X.prog X.w H s.heap dx (.xd fs) from I.hok dx _ hx)
    obtain ⟨od, hod, hlk⟩ := lookIn_ns n
    have J : InstAt s.heap a oe C (some od) := ⟨ho, hc, by unfold notCls; rw [hf], by rw [hd]; exact hod⟩
    refine xis_false I.kIn J Y N (by simpa using h1) ?_ ⟨.bl false, H, I.tok _, rfl, q⟩
    unfold kitCls
    dsimp only
    unfold isClsIn at h2
    rw [h2, N.ty, if_pos (by decide)]
    exact h3
end
end L2
namespace L2
open PySem PySem.Spec PyProof.Rows
end L2
namespace L2
open PySem PySem.Spec PyProof.Rows
end L2
namespace L2
open PySem PySem.Spec PyProof.Rows PySem.W
end L2
namespace L2
open PySem PySem.Spec PyProof.Rows PySem.W
end L2
namespace L2
open PySem PySem.Spec PyProof.Rows
end L2
namespace Fg
open PySem L2 FgM
end Fg
namespace Fg
open PySem L2 FgM
end Fg
namespace Srd
open PySem PyProof.Rows Srt PySem.W
end Srd
namespace L2
open PySem PySem.Spec PyProof.Rows PySem.W
end L2
namespace L2
open PySem PySem.Spec PyProof.Rows
end L2
namespace L2
open PySem PySem.Spec PyProof.Rows
def tFvR (tv : TE) : TE := fun σ H Q => tv σ H fun v H1 => ∃ z, v = .str z ∧ (reprText z).length ≤ sizeLine ∧ Q (.str (reprText z)) H1
section
variable {X : Cx} {e : Expr} {te : TE} {pos : Pos}
theorem pe_fvr (he : PE X e te) : PE X (.FormattedValue e 114 none pos) (tFvR te) := by
 intro pins s σ H Q I h
 refine wpAny_FormattedValue_repr (thn (he pins s σ H _ I h) fun u s1 ⟨v, H1, I1, r, z, ev, hz, q⟩ => ?_)
 subst ev
 obtain ⟨tk, rfl⟩ := r
 refine pyReprObj_str ?_ hz
 exact formatField_str (fun t' tk => ⟨.str (reprText z), H1, (I1.tok _).tok _, ⟨_, rfl⟩, q⟩) hz
end
end L2
namespace L2
open PySem PySem.Spec PyProof.Rows PySem.W
end L2
namespace L2
open PySem PySem.Spec PyProof.Rows
end L2
namespace L2
open PySem PySem.Spec PyProof.Rows PySem.W
end L2
namespace L2
open PySem PySem.Spec PyProof.Rows PySem.W
end L2
namespace L2
open PySem PySem.Spec PyProof.Rows PySem.W
section
variable {prog : Program} {w : World} {A : Around} {E : Value → Shared → Prop} {s : Shared} {K : Frag} {x C D : Addr} {ox : Obj} {f : Str}
theorem findObj_dataN {a g : Value} {name : Str} (hc : (clsIn K C).isSome = true) (ha : findIn K (.ref C) name = some (some a)) (hg : specialIn K a "__get__" = some (some g)) (ht : takesIn K a = some true) : findObj K C none name = some (.bind g a) := by
 obtain ⟨cd, hc⟩ := Option.isSome_iff_exists.mp hc
 unfold findObj
 rw [hc, Option.bind_some, ha, Option.bind_some]
 simp [hg, ht]
theorem xclassN {Q : Option Value → Shared → Prop} (X : K.In s.heap) (I : InstAt s.heap x ox C none) (Y : XFld K C f) (N : XNot K C D) (h : Q (some (.ref C)) { s with toks := s.toks + 1 }) : wpAny (model prog w) A (getAttr? (.ref x) "__class__") Q E s := by
 have hf : findObj K C none "__class__" = some (.bind (.builtin "getset_descriptor.__get__") (.builtin "object.__class__")) := findObj_dataN (by obtain ⟨cd, hc, _⟩ := any_some Y.hd; rw [hc]; rfl) N.ca N.gt N.tk
 obtain ⟨hp, g, d, t, os⟩ := s
 have L0 := I.type (M := model prog w)
 have L1 := looks_findIn (M := model prog w) X Y.ga
 have L2 := looks_find (M := model prog w) X I hf
 have L3 : Looks (model prog w) hp (hookBefore (.ref C)) none := looks_hook X ((if_pos (show onTheHeap (Value.ref C) = true from rfl)).trans Y.gt)
 have L4 : Looks (model prog w) hp (isInstance (.ref x) (.type "BaseException")) true := L0.andThen (looks_mroIn X Y.mb)
 have F0 := F.excAttr_ValueError
 unfold getAttr? getAttrBy? getAttrBy
 refine wpAny_bind (wpAny_mkText (wpAny_bind (wpAny_attempt (wpAny_holding (wpAny_bind (L0.at (wpAny_bind (L1.at ?_))))))))
 have hne : (onTheHeap (Value.ref C) && Value.builtin "BaseException.__getattribute__" == Value.builtin "object.__getattribute__") = false := by
  rw [show (Value.builtin "BaseException.__getattribute__" == Value.builtin "object.__getattribute__") = false by decide +kernel, Bool.and_false]
 dsimp only
 rw [hne, if_neg Bool.false_ne_true]
 unfold getAttrByItsOwn
 refine wpAny_bind (L3.at (wpAny_bind (wpAny_attempt (wpAny_holding ?_))))
 unfold callGetattribute boundAndCalled
 rw [show (false && onTheHeap (Value.builtin "BaseException.__getattribute__")) = false from rfl, if_neg Bool.false_ne_true, F0.ga.bind]
 refine wpAny_bind (wpAny_pure ?_)
 show wpAny _ _ (call (.builtin "BaseException.__getattribute__") [.ref x, .str "__class__" t]) _ _ _
 refine wpAny_call (codeAny_call_builtin F0.ga.plain F.entry_bexc_ga ?_)
 refine @check_slot (model prog w) _ _ ⟨hp, g, d, t + 1, os⟩ "BaseException.__getattribute__" "BaseException" "__getattribute__" (.ref x) [.str "__class__" t] [] _ (by decide +kernel) (by decide +kernel) L4 (bga_args _ _) ?_
 show wpAny _ _ (Builtin.«object.__getattribute__» _) _ _ _
 unfold Builtin.«object.__getattribute__»
 refine wpAny_bind (wpAny_pure (wpAny_bind (wpAny_pure (wpAny_bind (L0.at (wpAny_bind (L2.at ?_)))))))
 refine wpAny_bind (wpAny_holding (wpAny_call (class_get (s := ⟨hp, g, d, t + 1, os⟩) (ox := ox) (od := none) X I N.ob (wpAny_pure ?_))))
 show wpAny _ _ (handedOut (.ref C)) _ _ _
 rw [handedOut_of rfl]
 exact wpAny_pure (wpAny_pure h)
theorem xis_falseN {c : Value} {Q : Value → Shared → Prop} (X : K.In s.heap) (I : InstAt s.heap x ox C none) (Y : XFld K C f) (N : XNot K C D) (hne : (Value.ref C == c) = false) (e : kitCls K (.ref C) c = some false)
  (h : Q (.bool false) { s with toks := s.toks + 1 }) : wpAny (model prog w) A (call (.builtin "isinstance") [.ref x, c]) Q E s := by
 obtain ⟨cdD, hcD, _⟩ := any_some Y.hd
 refine call_isinstance (S := fun _ R s => (K.In s.heap ∧ InstAt s.heap x ox C none) ∧ R (.ok (.ret (.bool false))) { s with toks := s.toks + 1 }) (fun prog w A R s hs => isinstance_outer ?_ (fun z => nomatch z)) ⟨⟨X, I⟩, h⟩
 obtain ⟨⟨X, I⟩, hq⟩ := hs
 have hisD : Looks (model prog w) s.heap (isType (.ref C)) true := by
  unfold clsIn at hcD
  split at hcD
  ·rename_i c' d' cd' sl' ho
   intro A' Q' E' s' k q
   unfold isType loadHead
   exact wpAny_bind (wpAny_loadPart (k _ _ (X _ _ ho)) (wpAny_pure q))
  ·cases hcD
 obtain ⟨h0, g, d, tt, os⟩ := s
 have L0 := I.type (M := model prog w)
 unfold Builtin.«isinstance.nested»
 refine wpAny_bind (L0.at ?_)
 rw [if_neg (by rw [hne]; decide)]
 obtain ⟨hty, his, hsub⟩ := kit_cls (M := model prog w) X e
 refine wpAny_bind (hty.at ?_)
 rw [if_pos (by decide)]
 k_delta "plainIsInstance"
 refine wpAny_bind (wpAny_bind (his.at ?_))
 simp only [Bool.not_true, Bool.false_eq_true, if_false]
 refine wpAny_bind ((L0.andThen hsub).at ?_)
 simp only [Bool.false_eq_true, if_false]
 refine wpAny_bind (xclassN X I Y N ?_)
 refine wpAny_bind (hisD.at ?_)
 simp only [Bool.not_true, Bool.false_eq_true, if_false]
 refine wpAny_bind (wpAny_rule ?_)
 refine hsub.at ?_
 first
  | exact wpAny_pure hq
  | exact wpAny_pure (wpAny_pure hq)
  | exact wpAny_bind (wpAny_pure (wpAny_pure hq))
end
section
variable {X : Cx}
theorem call_xisAN {K : Frag} (hK : X.K = K) : CallR X (.builtin "isinstance") (fun xs H Q => ∃ a oe C D b, xs = [.ref a, .ref D] ∧ H a = some (Known a oe) ∧ oe.cls = .ref C ∧
    ((C = D ∧ b = true) ∨ (C ≠ D ∧ isClsIn K D = true ∧ typeIn K (.ref D) = some (.type "type") ∧ mroIn K C (.ref D) = some true ∧ b = true) ∨
     (C ≠ D ∧ isClsIn K D = true ∧ mroIn K C (.ref D) = some false ∧ b = false ∧ ∃ f, oe.dict = none ∧ (∃ vs, oe.data = .fields vs) ∧ XFld K C f ∧ XNot K C D)) ∧ Q (.bl b) H) := by
  subst hK
  intro pins s σ H xs us Q I r h
  obtain ⟨a, oe, C, D, b, rfl, hk, hc, h1, q⟩ := h
  rcases h1 with ⟨rfl, rfl⟩ | ⟨h1, h2, h3, h4, rfl⟩ | ⟨h1, h2, h3, rfl, f, hd, ⟨vs, hf⟩, Y, N⟩
  · exact call_xisAK rfl pins s σ H _ us Q I r ⟨a, oe, C, C, true, rfl, hk, hc, .inl ⟨rfl, rfl⟩, q⟩
  · exact call_xisR pins s σ H _ us Q I r ⟨a, oe, C, D, rfl, hk, hc, h1, h2, h3, h4, q⟩
  · obtain ⟨u, v, rfl, rx, ry⟩ := Vals.two r
    obtain rfl : u = Value.ref a := rx
    obtain rfl : v = Value.ref D := ry
    have ho : s.heap.get? a = some oe := (I.hok a _ hk).1
    have J : InstAt s.heap a oe C none := ⟨ho, hc, by unfold notCls; rw [hf], by rw [hd]; trivial⟩
    refine xis_falseN I.kIn J Y N (by simpa using h1) ?_ ⟨.bl false, H, I.tok _, rfl, q⟩
    unfold kitCls
    dsimp only
    unfold isClsIn at h2
    rw [h2, N.ty, if_pos (by decide)]
    exact h3
end
end L2
namespace L2
open PySem PySem.Spec PyProof.Rows
end L2
namespace Fg
open PySem PySem.Spec PyProof.Rows L2 FgM
end Fg
namespace L2
open PySem PySem.Spec PyProof.Rows PySem.W Srd
end L2
namespace K12
open PySem L2 FgM Fg
def top (i : Nat) : Stmt := PySem.Challenge.pw_formgrove_k12_forms_refused.main.body.getD i (.Pass ⟨0, 0, 0, 0⟩)
abbrev s_is_tag : Stmt := top 18
abbrev s_form : Stmt := top 22
abbrev s_refuse_bad_kinds : Stmt := top 23
abbrev s_sorted_form : Stmt := top 24
abbrev s_l_cell : Stmt := top 26
abbrev s_l_tag : Stmt := top 27
abbrev s_l_no_tag : Stmt := top 28
abbrev s_l_rule : Stmt := top 29
abbrev s_l_no_kind : Stmt := top 30
abbrev s_l_things : Stmt := top 31
abbrev s_l_spoiled : Stmt := top 32
abbrev s_l_block : Stmt := top 33
abbrev s_l_word : Stmt := top 34
abbrev s_l_made : Stmt := top 35
abbrev s_law : Stmt := top 36
theorem sc_is_tag : FnScope ["text"] ["text"] (defScope s_is_tag) := ⟨rfl, rfl, rfl, by decide +kernel, rfl, by decide +kernel, by decide +kernel⟩
theorem sc_form : FnScope ["many", "starts", "ends", "rules", "kind", "tag", "inner", "rest"] ["many", "starts", "ends", "rules"] (defScope s_form) := ⟨rfl, rfl, rfl, by decide +kernel, rfl, by decide +kernel, by decide +kernel⟩
theorem sc_refuse_bad_kinds : FnScope ["many", "kinds", "kind"] ["many", "kinds"] (defScope s_refuse_bad_kinds) := ⟨rfl, rfl, rfl, by decide +kernel, rfl, by decide +kernel, by decide +kernel⟩
theorem sc_sorted_form : FnScope ["many", "starts", "ends", "rules", "unlike"] ["many", "starts", "ends", "rules"] (defScope s_sorted_form) := ⟨rfl, rfl, rfl, by decide +kernel, rfl, by decide +kernel, by decide +kernel⟩
theorem sc_l_cell : FnScope ["_law_script", "_law_k"] ["_law_script", "_law_k"] (defScope s_l_cell) := ⟨rfl, rfl, rfl, by decide +kernel, rfl, by decide +kernel, by decide +kernel⟩
theorem sc_l_tag : FnScope ["_law_seed", "_law_v", "_law_letters", "_law_many", "_law_at", "_law_more", "_law_word_here", "_law_j", "_law_sign"] ["_law_seed", "_law_v"] (defScope s_l_tag) := ⟨rfl, rfl, rfl, by decide +kernel, rfl, by decide +kernel, by decide +kernel⟩
theorem sc_l_no_tag : FnScope ["_law_seed", "_law_cell_here", "_law_good", "_law_at", "_law_sign"] ["_law_seed", "_law_cell_here"] (defScope s_l_no_tag) := ⟨rfl, rfl, rfl, by decide +kernel, rfl, by decide +kernel, by decide +kernel⟩
theorem sc_l_rule : FnScope ["_law_seed", "_law_cell_here", "_law_many"] ["_law_seed", "_law_cell_here", "_law_many"] (defScope s_l_rule) := ⟨rfl, rfl, rfl, by decide +kernel, rfl, by decide +kernel, by decide +kernel⟩
theorem sc_l_no_kind : FnScope ["_law_cell_here", "_law_many", "_law_far"] ["_law_cell_here", "_law_many"] (defScope s_l_no_kind) := ⟨rfl, rfl, rfl, by decide +kernel, rfl, by decide +kernel, by decide +kernel⟩
theorem sc_l_things : FnScope ["_law_script", "_law_many", "_law_seed", "_law_heads", "_law_tails", "_law_rules"] ["_law_script", "_law_many"] (defScope s_l_things) := ⟨rfl, rfl, rfl, by decide +kernel, rfl, by decide +kernel, by decide +kernel⟩
theorem sc_l_spoiled : FnScope ["_law_things_here", "_law_many", "_law_way", "_law_seed", "_law_cell_here", "_law_copies", "_law_rule_here"] ["_law_things_here", "_law_many", "_law_way", "_law_seed", "_law_cell_here"] (defScope s_l_spoiled) := ⟨rfl, rfl, rfl, by decide +kernel, rfl, by decide +kernel, by decide +kernel⟩
theorem sc_l_block : FnScope ["_law_many", "_law_seed", "_law_count", "_law_rules", "_law_j"] ["_law_many", "_law_seed", "_law_count"] (defScope s_l_block) := ⟨rfl, rfl, rfl, by decide +kernel, rfl, by decide +kernel, by decide +kernel⟩
theorem sc_l_word : FnScope ["_law_many", "_law_things_here", "_law_rules", "_law_word_here", "_law_caught", "e", "_law_some", "_law_more"] ["_law_many", "_law_things_here"] (defScope s_l_word) := ⟨rfl, rfl, rfl, by decide +kernel, rfl, by decide +kernel, by decide +kernel⟩
theorem sc_l_made : FnScope ["_law_many", "_law_things_here", "_law_rules", "_law_due"] ["_law_many", "_law_things_here"] (defScope s_l_made) := ⟨rfl, rfl, rfl, by decide +kernel, rfl, by decide +kernel, by decide +kernel⟩
theorem sc_law : FnScope ["_law_script", "_law_many", "_law_seed", "_law_cell_here", "_law_things_here", "_law_spoiled_here", "_law_below", "_law_above", "_law_block_here", "_law_short"] ["_law_script"] (defScope s_law) := ⟨rfl, rfl, rfl, by decide +kernel, rfl, by decide +kernel, by decide +kernel⟩
structure XC (K : PySem.W.Frag) (mg : Str → Option Value) (X_GroveError X_NoGrove X_BadForm X_TooMany X_TooBig X_NoneFits X_NoBook X_TwiceNamed X_NoName X_Ring X_BadChanger X_NoRecipe X_NotStraight X_NoChange X_NoRow : Addr) : Prop where
 n_GroveError : mg "GroveError" = some (.ref X_GroveError)
 n_NoGrove : mg "NoGrove" = some (.ref X_NoGrove)
 n_BadForm : mg "BadForm" = some (.ref X_BadForm)
 n_TooMany : mg "TooMany" = some (.ref X_TooMany)
 n_TooBig : mg "TooBig" = some (.ref X_TooBig)
 n_NoneFits : mg "NoneFits" = some (.ref X_NoneFits)
 n_NoBook : mg "NoBook" = some (.ref X_NoBook)
 n_TwiceNamed : mg "TwiceNamed" = some (.ref X_TwiceNamed)
 n_NoName : mg "NoName" = some (.ref X_NoName)
 n_Ring : mg "Ring" = some (.ref X_Ring)
 n_BadChanger : mg "BadChanger" = some (.ref X_BadChanger)
 n_NoRecipe : mg "NoRecipe" = some (.ref X_NoRecipe)
 n_NotStraight : mg "NotStraight" = some (.ref X_NotStraight)
 n_NoChange : mg "NoChange" = some (.ref X_NoChange)
 n_NoRow : mg "NoRow" = some (.ref X_NoRow)
 bas : XBas K X_GroveError
 isG : PySem.W.isClsIn K X_GroveError = true
 tyG : PySem.W.typeIn K (.ref X_GroveError) = some (.type "type")
 c_GroveError : XCl K X_GroveError
 c_NoGrove : XCl K X_NoGrove
 c_BadForm : XCl K X_BadForm
 c_TooMany : XCl K X_TooMany
 c_TooBig : XCl K X_TooBig
 c_NoneFits : XCl K X_NoneFits
 c_NoBook : XCl K X_NoBook
 c_TwiceNamed : XCl K X_TwiceNamed
 c_NoName : XCl K X_NoName
 c_Ring : XCl K X_Ring
 c_BadChanger : XCl K X_BadChanger
 c_NoRecipe : XCl K X_NoRecipe
 c_NotStraight : XCl K X_NotStraight
 c_NoChange : XCl K X_NoChange
 c_NoRow : XCl K X_NoRow
 top_BadForm : XTop K X_BadForm X_GroveError
 ini_BadForm : PySem.W.findIn K (.ref X_BadForm) "__init__" = some (some (.builtin "ValueError.__init__"))
 f_BadForm_place : XFld K X_BadForm "place"
 mV_BadForm : PySem.W.mroIn K X_BadForm (.type "ValueError") = some true
 ne_BadForm : X_BadForm ≠ X_GroveError
 not_BadForm_TooMany : XNot K X_BadForm X_TooMany
 nn_BadForm_TooMany : X_BadForm ≠ X_TooMany
 not_BadForm_NoGrove : XNot K X_BadForm X_NoGrove
 nn_BadForm_NoGrove : X_BadForm ≠ X_NoGrove
 not_BadForm_TooBig : XNot K X_BadForm X_TooBig
 nn_BadForm_TooBig : X_BadForm ≠ X_TooBig
 not_BadForm_NoneFits : XNot K X_BadForm X_NoneFits
 nn_BadForm_NoneFits : X_BadForm ≠ X_NoneFits
 not_BadForm_NoBook : XNot K X_BadForm X_NoBook
 nn_BadForm_NoBook : X_BadForm ≠ X_NoBook
 not_BadForm_TwiceNamed : XNot K X_BadForm X_TwiceNamed
 nn_BadForm_TwiceNamed : X_BadForm ≠ X_TwiceNamed
 not_BadForm_NoName : XNot K X_BadForm X_NoName
 nn_BadForm_NoName : X_BadForm ≠ X_NoName
 not_BadForm_Ring : XNot K X_BadForm X_Ring
 nn_BadForm_Ring : X_BadForm ≠ X_Ring
 not_BadForm_BadChanger : XNot K X_BadForm X_BadChanger
 nn_BadForm_BadChanger : X_BadForm ≠ X_BadChanger
 not_BadForm_NoRecipe : XNot K X_BadForm X_NoRecipe
 nn_BadForm_NoRecipe : X_BadForm ≠ X_NoRecipe
 not_BadForm_NoChange : XNot K X_BadForm X_NoChange
 nn_BadForm_NoChange : X_BadForm ≠ X_NoChange
 not_BadForm_NoRow : XNot K X_BadForm X_NoRow
 nn_BadForm_NoRow : X_BadForm ≠ X_NoRow
 not_BadForm_NotStraight : XNot K X_BadForm X_NotStraight
 nn_BadForm_NotStraight : X_BadForm ≠ X_NotStraight
 m_BadForm_GroveError : PySem.W.mroIn K X_BadForm (.ref X_GroveError) = some true
 m_BadForm_NoGrove : PySem.W.mroIn K X_BadForm (.ref X_NoGrove) = some false
 m_BadForm_BadForm : PySem.W.mroIn K X_BadForm (.ref X_BadForm) = some true
 m_BadForm_TooMany : PySem.W.mroIn K X_BadForm (.ref X_TooMany) = some false
 m_BadForm_TooBig : PySem.W.mroIn K X_BadForm (.ref X_TooBig) = some false
 m_BadForm_NoneFits : PySem.W.mroIn K X_BadForm (.ref X_NoneFits) = some false
 m_BadForm_NoBook : PySem.W.mroIn K X_BadForm (.ref X_NoBook) = some false
 m_BadForm_TwiceNamed : PySem.W.mroIn K X_BadForm (.ref X_TwiceNamed) = some false
 m_BadForm_NoName : PySem.W.mroIn K X_BadForm (.ref X_NoName) = some false
 m_BadForm_Ring : PySem.W.mroIn K X_BadForm (.ref X_Ring) = some false
 m_BadForm_BadChanger : PySem.W.mroIn K X_BadForm (.ref X_BadChanger) = some false
 m_BadForm_NoRecipe : PySem.W.mroIn K X_BadForm (.ref X_NoRecipe) = some false
 m_BadForm_NotStraight : PySem.W.mroIn K X_BadForm (.ref X_NotStraight) = some false
 m_BadForm_NoChange : PySem.W.mroIn K X_BadForm (.ref X_NoChange) = some false
 m_BadForm_NoRow : PySem.W.mroIn K X_BadForm (.ref X_NoRow) = some false
 top_TooMany : XTop K X_TooMany X_GroveError
 ini_TooMany : PySem.W.findIn K (.ref X_TooMany) "__init__" = some (some (.builtin "ValueError.__init__"))
 f_TooMany_place : XFld K X_TooMany "place"
 mV_TooMany : PySem.W.mroIn K X_TooMany (.type "ValueError") = some true
 ne_TooMany : X_TooMany ≠ X_GroveError
 not_TooMany_BadForm : XNot K X_TooMany X_BadForm
 nn_TooMany_BadForm : X_TooMany ≠ X_BadForm
 not_TooMany_NoGrove : XNot K X_TooMany X_NoGrove
 nn_TooMany_NoGrove : X_TooMany ≠ X_NoGrove
 not_TooMany_TooBig : XNot K X_TooMany X_TooBig
 nn_TooMany_TooBig : X_TooMany ≠ X_TooBig
 not_TooMany_NoneFits : XNot K X_TooMany X_NoneFits
 nn_TooMany_NoneFits : X_TooMany ≠ X_NoneFits
 not_TooMany_NoBook : XNot K X_TooMany X_NoBook
 nn_TooMany_NoBook : X_TooMany ≠ X_NoBook
 not_TooMany_TwiceNamed : XNot K X_TooMany X_TwiceNamed
 nn_TooMany_TwiceNamed : X_TooMany ≠ X_TwiceNamed
 not_TooMany_NoName : XNot K X_TooMany X_NoName
 nn_TooMany_NoName : X_TooMany ≠ X_NoName
 not_TooMany_Ring : XNot K X_TooMany X_Ring
 nn_TooMany_Ring : X_TooMany ≠ X_Ring
 not_TooMany_BadChanger : XNot K X_TooMany X_BadChanger
 nn_TooMany_BadChanger : X_TooMany ≠ X_BadChanger
 not_TooMany_NoRecipe : XNot K X_TooMany X_NoRecipe
 nn_TooMany_NoRecipe : X_TooMany ≠ X_NoRecipe
 not_TooMany_NoChange : XNot K X_TooMany X_NoChange
 nn_TooMany_NoChange : X_TooMany ≠ X_NoChange
 not_TooMany_NoRow : XNot K X_TooMany X_NoRow
 nn_TooMany_NoRow : X_TooMany ≠ X_NoRow
 not_TooMany_NotStraight : XNot K X_TooMany X_NotStraight
 nn_TooMany_NotStraight : X_TooMany ≠ X_NotStraight
 m_TooMany_GroveError : PySem.W.mroIn K X_TooMany (.ref X_GroveError) = some true
 m_TooMany_NoGrove : PySem.W.mroIn K X_TooMany (.ref X_NoGrove) = some false
 m_TooMany_BadForm : PySem.W.mroIn K X_TooMany (.ref X_BadForm) = some false
 m_TooMany_TooMany : PySem.W.mroIn K X_TooMany (.ref X_TooMany) = some true
 m_TooMany_TooBig : PySem.W.mroIn K X_TooMany (.ref X_TooBig) = some false
 m_TooMany_NoneFits : PySem.W.mroIn K X_TooMany (.ref X_NoneFits) = some false
 m_TooMany_NoBook : PySem.W.mroIn K X_TooMany (.ref X_NoBook) = some false
 m_TooMany_TwiceNamed : PySem.W.mroIn K X_TooMany (.ref X_TwiceNamed) = some false
 m_TooMany_NoName : PySem.W.mroIn K X_TooMany (.ref X_NoName) = some false
 m_TooMany_Ring : PySem.W.mroIn K X_TooMany (.ref X_Ring) = some false
 m_TooMany_BadChanger : PySem.W.mroIn K X_TooMany (.ref X_BadChanger) = some false
 m_TooMany_NoRecipe : PySem.W.mroIn K X_TooMany (.ref X_NoRecipe) = some false
 m_TooMany_NotStraight : PySem.W.mroIn K X_TooMany (.ref X_NotStraight) = some false
 m_TooMany_NoChange : PySem.W.mroIn K X_TooMany (.ref X_NoChange) = some false
 m_TooMany_NoRow : PySem.W.mroIn K X_TooMany (.ref X_NoRow) = some false
abbrev blts : List Str := ["ValueError", "all", "int", "isinstance", "len", "list", "max", "min", "range", "set", "sorted", "tuple"]
section
variable {P : Program} {w : World} {K : PySem.W.Frag} {mg : Str → Option Value} {base : Heap} {f : Addr} {fd : FuncData} {X_GroveError X_NoGrove X_BadForm X_TooMany X_TooBig X_NoneFits X_NoBook X_TwiceNamed X_NoName X_Ring X_BadChanger X_NoRecipe X_NotStraight X_NoChange X_NoRow : Addr}
theorem ok_is_tag (B : ∀ x ∈ blts, mg x = none) (Cc : ∃ t : Tok, mg "LONGEST_TAG" = some (.int 8 t)) (F : Fun K "is_tag" "is_tag" s_is_tag f fd) : FnOk P w K mg base CX0 1 f fd ["text"] spIsTag := by
 refine F.ok sc_is_tag (fun vs H Q E h => ?_) (fun cdv A outer s H vs Q E hr h => ?_)
 ·obtain ⟨z, rfl, _⟩ := h
  rfl
 obtain ⟨z, rfl, hz, q⟩ := h
 obtain ⟨t8, c_LONGEST_TAG⟩ := Cc
 unfold tagB at q
 refine ⟨_, (pss_one (ps_ret (pe_and (pe_chain op_le op_le pe_int (pe_callB call_len_str rfl (B "len" (by decide)) PySem.boot_len (pa_cons (pv 0) pa_nil)) (pe_glob (v := .int 8) rfl c_LONGEST_TAG ⟨_, rfl⟩)) (pe_one (pe_callB (call_all rfl) rfl (B "all" (by decide)) bt_all (pa_cons (pe_comp_az (pv 0) rfl (by decide) (by decide) rfl (by decide) rfl (by decide) (fun _ => rfl)) pa_nil)))))), ?_⟩
 refine ⟨_, rfl, z, rfl, len1000 (by lia), _, _, rfl, rfl, _, rfl, ?_⟩
 refine ite2 (fun c => ?_) (fun c => ?_)
 ·have c1 : 1 ≤ z.length := by
   have := of_decide_eq_true c
   lia
  rw [decide_eq_true c1, Bool.true_and] at q
  refine ⟨_, _, rfl, rfl, _, rfl, ?_⟩
  refine ite2 (fun c => ?_) (fun c => ?_)
  ·have c2 : z.length ≤ 8 := by
    have := of_decide_eq_true c
    lia
   rw [decide_eq_true c2, Bool.true_and] at q
   refine ⟨_, rfl, z, rfl, len1000 (by lia), fun p hp => ⟨p, z.cps.toList.map azB, rfl, SqL.of ?_, ?_⟩⟩
   ·rw [upd_same, List.map_map]
    rfl
   ·have e : (z.cps.toList.map azB).all id = z.cps.toList.all azB := by
     rw [List.all_map]
     rfl
    rw [e]
    exact q _ (Same.new hp)
  ·have c2 : ¬ z.length ≤ 8 := fun h => c (decide_eq_true (by show ((z.length : Nat) : Int) ≤ 8; lia))
   rw [decide_eq_false c2, Bool.false_and] at q
   exact q H (Same.refl H)
 ·have c1 : ¬ 1 ≤ z.length := fun h => c (decide_eq_true (by show (1 : Int) ≤ ((z.length : Nat) : Int); lia))
  rw [decide_eq_false c1, Bool.false_and, Bool.false_and] at q
  exact ⟨_, rfl, iteF (q H (Same.refl H))⟩
theorem ok_l_cell (B : ∀ x ∈ blts, mg x = none) (F : Fun K "_law_cell" "_law_cell" s_l_cell f fd) : FnOk P w K mg base CX0 1 f fd ["_law_script", "_law_k"] (spCell17 K) := by
 refine F.ok sc_l_cell (fun vs H Q E h => ?_) (fun cdv A outer s H vs Q E hr h => ?_)
 ·obtain ⟨a, ns, k, rfl, _⟩ := h
  rfl
 obtain ⟨a, ns, k, rfl, hS, h63, h0, hk, q⟩ := h
 refine ⟨_, (pss_cons (ps_if (pt_cmpR op_lt (pv 1) (pe_callB call_len_seq rfl (B "len" (by decide)) PySem.boot_len (pa_cons (pv 0) pa_nil)) (nomark _))
   (pss_one (ps_ret (pe_op op_mod (pe_op op_add (pe_op op_mul (pe_ix ix_list (pv 0) (pv 1) (fun _ _ => rfl)) pe_int) (pe_op op_mul (pe_op op_mul (pv 1) (pv 1)) pe_int)) pe_int)))
   pss_nil)
  (pss_one (ps_ret (pe_op op_mod (pe_op op_add (pe_op op_add (pe_op op_mul (pe_op op_mul (pv 1) (pv 1)) pe_int) (pe_op op_mul (pe_callB call_len_seq rfl (B "len" (by decide)) PySem.boot_len (pa_cons (pv 0) pa_nil)) pe_int)) pe_int) pe_int)))), ?_⟩
 have hq : ∀ v : Int, Q (.int (v % 2147483647)) H := fun v => q _ (Int.emod_nonneg _ (by decide)) (Int.emod_lt_of_pos _ (by decide))
 refine ⟨_, rfl, _, rfl, a, _, rfl, .inl hS, _, _, rfl, rfl, _, rfl, ?_⟩
 refine ite2 (fun c => ?_) (fun c => ?_)
 ·have c' := of_decide_eq_true c
  rw [List.length_map] at c'
  obtain ⟨v, hv⟩ := ints_at (ns := ns) h0 c'
  exact ⟨_, rfl, _, rfl, a, _, k, _, rfl, rfl, hS, hv, _, _, rfl, rfl, .inr ⟨by decide, by decide⟩, _, rfl, _, rfl, _, _, rfl, rfl, .inl ⟨by lia, by lia⟩, _, _, rfl, rfl, .inr ⟨by decide, by decide⟩, _, _, rfl, rfl, _, _, rfl, rfl, (by show (0 : Int) < 2147483647; decide), hq _⟩
 ·exact ⟨_, rfl, _, rfl, _, _, rfl, rfl, .inl ⟨by lia, by lia⟩, _, _, rfl, rfl, .inr ⟨by decide, by decide⟩, _, rfl, a, _, rfl, .inl hS, _, _, rfl, rfl, .inr ⟨by decide, by decide⟩, _, _, rfl, rfl, _, _, rfl, rfl, _, _, rfl, rfl, (by show (0 : Int) < 2147483647; decide), hq _⟩
def tgM (sd v : Int) : Int × Int × Int := if sd / 4096 % 2 = 1 then (1 + (sd / 8 + v) % 8, 1 + (sd / 8 + v) % 8 - 1, v / 8) else (1 + sd % 8, sd / 8 % (1 + sd % 8), v)
def tgC (sd at' more : Int) (j : Nat) : Nat := (atI ABC.cps.toList ((sd / ((j : Int) + 9) + (if (j : Int) = at' then 1 else 0) * more) % 26)).getD 0
def tgL (sd v : Int) (n : Nat) : List Nat := (List.range n).map (tgC sd (tgM sd v).2.1 (tgM sd v).2.2)
def tgS (sd v : Int) : Str := ⟨(tgL sd v (tgM sd v).1.toNat).toArray⟩
theorem tgM_range (sd v : Int) : 1 ≤ (tgM sd v).1 ∧ (tgM sd v).1 ≤ 8 ∧ 0 ≤ (tgM sd v).2.1 ∧ (tgM sd v).2.1 < (tgM sd v).1 := by
 have m1 := Int.emod_nonneg sd (by decide : (8 : Int) ≠ 0)
 have m2 := Int.emod_lt_of_pos sd (by decide : (0 : Int) < 8)
 have m3 := Int.emod_nonneg (sd / 8 + v) (by decide : (8 : Int) ≠ 0)
 have m4 := Int.emod_lt_of_pos (sd / 8 + v) (by decide : (0 : Int) < 8)
 unfold tgM
 split
 ·dsimp only
  lia
 ·dsimp only
  have m5 := Int.emod_nonneg (sd / 8) (by lia : 1 + sd % 8 ≠ 0)
  have m6 := Int.emod_lt_of_pos (sd / 8) (by lia : 0 < 1 + sd % 8)
  lia
theorem tgC_let (sd a m : Int) (j : Nat) : atI ABC.cps.toList ((sd / ((j : Int) + 9) + (if (j : Int) = a then 1 else 0) * m) % 26) = some (tgC sd a m j) ∧ 97 ≤ tgC sd a m j ∧ tgC sd a m j ≤ 122 := by
 obtain ⟨c, hc, c1, c2⟩ := abc_at (i := (sd / ((j : Int) + 9) + (if (j : Int) = a then 1 else 0) * m) % 26) (Int.emod_nonneg _ (by decide)) (Int.emod_lt_of_pos _ (by decide))
 have e : tgC sd a m j = c := by unfold tgC; rw [hc]; rfl
 rw [e]
 exact ⟨hc, c1, c2⟩
theorem tgS_let (sd v : Int) : Lets (tgS sd v) ∧ (tgS sd v).length ≤ 8 := by
 obtain ⟨h1, h2, _⟩ := tgM_range sd v
 have hl : (tgS sd v).cps.toList = tgL sd v (tgM sd v).1.toNat := rfl
 have hn : (tgL sd v (tgM sd v).1.toNat).length = (tgM sd v).1.toNat := by unfold tgL; rw [List.length_map, List.length_range]
 refine ⟨⟨fun z => ?_, fun c hc => ?_⟩, ?_⟩
 ·rw [hl] at z
  rw [z] at hn
  have : (0 : Nat) = (tgM sd v).1.toNat := hn
  lia
 ·rw [hl] at hc
  obtain ⟨j, _, rfl⟩ := List.mem_map.mp hc
  exact (tgC_let ..).2
 ·have : (tgS sd v).length = (tgL sd v (tgM sd v).1.toNat).length := by rw [← hl]; exact Array.length_toList.symm
  lia
theorem abc_inj : ∀ i j : _root_.Fin 26, ABC.cps.toList.getD i.val 0 = ABC.cps.toList.getD j.val 0 → i = j := by decide
theorem abc_get {i : Int} (h0 : 0 ≤ i) (h1 : i < 26) : atI ABC.cps.toList i = some (ABC.cps.toList.getD i.toNat 0) := by
 have hj : i.toNat < ABC.cps.toList.length := (abc_all ⟨i.toNat, by lia⟩).2.2
 have e : (i.toNat : Int) = i := Int.toNat_of_nonneg h0
 have h := atI_nat (xs := ABC.cps.toList) (j := i.toNat) (v := ABC.cps.toList.getD i.toNat 0) (by rw [List.getD_eq_getElem?_getD, List.getElem?_eq_getElem hj]; rfl)
 rw [e] at h
 exact h
theorem tgC_inj {sd a m m' : Int} {j : Nat} (e : (j : Int) = a) (h : tgC sd a m j = tgC sd a m' j) (h1 : (m - m') % 26 = 0 → m = m') : m = m' := by
 unfold tgC at h
 rw [if_pos e] at h
 have b0 := Int.emod_nonneg (sd / ((j : Int) + 9) + 1 * m) (by decide : (26 : Int) ≠ 0)
 have b1 := Int.emod_lt_of_pos (sd / ((j : Int) + 9) + 1 * m) (by decide : (0 : Int) < 26)
 have b2 := Int.emod_nonneg (sd / ((j : Int) + 9) + 1 * m') (by decide : (26 : Int) ≠ 0)
 have b3 := Int.emod_lt_of_pos (sd / ((j : Int) + 9) + 1 * m') (by decide : (0 : Int) < 26)
 rw [abc_get b0 b1, abc_get b2 b3] at h
 have k := abc_inj ⟨_, (show ((sd / ((j : Int) + 9) + 1 * m) % 26).toNat < 26 by lia)⟩ ⟨_, (show ((sd / ((j : Int) + 9) + 1 * m') % 26).toNat < 26 by lia)⟩ h
 have k := congrArg _root_.Fin.val k
 dsimp only at k
 apply h1
 clear h
 lia
theorem tgS_inj {sd v v' : Int} (h0 : 0 ≤ v) (h1 : v < 26) (h0' : 0 ≤ v') (h1' : v' < 26) (h : tgS sd v = tgS sd v') : v = v' := by
 have h : tgL sd v (tgM sd v).1.toNat = tgL sd v' (tgM sd v').1.toNat := congrArg (fun z : Str => z.cps.toList) h
 obtain ⟨a1, a2, a3, a4⟩ := tgM_range sd v
 obtain ⟨b1, b2, b3, b4⟩ := tgM_range sd v'
 have hl := congrArg List.length h
 unfold tgL at hl
 rw [List.length_map, List.length_map, List.length_range, List.length_range] at hl
 have hm : (tgM sd v).1 = (tgM sd v').1 := by lia
 have ea : (tgM sd v).2.1 = (tgM sd v').2.1 := by
  unfold tgM at hm ⊢
  by_cases c : sd / 4096 % 2 = 1
  ·simp only [c, if_true] at hm ⊢
   lia
  ·simp only [c, if_false] at hm ⊢
 have hj : (tgM sd v).2.1.toNat < (tgM sd v).1.toNat := by lia
 have g := congrArg (fun l => l[(tgM sd v).2.1.toNat]?) h
 unfold tgL at g
 rw [← hm, ← ea, List.getElem?_map, List.getElem?_map, List.getElem?_range hj] at g
 simp only [Option.map_some, Option.some.injEq] at g
 have key := tgC_inj (m := (tgM sd v).2.2) (m' := (tgM sd v').2.2) (Int.toNat_of_nonneg a3) g
 unfold tgM at hm key
 by_cases c : sd / 4096 % 2 = 1
 ·simp only [c, if_true] at hm key
  have := key (by lia)
  lia
 ·simp only [c, if_false] at hm key
  exact key (by lia)
def blk (n sd : Int) (j : Nat) : Srd.Qd := ((j : Int) % n, tgS sd ((j : Int) / n % 26), (j : Int) / (26 * n) % n, 1)
theorem blk_inj {n sd : Int} (h4 : 4 ≤ n) {i j : Nat} (hi : i < 416) (hj : j < 416) (h : blk n sd i = blk n sd j) : i = j := by
 unfold blk at h
 simp only [Prod.mk.injEq, and_true] at h
 obtain ⟨e1, e2, e3⟩ := h
 have d0 : ∀ i : Nat, (i : Int) / n % 26 = (i : Int) / n - 26 * ((i : Int) / n / 26) := fun i => by lia
 have r0 := Int.emod_nonneg ((i : Int) / n) (by decide : (26 : Int) ≠ 0)
 have r1 := Int.emod_lt_of_pos ((i : Int) / n) (by decide : (0 : Int) < 26)
 have r2 := Int.emod_nonneg ((j : Int) / n) (by decide : (26 : Int) ≠ 0)
 have r3 := Int.emod_lt_of_pos ((j : Int) / n) (by decide : (0 : Int) < 26)
 have e2 := tgS_inj r0 r1 r2 r3 e2
 have dd : ∀ i : Nat, (i : Int) / (26 * n) = (i : Int) / n / 26 := fun i => by
  rw [Int.mul_comm 26 n, ← Int.ediv_ediv_of_nonneg (by lia)]
 have small : ∀ i : Nat, i < 416 → (i : Int) / n / 26 < 4 ∧ 0 ≤ (i : Int) / n / 26 := fun i h => by
  have p : (i : Int) / n ≤ (i : Int) / 4 := by
   have m := Int.emod_nonneg (i : Int) (by lia : n ≠ 0)
   have k := Int.mul_ediv_add_emod (i : Int) n
   have q0 : 0 ≤ (i : Int) / n := Int.ediv_nonneg (by lia) (by lia)
   have : 4 * ((i : Int) / n) ≤ n * ((i : Int) / n) := Int.mul_le_mul_of_nonneg_right h4 q0
   lia
  have q0 : 0 ≤ (i : Int) / n := Int.ediv_nonneg (by lia) (by lia)
  lia
 rw [dd, dd] at e3
 obtain ⟨s1, s2⟩ := small i hi
 obtain ⟨s3, s4⟩ := small j hj
 rw [Int.emod_eq_of_lt s2 (by lia), Int.emod_eq_of_lt s4 (by lia)] at e3
 have e4 : (i : Int) / n = (j : Int) / n := by lia
 have k1 := Int.mul_ediv_add_emod (i : Int) n
 have k2 := Int.mul_ediv_add_emod (j : Int) n
 rw [e4, e1] at k1
 lia
theorem blk_nodup {n sd : Int} (h4 : 4 ≤ n) {m : Nat} (hm : m ≤ 416) : ((List.range m).map (blk n sd)).Nodup := by
 refine List.pairwise_map.mpr (List.nodup_range.imp_of_mem fun {a b} ha hb e z => e (blk_inj h4 ?_ ?_ z))
 ·have := List.mem_range.mp ha
  lia
 ·have := List.mem_range.mp hb
  lia
def Gd (n : Int) (hs ts : List Int) (qs : List Srd.Qd) : Prop := 0 ≤ n ∧ IB n hs ∧ IB n ts ∧ QB n qs ∧ ∀ q ∈ qs, tagB q.2.1 = true
def NB (xs : List Int) : Prop := ∀ x ∈ xs, x.natAbs.log2 < 1900
def SB (t : Str) : Prop := t.length ≤ 1000 ∧ ∀ c ∈ t.cps.toList, c < 16 ^ 8
theorem nb_le {x : Int} (h : -4000000000 ≤ x) (h' : x ≤ 4000000000) : x.natAbs.log2 < 1900 := by
 by_cases c : x.natAbs = 0
 ·rw [c]
  decide
 refine (Nat.log2_lt c).mpr ?_
 have : 2 ^ 40 ≤ 2 ^ 1900 := Nat.pow_le_pow_right (by decide) (by decide)
 have h2 : (2 : Nat) ^ 40 = 1099511627776 := by decide
 lia
theorem sb_lets {t : Str} (h : Lets t) (h8 : t.length ≤ 8) : SB t := ⟨by lia, fun c hc => Nat.lt_of_le_of_lt (h.2 c hc).2 (by decide)⟩
theorem len_num {i : Int} (h : i.natAbs.log2 < 1900) : (Str.ofString (toString i)).length ≤ 1901 := by
 rw [PyProof.Rows.ofString_len]
 exact int_text_length_le (by decide) h
def spRefX (K : PySem.W.Frag) (C : Addr) : Sp := fun vs H Q E => ∃ (n : Int) (a : Addr) (ks : List Int), vs = [.int n, .ref a] ∧ SqL K H a (ks.map V.int) ∧ n.natAbs.log2 < 1900 ∧ NB ks ∧ (0 ≤ n → IB n ks → Q .non H) ∧ (¬ (0 ≤ n ∧ IB n ks) → ∀ H', Same H H' → E (.ref C) none H')
set_option maxHeartbeats 1000000 in
theorem ok_refuse_bad_kinds (B : ∀ x ∈ blts, mg x = none) (xc : XC K mg X_GroveError X_NoGrove X_BadForm X_TooMany X_TooBig X_NoneFits X_NoBook X_TwiceNamed X_NoName X_Ring X_BadChanger X_NoRecipe X_NotStraight X_NoChange X_NoRow) (F : Fun K "refuse_bad_kinds" "refuse_bad_kinds" s_refuse_bad_kinds f fd) : FnOk P w K mg base (CXE P w) 1 f fd ["many", "kinds"] (spRefX K X_BadForm) := by
 refine F.okX sc_refuse_bad_kinds (fun vs H Q E h => ?_) (fun cdv A outer s H vs Q E hr h => ?_)
 ·obtain ⟨n, a, ks, rfl, _⟩ := h
  rfl
 obtain ⟨n, a, ks, rfl, hA, hn, hb, q1, q2⟩ := h
 have ln := len_num hn
 have l0 : (Str.empty : Str).length = 0 := rfl
 refine ⟨_, (pss_cons (ps_if (pt_cmpR op_lt (pv 0) pe_int (nomark _))
   (pss_one (ps_raise0 xc.top_BadForm xc.ini_BadForm xc.n_BadForm takes_def hr rfl (pa_cons (pe_joined (pj_cons pe_str (pj_cons (pe_fv (pv 0)) (pj_cons pe_str pj_nil)))) pa_nil)))
   pss_nil)
  (pss_one (ps_for PassesOwn.leaving rfl (pi_list (pv 1)) (pg_name (i := 2) sc_refuse_bad_kinds.nd rfl (Or.inl rfl))
   (pss_one (ps_if (pt_not (pt_chain op_le op_lt pe_int (pv 2) (pv 0)))
     (pss_one (ps_raise0 xc.top_BadForm xc.ini_BadForm xc.n_BadForm takes_def hr rfl (pa_cons (pe_joined (pj_cons (pe_fv (pv 2)) (pj_cons pe_str (pj_cons (pe_fv (pv 0)) pj_nil)))) pa_nil)))
     pss_nil))))), ?_⟩
 refine ⟨_, rfl, _, _, rfl, rfl, _, rfl, ite2 (fun c => ?_) (fun c => ?_)⟩
 ·have c : n < 0 := of_decide_eq_true c
  have l1 : (Str.ofString "there can't be ").length = 15 := by decide
  have l2 : (Str.ofString " kinds").length = 6 := by decide
  refine ⟨_, rfl, ?_, _, rfl, .inr ⟨_, rfl, by lia, _, rfl, ?_, _, rfl, ?_, ?_, ?_⟩⟩
  ·rw [strLen_append, sizeLine_eq]
   lia
  ·rw [strLen_append, strLen_append, sizeLine_eq]
   lia
  ·rw [strLen_append, strLen_append, strLen_append, sizeLine_eq]
   lia
  ·rw [strLen_append, strLen_append, strLen_append, sizeLine_eq]
   lia
  exact ⟨(by show 1 ≤ 1000; decide), fun y hy => q2 (fun z => by lia) _ (Same.new hy)⟩
 have n0 : 0 ≤ n := Int.not_lt.mp fun z => c (decide_eq_true z)
 refine ⟨_, rfl, a, rfl, ⟨_, hA⟩, for_list (K := K) (a := a) (xs := ks.map V.int) (fun i σ H1 => ∃ v2 : Option V, σ = [some (.int n), some (.ref a), v2] ∧ H1 = H ∧ IB n (ks.take i)) ⟨none, rfl, rfl, fun x hx => (nomatch hx)⟩ ?_ ?_ ?_⟩
 ·rintro i σ H1 _ ⟨_, _, rfl, _⟩
  exact hA
 ·rintro i x σ H1 hx ⟨v2, rfl, rfl, hI⟩
  rw [List.getElem?_map] at hx
  obtain ⟨y, hy, rfl⟩ := Option.map_eq_some_iff.mp hx
  obtain ⟨hil, hie⟩ := List.getElem?_eq_some_iff.mp hy
  have ym := List.mem_of_getElem? hy
  have ly := len_num (hb y ym)
  have bad : ¬ (0 ≤ y ∧ y < n) → ∀ y', H1 y' = none → ∀ o, E (.ref X_BadForm) none (upd H1 y' o) := fun z y' hy' o => q2 (fun z' => z (z'.2 y ym)) _ (Same.new hy')
  have good : (0 ≤ y ∧ y < n) → IB n (ks.take (i + 1)) := fun z => by
   rw [List.take_succ_eq_append_getElem hil, hie]
   intro x hx
   rcases List.mem_append.mp hx with hx | hx
   ·exact hI x hx
   ·rw [List.mem_singleton.mp hx]
    exact z
  have l1 : (Str.ofString " is no kind of ").length = 15 := by decide
  refine ⟨_, rfl, _, _, rfl, rfl, _, rfl, ite2 (fun c => ?_) (fun c => ?_)⟩
  ·have c : (0 : Int) ≤ y := of_decide_eq_true c
   refine ⟨_, rfl, _, _, rfl, rfl, _, rfl, ?_⟩
   by_cases c2 : y < n
   ·rw [decide_eq_true c2]
    exact iteF ⟨_, rfl, rfl, good ⟨c, c2⟩⟩
   ·rw [decide_eq_false c2]
    refine iteT ?_
    refine ⟨_, rfl, .inr ⟨_, rfl, by have := hb y ym; lia, _, rfl, ?_, _, rfl, ?_, _, rfl, .inr ⟨_, rfl, by lia, _, rfl, ?_, ?_, ?_⟩⟩⟩
    ·rw [strLen_append, sizeLine_eq]
     lia
    ·rw [strLen_append, strLen_append, sizeLine_eq]
     lia
    ·rw [strLen_append, strLen_append, strLen_append, sizeLine_eq]
     lia
    ·rw [strLen_append, strLen_append, strLen_append, sizeLine_eq]
     lia
    exact ⟨(by show 1 ≤ 1000; decide), fun y' hy' => bad (fun z => c2 z.2) y' hy' _⟩
  ·have c : ¬ (0 : Int) ≤ y := fun z => c (decide_eq_true z)
   refine ⟨false, rfl, iteT ?_⟩
   refine ⟨_, rfl, .inr ⟨_, rfl, by have := hb y ym; lia, _, rfl, ?_, _, rfl, ?_, _, rfl, .inr ⟨_, rfl, by lia, _, rfl, ?_, ?_, ?_⟩⟩⟩
   ·rw [strLen_append, sizeLine_eq]
    lia
   ·rw [strLen_append, strLen_append, sizeLine_eq]
    lia
   ·rw [strLen_append, strLen_append, strLen_append, sizeLine_eq]
    lia
   ·rw [strLen_append, strLen_append, strLen_append, sizeLine_eq]
    lia
   exact ⟨(by show 1 ≤ 1000; decide), fun y' hy' => bad (fun z => c z.1) y' hy' _⟩
 ·rintro σ H1 ⟨v2, rfl, rfl, hI⟩
  rw [List.length_map, List.take_length] at hI
  exact q1 n0 hI
def spSortX (K : PySem.W.Frag) (C : Addr) : Sp := fun vs H Q E => ∃ (n : Int) (s e r : Addr) (hs ts : List Int) (ys : List V) (qs : List Srd.Qd), vs = [.int n, .ref s, .ref e, .ref r] ∧ n.natAbs.log2 < 1900 ∧ SqL K H s (hs.map V.int) ∧ hs.length ≤ 900 ∧ SqL K H e (ts.map V.int) ∧ ts.length ≤ 900 ∧ SqL K H r ys ∧ QL H ys qs ∧ qs.length ≤ 900 ∧
 (∀ ms : List Srd.Qd, RiseQ ms → (∀ q, q ∈ ms ↔ q ∈ qs) → (64 < n ∨ 400 < ms.length) → ∀ H', Same H H' → E (.ref C) none H') ∧
 (∀ ms : List Srd.Qd, RiseQ ms → (∀ q, q ∈ ms ↔ q ∈ qs) → n ≤ 64 → ms.length ≤ 400 → ∀ (a : Addr) (f : FQ) (H' : Hp), Same H H' → FmQ H' a f → IsF n hs ts qs f → Q (.ref a) H')
set_option maxHeartbeats 1000000 in
theorem ok_sorted_form (B : ∀ x ∈ blts, mg x = none) (Cc1 : ∃ t : Tok, mg "MOST_KINDS" = some (.int 64 t)) (Cc2 : ∃ t : Tok, mg "MOST_RULES" = some (.int 400 t)) (xc : XC K mg X_GroveError X_NoGrove X_BadForm X_TooMany X_TooBig X_NoneFits X_NoBook X_TwiceNamed X_NoName X_Ring X_BadChanger X_NoRecipe X_NotStraight X_NoChange X_NoRow) (F : Fun K "sorted_form" "sorted_form" s_sorted_form f fd) : FnOk P w K mg base (CXE P w) 1 f fd ["many", "starts", "ends", "rules"] (spSortX K X_TooMany) := by
 refine F.okX sc_sorted_form (fun vs H Q E h => ?_) (fun cdv A outer s H vs Q E hr h => ?_)
 ·obtain ⟨n, s0, e0, r0, hs, ts, ys, qs, rfl, _⟩ := h
  rfl
 obtain ⟨n, s0, e0, r0, hs, ts, ys, qs, rfl, hnb, hS, hsl, hT, htl, hR, hql, hqn, qe, q⟩ := h
 obtain ⟨t1, c_MOST_KINDS⟩ := Cc1
 obtain ⟨t2, c_MOST_RULES⟩ := Cc2
 have hu := hu_room hr
 have hyl := hql.length
 have ln := len_num hnb
 refine ⟨_, (pss_cons (ps_set (i := 4) sc_sorted_form.nd rfl (Or.inl rfl) (pe_sort_setS rfl hu rfl (B "sorted" (by decide)) rfl (B "set" (by decide)) (pa_cons (pe_comp (cl := []) ["kind", "tag", "inner", "rest"] [] (pi_list (pv 3)) (fun _ _ _ _ => (pg_tupK (K := K) (n := 4) rfl rfl (pgs_cons (pg_name (i := 0) (show List.Nodup (["kind", "tag", "inner", "rest"] : List Str) by decide) rfl (Or.inl rfl)) (pgs_cons (pg_name (i := 1) (show List.Nodup (["kind", "tag", "inner", "rest"] : List Str) by decide) rfl (Or.inl rfl)) (pgs_cons (pg_name (i := 2) (show List.Nodup (["kind", "tag", "inner", "rest"] : List Str) by decide) rfl (Or.inl rfl)) (pgs_cons (pg_name (i := 3) (show List.Nodup (["kind", "tag", "inner", "rest"] : List Str) by decide) rfl (Or.inl rfl)) pgs_nil)))))) (fun _ _ _ _ => (pe_tup (pa_cons (pv 0) (pa_cons (pv 1) (pa_cons (pv 2) (pa_cons (pv 3) pa_nil)))))) rfl rfl (by decide) rfl (by decide) (fun _ _ h => nomatch h) (nofree (by decide)) (fun _ _ h => nomatch h) (fun _ => rfl)) pa_nil)))
  (pss_cons (ps_if (pt_cmpR op_gt (pv 0) (pe_glob (v := .int 64) rfl c_MOST_KINDS ⟨_, rfl⟩) (nomark _))
   (pss_one (ps_raise0 xc.top_TooMany xc.ini_TooMany xc.n_TooMany takes_def hr rfl (pa_cons (pe_joined (pj_cons pe_str (pj_cons (pe_fv (pv 0)) (pj_cons pe_str pj_nil)))) pa_nil)))
   pss_nil)
  (pss_cons (ps_if (pt_cmpR op_gt (pe_callB call_len_seq rfl (B "len" (by decide)) PySem.boot_len (pa_cons (pv 4) pa_nil)) (pe_glob (v := .int 400) rfl c_MOST_RULES ⟨_, rfl⟩) (nomark _))
   (pss_one (ps_raise0 xc.top_TooMany xc.ini_TooMany xc.n_TooMany takes_def hr rfl (pa_cons pe_str pa_nil)))
   pss_nil)
  (pss_one (ps_ret (pe_tup (pa_cons (pv 0) (pa_cons (pe_callTy call_tuple_of rfl (B "tuple" (by decide)) bt_tuple (pa_cons (pe_sort_setS rfl hu rfl (B "sorted" (by decide)) rfl (B "set" (by decide)) (pa_cons (pv 1) pa_nil)) pa_nil)) (pa_cons (pe_callTy call_tuple_of rfl (B "tuple" (by decide)) bt_tuple (pa_cons (pe_sort_setS rfl hu rfl (B "sorted" (by decide)) rfl (B "set" (by decide)) (pa_cons (pv 2) pa_nil)) pa_nil)) (pa_cons (pe_callTy call_tuple_of rfl (B "tuple" (by decide)) bt_tuple (pa_cons (pv 4) pa_nil)) pa_nil)))))))))), ?_⟩
 refine ⟨_, rfl, r0, rfl, ⟨ys, hR⟩, fun pl hpl => comp_list (K := K) (a := r0) (p := pl) (xs := ys) (fun i zs σ H2 => ∃ v0 v1 v2 v3 : Option V, σ = [v0, v1, v2, v3] ∧ Same H H2 ∧ H2 pl = some (.lst zs) ∧ QL H2 zs (qs.take i))
  ⟨none, none, none, none, rfl, Same.new hpl, upd_same, .nil⟩ ?_ ?_ ?_⟩
 ·rintro i zs σ H2 _ ⟨v0, v1, v2, v3, _, sm, hp2, _⟩
  exact ⟨sm.seq hR, hp2⟩
 ·rintro i zs x σ H2 hi hx ⟨v0, v1, v2, v3, rfl, sm, hp2, hz⟩
  obtain ⟨p, q1, e1, rfl, e2⟩ := hql.get i x hx
  refine ⟨p, _, rfl, SqT.of (sm _ _ e2), rfl, _, _, rfl, _, _, rfl, _, _, rfl, _, _, rfl, rfl, ?_⟩
  refine ⟨_, rfl, _, rfl, _, rfl, _, rfl, by show (4 : Nat) ≤ sizeLine; decide, fun t ht => ?_⟩
  have s2 : Same H2 (upd H2 t (tq q1)) := Same.new ht
  refine ⟨s2 _ _ hp2, len1000' (by rw [hz.length, List.length_take]; lia), CW.next hi ⟨_, _, _, _, rfl, (sm.trans s2).upd_new hpl, upd_same, ?_⟩⟩
  obtain ⟨hil, hie⟩ := List.getElem?_eq_some_iff.mp e1
  rw [List.take_succ_eq_append_getElem hil, hie]
  have hz2 : QL (upd H2 t (tq q1)) (zs ++ [.ref t]) (qs.take i ++ [q1]) := QL.snoc upd_same (hz.keep fun b xs e => s2 _ _ e)
  exact hz2.keep (tup_upd (s2 _ _ hp2))
 ·rintro zs σ H2 ⟨v0, v1, v2, v3, rfl, sm, hp2, hz⟩
  rw [hyl, List.take_length] at hz
  refine .inl ⟨pl, zs, qs, rfl, SqL.of hp2, (by rw [hz.length]; exact hqn), hz, fun r3 z3 m3 hr3 hrise hmem hQ3 => ?_⟩
  have s3 : Same H2 (upd H2 r3 (.lst z3)) := Same.new hr3
  have e3 : (upd H2 r3 (.lst z3)) r3 = some (.lst z3) := upd_same
  have hQ3' := hQ3.keep (H' := upd H2 r3 (.lst z3)) fun b xs e => s3 _ _ e
  generalize upd H2 r3 (.lst z3) = H3 at s3 e3 hQ3' ⊢
  have s03 := sm.trans s3
  refine ⟨_, rfl, _, _, rfl, rfl, _, rfl, ite2 (fun c => ?_) (fun c => ?_)⟩
  ·have c : n > 64 := of_decide_eq_true c
   have l0 : (Str.empty : Str).length = 0 := rfl
   have l1 : (Str.ofString "a form of ").length = 10 := by decide
   have l2 : (Str.ofString " kinds").length = 6 := by decide
   refine ⟨_, rfl, ?_, _, rfl, .inr ⟨_, rfl, by lia, _, rfl, ?_, _, rfl, ?_, ?_, ?_⟩⟩
   ·rw [strLen_append, sizeLine_eq]
    lia
   ·rw [strLen_append, strLen_append, sizeLine_eq]
    lia
   ·rw [strLen_append, strLen_append, strLen_append, sizeLine_eq]
    lia
   ·rw [strLen_append, strLen_append, strLen_append, sizeLine_eq]
    lia
   exact ⟨(by show 1 ≤ 1000; decide), fun y hy => qe m3 hrise hmem (.inl c) _ (s03.trans (Same.new hy))⟩
  have hn : n ≤ 64 := Int.not_lt.mp fun z => c (decide_eq_true z)
  refine ⟨_, rfl, r3, _, rfl, .inl (SqL.of e3), _, _, rfl, rfl, _, rfl, ite2 (fun c => ?_) (fun c => ?_)⟩
  ·have c := of_decide_eq_true c
   rw [hQ3.length] at c
   exact ⟨(by show 1 ≤ 1000; decide), fun y hy => qe m3 hrise hmem (.inr (by lia)) _ (s03.trans (Same.new hy))⟩
  have hm3 : m3.length ≤ 400 := by
   refine Nat.not_lt.mp fun z => c (decide_eq_true ?_)
   rw [hQ3.length]
   lia
  refine ⟨_, rfl, _, rfl, .inr ⟨s0, hs, rfl, s03.seq hS, hsl, fun r1 m1 hr1 hri1 hme1 => ⟨r1, _, rfl, .inl ⟨SqL.of upd_same, fun u1 hu1 => ?_⟩⟩⟩⟩
  have s4 : Same H3 (upd (upd H3 r1 (.lst (m1.map V.int))) u1 (.tup (m1.map V.int))) := (Same.new hr1).trans (Same.new hu1)
  have e4 : (upd (upd H3 r1 (.lst (m1.map V.int))) u1 (.tup (m1.map V.int))) u1 = some (.tup (m1.map V.int)) := upd_same
  generalize upd (upd H3 r1 (.lst (m1.map V.int))) u1 (.tup (m1.map V.int)) = H4 at s4 e4 ⊢
  have s04 := s03.trans s4
  refine ⟨_, rfl, .inr ⟨e0, ts, rfl, s04.seq hT, htl, fun r2 m2 hr2 hri2 hme2 => ⟨r2, _, rfl, .inl ⟨SqL.of upd_same, fun u2 hu2 => ?_⟩⟩⟩⟩
  have s5 : Same H4 (upd (upd H4 r2 (.lst (m2.map V.int))) u2 (.tup (m2.map V.int))) := (Same.new hr2).trans (Same.new hu2)
  have e5 : (upd (upd H4 r2 (.lst (m2.map V.int))) u2 (.tup (m2.map V.int))) u2 = some (.tup (m2.map V.int)) := upd_same
  generalize upd (upd H4 r2 (.lst (m2.map V.int))) u2 (.tup (m2.map V.int)) = H5 at s5 e5 ⊢
  have s05 := s04.trans s5
  refine ⟨_, rfl, r3, _, rfl, .inl ⟨SqL.of (s5 _ _ (s4 _ _ e3)), fun u3 hu3 => ?_⟩⟩
  have s6 : Same H5 (upd H5 u3 (.tup z3)) := Same.new hu3
  have e6 : (upd H5 u3 (.tup z3)) u3 = some (.tup z3) := upd_same
  generalize upd H5 u3 (.tup z3) = H6 at s6 e6 ⊢
  refine ⟨by show (4 : Nat) ≤ sizeLine; decide, fun a ha => ?_⟩
  have s7 : Same H6 (upd H6 a (.tup [.int n, .ref u1, .ref u2, .ref u3])) := Same.new ha
  have s36 := ((s4.trans s5).trans s6).trans s7
  exact q m3 hrise hmem hn hm3 a ⟨n, m1, m2, m3⟩ _ (s03.trans s36) ⟨u1, u2, u3, z3, upd_same, s7 _ _ (s6 _ _ (s5 _ _ e4)), s7 _ _ (s6 _ _ e5), s7 _ _ e6, hQ3'.keep fun b xs e => s36 _ _ e⟩ ⟨rfl, hri1, hri2, hrise, hme1, hme2, hmem⟩
def spFormX (K : PySem.W.Frag) (C D : Addr) : Sp := fun vs H Q E => ∃ (n : Int) (s e r : Addr) (hs ts : List Int) (ys : List V) (qs : List Srd.Qd), vs = [.int n, .ref s, .ref e, .ref r] ∧ n.natAbs.log2 < 1900 ∧ SqL K H s (hs.map V.int) ∧ hs.length ≤ 900 ∧ NB hs ∧ SqL K H e (ts.map V.int) ∧ ts.length ≤ 900 ∧ NB ts ∧ SqL K H r ys ∧ QL H ys qs ∧ qs.length ≤ 900 ∧ (∀ q ∈ qs, NB [q.1, q.2.2.1, q.2.2.2] ∧ SB q.2.1) ∧
 (¬ Gd n hs ts qs → ∀ H', Same H H' → E (.ref C) none H') ∧
 (Gd n hs ts qs → ∀ ms : List Srd.Qd, RiseQ ms → (∀ q, q ∈ ms ↔ q ∈ qs) → (64 < n ∨ 400 < ms.length) → ∀ H', Same H H' → E (.ref D) none H') ∧
 (Gd n hs ts qs → ∀ ms : List Srd.Qd, RiseQ ms → (∀ q, q ∈ ms ↔ q ∈ qs) → n ≤ 64 → ms.length ≤ 400 → ∀ (a : Addr) (f : FQ) (H' : Hp), Same H H' → FmQ H' a f → IsF n hs ts qs f → Q (.ref a) H')
set_option maxHeartbeats 1000000 in
theorem ok_form (B : ∀ x ∈ blts, mg x = none) (xc : XC K mg X_GroveError X_NoGrove X_BadForm X_TooMany X_TooBig X_NoneFits X_NoBook X_TwiceNamed X_NoName X_Ring X_BadChanger X_NoRecipe X_NotStraight X_NoChange X_NoRow) (g_refuse_bad_kinds : HasX P w K mg base "refuse_bad_kinds" ["many", "kinds"] 1 (spRefX K X_BadForm)) (g_is_tag : Has P w K mg base "is_tag" ["text"] 1 spIsTag) (g_sorted_form : HasX P w K mg base "sorted_form" ["many", "starts", "ends", "rules"] 1 (spSortX K X_TooMany)) (F : Fun K "form" "form" s_form f fd) : FnOk P w K mg base (CXE P w) 2 f fd ["many", "starts", "ends", "rules"] (spFormX K X_BadForm X_TooMany) := by
 refine F.okX sc_form (fun vs H Q E h => ?_) (fun cdv A outer s H vs Q E hr h => ?_)
 ·obtain ⟨n, s0, e0, r0, hs, ts, ys, qs, rfl, _⟩ := h
  rfl
 obtain ⟨n, s0, e0, r0, hs, ts, ys, qs, rfl, hnb, hS, hsl, hsb, hT, htl, htb, hR, hQ, hql, hqb, q1, q2, q3⟩ := h
 refine ⟨_, (pss_cons (ps_expr (pe_hasX g_refuse_bad_kinds takes_def hr rfl (pa_cons (pv 0) (pa_cons (pv 1) pa_nil))))
  (pss_cons (ps_expr (pe_hasX g_refuse_bad_kinds takes_def hr rfl (pa_cons (pv 0) (pa_cons (pv 2) pa_nil))))
  (pss_cons (ps_for PassesOwn.leaving rfl (pi_list (pv 3)) (pg_tup rfl (pgs_cons (pg_name (i := 4) sc_form.nd rfl (Or.inl rfl)) (pgs_cons (pg_name (i := 5) sc_form.nd rfl (Or.inl rfl)) (pgs_cons (pg_name (i := 6) sc_form.nd rfl (Or.inl rfl)) (pgs_cons (pg_name (i := 7) sc_form.nd rfl (Or.inl rfl)) pgs_nil)))))
   (pss_cons (ps_expr (pe_hasX g_refuse_bad_kinds takes_def hr rfl (pa_cons (pv 0) (pa_cons (pe_lst (pa_cons (pv 4) (pa_cons (pv 6) (pa_cons (pv 7) pa_nil)))) pa_nil))))
    (pss_one (ps_if (pt_not (pt_truth (pe_has g_is_tag hr rfl (pa_cons (pv 5) pa_nil)) (fun _ => rfl)))
     (pss_one (ps_raise0 xc.top_BadForm xc.ini_BadForm xc.n_BadForm takes_def hr rfl (pa_cons (pe_joined (pj_cons (pe_fvr (pv 5)) (pj_cons pe_str pj_nil))) pa_nil)))
     pss_nil))))
  (pss_one (ps_ret (pe_hasX g_sorted_form takes_def hr rfl (pa_cons (pv 0) (pa_cons (pv 1) (pa_cons (pv 2) (pa_cons (pv 3) pa_nil)))))))))), ?_⟩
 refine ⟨_, rfl, _, rfl, n, s0, hs, rfl, hS, hnb, hsb, fun n0 ib1 => ?_, fun z => q1 fun g => z ⟨g.1, g.2.1⟩⟩
 refine ⟨_, rfl, _, rfl, n, e0, ts, rfl, hT, hnb, htb, fun _ ib2 => ?_, fun z => q1 fun g => z ⟨g.1, g.2.2.1⟩⟩
 refine ⟨_, rfl, r0, rfl, ⟨_, hR⟩, for_list (K := K) (a := r0) (xs := ys) (fun i σ H1 => ∃ v4 v5 v6 v7 : Option V, σ = [some (.int n), some (.ref s0), some (.ref e0), some (.ref r0), v4, v5, v6, v7] ∧ Same H H1 ∧ QB n (qs.take i) ∧ ∀ q ∈ qs.take i, tagB q.2.1 = true) ⟨none, none, none, none, rfl, Same.refl _, fun q hq => (nomatch hq), fun q hq => (nomatch hq)⟩ ?_ ?_ ?_⟩
 ·rintro i σ H1 _ ⟨_, _, _, _, _, sm, _⟩
  exact sm.seq hR
 ·rintro i x σ H1 hx ⟨v4, v5, v6, v7, rfl, sm, gq, gt⟩
  obtain ⟨p, q0, e1, rfl, e2⟩ := hQ.get i x hx
  have hqm := List.mem_of_getElem? e1
  obtain ⟨hil, hie⟩ := List.getElem?_eq_some_iff.mp e1
  obtain ⟨b1, b2, b3⟩ := hqb q0 hqm
  have lr := PySem.StrLaws.reprText_len q0.2.1 b3
  refine ⟨p, _, rfl, SqT.of (sm _ _ e2), rfl, _, _, rfl, _, _, rfl, _, _, rfl, _, _, rfl, rfl, ?_⟩
  refine ⟨_, rfl, _, rfl, _, rfl, _, rfl, by show (3 : Nat) ≤ sizeLine; decide, fun pl hpl => ?_⟩
  have s2 : Same H1 (upd H1 pl (.lst ([q0.1, q0.2.2.1, q0.2.2.2].map V.int))) := Same.new hpl
  refine ⟨n, pl, [q0.1, q0.2.2.1, q0.2.2.2], rfl, SqL.of upd_same, hnb, b1, fun _ ib => ?_, fun z H' s' => q1 (fun g => z ⟨n0, fun x hx => ?_⟩) _ ((sm.trans s2).trans s')⟩
  rotate_left
  ·obtain ⟨k1, k2, k3⟩ := g.2.2.2.1 q0 hqm
   simp only [List.mem_cons, List.not_mem_nil, or_false] at hx
   rcases hx with rfl | rfl | rfl
   ·exact k1
   ·exact k2
   ·exact k3
  refine ⟨_, rfl, q0.2.1, rfl, by lia, fun H3 s3 => ?_⟩
  refine ⟨_, rfl, ?_⟩
  cases c : tagB q0.2.1 with
  | true =>
   refine iteF ⟨_, _, _, _, rfl, (sm.trans s2).trans s3, ?_, ?_⟩
   ·rw [List.take_succ_eq_append_getElem hil, hie]
    intro x hx
    rcases List.mem_append.mp hx with hx | hx
    ·exact gq x hx
    ·rw [List.mem_singleton.mp hx]
     exact ⟨ib _ (by simp), ib _ (by simp), ib _ (by simp)⟩
   ·rw [List.take_succ_eq_append_getElem hil, hie]
    intro x hx
    rcases List.mem_append.mp hx with hx | hx
    ·exact gt x hx
    ·rw [List.mem_singleton.mp hx]
     exact c
  | false =>
   refine iteT ?_
   have l1 : (Str.ofString " is no tag").length = 10 := by decide
   have l0 : (Str.empty : Str).length = 0 := rfl
   refine ⟨_, rfl, q0.2.1, rfl, by rw [sizeLine_eq]; lia, _, rfl, ?_, _, rfl, ?_, ?_, ?_⟩
   ·rw [strLen_append, sizeLine_eq]
    lia
   ·rw [strLen_append, strLen_append, sizeLine_eq]
    lia
   ·rw [strLen_append, strLen_append, sizeLine_eq]
    lia
   exact ⟨(by show 1 ≤ 1000; decide), fun y hy => q1 (fun g => by have := g.2.2.2.2 q0 hqm; rw [c] at this; cases this) _ (((sm.trans s2).trans s3).trans (Same.new hy))⟩
 ·rintro σ H1 ⟨v4, v5, v6, v7, rfl, sm, gq, gt⟩
  rw [hQ.length, List.take_length] at gq gt
  have g : Gd n hs ts qs := ⟨n0, ib1, ib2, gq, gt⟩
  refine ⟨_, rfl, _, rfl, _, rfl, _, rfl, n, s0, e0, r0, hs, ts, ys, qs, rfl, hnb, sm.seq hS, hsl, sm.seq hT, htl, sm.seq hR, hQ.keep fun b xs e => sm _ _ e, hql, fun ms h1 h2 h3 H' s' => q2 g ms h1 h2 h3 _ (sm.trans s'), fun ms h1 h2 h3 h4 a f H' s' => q3 g ms h1 h2 h3 h4 a f _ (sm.trans s')⟩
def spTag12 : Sp := fun vs H Q _ => ∃ sd v : Int, vs = [.int sd, .int v] ∧ Q (.str (tgS sd v)) H
theorem ok_l_tag (B : ∀ x ∈ blts, mg x = none) (F : Fun K "_law_tag" "_law_tag" s_l_tag f fd) : FnOk P w K mg base CX0 1 f fd ["_law_seed", "_law_v"] spTag12 := by
 refine F.ok sc_l_tag (fun vs H Q E h => ?_) (fun cdv A outer s H vs Q E hr h => ?_)
 ·obtain ⟨sd, v, rfl, _⟩ := h
  rfl
 obtain ⟨sd, v, rfl, q⟩ := h
 refine cut 5 (fun σ' H' => ∃ many at' more : Int, σ' = [some (.int sd), some (.int v), some (.str ABC), some (.int many), some (.int at'), some (.int more), none, none, none] ∧ H' = H ∧ tgM sd v = (many, at', more))
  ⟨_, (pss_cons (ps_set (i := 6) sc_l_tag.nd rfl (Or.inl rfl) pe_str)
  (pss_cons (ps_for PassesOwn.never rfl (pi_range1 rfl (B "range" (by decide)) (pa_cons (pv 3) pa_nil)) (pg_name (i := 7) sc_l_tag.nd rfl (Or.inl rfl))
   (pss_cons (ps_set (i := 8) sc_l_tag.nd rfl (Or.inl rfl) (pe_op op_add (pe_op op_fdiv (pv 0) (pe_op op_add (pv 7) pe_int)) (pe_op op_mul (pe_callTy call_intB rfl (B "int" (by decide)) bt_int (pa_cons (pe_cmpR op_eq (pv 7) (pv 4) (nomark _)) pa_nil)) (pv 5))))
    (pss_one (ps_set (i := 6) sc_l_tag.nd rfl (Or.inl rfl) (pe_op op_add_str (pv 6) (pe_ix ix_str (pv 2) (pe_op op_mod (pv 8) pe_int) (fun _ _ => rfl)))))))
  (pss_one (ps_ret (pv 6))))), ?_⟩
  (fun u hu4 hR => ⟨_, (pss_cons (ps_set (i := 2) sc_l_tag.nd rfl (Or.inl rfl) pe_str)
  (pss_cons (ps_set (i := 3) sc_l_tag.nd rfl (Or.inl rfl) (pe_op op_add pe_int (pe_op op_mod (pv 0) pe_int)))
  (pss_cons (ps_set (i := 4) sc_l_tag.nd rfl (Or.inl rfl) (pe_op op_mod (pe_op op_fdiv (pv 0) pe_int) (pv 3)))
  (pss_cons (ps_set (i := 5) sc_l_tag.nd rfl (Or.inl rfl) (pv 1))
  (pss_cons (ps_if (pt_cmpR op_eq (pe_op op_mod (pe_op op_fdiv (pv 0) pe_int) pe_int) pe_int (nomark _))
   (pss_cons (ps_set (i := 3) sc_l_tag.nd rfl (Or.inl rfl) (pe_op op_add pe_int (pe_op op_mod (pe_op op_add (pe_op op_fdiv (pv 0) pe_int) (pv 1)) pe_int)))
    (pss_cons (ps_set (i := 4) sc_l_tag.nd rfl (Or.inl rfl) (pe_op op_sub (pv 3) pe_int))
    (pss_one (ps_set (i := 5) sc_l_tag.nd rfl (Or.inl rfl) (pe_op op_fdiv (pv 1) pe_int)))))
   pss_nil)
  hu4))))), ?_⟩)
 rotate_left
 ·have m1 := Int.emod_nonneg sd (by decide : (8 : Int) ≠ 0)
  refine ⟨_, rfl, _, _, rfl, rfl, (by show (0 : Int) < 8; decide), _, _, rfl, rfl, ?_⟩
  refine ⟨_, rfl, _, _, rfl, rfl, ⟨by decide, by decide⟩, _, rfl, _, _, rfl, rfl, (by show (0 : Int) < 1 + sd % 8; lia), ?_⟩
  refine ⟨_, rfl, ?_⟩
  refine ⟨_, rfl, _, _, rfl, rfl, ⟨by decide, by decide⟩, _, _, rfl, rfl, (by show (0 : Int) < 2; decide), rfl, _, rfl, ?_⟩
  refine ite2 (fun c => ?_) (fun c => ?_)
  ·have c : V.int (sd / 4096 % 2) = V.int 1 := of_decide_eq_true c
   have c : sd / 4096 % 2 = 1 := by injection c
   refine ⟨_, rfl, _, _, rfl, rfl, ⟨by decide, by decide⟩, _, rfl, _, _, rfl, rfl, _, _, rfl, rfl, (by show (0 : Int) < 8; decide), _, _, rfl, rfl, ?_⟩
   refine ⟨_, rfl, _, _, rfl, rfl, ?_⟩
   refine ⟨_, rfl, _, _, rfl, rfl, ⟨by decide, by decide⟩, ?_⟩
   exact hR _ _ ⟨_, _, _, rfl, rfl, if_pos c⟩
  ·have c : ¬ sd / 4096 % 2 = 1 := fun z => c (decide_eq_true (congrArg V.int z))
   exact hR _ _ ⟨_, _, _, rfl, rfl, if_neg c⟩
 ·rintro σ' H' ⟨many, at', more, rfl, rfl, hM⟩
  obtain ⟨h1, h8, _, _⟩ := tgM_range sd v
  rw [hM] at h1 h8
  have h1 : 1 ≤ many := h1
  have h8 : many ≤ 8 := h8
  refine ⟨_, rfl, _, rfl, by lia, by lia, for_range (lo := 0) (n := many.toNat) (fun i σ H1 => ∃ (t : Str) (v7 v8 : Option V), σ = [some (.int sd), some (.int v), some (.str ABC), some (.int many), some (.int at'), some (.int more), some (.str t), v7, v8] ∧ H1 = H' ∧ t.length = i ∧ t.cps.toList = (List.range i).map (tgC sd at' more)) ⟨Str.empty, none, none, rfl, rfl, rfl, rfl⟩ ?_ ?_⟩
  ·rintro i σ H1 hi ⟨t, v7, v8, rfl, rfl, hl, hlt⟩
   refine ⟨_, rfl, _, rfl, _, _, rfl, rfl, _, _, rfl, rfl, ⟨by lia, by lia⟩, _, rfl, _, rfl, rfl, _, rfl, _, rfl, _, _, rfl, rfl, .inl ⟨by split <;> decide, by split <;> decide⟩, _, _, rfl, rfl, ?_⟩
   obtain ⟨hc, _⟩ := tgC_let sd at' more i
   have ej : (0 + (i : Int)) = (i : Int) := Int.zero_add _
   have ei : (if decide (V.int (0 + (i : Int)) = V.int at') = true then (1 : Int) else 0) = if (i : Int) = at' then 1 else 0 := by
    rw [ej]
    by_cases c : (i : Int) = at'
    ·rw [if_pos c, if_pos (decide_eq_true (congrArg V.int c))]
    ·rw [if_neg c, if_neg (fun z => c (by have := of_decide_eq_true z; injection this))]
   refine ⟨_, rfl, _, rfl, _, rfl, _, _, rfl, rfl, (by show (0 : Int) < 26; decide), _, _, tgC sd at' more i, rfl, rfl, (by decide), ?_, _, _, rfl, rfl, ?_, ?_⟩
   ·rw [ei, ej]
    exact hc
   ·show t.length + 1 ≤ sizeLine
    exact len1000 (by lia)
   ·refine ⟨t ++ ⟨#[tgC sd at' more i]⟩, _, _, rfl, rfl, ?_, ?_⟩
    ·rw [app_len, hl]
     rfl
    ·rw [app_cps, hlt, List.range_succ, List.map_append]
     rfl
  ·rintro σ H1 ⟨t, v7, v8, rfl, rfl, hl, hlt⟩
   have e : t = tgS sd v := by
    have : t.cps.toList = (tgS sd v).cps.toList := by
     rw [hlt]
     show _ = (List.range (tgM sd v).1.toNat).map (tgC sd (tgM sd v).2.1 (tgM sd v).2.2)
     rw [hM]
    exact cs_inj this
   refine ⟨_, rfl, ?_⟩
   rw [e]
   exact q
theorem tagB_bad {x y : Str} {c : Nat} (h : azB c = false) : tagB (x ++ ⟨#[c]⟩ ++ y) = false := by
 unfold tagB
 have : (x ++ ⟨#[c]⟩ ++ y).cps.toList.all azB = false := by
  rw [app_cps, app_cps, List.all_append, List.all_append]
  show (x.cps.toList.all azB && (azB c && true) && _) = false
  rw [h]
  simp
 rw [this, Bool.and_false]
theorem sb_app {x y : Str} (hx : SB x) (hy : SB y) (hl : x.length + y.length ≤ 1000) : SB (x ++ y) := ⟨by rw [app_len]; exact hl, fun c hc => by
 rw [app_cps] at hc
 exact (List.mem_append.mp hc).elim (hx.2 c) (hy.2 c)⟩
def SGN : Str := "AZ09/`{ ()=|*+?-_.,;:@~!"
theorem sgn_all : ∀ n : _root_.Fin 24, azB (SGN.cps.toList.getD n.val 0) = false ∧ SGN.cps.toList.getD n.val 0 < 200 ∧ n.val < SGN.cps.toList.length := by decide
theorem sgn_at {i : Int} (h0 : 0 ≤ i) (h1 : i < 24) : ∃ c, atI SGN.cps.toList i = some c ∧ azB c = false ∧ c < 16 ^ 8 := by
 obtain ⟨a1, a2, hj⟩ := sgn_all ⟨i.toNat, by lia⟩
 have e : (i.toNat : Int) = i := Int.toNat_of_nonneg h0
 have h := atI_nat (xs := SGN.cps.toList) (j := i.toNat) (v := SGN.cps.toList.getD i.toNat 0) (by rw [List.getD_eq_getElem?_getD, List.getElem?_eq_getElem hj]; rfl)
 rw [e] at h
 exact ⟨_, h, a1, Nat.lt_of_lt_of_le a2 (by decide)⟩
theorem sub_slice {t : Str} {k : Int} (h0 : 0 ≤ k) (h1 : k < (t.length : Int)) :
  (PySem.StrLaws.sliceText t none (some k)).length = k.toNat ∧ (PySem.StrLaws.sliceText t (some (k + 1)) none).length = t.length - (k.toNat + 1) ∧ (∀ c ∈ (PySem.StrLaws.sliceText t none (some k)).cps.toList, c ∈ t.cps.toList) ∧ ∀ c ∈ (PySem.StrLaws.sliceText t (some (k + 1)) none).cps.toList, c ∈ t.cps.toList := by
 have hlt : t.cps.toList.length = t.length := by rw [Array.length_toList]; rfl
 have E1 := PySem.StrLaws.sliceText_to (x := t) (j := k) ⟨h0, by rw [hlt]; lia⟩
 have E2 := PySem.StrLaws.sliceText_from (x := t) (i := k + 1) ⟨by lia, by rw [hlt]; lia⟩
 refine ⟨?_, ?_, ?_, ?_⟩
 ·rw [E1]
  show ((t.cps.toList.drop 0).take _).toArray.size = _
  rw [List.size_toArray, List.length_take, List.length_drop, hlt]
  lia
 ·rw [E2, show ∀ l : List Nat, (⟨l.toArray⟩ : Str).length = l.length from fun l => List.size_toArray, List.length_take, List.length_drop, hlt]
  lia
 ·rw [E1]
  intro c hc
  have hc' : c ∈ (t.cps.toList.drop 0).take (k - 0).toNat := by simpa using hc
  exact List.mem_of_mem_drop (List.mem_of_mem_take hc')
 ·rw [E2]
  intro c hc
  simp only [List.toList_toArray] at hc
  exact List.mem_of_mem_drop (List.mem_of_mem_take hc)
def spNoTag : Sp := fun vs H Q _ => ∃ sd c : Int, vs = [.int sd, .int c] ∧ ∀ (t : Str) (H' : Hp), Same H H' → SB t → tagB t = false → Q (.str t) H'
set_option maxHeartbeats 1000000 in
theorem ok_l_no_tag (B : ∀ x ∈ blts, mg x = none) (g_l_tag : Has P w K mg base "_law_tag" ["_law_seed", "_law_v"] 1 spTag12) (F : Fun K "_law_no_tag" "_law_no_tag" s_l_no_tag f fd) : FnOk P w K mg base CX0 2 f fd ["_law_seed", "_law_cell_here"] spNoTag := by
 refine F.ok sc_l_no_tag (fun vs H Q E h => ?_) (fun cdv A outer s H vs Q E hr h => ?_)
 ·obtain ⟨sd, c, rfl, _⟩ := h
  rfl
 obtain ⟨sd, c, rfl, q⟩ := h
 refine ⟨_, (pss_cons (ps_set (i := 2) sc_l_no_tag.nd rfl (Or.inl rfl) (pe_has g_l_tag hr rfl (pa_cons (pv 0) (pa_cons (pe_op op_mod (pv 1) pe_int) pa_nil))))
  (pss_cons (ps_if (pt_cmpR op_eq (pe_op op_mod (pe_op op_fdiv (pv 1) pe_int) pe_int) pe_int (nomark _))
   (pss_one (ps_ret (pe_ix ix_list (pe_lst (pa_cons pe_str (pa_cons pe_str (pa_cons pe_str (pa_cons (pe_op op_add_str (pv 2) pe_str) pa_nil))))) (pe_op op_mod (pe_op op_fdiv (pv 1) pe_int) pe_int) (fun _ _ => rfl))))
   pss_nil)
  (pss_cons (ps_set (i := 3) sc_l_no_tag.nd rfl (Or.inl rfl) (pe_op op_mod (pe_op op_fdiv (pv 1) pe_int) (pe_callB call_len_str rfl (B "len" (by decide)) PySem.boot_len (pa_cons (pv 2) pa_nil))))
  (pss_cons (ps_set (i := 4) sc_l_no_tag.nd rfl (Or.inl rfl) pe_str)
  (pss_cons (ps_set (i := 4) sc_l_no_tag.nd rfl (Or.inl rfl) (pe_ix ix_str (pv 4) (pe_op op_mod (pe_op op_fdiv (pv 1) pe_int) pe_int) (fun _ _ => rfl)))
  (pss_one (ps_ret (pe_op op_add_str (pe_op op_add_str (pe_slice sl_str (pv 2) po_none (po_some (pv 3))) (pv 4)) (pe_slice sl_str (pv 2) (po_some (pe_op op_add (pv 3) pe_int)) po_none))))))))), ?_⟩
 refine ⟨_, rfl, _, rfl, _, _, rfl, rfl, (by show (0 : Int) < 26; decide), sd, _, rfl, ?_⟩
 obtain ⟨hL, h8⟩ := tgS_let sd (c % 26)
 have hS := sb_lets hL h8
 generalize tgS sd (c % 26) = t at hL h8 hS
 have hlen : t.cps.toList.length = t.length := by rw [Array.length_toList]; rfl
 have ht1 : 0 < t.length := by
  rw [← hlen]
  exact List.length_pos_iff.mpr hL.1
 refine ⟨_, rfl, _, _, rfl, rfl, ⟨by decide, by decide⟩, _, _, rfl, rfl, (by show (0 : Int) < 4; decide), rfl, _, rfl, ite2 (fun _ => ?_) (fun _ => ?_)⟩
 ·have b0 := Int.emod_nonneg (c / 104) (by decide : (4 : Int) ≠ 0)
  have b1 := Int.emod_lt_of_pos (c / 104) (by decide : (0 : Int) < 4)
  obtain ⟨n, en⟩ := Int.eq_ofNat_of_zero_le b0
  refine ⟨_, rfl, _, _, rfl, rfl, ?_, (by show 4 ≤ sizeLine; decide), fun pl hpl => ?_⟩
  ·show t.length + 1 ≤ sizeLine
   exact len1000 (by lia)
  have all : ∀ x : Str, x ∈ [("" : Str), "abcdefghi", "zzzzzzzzzzzz", t ++ ⟨#[32]⟩] → SB x ∧ tagB x = false := fun x hx => by
   simp only [List.mem_cons, List.not_mem_nil, or_false] at hx
   rcases hx with rfl | rfl | rfl | rfl
   ·exact ⟨⟨by decide, by decide⟩, by decide⟩
   ·exact ⟨⟨by decide, by decide⟩, by decide⟩
   ·exact ⟨⟨by decide, by decide⟩, by decide⟩
   ·refine ⟨sb_app hS ⟨by decide, by decide⟩ (by show t.length + 1 ≤ 1000; lia), ?_⟩
    have := tagB_bad (x := t) (y := Str.empty) (c := 32) (by decide)
    rwa [show t ++ (⟨#[32]⟩ : Str) ++ Str.empty = t ++ ⟨#[32]⟩ from cs_inj ((app_cps _ _).trans (List.append_nil _))] at this
  have hn : n < 4 := by lia
  have pick : ∃ x, ([("" : Str), "abcdefghi", "zzzzzzzzzzzz", t ++ ⟨#[32]⟩].map V.str)[n]? = some (.str x) ∧ x ∈ [("" : Str), "abcdefghi", "zzzzzzzzzzzz", t ++ ⟨#[32]⟩] := by
   rw [List.getElem?_map, List.getElem?_eq_getElem (show n < [("" : Str), "abcdefghi", "zzzzzzzzzzzz", t ++ ⟨#[32]⟩].length from hn)]
   exact ⟨_, rfl, List.getElem_mem _⟩
  obtain ⟨x, hx, xm⟩ := pick
  refine ⟨_, rfl, _, _, rfl, rfl, ⟨by decide, by decide⟩, _, _, rfl, rfl, (by show (0 : Int) < 4; decide), pl, _, (n : Int), _, rfl, congrArg V.int en, SqL.of upd_same, atI_nat hx, ?_⟩
  exact q x _ (Same.new hpl) (all x xm).1 (all x xm).2
 ·have tp : (0 : Int) < (t.length : Int) := by lia
  refine ⟨_, rfl, _, _, rfl, rfl, ⟨by decide, by decide⟩, _, rfl, t, rfl, len1000 (by lia), _, _, rfl, rfl, tp, ?_⟩
  have k0 := Int.emod_nonneg (c / 104) (Int.ne_of_gt tp)
  have k1 := Int.emod_lt_of_pos (c / 104) tp
  obtain ⟨ch, hc, c1, c2⟩ := sgn_at (i := c / 832 % 24) (Int.emod_nonneg _ (by decide)) (Int.emod_lt_of_pos _ (by decide))
  obtain ⟨L1, L2, L3, L4⟩ := sub_slice k0 k1
  refine ⟨_, rfl, _, rfl, _, _, rfl, rfl, ⟨by decide, by decide⟩, _, _, rfl, rfl, (by show (0 : Int) < 24; decide), _, _, ch, rfl, rfl, (by decide), hc, ?_⟩
  refine ⟨_, rfl, _, rfl, _, rfl, _, rfl, len1000 (by lia), _, rfl, _, _, rfl, rfl, ?_, ?_⟩
  ·rw [L1]
   show _ + 1 ≤ sizeLine
   exact len1000 (by lia)
  refine ⟨_, rfl, _, rfl, _, _, rfl, rfl, _, rfl, _, rfl, len1000 (by lia), _, _, rfl, rfl, ?_, ?_⟩
  ·rw [app_len, L1, L2]
   show _ + 1 + _ ≤ sizeLine
   exact len1000 (by lia)
  refine q _ _ (Same.refl _) (sb_app (sb_app ⟨by lia, fun c hc => hS.2 c (L3 c hc)⟩ ⟨by show 1 ≤ 1000; decide, fun x hx => by rw [List.mem_singleton.mp hx]; exact c2⟩ ?_) ⟨by lia, fun c hc => hS.2 c (L4 c hc)⟩ ?_) (tagB_bad c1)
  ·rw [L1]
   show _ + 1 ≤ 1000
   lia
  ·rw [app_len, L1, L2]
   show _ + 1 + _ ≤ 1000
   lia
def qV (q : Srd.Qd) : List V := [.int q.1, .str q.2.1, .int q.2.2.1, .int q.2.2.2]
def spRule12 : Sp := fun vs H Q _ => ∃ (se c m : Int), vs = [.int se, .int c, .int m] ∧ 1 ≤ m ∧ ∀ (r : Addr) (q : Srd.Qd) (H' : Hp), Same H H' → H r = none → H' r = some (.lst (qV q)) → QB m [q] → Lets q.2.1 → q.2.1.length ≤ 8 → Q (.ref r) H'
theorem ok_l_rule (B : ∀ x ∈ blts, mg x = none) (g_l_tag : Has P w K mg base "_law_tag" ["_law_seed", "_law_v"] 1 spTag12) (F : Fun K "_law_rule" "_law_rule" s_l_rule f fd) : FnOk P w K mg base CX0 2 f fd ["_law_seed", "_law_cell_here", "_law_many"] spRule12 := by
 refine F.ok sc_l_rule (fun vs H Q E h => ?_) (fun cdv A outer s H vs Q E hr h => ?_)
 ·obtain ⟨se, c, m, rfl, _⟩ := h
  rfl
 obtain ⟨se, c, m, rfl, m1, q⟩ := h
 have hm0 : (0 : Int) < m := by lia
 refine ⟨_, (pss_one (ps_ret (pe_lst (pa_cons (pe_op op_mod (pv 1) (pv 2)) (pa_cons (pe_has g_l_tag hr rfl (pa_cons (pv 0) (pa_cons (pe_op op_mod (pe_op op_fdiv (pv 1) pe_int) pe_int) pa_nil))) (pa_cons (pe_op op_mod (pe_op op_fdiv (pv 1) pe_int) (pv 2)) (pa_cons (pe_op op_mod (pe_op op_fdiv (pv 1) pe_int) (pv 2)) pa_nil))))))), ?_⟩
 refine ⟨_, rfl, _, rfl, _, _, rfl, rfl, hm0, _, rfl, _, rfl, _, _, rfl, rfl, ⟨by decide, by decide⟩, _, _, rfl, rfl, (by show (0 : Int) < 26; decide), _, _, rfl, ?_⟩
 obtain ⟨ht, h8⟩ := tgS_let se (c / 262144 % 26)
 refine ⟨_, rfl, _, _, rfl, rfl, ⟨by decide, by decide⟩, _, rfl, _, _, rfl, rfl, hm0, _, rfl, _, _, rfl, rfl, ⟨by decide, by decide⟩, _, rfl, _, _, rfl, rfl, hm0, by show (4 : Nat) ≤ sizeLine; decide, fun p hp => ?_⟩
 refine q p (c % m, tgS se (c / 262144 % 26), c / 64 % m, c / 4096 % m) _ (Same.new hp) hp upd_same (fun x hx => ?_) ht h8
 rw [List.mem_singleton.mp hx]
 exact ⟨modB _ m1, modB _ m1, modB _ m1⟩
def spNoKind : Sp := fun vs H Q _ => ∃ c m : Int, vs = [.int c, .int m] ∧ 0 ≤ m ∧ m ≤ 2000000000 ∧ ∀ x : Int, ¬ (0 ≤ x ∧ x < m) → -4000000000 ≤ x → x ≤ 4000000000 → Q (.int x) H
theorem ok_l_no_kind (B : ∀ x ∈ blts, mg x = none) (F : Fun K "_law_no_kind" "_law_no_kind" s_l_no_kind f fd) : FnOk P w K mg base CX0 1 f fd ["_law_cell_here", "_law_many"] spNoKind := by
 refine F.ok sc_l_no_kind (fun vs H Q E h => ?_) (fun cdv A outer s H vs Q E hr h => ?_)
 ·obtain ⟨c, m, rfl, _⟩ := h
  rfl
 obtain ⟨c, m, rfl, m0, m1, q⟩ := h
 refine cut 2 (fun σ' H' => ∃ far : Int, σ' = [some (.int c), some (.int m), some (.int far)] ∧ H' = H ∧ 0 ≤ far ∧ far ≤ 1000000000)
  ⟨_, (pss_cons (ps_if (pt_cmpR op_eq (pe_op op_mod (pv 0) pe_int) pe_int (nomark _))
   (pss_one (ps_ret (pe_op op_add (pv 1) (pv 2))))
   pss_nil)
  (pss_one (ps_ret (pe_op op_sub (pe_op op_sub pe_int pe_int) (pv 2))))), ?_⟩ (fun u hu4 hR => ⟨_, (pss_cons (ps_set (i := 2) sc_l_no_kind.nd rfl (Or.inl rfl) pe_int)
  (pss_cons (ps_if (pt_cmpR op_eq (pe_op op_mod (pe_op op_fdiv (pv 0) pe_int) pe_int) pe_int (nomark _))
   (pss_one (ps_set (i := 2) sc_l_no_kind.nd rfl (Or.inl rfl) (pe_op op_mod (pe_op op_fdiv (pv 0) pe_int) (pe_op op_pow pe_int pe_int))))
   pss_nil)
  hu4)), ?_⟩)
 ·rintro σ' H' ⟨far, rfl, rfl, f0, f1⟩
  refine ⟨_, rfl, _, _, rfl, rfl, (by show (0 : Int) < 2; decide), rfl, _, rfl, ite2 (fun _ => ?_) (fun _ => ?_)⟩
  ·exact ⟨_, rfl, _, rfl, _, _, rfl, rfl, q _ (by lia) (by lia) (by lia)⟩
  ·exact ⟨_, _, rfl, rfl, _, rfl, _, _, rfl, rfl, q _ (by lia) (by lia) (by lia)⟩
 refine ⟨_, rfl, _, _, rfl, rfl, ⟨by decide, by decide⟩, _, _, rfl, rfl, (by show (0 : Int) < 2; decide), rfl, _, rfl, ite2 (fun _ => ?_) (fun _ => hR _ _ ⟨_, rfl, rfl, by decide, by decide⟩)⟩
 have p9 : (10 : Int) ^ (9 : Int).toNat = 1000000000 := by decide
 have b0 := Int.emod_nonneg (c / 4) (by decide : (1000000000 : Int) ≠ 0)
 have b1 := Int.emod_lt_of_pos (c / 4) (by decide : (0 : Int) < 1000000000)
 refine ⟨_, rfl, _, _, rfl, rfl, ⟨by decide, by decide⟩, _, _, rfl, rfl, ⟨by decide, by decide, by decide⟩, _, _, rfl, rfl, (by rw [p9]; show (0 : Int) < 1000000000; decide), hR _ _ ⟨_, rfl, rfl, ?_, ?_⟩⟩
 ·rw [p9]
  exact b0
 ·rw [p9]
  lia
def RLs (H : Hp) (zs : List V) (qs : List Srd.Qd) : Prop := Paired (fun z q => ∃ p, z = V.ref p ∧ H p = some (.lst (qV q))) zs qs
theorem RLs.mono {H H' : Hp} (k : ∀ b xs, H b = some (.lst xs) → H' b = some (.lst xs)) : ∀ {zs : List V} {qs : List Srd.Qd}, RLs H zs qs → RLs H' zs qs
 | _, _, .nil => .nil
 | _, _, .cons ⟨p, e, h⟩ t => .cons ⟨p, e, k _ _ h⟩ (RLs.mono k t)
theorem RLs.length {H : Hp} : ∀ {zs : List V} {qs : List Srd.Qd}, RLs H zs qs → zs.length = qs.length
 | _, _, .nil => rfl
 | _, _, .cons _ t => congrArg (· + 1) (RLs.length t)
theorem RLs.snoc {H : Hp} : ∀ {zs : List V} {qs : List Srd.Qd} {p : Addr} {q : Srd.Qd}, H p = some (.lst (qV q)) → RLs H zs qs → RLs H (zs ++ [.ref p]) (qs ++ [q])
 | _, _, p, _, h, .nil => .cons ⟨p, rfl, h⟩ .nil
 | _, _, _, _, h, .cons x t => .cons x (RLs.snoc h t)
theorem RLs.get {H : Hp} : ∀ {zs : List V} {qs : List Srd.Qd}, RLs H zs qs → ∀ (i : Nat) z, zs[i]? = some z → ∃ p q, qs[i]? = some q ∧ z = .ref p ∧ H p = some (.lst (qV q))
 | _, _, .nil, i, z, h => by simp at h
 | _, _, .cons (b := q) ⟨p, e, k⟩ t, 0, z, h => by
  injection h with h
  subst h
  exact ⟨p, q, rfl, e, k⟩
 | _, _, .cons _ t, i + 1, z, h => RLs.get t i z h
theorem RLs.put {H : Hp} {p : Addr} {o : HO} : ∀ {zs : List V} {qs : List Srd.Qd}, RLs H zs qs → (∀ z ∈ zs, z ≠ .ref p) → RLs (upd H p o) zs qs
 | _, _, .nil, _ => .nil
 | _, _, .cons ⟨p', e, k⟩ t, n => .cons ⟨p', e, by rw [upd_ne (fun z => n _ (List.mem_cons_self ..) (by rw [e, z]))]; exact k⟩ (RLs.put t fun z hz => n z (List.mem_cons_of_mem _ hz))
theorem RLs.set {H : Hp} {p : Addr} {q' : Srd.Qd} : ∀ {zs : List V} {qs : List Srd.Qd} {i : Nat}, RLs H zs qs → zs.Nodup → zs[i]? = some (.ref p) → RLs (upd H p (.lst (qV q'))) zs (qs.set i q')
 | _, _, _, .nil, _, h => by simp at h
 | _, _, 0, .cons ⟨p', e, k⟩ t, nd, h => by
  injection h with h
  obtain ⟨n1, n2⟩ := List.nodup_cons.mp nd
  exact .cons ⟨p, h, upd_same⟩ (RLs.put t fun z hz e' => n1 (by rw [h, ← e']; exact hz))
 | _, _, i + 1, .cons (l₁ := zs) ⟨p', e, k⟩ t, nd, h => by
  obtain ⟨n1, n2⟩ := List.nodup_cons.mp nd
  have h' : zs[i]? = some (V.ref p) := h
  refine .cons ⟨p', e, ?_⟩ (RLs.set t n2 h')
  rw [upd_ne (fun z => n1 (by rw [e, z]; exact List.mem_of_getElem? h'))]
  exact k
def Thg (H : Hp) (L : Addr) (hs ts : List Int) (qs : List Srd.Qd) : Prop := ∃ (a b c : Addr) (zs : List V), H L = some (.lst [.ref a, .ref b, .ref c]) ∧ H a = some (.lst (hs.map V.int)) ∧ H b = some (.lst (ts.map V.int)) ∧ H c = some (.lst zs) ∧ RLs H zs qs
theorem Thg.mono {H H' : Hp} {L : Addr} {hs ts : List Int} {qs : List Srd.Qd} (h : Thg H L hs ts qs) (k : ∀ b xs, H b = some (.lst xs) → H' b = some (.lst xs)) : Thg H' L hs ts qs := by
 obtain ⟨a, b, c, zs, h1, h2, h3, h4, h5⟩ := h
 exact ⟨a, b, c, zs, k _ _ h1, k _ _ h2, k _ _ h3, k _ _ h4, h5.mono k⟩
theorem Thg.same {H H' : Hp} {L : Addr} {hs ts : List Int} {qs : List Srd.Qd} (h : Thg H L hs ts qs) (s : Same H H') : Thg H' L hs ts qs := h.mono fun b xs e => s _ _ e
structure TB (hs ts : List Int) (qs : List Srd.Qd) : Prop where
 h : hs.length ≤ 10
 t : ts.length ≤ 10
 q : qs.length ≤ 510
 hb : NB hs
 tb : NB ts
 qb : ∀ q ∈ qs, NB [q.1, q.2.2.1, q.2.2.2] ∧ SB q.2.1
theorem nb_ib {n : Int} {xs : List Int} (h : IB n xs) (hn : n ≤ 4000000000) : NB xs := fun x hx => by
 have := h x hx
 exact nb_le (by lia) (by lia)
theorem nb_q {n : Int} {q : Srd.Qd} (h : QB n [q]) (hn : n ≤ 4000000000) : NB [q.1, q.2.2.1, q.2.2.2] := by
 obtain ⟨h1, h2, h3⟩ := h q (by simp)
 intro x hx
 simp only [List.mem_cons, List.not_mem_nil, or_false] at hx
 rcases hx with rfl | rfl | rfl
 ·exact nb_le (by lia) (by lia)
 ·exact nb_le (by lia) (by lia)
 ·exact nb_le (by lia) (by lia)
theorem qb_snoc {n : Int} {qs : List Srd.Qd} {q : Srd.Qd} (h : QB n qs) (k : QB n [q]) : QB n (qs ++ [q]) := fun x hx => by
 rcases List.mem_append.mp hx with hx | hx
 ·exact h x hx
 ·exact k x hx
def spThings (K : PySem.W.Frag) : Sp := fun vs H Q _ => ∃ (a : Addr) (ns : List Int) (n : Int), vs = [.ref a, .int n] ∧ SqL K H a (ns.map V.int) ∧ ns.length ≤ 63 ∧ 1 ≤ n ∧ n ≤ 64 ∧ ∀ (L : Addr) (hs ts : List Int) (qs : List Srd.Qd) (H' : Hp), Same H H' → Thg H' L hs ts qs → hs.length ≤ 8 → ts.length ≤ 8 → qs.length ≤ 300 → qs ≠ [] → Gd n hs ts qs → (∀ q ∈ qs, SB q.2.1) → Q (.ref L) H'
set_option maxHeartbeats 2000000 in
theorem ok_l_things (B : ∀ x ∈ blts, mg x = none) (g_l_cell : Has P w K mg base "_law_cell" ["_law_script", "_law_k"] 1 (spCell17 K)) (g_l_rule : Has P w K mg base "_law_rule" ["_law_seed", "_law_cell_here", "_law_many"] 2 spRule12) (F : Fun K "_law_things" "_law_things" s_l_things f fd) : FnOk P w K mg base CX0 3 f fd ["_law_script", "_law_many"] (spThings K) := by
 refine F.ok sc_l_things (fun vs H Q E h => ?_) (fun cdv A outer s H vs Q E hr h => ?_)
 ·obtain ⟨a, ns, n, rfl, _⟩ := h
  rfl
 obtain ⟨a, ns, n, rfl, hS, h63, n1, n64, q⟩ := h
 have hn0 : (0 : Int) < n := by lia
 refine hideI ((defBody s_l_things).drop 4) (pss_one (ps_ret (pe_lst (pa_cons (pv 3) (pa_cons (pv 4) (pa_cons (pv 5) pa_nil)))))) (fun u4 h4 e4 => ?_)
 refine hideI ((defBody s_l_things).drop 3) (pss_cons (ps_set_comp (cl := _) (n0 := 5) sc_l_things.nd rfl (Or.inl rfl) ["_law_k"] [("_law_script", 0), ("_law_many", 1), ("_law_seed", 2)] (pi_range2 rfl (B "range" (by decide)) (pa_cons pe_int (pa_cons (pe_op op_add pe_int (pe_callB (call_min2 rfl) rfl (B "min" (by decide)) bt_min (pa_cons (pe_callB (call_max2 rfl) rfl (B "max" (by decide)) bt_max (pa_cons (pe_op op_sub (pe_callB call_len_seq rfl (B "len" (by decide)) PySem.boot_len (pa_cons (pv 0) pa_nil)) pe_int) (pa_cons pe_int pa_nil))) (pa_cons pe_int pa_nil)))) pa_nil))) (fun _ _ _ _ => (pg_name (i := 0) (show List.Nodup (["_law_k", "_law_script", "_law_many", "_law_seed"] : List Str) by decide) rfl (Or.inl rfl))) (fun _ _ _ _ => (pe_has g_l_rule hr rfl (pa_cons (pv 3) (pa_cons (pe_has g_l_cell hr rfl (pa_cons (pv 1) (pa_cons (pv 0) pa_nil))) (pa_cons (pv 2) pa_nil))))) rfl rfl (by decide) rfl (by decide) (cap_cl (by (repeat' first | exact List.forall_mem_nil _ | refine List.forall_mem_cons.mpr ⟨?_, ?_⟩) <;> rfl)) (cap_has (by (repeat' first | exact List.forall_mem_nil _ | refine List.forall_mem_cons.mpr ⟨?_, ?_⟩) <;> first | (intro h; exact ⟨_, rfl⟩) | (intro h; exact absurd h (by decide)))) (fun _ => by (repeat' first | exact List.forall_mem_nil _ | refine List.forall_mem_cons.mpr ⟨?_, ?_⟩) <;> exact ⟨rfl, rfl, Or.inl rfl⟩) (fun _ => rfl) rfl) h4) (fun u3 h3 e3 => ?_)
 refine hideI ((defBody s_l_things).drop 2) (pss_cons (ps_set_comp (cl := _) (n0 := 4) sc_l_things.nd rfl (Or.inl rfl) ["_law_k"] [("_law_script", 0), ("_law_many", 1)] (pi_range1 rfl (B "range" (by decide)) (pa_cons (pe_op op_add pe_int (pe_op op_mod (pe_has g_l_cell hr rfl (pa_cons (pv 0) (pa_cons pe_int pa_nil))) pe_int)) pa_nil)) (fun _ _ _ _ => (pg_name (i := 0) (show List.Nodup (["_law_k", "_law_script", "_law_many"] : List Str) by decide) rfl (Or.inl rfl))) (fun _ _ _ _ => (pe_op op_mod (pe_op op_fdiv (pe_has g_l_cell hr rfl (pa_cons (pv 1) (pa_cons pe_int pa_nil))) (pe_op op_add (pv 0) pe_int)) (pv 2))) rfl rfl (by decide) rfl (by decide) (cap_cl (by (repeat' first | exact List.forall_mem_nil _ | refine List.forall_mem_cons.mpr ⟨?_, ?_⟩) <;> rfl)) (cap_has (by (repeat' first | exact List.forall_mem_nil _ | refine List.forall_mem_cons.mpr ⟨?_, ?_⟩) <;> first | (intro h; exact ⟨_, rfl⟩) | (intro h; exact absurd h (by decide)))) (fun _ => by (repeat' first | exact List.forall_mem_nil _ | refine List.forall_mem_cons.mpr ⟨?_, ?_⟩) <;> exact ⟨rfl, rfl, Or.inl rfl⟩) (fun _ => rfl) rfl) h3) (fun u2 h2 e2 => ?_)
 refine hideI ((defBody s_l_things).drop 1) (pss_cons (ps_set_comp (cl := _) (n0 := 3) sc_l_things.nd rfl (Or.inl rfl) ["_law_k"] [("_law_script", 0), ("_law_many", 1)] (pi_range1 rfl (B "range" (by decide)) (pa_cons (pe_op op_add pe_int (pe_op op_mod (pe_has g_l_cell hr rfl (pa_cons (pv 0) (pa_cons pe_int pa_nil))) pe_int)) pa_nil)) (fun _ _ _ _ => (pg_name (i := 0) (show List.Nodup (["_law_k", "_law_script", "_law_many"] : List Str) by decide) rfl (Or.inl rfl))) (fun _ _ _ _ => (pe_op op_mod (pe_op op_fdiv (pe_has g_l_cell hr rfl (pa_cons (pv 1) (pa_cons pe_int pa_nil))) (pe_op op_add (pv 0) pe_int)) (pv 2))) rfl rfl (by decide) rfl (by decide) (cap_cl (by (repeat' first | exact List.forall_mem_nil _ | refine List.forall_mem_cons.mpr ⟨?_, ?_⟩) <;> rfl)) (cap_has (by (repeat' first | exact List.forall_mem_nil _ | refine List.forall_mem_cons.mpr ⟨?_, ?_⟩) <;> first | (intro h; exact ⟨_, rfl⟩) | (intro h; exact absurd h (by decide)))) (fun _ => by (repeat' first | exact List.forall_mem_nil _ | refine List.forall_mem_cons.mpr ⟨?_, ?_⟩) <;> exact ⟨rfl, rfl, Or.inl rfl⟩) (fun _ => rfl) rfl) h2) (fun u1 h1 e1 => ?_)
 refine hideI ((defBody s_l_things).drop 0) (pss_cons (ps_set (i := 2) sc_l_things.nd rfl (Or.inr rfl) (pe_has g_l_cell hr rfl (pa_cons (pv 0) (pa_cons pe_int pa_nil)))) h1) (fun u0 h0 e0 => ?_)
 refine ⟨u0, h0, ?_⟩
 refine by_eq e0 ?_
 refine ⟨_, rfl, a, ns, 1, rfl, hS, h63, by decide, by decide, fun sd sd0 sd1 => ?_⟩
 show u1 _ _ _
 refine by_eq e1 ?_
 refine ⟨_, rfl, a, ns, 2, rfl, hS, h63, by decide, by decide, fun v2 v20 v21 => ?_⟩
 have b2 := modB v2 (n := 7) (by decide)
 refine ⟨_, _, rfl, rfl, (by show (0 : Int) < 7; decide), _, _, rfl, rfl, _, rfl, by lia, by lia, fun p0 hp0 => ?_⟩
 refine comp_range (lo := 0) (n := (1 + v2 % 7).toNat) (p := p0) (fun i ys σ H2 => ∃ (v0 : Option V) (ts : List Int), σ = [v0, some (.ref a), some (.int n)] ∧ Same H H2 ∧ H2 p0 = some (.lst ys) ∧ ys = ts.map V.int ∧ ts.length = i ∧ IB n ts)
  ⟨none, [], rfl, Same.new hp0, upd_same, rfl, rfl, fun _ h => (nomatch h)⟩ ?_ ?_ ?_
 ·rintro i ys σ H2 _ ⟨v0, ts, _, _, h, _⟩
  exact h
 ·rintro i ys σ H2 hi ⟨v0, ts, rfl, sm, hp, rfl, hl, ht⟩
  refine ⟨_, rfl, a, ns, 2, rfl, sm.seq hS, h63, by decide, by decide, fun c c0 c1 => ?_⟩
  refine ⟨_, rfl, _, _, rfl, rfl, _, _, rfl, rfl, ⟨by lia, by lia⟩, _, rfl, _, _, rfl, rfl, hn0, hp, ?_, CW.next hi ⟨_, ts ++ [c / (0 + (i : Int) + 1) % n], rfl, sm.upd_new hp0, upd_same, ?_, ?_, ht.snoc (modB _ n1)⟩⟩
  ·rw [List.length_map]
   exact len1000' (by lia)
  ·rw [List.map_append]
   rfl
  ·rw [List.length_append, hl]
   rfl
 rintro ys σ H1 ⟨v0, hs, rfl, s1, hp1, rfl, hl1, ht1⟩
 show u2 _ _ _
 refine by_eq e2 ?_
 refine ⟨_, rfl, a, ns, 3, rfl, s1.seq hS, h63, by decide, by decide, fun v3 v30 v31 => ?_⟩
 have b3 := modB v3 (n := 7) (by decide)
 refine ⟨_, _, rfl, rfl, (by show (0 : Int) < 7; decide), _, _, rfl, rfl, _, rfl, by lia, by lia, fun p1 hp0' => ?_⟩
 refine comp_range (lo := 0) (n := (1 + v3 % 7).toNat) (p := p1) (fun i ys σ H2 => ∃ (v0 : Option V) (ts : List Int), σ = [v0, some (.ref a), some (.int n)] ∧ Same H1 H2 ∧ H2 p1 = some (.lst ys) ∧ ys = ts.map V.int ∧ ts.length = i ∧ IB n ts)
  ⟨none, [], rfl, Same.new hp0', upd_same, rfl, rfl, fun _ h => (nomatch h)⟩ ?_ ?_ ?_
 ·rintro i ys σ H2 _ ⟨v0, ts, _, _, h, _⟩
  exact h
 ·rintro i ys σ H2 hi ⟨v0, ts, rfl, sm, hp, rfl, hl, ht⟩
  refine ⟨_, rfl, a, ns, 3, rfl, (s1.trans sm).seq hS, h63, by decide, by decide, fun c c0 c1 => ?_⟩
  refine ⟨_, rfl, _, _, rfl, rfl, _, _, rfl, rfl, ⟨by lia, by lia⟩, _, rfl, _, _, rfl, rfl, hn0, hp, ?_, CW.next hi ⟨_, ts ++ [c / (0 + (i : Int) + 1) % n], rfl, sm.upd_new hp0', upd_same, ?_, ?_, ht.snoc (modB _ n1)⟩⟩
  ·rw [List.length_map]
   exact len1000' (by lia)
  ·rw [List.map_append]
   rfl
  ·rw [List.length_append, hl]
   rfl
 rintro ys σ H2 ⟨v1, ts, rfl, s2, hp2, rfl, hl2, ht2⟩
 have s12 := s1.trans s2
 show u3 _ _ _
 refine by_eq e3 ?_
 have lm : ((ns.map V.int).length : Int) = (ns.length : Int) := by rw [List.length_map]
 obtain ⟨x, ex, x1, x2⟩ : ∃ x : Int, (8 : Int) + (if (280 : Int) < (if (0 : Int) > ((ns.map V.int).length : Int) - 7 then 0 else ((ns.map V.int).length : Int) - 7) then 280 else (if (0 : Int) > ((ns.map V.int).length : Int) - 7 then 0 else ((ns.map V.int).length : Int) - 7)) = x ∧ 8 ≤ x ∧ x ≤ 64 := ⟨_, rfl, by rw [lm]; split <;> split <;> lia, by rw [lm]; split <;> split <;> lia⟩
 refine ⟨_, rfl, a, _, rfl, .inl (s12.seq hS), _, _, rfl, rfl, _, _, rfl, _, _, rfl, _, _, rfl, rfl, 7, x, congrArg (fun z => [V.int 7, V.int z]) ex, by lia, fun p2 hp20 => ?_⟩
 refine comp_range (lo := 7) (n := (x - 7).toNat) (p := p2) (fun i ys σ H3 => ∃ (v0 : Option V) (qs : List Srd.Qd), σ = [v0, some (.ref a), some (.int n), some (.int sd)] ∧ Same H2 H3 ∧ H3 p2 = some (.lst ys) ∧ RLs H3 ys qs ∧ (∀ z ∈ ys, z ≠ .ref p2) ∧ qs.length = i ∧ QB n qs ∧ ∀ q ∈ qs, Lets q.2.1 ∧ q.2.1.length ≤ 8)
  ⟨none, [], rfl, Same.new hp20, upd_same, .nil, fun _ h => (nomatch h), rfl, fun _ h => (nomatch h), fun _ h => (nomatch h)⟩ ?_ ?_ ?_
 ·rintro i ys σ H3 _ ⟨v0, qs, _, _, h, _⟩
  exact h
 ·rintro i ys σ H3 hi ⟨v0, qs, rfl, sm, hp, hR, hne, hl, hq, hL⟩
  refine ⟨_, rfl, _, rfl, _, rfl, a, ns, _, rfl, (s12.trans sm).seq hS, h63, by lia, by lia, fun c c0 c1 => ?_⟩
  refine ⟨_, rfl, sd, c, n, rfl, n1, fun r q0 H4 s4 hr0 hr4 qb lt l8 => ?_⟩
  refine ⟨s4 _ _ hp, len1000' (by rw [hR.length]; lia), CW.next hi ⟨_, qs ++ [q0], rfl, (sm.trans s4).upd_new hp20, upd_same, ?_, ?_, by rw [List.length_append, hl]; rfl, qb_snoc hq qb, fun x hx => ?_⟩⟩
  ·have z : RLs H4 (ys ++ [.ref r]) (qs ++ [q0]) := RLs.snoc hr4 (hR.mono fun b xs e => s4 _ _ e)
   refine z.put fun v hv => ?_
   rcases List.mem_append.mp hv with hv | hv
   ·exact hne v hv
   ·rw [List.mem_singleton.mp hv]
    exact fun e => ne_of_none hp hr0 (by injection e with e; exact e.symm)
  ·intro v hv
   rcases List.mem_append.mp hv with hv | hv
   ·exact hne v hv
   ·rw [List.mem_singleton.mp hv]
    exact fun e => ne_of_none hp hr0 (by injection e with e; exact e.symm)
  ·rcases List.mem_append.mp hx with hx | hx
   ·exact hL x hx
   ·rw [List.mem_singleton.mp hx]
    exact ⟨lt, l8⟩
 rintro ys σ H3 ⟨v2, qs, rfl, s3, hp3, hR, _, hl3, hq, hL⟩
 show u4 _ _ _
 refine by_eq e4 ?_
 refine ⟨_, rfl, _, rfl, _, rfl, (by show 3 ≤ sizeLine; decide), fun L hLn => ?_⟩
 have s4 := Same.new (o := .lst [.ref p0, .ref p1, .ref p2]) hLn
 refine q L hs ts qs _ ((s12.trans s3).trans s4) ⟨p0, p1, p2, ys, upd_same, s4 _ _ (s3 _ _ (s2 _ _ hp1)), s4 _ _ (s3 _ _ hp2), s4 _ _ hp3, hR.mono fun b xs e => s4 _ _ e⟩ (by lia) (by lia) (by lia) (fun z => ?_) ⟨by lia, ht1, ht2, hq, fun x hx => tagB_letsS (hL x hx).1 (hL x hx).2⟩ fun x hx => sb_lets (hL x hx).1 (hL x hx).2
 rw [z] at hl3
 have : (0 : Nat) = (x - 7).toNat := hl3
 lia
def spSpoil12 : Sp := fun vs H Q _ => ∃ (L : Addr) (hs ts : List Int) (qs : List Srd.Qd) (n wy sd c : Int), vs = [.ref L, .int n, .int wy, .int sd, .int c] ∧ Thg H L hs ts qs ∧ hs.length ≤ 9 ∧ ts.length ≤ 9 ∧ TB hs ts qs ∧ qs ≠ [] ∧ 0 ≤ n ∧ n ≤ 2000000000 ∧ 0 ≤ wy ∧ wy < 6 ∧ 0 ≤ c ∧ ∀ (L' : Addr) (hs' ts' : List Int) (qs' : List Srd.Qd) (H' : Hp), Same H H' → Thg H' L' hs' ts' qs' → TB hs' ts' qs' → ¬ Gd n hs' ts' qs' → Q (.ref L') H'
theorem nb_ins {xs : List Int} {x : Int} {k : Nat} (h : NB xs) (hx : x.natAbs.log2 < 1900) : NB (xs.take k ++ x :: xs.drop k) := fun y hy => by
 rcases List.mem_append.mp hy with hy | hy
 ·exact h y (List.mem_of_mem_take hy)
 ·rcases List.mem_cons.mp hy with rfl | hy
  ·exact hx
  ·exact h y (List.mem_of_mem_drop hy)
theorem ins_map {xs : List Int} {x : Int} {k : Nat} : (xs.map V.int).take k ++ V.int x :: (xs.map V.int).drop k = (xs.take k ++ x :: xs.drop k).map V.int := by
 rw [List.map_append, List.map_cons, List.map_take, List.map_drop]
theorem ins_len {xs : List Int} {x : Int} {k : Nat} : (xs.take k ++ x :: xs.drop k).length = xs.length + 1 := by
 rw [List.length_append, List.length_cons, List.length_take, List.length_drop]
 lia
theorem mem_set_or {α : Type} {l : List α} {i : Nat} {a x : α} (h : x ∈ l.set i a) : x = a ∨ x ∈ l := by
 rcases List.mem_or_eq_of_mem_set h with h | h
 ·exact .inr h
 ·exact .inl h
theorem mem_set_at {α : Type} {l : List α} {i : Nat} {a : α} (h : i < l.length) : a ∈ l.set i a := List.mem_iff_getElem.mpr ⟨i, by rw [List.length_set]; exact h, List.getElem_set_self _⟩
set_option maxHeartbeats 4000000 in
theorem ok_l_spoiled (B : ∀ x ∈ blts, mg x = none) (g_l_no_kind : Has P w K mg base "_law_no_kind" ["_law_cell_here", "_law_many"] 1 spNoKind) (g_l_no_tag : Has P w K mg base "_law_no_tag" ["_law_seed", "_law_cell_here"] 2 spNoTag) (F : Fun K "_law_spoiled" "_law_spoiled" s_l_spoiled f fd) : FnOk P w K mg base CX0 3 f fd ["_law_things_here", "_law_many", "_law_way", "_law_seed", "_law_cell_here"] spSpoil12 := by
 refine F.ok sc_l_spoiled (fun vs H Q E h => ?_) (fun cdv A outer s H vs Q E hr h => ?_)
 ·obtain ⟨L, hs, ts, qs, n, wy, sd, c, rfl, _⟩ := h
  rfl
 obtain ⟨L, hs, ts, qs, n, wy, sd, c, rfl, ⟨a, b, d, zs, hL, ha, hb, hd, hR⟩, hs9, ts9, tb, qne, n0, n2, w0, w6, c0, q⟩ := h
 have hzl := hR.length
 have hq5 := tb.q
 refine hideI ((defBody s_l_spoiled).drop 2) (pss_one (ps_ret (pv 5))) (fun u2 h2 e2 => ?_)
 refine hideI ((sElse ((defBody s_l_spoiled).getD 1 (.Pass ⟨0, 0, 0, 0⟩))).drop 1) (pss_one (ps_if (pt_cmpR op_lt (pv 2) pe_int (nomark _))
   (pss_one (ps_asg (pe_has g_l_no_kind hr rfl (pa_cons (pe_op op_fdiv (pv 4) pe_int) (pa_cons (pv 1) pa_nil))) (pg_sub (pv 6) (pe_ix ix_list (pe_lst (pa_cons pe_int (pa_cons pe_int (pa_cons pe_int pa_nil)))) (pe_op op_sub (pv 2) pe_int) (fun _ _ => rfl)) set_list)))
   (pss_one (ps_asg (pe_has g_l_no_tag hr rfl (pa_cons (pv 3) (pa_cons (pe_op op_fdiv (pv 4) pe_int) pa_nil))) (pg_sub (pv 6) pe_int set_list))))) (fun u1e1 h1e1 e1e1 => ?_)
 refine hideI ((sElse ((defBody s_l_spoiled).getD 1 (.Pass ⟨0, 0, 0, 0⟩))).drop 0) (pss_cons (ps_set (i := 6) sc_l_spoiled.nd rfl (Or.inl rfl) (pe_ix ix_list (pe_ix ix_list (pv 5) pe_int (fun _ _ => rfl)) (pe_op op_mod (pv 4) (pe_callB call_len_seq rfl (B "len" (by decide)) PySem.boot_len (pa_cons (pe_ix ix_list (pv 5) pe_int (fun _ _ => rfl)) pa_nil))) (fun _ _ => rfl))) h1e1) (fun u1e0 h1e0 e1e0 => ?_)
 refine hideI ((defBody s_l_spoiled).drop 1) (pss_cons (ps_if (pt_cmpR op_lt (pv 2) pe_int (nomark _))
   (pss_one (ps_expr (pe_bm PySem.F.plainAttrs_list PySem.F.slot_list_insert PySem.F.type_list_insert mt_insert (pe_ix ix_list (pv 5) (pv 2) (fun _ _ => rfl)) (pa_cons (pe_op op_mod (pv 4) (pe_op op_add (pe_callB call_len_seq rfl (B "len" (by decide)) PySem.boot_len (pa_cons (pe_ix ix_list (pv 5) (pv 2) (fun _ _ => rfl)) pa_nil)) pe_int)) (pa_cons (pe_has g_l_no_kind hr rfl (pa_cons (pe_op op_fdiv (pv 4) pe_int) (pa_cons (pv 1) pa_nil))) pa_nil)))))
   h1e0) h2) (fun u1 h1 e1 => ?_)
 refine hideI ((defBody s_l_spoiled).drop 0) (pss_cons (ps_set (i := 5) sc_l_spoiled.nd rfl (Or.inl rfl) (pe_lst (pa_cons (pe_callTy call_list_of rfl (B "list" (by decide)) bt_list (pa_cons (pe_ix ix_list (pv 0) pe_int (fun _ _ => rfl)) pa_nil)) (pa_cons (pe_callTy call_list_of rfl (B "list" (by decide)) bt_list (pa_cons (pe_ix ix_list (pv 0) pe_int (fun _ _ => rfl)) pa_nil)) (pa_cons (pe_comp (cl := []) ["_law_rule_here"] [] (pi_list (pe_ix ix_list (pv 0) pe_int (fun _ _ => rfl))) (fun _ _ _ _ => (pg_name (i := 0) nd1 rfl (Or.inl rfl))) (fun _ _ _ _ => (pe_callTy (call_list_ofK (K := K) rfl) rfl (B "list" (by decide)) bt_list (pa_cons (pv 0) pa_nil))) rfl rfl (by decide) rfl (by decide) (fun _ _ h => nomatch h) (nofree (by decide)) (fun _ _ h => nomatch h) (fun _ => rfl)) pa_nil))))) h1) (fun u0 h0 e0 => ?_)
 refine ⟨u0, h0, ?_⟩
 refine by_eq e0 ?_
 refine ⟨_, rfl, L, _, 0, _, rfl, rfl, SqL.of hL, rfl, a, _, rfl, .inl (SqL.of ha), fun pa hpa => ?_⟩
 have k1 := Same.new (o := .lst (hs.map V.int)) hpa
 refine ⟨_, rfl, L, _, 1, _, rfl, rfl, SqL.of (k1 _ _ hL), rfl, b, _, rfl, .inl (SqL.of (k1 _ _ hb)), fun pb hpb => ?_⟩
 have k2 := Same.new (o := .lst (ts.map V.int)) hpb
 have k12 := k1.trans k2
 have hpa2 := k2 _ _ (upd_same (H := H) (a := pa) (o := .lst (hs.map V.int)))
 have hpb2 : upd (upd H pa (.lst (hs.map V.int))) pb (.lst (ts.map V.int)) pb = _ := upd_same
 generalize upd (upd H pa (.lst (hs.map V.int))) pb (.lst (ts.map V.int)) = H2 at k12 hpa2 hpb2 ⊢
 have nab : pa ≠ pb := fun z => by
  rw [← z] at hpb
  rw [upd_same] at hpb
  cases hpb
 refine ⟨_, rfl, L, _, 2, _, rfl, rfl, SqL.of (k12 _ _ hL), rfl, d, rfl, ⟨_, SqL.of (k12 _ _ hd)⟩, fun pd hpd => ?_⟩
 refine comp_list (K := K) (a := d) (p := pd) (xs := zs) (fun i ys σ H3 => ∃ v0 : Option V, σ = [v0] ∧ Same H2 H3 ∧ H3 pd = some (.lst ys) ∧ RLs H3 ys (qs.take i) ∧ (V.ref pd :: ys).Nodup ∧ ∀ z ∈ ys, ∃ r, z = .ref r ∧ H2 r = none)
  ⟨none, rfl, Same.new hpd, upd_same, .nil, by simp, fun _ h => (nomatch h)⟩ ?_ ?_ ?_
 ·rintro i ys σ H3 _ ⟨v0, _, sm, h, _⟩
  exact ⟨SqL.of (sm _ _ (k12 _ _ hd)), h⟩
 ·rintro i ys x σ H3 hi hx ⟨v0, rfl, sm, hp, hr3, hnd, hfr⟩
  obtain ⟨r, q0, e1, rfl, e2⟩ := hR.get i x hx
  refine ⟨_, rfl, r, _, rfl, .inl (SqL.of (sm _ _ (k12 _ _ e2))), fun r2 hr2 => ?_⟩
  have k4 := Same.new (o := .lst (qV q0)) hr2
  have hyl := hr3.length
  rw [List.length_take] at hyl
  obtain ⟨hil, hie⟩ := List.getElem?_eq_some_iff.mp e1
  have nr : V.ref r2 ≠ .ref pd := fun z => ne_of_none hp hr2 (by injection z with z; exact z.symm)
  have ny : V.ref r2 ∉ ys := fun z => by
   obtain ⟨j, hj, e⟩ := List.getElem_of_mem z
   obtain ⟨p', q', _, e5, e6⟩ := hr3.get j _ (by rw [List.getElem?_eq_getElem hj, e])
   injection e5 with e5
   rw [← e5, hr2] at e6
   cases e6
  have z4 : RLs (upd H3 r2 (.lst (qV q0))) (ys ++ [.ref r2]) (qs.take i ++ [q0]) := RLs.snoc upd_same (hr3.mono fun b xs e => k4 _ _ e)
  have nd2 : (V.ref pd :: (ys ++ [V.ref r2])).Nodup := by
   obtain ⟨n1, n2⟩ := List.nodup_cons.mp hnd
   refine List.nodup_cons.mpr ⟨fun z => ?_, List.nodup_append.mpr ⟨n2, by simp, fun x hx y hy e => ?_⟩⟩
   ·rcases List.mem_append.mp z with z | z
    ·exact n1 z
    ·exact nr (List.mem_singleton.mp z).symm
   ·rw [List.mem_singleton.mp hy] at e
    exact ny (by rw [← e]; exact hx)
  refine ⟨k4 _ _ hp, len1000' (by lia), CW.next hi ⟨_, rfl, (sm.trans k4).upd_new hpd, upd_same, ?_, nd2, fun z hz => ?_⟩⟩
  ·rw [List.take_succ_eq_append_getElem hil, hie]
   exact z4.put fun z hz e => (List.nodup_cons.mp nd2).1 (by rw [← e]; exact hz)
  ·rcases List.mem_append.mp hz with hz | hz
   ·exact hfr z hz
   ·exact ⟨r2, List.mem_singleton.mp hz, sm.free hr2⟩
 rintro ys σ H3 ⟨v0, rfl, s3, hp3, hR3, hnd, hfr⟩
 rw [hzl, List.take_length] at hR3
 refine ⟨(by show 3 ≤ sizeLine; decide), fun L2 hL2 => ?_⟩
 have k4 := Same.new (o := .lst [.ref pa, .ref pb, .ref pd]) hL2
 have s04 := (k12.trans s3).trans k4
 have hLL : upd H3 L2 (.lst [.ref pa, .ref pb, .ref pd]) L2 = some (.lst [.ref pa, .ref pb, .ref pd]) := upd_same
 have hpa4 := k4 _ _ (s3 _ _ hpa2)
 have hpb4 := k4 _ _ (s3 _ _ hpb2)
 have hpd4 := k4 _ _ hp3
 have hR4 := hR3.mono fun b xs e => k4 _ _ e
 have nLa : L2 ≠ pa := (ne_of_none (s3 _ _ hpa2) hL2).symm
 have nLb : L2 ≠ pb := (ne_of_none (s3 _ _ hpb2) hL2).symm
 have nLd : L2 ≠ pd := (ne_of_none hp3 hL2).symm
 have nad : pa ≠ pd := ne_of_none hpa2 hpd
 have nbd : pb ≠ pd := ne_of_none hpb2 hpd
 have fz : ∀ z ∈ ys, z ≠ .ref pa ∧ z ≠ .ref pb ∧ z ≠ .ref L2 := fun z hz => by
  obtain ⟨r, rfl, hr0⟩ := hfr z hz
  refine ⟨fun e => ?_, fun e => ?_, fun e => ?_⟩
  ·injection e with e
   exact ne_of_none hpa2 hr0 e.symm
  ·injection e with e
   exact ne_of_none hpb2 hr0 e.symm
  ·injection e with e
   obtain ⟨j, hj, ej⟩ := List.getElem_of_mem hz
   obtain ⟨p', q', _, e5, e6⟩ := hR3.get j _ (by rw [List.getElem?_eq_getElem hj, ej])
   injection e5 with e5
   rw [← e5, e, hL2] at e6
   cases e6
 show u1 _ _ _
 generalize upd H3 L2 (.lst [.ref pa, .ref pb, .ref pd]) = H4 at s04 hLL hpa4 hpb4 hpd4 hR4 k4 ⊢
 have hpa0 : H pa = none := hpa
 have hpb0 : H pb = none := by
  rw [upd_ne nab.symm] at hpb
  exact hpb
 have hz0 : ∀ r, V.ref r ∈ ys → H r = none := fun r hz => by
  obtain ⟨r', e, hr0⟩ := hfr _ hz
  injection e with e
  rw [e]
  exact k12.free hr0
 refine by_eq e1 ?_
 refine ⟨_, rfl, _, _, rfl, rfl, _, rfl, ite2 (fun w2 => ?_) (fun w2 => ?_)⟩
 ·have w2 : wy < 2 := of_decide_eq_true w2
  rcases (by lia : wy = 0 ∨ wy = 1) with rfl | rfl
  ·obtain ⟨k, ek⟩ := Int.eq_ofNat_of_zero_le (Int.emod_nonneg c (by lia : ((hs.map V.int).length : Int) + 1 ≠ 0))
   have hk := Int.emod_lt_of_pos c (by lia : (0 : Int) < ((hs.map V.int).length : Int) + 1)
   refine ⟨_, rfl, _, rfl, L2, _, 0, _, rfl, rfl, SqL.of hLL, rfl, .inl ⟨rfl, _, SqL.of hpa4⟩, ?_⟩
   refine ⟨_, rfl, _, rfl, _, rfl, L2, _, 0, _, rfl, rfl, SqL.of hLL, rfl, pa, _, rfl, .inl (SqL.of hpa4), _, _, rfl, rfl, _, _, rfl, rfl, (by show (0 : Int) < _ + 1; lia), _, rfl, _, _, rfl, rfl, ⟨by decide, by decide⟩, _, rfl, _, n, rfl, n0, n2, fun x hx x1 x2 => ?_⟩
   refine ⟨pa, _, _, k, .int x, rfl, rfl, ek, hpa4, by lia, len1000' (by rw [List.length_map]; lia), ?_⟩
   rw [ins_map]
   show u2 _ _ _
   refine by_eq e2 ?_
   refine ⟨_, rfl, q L2 (hs.take k ++ x :: hs.drop k) ts qs _ (s04.upd_new hpa0) ⟨pa, pb, pd, ys, ?_, upd_same, ?_, ?_, hR4.put fun z hz => (fz z hz).1⟩ ⟨by rw [ins_len]; lia, tb.t, tb.q, nb_ins tb.hb (nb_le x1 x2), tb.tb, tb.qb⟩ fun g => hx (g.2.1 x (by simp))⟩
   ·rw [upd_ne nLa]; exact hLL
   ·rw [upd_ne nab.symm]; exact hpb4
   ·rw [upd_ne nad.symm]; exact hpd4
  ·obtain ⟨k, ek⟩ := Int.eq_ofNat_of_zero_le (Int.emod_nonneg c (by lia : ((ts.map V.int).length : Int) + 1 ≠ 0))
   have hk := Int.emod_lt_of_pos c (by lia : (0 : Int) < ((ts.map V.int).length : Int) + 1)
   refine ⟨_, rfl, _, rfl, L2, _, 1, _, rfl, rfl, SqL.of hLL, rfl, .inl ⟨rfl, _, SqL.of hpb4⟩, ?_⟩
   refine ⟨_, rfl, _, rfl, _, rfl, L2, _, 1, _, rfl, rfl, SqL.of hLL, rfl, pb, _, rfl, .inl (SqL.of hpb4), _, _, rfl, rfl, _, _, rfl, rfl, (by show (0 : Int) < _ + 1; lia), _, rfl, _, _, rfl, rfl, ⟨by decide, by decide⟩, _, rfl, _, n, rfl, n0, n2, fun x hx x1 x2 => ?_⟩
   refine ⟨pb, _, _, k, .int x, rfl, rfl, ek, hpb4, by lia, len1000' (by rw [List.length_map]; lia), ?_⟩
   rw [ins_map]
   show u2 _ _ _
   refine by_eq e2 ?_
   refine ⟨_, rfl, q L2 hs (ts.take k ++ x :: ts.drop k) qs _ (s04.upd_new hpb0) ⟨pa, pb, pd, ys, ?_, ?_, upd_same, ?_, hR4.put fun z hz => (fz z hz).2.1⟩ ⟨tb.h, by rw [ins_len]; lia, tb.q, tb.hb, nb_ins tb.tb (nb_le x1 x2), tb.qb⟩ fun g => hx (g.2.2.1 x (by simp))⟩
   ·rw [upd_ne nLb]; exact hLL
   ·rw [upd_ne nab]; exact hpa4
   ·rw [upd_ne nbd.symm]; exact hpd4
 ·have w2 : ¬ wy < 2 := fun z => w2 (decide_eq_true z)
  have hyl := hR4.length
  have hq0 : 0 < qs.length := List.length_pos_iff.mpr qne
  obtain ⟨k, ek⟩ := Int.eq_ofNat_of_zero_le (Int.emod_nonneg c (by lia : (ys.length : Int) ≠ 0))
  have hk := Int.emod_lt_of_pos c (by lia : (0 : Int) < (ys.length : Int))
  have hky : k < ys.length := by lia
  obtain ⟨r, q0, g1, g2, g3⟩ := hR4.get k _ (List.getElem?_eq_getElem hky)
  have g4 : ys[k]? = some (.ref r) := by rw [List.getElem?_eq_getElem hky, g2]
  have hkq : k < qs.length := by lia
  have rin : V.ref r ∈ ys := List.mem_of_getElem? g4
  obtain ⟨f1, f2, f3⟩ := fz _ rin
  have f4 : V.ref r ≠ .ref pd := fun e => (List.nodup_cons.mp hnd).1 (by rw [← e]; exact rin)
  have fin : ∀ q' : Srd.Qd, (NB [q'.1, q'.2.2.1, q'.2.2.2] ∧ SB q'.2.1) → ¬ (QB n [q'] ∧ tagB q'.2.1 = true) → Q (.ref L2) (upd H4 r (.lst (qV q'))) := fun q' hb' nb' => by
   refine q L2 hs ts (qs.set k q') _ (s04.upd_new (hz0 r rin)) ⟨pa, pb, pd, ys, ?_, ?_, ?_, ?_, hR4.set (List.nodup_cons.mp hnd).2 g4⟩ ⟨tb.h, tb.t, by rw [List.length_set]; exact tb.q, tb.hb, tb.tb, fun x hx => (mem_set_or hx).elim (fun e => by rw [e]; exact hb') (tb.qb x)⟩ fun g => nb' ⟨fun x hx => ?_, g.2.2.2.2 q' (mem_set_at hkq)⟩
   ·rw [upd_ne (fun e => f3 (by rw [e]))]; exact hLL
   ·rw [upd_ne (fun e => f1 (by rw [e]))]; exact hpa4
   ·rw [upd_ne (fun e => f2 (by rw [e]))]; exact hpb4
   ·rw [upd_ne (fun e => f4 (by rw [e]))]; exact hpd4
   ·rw [List.mem_singleton.mp hx]
    exact g.2.2.2.1 q' (mem_set_at hkq)
  obtain ⟨b0, b1⟩ := tb.qb q0 (List.mem_of_getElem? g1)
  have b01 : q0.1.natAbs.log2 < 1900 := b0 _ (by simp)
  have b02 : q0.2.2.1.natAbs.log2 < 1900 := b0 _ (by simp)
  have b03 : q0.2.2.2.natAbs.log2 < 1900 := b0 _ (by simp)
  show u1e0 _ _ _
  refine by_eq e1e0 ?_
  refine ⟨_, rfl, L2, _, 2, _, rfl, rfl, SqL.of hLL, rfl, _, rfl, _, rfl, L2, _, 2, _, rfl, rfl, SqL.of hLL, rfl, pd, _, rfl, .inl (SqL.of hpd4), _, _, rfl, rfl, (by show (0 : Int) < _; lia), pd, _, (k : Int), _, rfl, congrArg V.int ek, SqL.of hpd4, atI_nat g4, ?_⟩
  show u1e1 _ _ _
  refine by_eq e1e1 ?_
  refine ⟨_, rfl, _, _, rfl, rfl, _, rfl, ite2 (fun w5 => ?_) (fun w5 => ?_)⟩
  ·have w5 : wy < 5 := of_decide_eq_true w5
   refine ⟨_, rfl, _, _, rfl, rfl, ⟨by decide, by decide⟩, _, rfl, _, n, rfl, n0, n2, fun x hx x1 x2 => ?_⟩
   have lx := nb_le x1 x2
   refine ⟨_, rfl, (by show 3 ≤ sizeLine; decide), fun pl hpl => ?_⟩
   have k5 := Same.new (o := .lst [.int 0, .int 2, .int 3]) hpl
   have hr5 := k5 _ _ g3
   have np : r ≠ pl := ne_of_none g3 hpl
   have fin2 : ∀ q' : Srd.Qd, (NB [q'.1, q'.2.2.1, q'.2.2.2] ∧ SB q'.2.1) → ¬ (QB n [q'] ∧ tagB q'.2.1 = true) → Q (.ref L2) (upd (upd H4 pl (.lst [.int 0, .int 2, .int 3])) r (.lst (qV q'))) := fun q' h1 h2 => by
    refine q L2 hs ts (qs.set k q') _ ((s04.trans k5).upd_new (hz0 r rin)) ⟨pa, pb, pd, ys, ?_, ?_, ?_, ?_, (hR4.mono fun b xs e => k5 _ _ e).set (List.nodup_cons.mp hnd).2 g4⟩ ⟨tb.h, tb.t, by rw [List.length_set]; exact tb.q, tb.hb, tb.tb, fun x hx => (mem_set_or hx).elim (fun e => by rw [e]; exact h1) (tb.qb x)⟩ fun g => h2 ⟨fun x hx => ?_, g.2.2.2.2 q' (mem_set_at hkq)⟩
    ·rw [upd_ne (fun e => f3 (by rw [e]))]; exact k5 _ _ hLL
    ·rw [upd_ne (fun e => f1 (by rw [e]))]; exact k5 _ _ hpa4
    ·rw [upd_ne (fun e => f2 (by rw [e]))]; exact k5 _ _ hpb4
    ·rw [upd_ne (fun e => f4 (by rw [e]))]; exact k5 _ _ hpd4
    ·rw [List.mem_singleton.mp hx]
     exact g.2.2.2.1 q' (mem_set_at hkq)
   have nb3 : ∀ {x y z : Int}, x.natAbs.log2 < 1900 → y.natAbs.log2 < 1900 → z.natAbs.log2 < 1900 → NB [x, y, z] := fun {x y z} h1 h2 h3 u hu => by
    simp only [List.mem_cons, List.not_mem_nil, or_false] at hu
    rcases hu with rfl | rfl | rfl
    ·exact h1
    ·exact h2
    ·exact h3
   rcases (by lia : wy = 2 ∨ wy = 3 ∨ wy = 4) with rfl | rfl | rfl
   ·refine ⟨_, rfl, _, _, rfl, rfl, pl, _, 0, _, rfl, rfl, SqL.of upd_same, rfl, r, _, 0, 0, rfl, rfl, hr5, rfl, ?_⟩
    show u2 _ _ _
    refine by_eq e2 ⟨_, rfl, fin2 (x, q0.2.1, q0.2.2.1, q0.2.2.2) ⟨nb3 lx b02 b03, b1⟩ fun z => hx (z.1 _ (List.mem_singleton.mpr rfl)).1⟩
   ·refine ⟨_, rfl, _, _, rfl, rfl, pl, _, 1, _, rfl, rfl, SqL.of upd_same, rfl, r, _, 2, 2, rfl, rfl, hr5, rfl, ?_⟩
    show u2 _ _ _
    refine by_eq e2 ⟨_, rfl, fin2 (q0.1, q0.2.1, x, q0.2.2.2) ⟨nb3 b01 lx b03, b1⟩ fun z => hx (z.1 _ (List.mem_singleton.mpr rfl)).2.1⟩
   ·refine ⟨_, rfl, _, _, rfl, rfl, pl, _, 2, _, rfl, rfl, SqL.of upd_same, rfl, r, _, 3, 3, rfl, rfl, hr5, rfl, ?_⟩
    show u2 _ _ _
    refine by_eq e2 ⟨_, rfl, fin2 (q0.1, q0.2.1, q0.2.2.1, x) ⟨nb3 b01 b02 lx, b1⟩ fun z => hx (z.1 _ (List.mem_singleton.mpr rfl)).2.2⟩
  ·refine ⟨_, rfl, _, rfl, _, _, rfl, rfl, ⟨by decide, by decide⟩, sd, _, rfl, fun t H5 s5 sbt tbt => ?_⟩
   refine ⟨_, rfl, r, _, 1, 1, rfl, rfl, s5 _ _ g3, rfl, ?_⟩
   show u2 _ _ _
   refine by_eq e2 ⟨_, rfl, ?_⟩
   refine q L2 hs ts (qs.set k (q0.1, t, q0.2.2.1, q0.2.2.2)) _ ((s04.trans s5).upd_new (hz0 r rin)) ⟨pa, pb, pd, ys, ?_, ?_, ?_, ?_, RLs.set (q' := (q0.1, t, q0.2.2.1, q0.2.2.2)) (hR4.mono fun b xs e => s5 _ _ e) (List.nodup_cons.mp hnd).2 g4⟩ ⟨tb.h, tb.t, by rw [List.length_set]; exact tb.q, tb.hb, tb.tb, fun x hx => (mem_set_or hx).elim (fun e => by rw [e]; exact ⟨b0, sbt⟩) (tb.qb x)⟩ fun g => ?_
   ·rw [upd_ne (fun e => f3 (by rw [e]))]; exact s5 _ _ hLL
   ·rw [upd_ne (fun e => f1 (by rw [e]))]; exact s5 _ _ hpa4
   ·rw [upd_ne (fun e => f2 (by rw [e]))]; exact s5 _ _ hpb4
   ·rw [upd_ne (fun e => f4 (by rw [e]))]; exact s5 _ _ hpd4
   ·have := g.2.2.2.2 _ (mem_set_at hkq)
    rw [tbt] at this
    cases this
def spBlock : Sp := fun vs H Q _ => ∃ n sd m : Int, vs = [.int n, .int sd, .int m] ∧ 4 ≤ n ∧ n ≤ 64 ∧ 0 ≤ m ∧ m ≤ 501 ∧ ∀ (r : Addr) (zs : List V) (H' : Hp), Same H H' → H' r = some (.lst zs) → RLs H' zs ((List.range m.toNat).map (blk n sd)) → Q (.ref r) H'
set_option maxHeartbeats 1000000 in
theorem ok_l_block (B : ∀ x ∈ blts, mg x = none) (g_l_tag : Has P w K mg base "_law_tag" ["_law_seed", "_law_v"] 1 spTag12) (F : Fun K "_law_block" "_law_block" s_l_block f fd) : FnOk P w K mg base CX0 2 f fd ["_law_many", "_law_seed", "_law_count"] spBlock := by
 refine F.ok sc_l_block (fun vs H Q E h => ?_) (fun cdv A outer s H vs Q E hr h => ?_)
 ·obtain ⟨n, sd, m, rfl, _⟩ := h
  rfl
 obtain ⟨n, sd, m, rfl, n4, n64, m0, m5, q⟩ := h
 have hn0 : (0 : Int) < n := by lia
 refine ⟨_, (pss_cons (ps_set (i := 3) sc_l_block.nd rfl (Or.inl rfl) (pe_lst pa_nil))
  (pss_cons (ps_for PassesOwn.never rfl (pi_range1 rfl (B "range" (by decide)) (pa_cons (pv 2) pa_nil)) (pg_name (i := 4) sc_l_block.nd rfl (Or.inl rfl))
   (pss_one (ps_expr (pe_bm PySem.F.plainAttrs_list PySem.F.slot_list_append PySem.F.type_list_append mt_append (pv 3) (pa_cons (pe_lst (pa_cons (pe_op op_mod (pv 4) (pv 0)) (pa_cons (pe_has g_l_tag hr rfl (pa_cons (pv 1) (pa_cons (pe_op op_mod (pe_op op_fdiv (pv 4) (pv 0)) pe_int) pa_nil))) (pa_cons (pe_op op_mod (pe_op op_fdiv (pv 4) (pe_op op_mul pe_int (pv 0))) (pv 0)) (pa_cons pe_int pa_nil))))) pa_nil)))))
  (pss_one (ps_ret (pv 3))))), ?_⟩
 refine ⟨by decide, fun pl hpl => ?_⟩
 refine ⟨_, rfl, m, rfl, by lia, by lia, for_range (lo := 0) (n := m.toNat) (fun i σ H1 => ∃ (v4 : Option V) (zs : List V), σ = [some (.int n), some (.int sd), some (.int m), some (.ref pl), v4] ∧ Same H H1 ∧ H1 pl = some (.lst zs) ∧ RLs H1 zs ((List.range i).map (blk n sd)) ∧ ∀ z ∈ zs, z ≠ .ref pl) ⟨none, [], rfl, Same.new hpl, upd_same, .nil, fun _ h => (nomatch h)⟩ ?_ ?_⟩
 ·rintro i σ H1 hi ⟨v4, zs, rfl, sm, hp, hR, hne⟩
  have ej : (0 + (i : Int)) = (i : Int) := Int.zero_add _
  have hzl := hR.length
  rw [List.length_map, List.length_range] at hzl
  refine ⟨_, rfl, .inl ⟨rfl, _, SqL.of hp⟩, _, rfl, _, rfl, _, _, rfl, rfl, hn0, _, rfl, _, rfl, _, rfl, _, _, rfl, rfl, ⟨by lia, by lia⟩, _, _, rfl, rfl, (by show (0 : Int) < 26; decide), sd, _, rfl, ?_⟩
  refine ⟨_, rfl, _, rfl, _, _, rfl, rfl, .inl ⟨by decide, by decide⟩, _, _, rfl, rfl, ⟨by lia, by lia⟩, _, rfl, _, _, rfl, rfl, hn0, (by show 4 ≤ sizeLine; decide), fun r hr0 => ?_⟩
  have k1 := Same.new (o := .lst (qV (blk n sd i))) hr0
  have nr : r ≠ pl := (ne_of_none hp hr0).symm
  rw [ej]
  refine ⟨pl, _, _, rfl, rfl, k1 _ _ hp, len1000' (by lia), _, _, rfl, (sm.trans k1).upd_new hpl, upd_same, ?_, fun z hz => ?_⟩
  ·rw [List.range_succ, List.map_append]
   have z : RLs (upd H1 r (.lst (qV (blk n sd i)))) (zs ++ [.ref r]) ((List.range i).map (blk n sd) ++ [blk n sd i]) := RLs.snoc upd_same (hR.mono fun b xs e => k1 _ _ e)
   refine z.put fun v hv => ?_
   rcases List.mem_append.mp hv with hv | hv
   ·exact hne v hv
   ·rw [List.mem_singleton.mp hv]
    exact fun e => nr (by injection e)
  ·rcases List.mem_append.mp hz with hv | hv
   ·exact hne z hv
   ·rw [List.mem_singleton.mp hv]
    exact fun e => nr (by injection e)
 ·rintro σ H1 ⟨v4, zs, rfl, sm, hp, hR, hne⟩
  exact ⟨_, rfl, q pl zs H1 sm hp hR⟩
theorem fm_nil {α : Type} {p : α → Prop} : ∀ x ∈ ([] : List α), p x := fun _ h => absurd h (List.not_mem_nil)
theorem fm_cons {α : Type} {p : α → Prop} {a : α} {l : List α} (h : p a) (t : ∀ x ∈ l, p x) : ∀ x ∈ a :: l, p x := fun x hx => (List.mem_cons.mp hx).elim (fun e => e ▸ h) (t x)
theorem bt_ValueError : bootBuiltins "ValueError" = some (.type "ValueError") := by decide +kernel
def Kp (H H' : Hp) : Prop := ∀ b o, H b = some o → (∀ x, o ≠ .ext x) → H' b = some o
theorem Kp.same {H H' : Hp} (s : Same H H') : Kp H H' := fun b o h _ => s b o h
theorem Kp.trans {H H1 H2 : Hp} (a : Kp H H1) (b : Kp H1 H2) : Kp H H2 := fun c o h n => b c o (a c o h n) n
theorem Kp.ext {H H1 : Hp} {e : Addr} {x : Heap → Prop} {o : HO} (a : Kp H H1) (h : H1 e = some (.ext x)) : Kp H (upd H1 e o) := fun b u q n => by
 have q1 := a b u q n
 have : b ≠ e := fun z => by
  rw [z, h] at q1
  exact n x (Option.some.inj q1).symm
 rw [upd_ne this]
 exact q1
theorem Kp.lst {H H' : Hp} (k : Kp H H') : ∀ b xs, H b = some (.lst xs) → H' b = some (.lst xs) := fun b xs h => k _ _ h fun _ z => nomatch z
theorem Kp.seq {K : PySem.W.Frag} {H H' : Hp} {a : Addr} {xs : List V} (k : Kp H H') (h : SqL K H a xs) : SqL K H' a xs := by
 rcases h with (h | ⟨o, h⟩) | h
 ·exact .inl (.inl (k _ _ h fun _ z => nomatch z))
 ·exact .inl (.inr ⟨o, k _ _ h fun _ z => nomatch z⟩)
 ·exact .inr h
theorem rows_tup {H2 : Hp} {ys : List V} {qs : List Srd.Qd} {p : Addr} {i : Nat} {q1 : Srd.Qd} {t : Addr} (e1 : qs[i]? = some q1) (hp2 : H2 p = some (.lst ys)) (ht : H2 t = none) (hz : QL H2 ys (qs.take i)) : QL (upd (upd H2 t (tq q1)) p (.lst (ys ++ [.ref t]))) (ys ++ [.ref t]) (qs.take (i + 1)) := by
 have s2 : Same H2 (upd H2 t (tq q1)) := Same.new ht
 obtain ⟨hil, hie⟩ := List.getElem?_eq_some_iff.mp e1
 rw [List.take_succ_eq_append_getElem hil, hie]
 have hz2 : QL (upd H2 t (tq q1)) (ys ++ [.ref t]) (qs.take i ++ [q1]) := QL.snoc upd_same (hz.keep fun b xs e => s2 _ _ e)
 exact hz2.keep (tup_upd (s2 _ _ hp2))
def Many (n : Int) (qs : List Srd.Qd) : Prop := ∀ ms : List Srd.Qd, RiseQ ms → (∀ q, q ∈ ms ↔ q ∈ qs) → 64 < n ∨ 400 < ms.length
def Fine (n : Int) (qs : List Srd.Qd) : Prop := n ≤ 64 ∧ ∀ ms : List Srd.Qd, RiseQ ms → (∀ q ∈ ms, q ∈ qs) → ms.length ≤ 400
def spWord12 : Sp := fun vs H Q _ => ∃ (n : Int) (L : Addr) (hs ts : List Int) (qs : List Srd.Qd), vs = [.int n, .ref L] ∧ Thg H L hs ts qs ∧ TB hs ts qs ∧ n.natAbs.log2 < 1900 ∧
 (¬ Gd n hs ts qs → ∀ H', Kp H H' → Q (.str "bad") H') ∧ (Gd n hs ts qs → Many n qs → ∀ H', Kp H H' → Q (.str "many") H') ∧ (Gd n hs ts qs → n ≤ 64 → (∃ ms : List Srd.Qd, RiseQ ms ∧ (∀ q, q ∈ ms ↔ q ∈ qs) ∧ ms.length ≤ 400) → ∀ H', Kp H H' → Q (.str "none") H')
set_option maxHeartbeats 4000000 in
theorem ok_l_word (B : ∀ x ∈ blts, mg x = none) (xc : XC K mg X_GroveError X_NoGrove X_BadForm X_TooMany X_TooBig X_NoneFits X_NoBook X_TwiceNamed X_NoName X_Ring X_BadChanger X_NoRecipe X_NotStraight X_NoChange X_NoRow) (g_form : HasX P w K mg base "form" ["many", "starts", "ends", "rules"] 2 (spFormX K X_BadForm X_TooMany)) (F : Fun K "_law_word" "_law_word" s_l_word f fd) : FnOk P w K mg base CX0 3 f fd ["_law_many", "_law_things_here"] spWord12 := by
 refine F.ok sc_l_word (fun vs H Q E h => ?_) (fun cdv A outer s H vs Q E hr h => ?_)
 ·obtain ⟨n, L, hs, ts, qs, rfl, _⟩ := h
  rfl
 obtain ⟨n, L, hs, ts, qs, rfl, ⟨a, b, d, zs, hL, ha, hb, hd, hR⟩, tb, hn, q1, q2, q3⟩ := h
 have hzl := hR.length
 have hq5 := tb.q
 refine hideI ((defBody s_l_word).drop 5) (pss_one (ps_ret (pv 3))) (fun u5 h5 e5 => ?_)
 refine hideI ((sBody ((defBody s_l_word).getD 4 (.Pass ⟨0, 0, 0, 0⟩))).drop 7) (pss_one (ps_if (PW.pt (pw_and (pt_truth (pe_callB (call_xisTK (K := K) rfl) rfl (B "isinstance" (by decide)) bt_isinstance (pa_cons (pv 4) (pa_cons (pe_ty rfl (B "ValueError" (by decide)) bt_ValueError) pa_nil))) (fun _ => rfl)) (pw_and (pt_cmpR op_notIn_seq pe_bl (pv 7) (by with_unfolding_all rfl)) (pw_and1 (pt_cmpR op_ne (pe_ix (ix_listK (K := K) rfl) (pv 6) pe_int (fun _ _ => rfl)) (pe_ix (ix_listK (K := K) rfl) (pv 6) pe_int (fun _ _ => rfl)) (nomark _))))))
   (pss_one (ps_set (i := 3) sc_l_word.nd rfl (Or.inl rfl) (pe_ix (ix_listK (K := K) rfl) (pe_lst (pa_cons pe_str (pa_cons pe_str pa_nil))) (pe_callTy call_intB rfl (B "int" (by decide)) bt_int (pa_cons (pe_ix (ix_listK (K := K) rfl) (pv 6) pe_int (fun _ _ => rfl)) pa_nil)) (fun _ _ => rfl))))
   pss_nil)) (fun u4t7 h4t7 e4t7 => ?_)
 refine hideI ((sBody ((defBody s_l_word).getD 4 (.Pass ⟨0, 0, 0, 0⟩))).drop 6) (pss_cons (ps_set (i := 3) sc_l_word.nd rfl (Or.inl rfl) pe_str) h4t7) (fun u4t6 h4t6 e4t6 => ?_)
 refine hideI ((sBody ((defBody s_l_word).getD 4 (.Pass ⟨0, 0, 0, 0⟩))).drop 5) (pss_cons (ps_set (i := 7) sc_l_word.nd rfl (Or.inl rfl) (pe_op op_cat (pv 7) (pe_lst (pa_cons (pe_callB (call_xisAN (K := K) rfl) rfl (B "isinstance" (by decide)) bt_isinstance (pa_cons (pv 4) (pa_cons (pe_glob (v := .ref X_NotStraight) rfl xc.n_NotStraight rfl) pa_nil))) pa_nil)))) h4t6) (fun u4t5 h4t5 e4t5 => ?_)
 refine hideI ((sBody ((defBody s_l_word).getD 4 (.Pass ⟨0, 0, 0, 0⟩))).drop 4) (pss_cons (ps_set (i := 7) sc_l_word.nd rfl (Or.inl rfl) (pe_op op_cat (pv 7) (pe_lst (pa_cons (pe_callB (call_xisAN (K := K) rfl) rfl (B "isinstance" (by decide)) bt_isinstance (pa_cons (pv 4) (pa_cons (pe_glob (v := .ref X_NoChange) rfl xc.n_NoChange rfl) pa_nil))) (pa_cons (pe_callB (call_xisAN (K := K) rfl) rfl (B "isinstance" (by decide)) bt_isinstance (pa_cons (pv 4) (pa_cons (pe_glob (v := .ref X_NoRow) rfl xc.n_NoRow rfl) pa_nil))) pa_nil))))) h4t5) (fun u4t4 h4t4 e4t4 => ?_)
 refine hideI ((sBody ((defBody s_l_word).getD 4 (.Pass ⟨0, 0, 0, 0⟩))).drop 3) (pss_cons (ps_set (i := 7) sc_l_word.nd rfl (Or.inl rfl) (pe_op op_cat (pv 7) (pe_lst (pa_cons (pe_callB (call_xisAN (K := K) rfl) rfl (B "isinstance" (by decide)) bt_isinstance (pa_cons (pv 4) (pa_cons (pe_glob (v := .ref X_Ring) rfl xc.n_Ring rfl) pa_nil))) (pa_cons (pe_callB (call_xisAN (K := K) rfl) rfl (B "isinstance" (by decide)) bt_isinstance (pa_cons (pv 4) (pa_cons (pe_glob (v := .ref X_BadChanger) rfl xc.n_BadChanger rfl) pa_nil))) (pa_cons (pe_callB (call_xisAN (K := K) rfl) rfl (B "isinstance" (by decide)) bt_isinstance (pa_cons (pv 4) (pa_cons (pe_glob (v := .ref X_NoRecipe) rfl xc.n_NoRecipe rfl) pa_nil))) pa_nil)))))) h4t4) (fun u4t3 h4t3 e4t3 => ?_)
 refine hideI ((sBody ((defBody s_l_word).getD 4 (.Pass ⟨0, 0, 0, 0⟩))).drop 2) (pss_cons (ps_set (i := 7) sc_l_word.nd rfl (Or.inl rfl) (pe_op op_cat (pv 7) (pe_lst (pa_cons (pe_callB (call_xisAN (K := K) rfl) rfl (B "isinstance" (by decide)) bt_isinstance (pa_cons (pv 4) (pa_cons (pe_glob (v := .ref X_NoBook) rfl xc.n_NoBook rfl) pa_nil))) (pa_cons (pe_callB (call_xisAN (K := K) rfl) rfl (B "isinstance" (by decide)) bt_isinstance (pa_cons (pv 4) (pa_cons (pe_glob (v := .ref X_TwiceNamed) rfl xc.n_TwiceNamed rfl) pa_nil))) (pa_cons (pe_callB (call_xisAN (K := K) rfl) rfl (B "isinstance" (by decide)) bt_isinstance (pa_cons (pv 4) (pa_cons (pe_glob (v := .ref X_NoName) rfl xc.n_NoName rfl) pa_nil))) pa_nil)))))) h4t3) (fun u4t2 h4t2 e4t2 => ?_)
 refine hideI ((sBody ((defBody s_l_word).getD 4 (.Pass ⟨0, 0, 0, 0⟩))).drop 1) (pss_cons (ps_set (i := 7) sc_l_word.nd rfl (Or.inl rfl) (pe_lst (pa_cons (pe_callB (call_xisAN (K := K) rfl) rfl (B "isinstance" (by decide)) bt_isinstance (pa_cons (pv 4) (pa_cons (pe_glob (v := .ref X_NoGrove) rfl xc.n_NoGrove rfl) pa_nil))) (pa_cons (pe_callB (call_xisAN (K := K) rfl) rfl (B "isinstance" (by decide)) bt_isinstance (pa_cons (pv 4) (pa_cons (pe_glob (v := .ref X_TooBig) rfl xc.n_TooBig rfl) pa_nil))) (pa_cons (pe_callB (call_xisAN (K := K) rfl) rfl (B "isinstance" (by decide)) bt_isinstance (pa_cons (pv 4) (pa_cons (pe_glob (v := .ref X_NoneFits) rfl xc.n_NoneFits rfl) pa_nil))) pa_nil))))) h4t2) (fun u4t1 h4t1 e4t1 => ?_)
 refine hideI ((sBody ((defBody s_l_word).getD 4 (.Pass ⟨0, 0, 0, 0⟩))).drop 0) (pss_cons (ps_set (i := 6) sc_l_word.nd rfl (Or.inl rfl) (pe_lst (pa_cons (pe_callB (call_xisAN (K := K) rfl) rfl (B "isinstance" (by decide)) bt_isinstance (pa_cons (pv 4) (pa_cons (pe_glob (v := .ref X_BadForm) rfl xc.n_BadForm rfl) pa_nil))) (pa_cons (pe_callB (call_xisAN (K := K) rfl) rfl (B "isinstance" (by decide)) bt_isinstance (pa_cons (pv 4) (pa_cons (pe_glob (v := .ref X_TooMany) rfl xc.n_TooMany rfl) pa_nil))) pa_nil)))) h4t1) (fun u4t0 h4t0 e4t0 => ?_)
 refine hideI ((defBody s_l_word).drop 4) (pss_cons (ps_if (pt_cmpR op_notN (pv 4) pe_non (nomark _))
   h4t0
   pss_nil) h5) (fun u4 h4 e4 => ?_)
 refine hideI ((defBody s_l_word).drop 3) (pss_cons (ps_try rfl rfl (fun E pins E₁ hT hp => (pss_one (ps_expr (pe_hasX g_form hT hr rfl (pa_cons (pv 0) (pa_cons (pe_ix (ix_listK (K := K) rfl) (pv 1) pe_int (fun _ _ => rfl)) (pa_cons (pe_ix (ix_listK (K := K) rfl) (pv 1) pe_int (fun _ _ => rfl)) (pa_cons (pv 2) pa_nil))))))))
   (ph_as (i := 5) (rest := []) (fun e => (pe_glob (v := .ref X_GroveError) rfl xc.n_GroveError rfl)) sc_l_word.nd rfl rfl (fun e => (pss_one (ps_set (i := 4) sc_l_word.nd rfl (Or.inl rfl) (pv 5)))))) h4) (fun u3 h3 e3 => ?_)
 refine hideI ((defBody s_l_word).drop 2) (pss_cons (ps_set (i := 4) sc_l_word.nd rfl (Or.inl rfl) pe_non) h3) (fun u2 h2 e2 => ?_)
 refine hideI ((defBody s_l_word).drop 1) (pss_cons (ps_set (i := 3) sc_l_word.nd rfl (Or.inl rfl) pe_str) h2) (fun u1 h1 e1 => ?_)
 refine hideI ((defBody s_l_word).drop 0) (pss_cons (ps_set_comp (cl := []) (n0 := 2) sc_l_word.nd rfl (Or.inl rfl) ["_law_rule_here"] [] (pi_list (pe_ix (ix_listK (K := K) rfl) (pv 1) pe_int (fun _ _ => rfl))) (fun _ _ _ _ => (pg_name (i := 0) nd1 rfl (Or.inl rfl))) (fun _ _ _ _ => (pe_tup (pa_cons (pe_ix (ix_listK (K := K) rfl) (pv 0) pe_int (fun _ _ => rfl)) (pa_cons (pe_ix (ix_listK (K := K) rfl) (pv 0) pe_int (fun _ _ => rfl)) (pa_cons (pe_ix (ix_listK (K := K) rfl) (pv 0) pe_int (fun _ _ => rfl)) (pa_cons (pe_ix (ix_listK (K := K) rfl) (pv 0) pe_int (fun _ _ => rfl)) pa_nil)))))) rfl rfl (by decide) rfl (by decide) (fun _ _ h => nomatch h) (nofree (by decide)) (fun _ _ h => nomatch h) (fun _ => rfl) rfl) h1) (fun u0 h0 e0 => ?_)
 refine ⟨u0, h0, ?_⟩
 refine by_eq e0 ?_
 refine ⟨_, rfl, L, _, 2, _, rfl, rfl, SqL.of hL, rfl, d, rfl, ⟨_, SqL.of hd⟩, fun pr hpr => ?_⟩
 refine comp_list (K := K) (a := d) (p := pr) (xs := zs) (fun i ys σ H2 => ∃ v0 : Option V, σ = [v0] ∧ Same H H2 ∧ H2 pr = some (.lst ys) ∧ QL H2 ys (qs.take i))
  ⟨none, rfl, Same.new hpr, upd_same, .nil⟩ ?_ ?_ ?_
 ·rintro i ys σ H2 _ ⟨v0, _, sm, h, _⟩
  exact ⟨SqL.of (sm _ _ hd), h⟩
 ·rintro i ys x σ H2 hi hx ⟨v0, rfl, sm, hp, hQ⟩
  obtain ⟨r, q0, e1, rfl, e2⟩ := hR.get i x hx
  have hr2 := sm _ _ e2
  have hyl := hQ.length
  rw [List.length_take] at hyl
  refine ⟨_, rfl, r, _, 0, _, rfl, rfl, SqL.of hr2, rfl, _, rfl, r, _, 1, _, rfl, rfl, SqL.of hr2, rfl, _, rfl, r, _, 2, _, rfl, rfl, SqL.of hr2, rfl, _, rfl, r, _, 3, _, rfl, rfl, SqL.of hr2, rfl, by show (4 : Nat) ≤ sizeLine; decide, fun t ht => ?_⟩
  have s2 : Same H2 (upd H2 t (tq q0)) := Same.new ht
  exact ⟨s2 _ _ hp, len1000' (by lia), CW.next hi ⟨_, rfl, (sm.trans s2).upd_new hpr, upd_same, rows_tup e1 hp ht hQ⟩⟩
 rintro ys σ H2 ⟨v0, rfl, s2, hp2, hQ⟩
 rw [hzl, List.take_length] at hQ
 show u1 _ _ _
 refine by_eq e1 ?_
 show u2 _ _ _
 refine by_eq e2 ?_
 show u3 _ _ _
 refine by_eq e3 ?_
 have hL2 := s2 _ _ hL
 refine ⟨fun σ' C d' H' => σ' = [some (.int n), some (.ref L), some (.ref pr), some (.str "none"), some .non, none, none, none] ∧ d' = none ∧ Same H2 H' ∧ ((C = .ref X_BadForm ∧ ¬ Gd n hs ts qs) ∨ (C = .ref X_TooMany ∧ Gd n hs ts qs ∧ Many n qs)), ?_, ?_⟩
 ·refine ⟨_, rfl, _, rfl, L, _, 0, _, rfl, rfl, SqL.of hL2, rfl, _, rfl, L, _, 1, _, rfl, rfl, SqL.of hL2, rfl, _, rfl, n, a, b, pr, hs, ts, ys, qs, rfl, hn, SqL.of (s2 _ _ ha), by have := tb.h; lia, tb.hb, SqL.of (s2 _ _ hb), by have := tb.t; lia, tb.tb, SqL.of hp2, hQ, by lia, tb.qb, fun g H' s' => ⟨rfl, rfl, s', .inl ⟨rfl, g⟩⟩, fun g ms h1 h2 h3 H' s' => ⟨rfl, rfl, s', .inr ⟨rfl, g, fun ms' k1 k2 => by rw [Srd.qLt_sto.one k1 h1 fun z => (k2 z).trans (h2 z).symm]; exact h3⟩⟩, fun g ms h1 h2 h3 h4 r fm H' s' _ _ => ?_⟩
  show u4 _ _ _
  refine by_eq e4 ?_
  refine ⟨_, rfl, rfl, _, rfl, iteF ?_⟩
  show u5 _ _ _
  refine by_eq e5 ⟨_, rfl, q3 g h3 ⟨ms, h1, h2, h4⟩ _ (Kp.same (s2.trans s'))⟩
 ·rintro σ' C d' H' e oe ⟨rfl, rfl, sm, hC⟩ he hc hdd hf
  have k0 : Kp H (upd H' e (Known e oe)) := (Kp.same (s2.trans sm)).ext he
  have e3 : (upd H' e (Known e oe)) e = some (Known e oe) := upd_same
  generalize upd H' e (Known e oe) = H1 at k0 e3
  have body : ∀ (Cx : Addr) (b1 b2 : Bool) (wd : Str), oe.cls = .ref Cx →
    ((Cx = X_BadForm ∧ b1 = true) ∨ (Cx ≠ X_BadForm ∧ PySem.W.isClsIn K X_BadForm = true ∧ PySem.W.mroIn K Cx (.ref X_BadForm) = some false ∧ b1 = false ∧ XNot K Cx X_BadForm)) →
    ((Cx = X_TooMany ∧ b2 = true) ∨ (Cx ≠ X_TooMany ∧ PySem.W.isClsIn K X_TooMany = true ∧ PySem.W.mroIn K Cx (.ref X_TooMany) = some false ∧ b2 = false ∧ XNot K Cx X_TooMany)) →
    (∀ D ∈ [X_NoGrove, X_TooBig, X_NoneFits, X_NoBook, X_TwiceNamed, X_NoName, X_Ring, X_BadChanger, X_NoRecipe, X_NoChange, X_NoRow, X_NotStraight], Cx ≠ D ∧ PySem.W.isClsIn K D = true ∧ PySem.W.mroIn K Cx (.ref D) = some false ∧ XNot K Cx D) →
    XFld K Cx "place" → PySem.W.mroIn K Cx (.type "ValueError") = some true → b1 = !b2 → wd = (if b2 = true then "many" else "bad") → (∀ H', Kp H H' → Q (.str wd) H') →
    u4 { nx := fun _ H' => Q .non H', rt := Q } [some (.int n), some (.ref L), some (.ref pr), some (.str "none"), some (.ref e), none, none, none] H1 := fun Cx b1 b2 wd hcx h1 h2 hN hf9 hV hbb hwd hq => by
   have dc : (∃ f', oe.dict = none ∧ (∃ vs, oe.data = .fields vs) ∧ XFld K Cx f') := ⟨"place", hdd, hf, hf9⟩
   have no : ∀ D ∈ [X_NoGrove, X_TooBig, X_NoneFits, X_NoBook, X_TwiceNamed, X_NoName, X_Ring, X_BadChanger, X_NoRecipe, X_NoChange, X_NoRow, X_NotStraight], Cx ≠ D ∧ PySem.W.isClsIn K D = true ∧ PySem.W.mroIn K Cx (.ref D) = some false ∧ false = false ∧ ∃ f', oe.dict = none ∧ (∃ vs, oe.data = .fields vs) ∧ XFld K Cx f' ∧ XNot K Cx D := fun D hD => by
    obtain ⟨a1, a2, a3, a4⟩ := hN D hD
    exact ⟨a1, a2, a3, rfl, "place", hdd, hf, hf9, a4⟩
   have y1 : (Cx = X_BadForm ∧ b1 = true) ∨ (Cx ≠ X_BadForm ∧ PySem.W.isClsIn K X_BadForm = true ∧ PySem.W.typeIn K (.ref X_BadForm) = some (.type "type") ∧ PySem.W.mroIn K Cx (.ref X_BadForm) = some true ∧ b1 = true) ∨ (Cx ≠ X_BadForm ∧ PySem.W.isClsIn K X_BadForm = true ∧ PySem.W.mroIn K Cx (.ref X_BadForm) = some false ∧ b1 = false ∧ ∃ f', oe.dict = none ∧ (∃ vs, oe.data = .fields vs) ∧ XFld K Cx f' ∧ XNot K Cx X_BadForm) := h1.elim .inl fun z => .inr (.inr ⟨z.1, z.2.1, z.2.2.1, z.2.2.2.1, "place", hdd, hf, hf9, z.2.2.2.2⟩)
   have y2 : (Cx = X_TooMany ∧ b2 = true) ∨ (Cx ≠ X_TooMany ∧ PySem.W.isClsIn K X_TooMany = true ∧ PySem.W.typeIn K (.ref X_TooMany) = some (.type "type") ∧ PySem.W.mroIn K Cx (.ref X_TooMany) = some true ∧ b2 = true) ∨ (Cx ≠ X_TooMany ∧ PySem.W.isClsIn K X_TooMany = true ∧ PySem.W.mroIn K Cx (.ref X_TooMany) = some false ∧ b2 = false ∧ ∃ f', oe.dict = none ∧ (∃ vs, oe.data = .fields vs) ∧ XFld K Cx f' ∧ XNot K Cx X_TooMany) := h2.elim .inl fun z => .inr (.inr ⟨z.1, z.2.1, z.2.2.1, z.2.2.2.1, "place", hdd, hf, hf9, z.2.2.2.2⟩)
   refine by_eq e4 ?_
   refine ⟨_, rfl, rfl, _, rfl, iteT ?_⟩
   show u4t0 _ _ _
   refine by_eq e4t0 ?_
   refine ⟨_, rfl, e, oe, Cx, X_BadForm, b1, rfl, e3, hcx, y1, ?_⟩
   refine ⟨_, rfl, e, oe, Cx, X_TooMany, b2, rfl, e3, hcx, y2, (by show 2 ≤ sizeLine; decide), fun p1 hp1 => ?_⟩
   have t1 := Same.new (o := .lst [.bl b1, .bl b2]) hp1
   have hp1' : upd H1 p1 (.lst [.bl b1, .bl b2]) p1 = some (.lst [.bl b1, .bl b2]) := upd_same
   have k1 := k0.trans (Kp.same t1)
   have e31 := t1 _ _ e3
   generalize upd H1 p1 (.lst [.bl b1, .bl b2]) = H5 at k1 e31 hp1' ⊢
   show u4t1 _ _ _
   refine by_eq e4t1 ?_
   refine ⟨_, rfl, e, oe, Cx, X_NoGrove, false, rfl, e31, hcx, .inr (.inr (no _ (by simp))), ?_⟩
   refine ⟨_, rfl, e, oe, Cx, X_TooBig, false, rfl, e31, hcx, .inr (.inr (no _ (by simp))), ?_⟩
   refine ⟨_, rfl, e, oe, Cx, X_NoneFits, false, rfl, e31, hcx, .inr (.inr (no _ (by simp))), (by show 3 ≤ sizeLine; decide), fun p2 hp2 => ?_⟩
   have t2 := Same.new (o := .lst [.bl false, .bl false, .bl false]) hp2
   have hp2' : upd H5 p2 (.lst [.bl false, .bl false, .bl false]) p2 = some (.lst [.bl false, .bl false, .bl false]) := upd_same
   have k2 := k1.trans (Kp.same t2)
   have e32 := t2 _ _ e31
   have hp1' := t2 _ _ hp1'
   generalize upd H5 p2 (.lst [.bl false, .bl false, .bl false]) = H6 at k2 e32 hp1' hp2' ⊢
   show u4t2 _ _ _
   refine by_eq e4t2 ?_
   refine ⟨_, rfl, _, rfl, e, oe, Cx, X_NoBook, false, rfl, e32, hcx, .inr (.inr (no _ (by simp))), ?_⟩
   refine ⟨_, rfl, e, oe, Cx, X_TwiceNamed, false, rfl, e32, hcx, .inr (.inr (no _ (by simp))), ?_⟩
   refine ⟨_, rfl, e, oe, Cx, X_NoName, false, rfl, e32, hcx, .inr (.inr (no _ (by simp))), (by show 3 ≤ sizeLine; decide), fun p3 hp3 => ?_⟩
   have t3 := Same.new (o := .lst [.bl false, .bl false, .bl false]) hp3
   refine ⟨p2, p3, _, _, rfl, rfl, t3 _ _ hp2', upd_same, (by show 6 ≤ sizeLine; decide), fun p4 hp4 => ?_⟩
   have t4 := t3.trans (Same.new (o := .lst [.bl false, .bl false, .bl false, .bl false, .bl false, .bl false]) hp4)
   have hp4' : upd (upd H6 p3 (.lst [.bl false, .bl false, .bl false])) p4 (.lst [.bl false, .bl false, .bl false, .bl false, .bl false, .bl false]) p4 = some (.lst [.bl false, .bl false, .bl false, .bl false, .bl false, .bl false]) := upd_same
   have k3 := k2.trans (Kp.same t4)
   have e33 := t4 _ _ e32
   have hp1' := t4 _ _ hp1'
   show u4t3 _ _ (upd (upd H6 p3 (.lst [.bl false, .bl false, .bl false])) p4 (.lst [.bl false, .bl false, .bl false, .bl false, .bl false, .bl false]))
   generalize upd (upd H6 p3 (.lst [.bl false, .bl false, .bl false])) p4 (.lst [.bl false, .bl false, .bl false, .bl false, .bl false, .bl false]) = H7 at k3 e33 hp1' hp4' ⊢
   refine by_eq e4t3 ?_
   refine ⟨_, rfl, _, rfl, e, oe, Cx, X_Ring, false, rfl, e33, hcx, .inr (.inr (no _ (by simp))), ?_⟩
   refine ⟨_, rfl, e, oe, Cx, X_BadChanger, false, rfl, e33, hcx, .inr (.inr (no _ (by simp))), ?_⟩
   refine ⟨_, rfl, e, oe, Cx, X_NoRecipe, false, rfl, e33, hcx, .inr (.inr (no _ (by simp))), (by show 3 ≤ sizeLine; decide), fun p5 hp5 => ?_⟩
   have t5 := Same.new (o := .lst [.bl false, .bl false, .bl false]) hp5
   refine ⟨p4, p5, _, _, rfl, rfl, t5 _ _ hp4', upd_same, (by show 9 ≤ sizeLine; decide), fun p6 hp6 => ?_⟩
   have t6 := t5.trans (Same.new (o := .lst (List.replicate 9 (.bl false))) hp6)
   have hp6' : upd (upd H7 p5 (.lst [.bl false, .bl false, .bl false])) p6 (.lst (List.replicate 9 (.bl false))) p6 = some (.lst (List.replicate 9 (.bl false))) := upd_same
   have k4 := k3.trans (Kp.same t6)
   have e34 := t6 _ _ e33
   have hp1' := t6 _ _ hp1'
   show u4t4 _ _ (upd (upd H7 p5 (.lst [.bl false, .bl false, .bl false])) p6 (.lst (List.replicate 9 (.bl false))))
   generalize upd (upd H7 p5 (.lst [.bl false, .bl false, .bl false])) p6 (.lst (List.replicate 9 (.bl false))) = H8 at k4 e34 hp1' hp6' ⊢
   refine by_eq e4t4 ?_
   refine ⟨_, rfl, _, rfl, e, oe, Cx, X_NoChange, false, rfl, e34, hcx, .inr (.inr (no _ (by simp))), ?_⟩
   refine ⟨_, rfl, e, oe, Cx, X_NoRow, false, rfl, e34, hcx, .inr (.inr (no _ (by simp))), (by show 2 ≤ sizeLine; decide), fun p7 hp7 => ?_⟩
   have t7 := Same.new (o := .lst [.bl false, .bl false]) hp7
   refine ⟨p6, p7, _, _, rfl, rfl, t7 _ _ hp6', upd_same, (by show 11 ≤ sizeLine; decide), fun p8 hp8 => ?_⟩
   have t8 := t7.trans (Same.new (o := .lst (List.replicate 11 (.bl false))) hp8)
   have hp8' : upd (upd H8 p7 (.lst [.bl false, .bl false])) p8 (.lst (List.replicate 11 (.bl false))) p8 = some (.lst (List.replicate 11 (.bl false))) := upd_same
   have k5 := k4.trans (Kp.same t8)
   have e35 := t8 _ _ e34
   have hp1' := t8 _ _ hp1'
   show u4t5 _ _ (upd (upd H8 p7 (.lst [.bl false, .bl false])) p8 (.lst (List.replicate 11 (.bl false))))
   generalize upd (upd H8 p7 (.lst [.bl false, .bl false])) p8 (.lst (List.replicate 11 (.bl false))) = H9 at k5 e35 hp1' hp8' ⊢
   refine by_eq e4t5 ?_
   refine ⟨_, rfl, _, rfl, e, oe, Cx, X_NotStraight, false, rfl, e35, hcx, .inr (.inr (no _ (by simp))), (by show 1 ≤ sizeLine; decide), fun p9 hp9 => ?_⟩
   have t9 := Same.new (o := .lst [.bl false]) hp9
   refine ⟨p8, p9, _, _, rfl, rfl, t9 _ _ hp8', upd_same, (by show 12 ≤ sizeLine; decide), fun pA hpA => ?_⟩
   have tA := t9.trans (Same.new (o := .lst (List.replicate 12 (.bl false))) hpA)
   have hpA' : upd (upd H9 p9 (.lst [.bl false])) pA (.lst (List.replicate 12 (.bl false))) pA = some (.lst (List.replicate 12 (.bl false))) := upd_same
   have k6 := k5.trans (Kp.same tA)
   have e36 := tA _ _ e35
   have hp1' := tA _ _ hp1'
   show u4t6 _ _ (upd (upd H9 p9 (.lst [.bl false])) pA (.lst (List.replicate 12 (.bl false))))
   generalize upd (upd H9 p9 (.lst [.bl false])) pA (.lst (List.replicate 12 (.bl false))) = HA at k6 e36 hp1' hpA' ⊢
   refine by_eq e4t6 ?_
   show u4t7 _ _ _
   refine by_eq e4t7 ?_
   refine ⟨_, rfl, e, oe, Cx, "ValueError", rfl, e36, hcx, rfl, hV, true, rfl, iteT ?_⟩
   refine ⟨_, rfl, pA, _, rfl, .inl (SqL.of hpA'), rfl, rfl, _, rfl, iteT ?_⟩
   refine ⟨_, rfl, p1, _, 0, _, rfl, rfl, SqL.of hp1', rfl, _, rfl, p1, _, 1, _, rfl, rfl, SqL.of hp1', rfl, rfl, _, rfl, ?_⟩
   have nb : (!decide (V.bl b1 = V.bl b2)) = true := by rw [hbb]; cases b2 <;> rfl
   rw [nb]
   refine iteT ?_
   refine ⟨(by show 2 ≤ sizeLine; decide), fun pB hpB => ?_⟩
   have tB := Same.new (o := .lst [.str "bad", .str "many"]) hpB
   refine ⟨_, rfl, p1, _, 1, _, rfl, rfl, SqL.of (tB _ _ hp1'), rfl, b2, rfl, ?_⟩
   cases b2 with
   | true =>
    refine ⟨pB, _, 1, _, rfl, rfl, SqL.of upd_same, rfl, ?_⟩
    show u5 _ _ _
    refine by_eq e5 ⟨_, rfl, ?_⟩
    rw [hwd] at hq
    exact hq _ (k6.trans (Kp.same tB))
   | false =>
    refine ⟨pB, _, 0, _, rfl, rfl, SqL.of upd_same, rfl, ?_⟩
    show u5 _ _ _
    refine by_eq e5 ⟨_, rfl, ?_⟩
    rw [hwd] at hq
    exact hq _ (k6.trans (Kp.same tB))
  rcases hC with ⟨rfl, hg⟩ | ⟨rfl, hg, hm⟩
  ·refine ⟨[X_GroveError], X_BadForm, fun _ => true, .one xc.c_GroveError, hc, ?_, rfl, e3, ?_⟩
   ·intro D hD
    obtain rfl := List.mem_singleton.mp hD
    exact xc.m_BadForm_GroveError
   refine ⟨_, rfl, ?_⟩
   refine body X_BadForm true false "bad" hc (.inl ⟨rfl, rfl⟩) (.inr ⟨xc.nn_BadForm_TooMany, xc.c_TooMany.cl, xc.m_BadForm_TooMany, rfl, xc.not_BadForm_TooMany⟩) ?_ xc.f_BadForm_place xc.mV_BadForm rfl rfl (q1 hg)
   exact fm_cons ⟨xc.nn_BadForm_NoGrove, xc.c_NoGrove.cl, xc.m_BadForm_NoGrove, xc.not_BadForm_NoGrove⟩ (fm_cons ⟨xc.nn_BadForm_TooBig, xc.c_TooBig.cl, xc.m_BadForm_TooBig, xc.not_BadForm_TooBig⟩ (fm_cons ⟨xc.nn_BadForm_NoneFits, xc.c_NoneFits.cl, xc.m_BadForm_NoneFits, xc.not_BadForm_NoneFits⟩ (fm_cons ⟨xc.nn_BadForm_NoBook, xc.c_NoBook.cl, xc.m_BadForm_NoBook, xc.not_BadForm_NoBook⟩ (fm_cons ⟨xc.nn_BadForm_TwiceNamed, xc.c_TwiceNamed.cl, xc.m_BadForm_TwiceNamed, xc.not_BadForm_TwiceNamed⟩ (fm_cons ⟨xc.nn_BadForm_NoName, xc.c_NoName.cl, xc.m_BadForm_NoName, xc.not_BadForm_NoName⟩ (fm_cons ⟨xc.nn_BadForm_Ring, xc.c_Ring.cl, xc.m_BadForm_Ring, xc.not_BadForm_Ring⟩ (fm_cons ⟨xc.nn_BadForm_BadChanger, xc.c_BadChanger.cl, xc.m_BadForm_BadChanger, xc.not_BadForm_BadChanger⟩ (fm_cons ⟨xc.nn_BadForm_NoRecipe, xc.c_NoRecipe.cl, xc.m_BadForm_NoRecipe, xc.not_BadForm_NoRecipe⟩ (fm_cons ⟨xc.nn_BadForm_NoChange, xc.c_NoChange.cl, xc.m_BadForm_NoChange, xc.not_BadForm_NoChange⟩ (fm_cons ⟨xc.nn_BadForm_NoRow, xc.c_NoRow.cl, xc.m_BadForm_NoRow, xc.not_BadForm_NoRow⟩ (fm_cons ⟨xc.nn_BadForm_NotStraight, xc.c_NotStraight.cl, xc.m_BadForm_NotStraight, xc.not_BadForm_NotStraight⟩ fm_nil)))))))))))
  ·refine ⟨[X_GroveError], X_TooMany, fun _ => true, .one xc.c_GroveError, hc, ?_, rfl, e3, ?_⟩
   ·intro D hD
    obtain rfl := List.mem_singleton.mp hD
    exact xc.m_TooMany_GroveError
   refine ⟨_, rfl, ?_⟩
   refine body X_TooMany false true "many" hc (.inr ⟨xc.nn_TooMany_BadForm, xc.c_BadForm.cl, xc.m_TooMany_BadForm, rfl, xc.not_TooMany_BadForm⟩) (.inl ⟨rfl, rfl⟩) ?_ xc.f_TooMany_place xc.mV_TooMany rfl rfl (q2 hg hm)
   exact fm_cons ⟨xc.nn_TooMany_NoGrove, xc.c_NoGrove.cl, xc.m_TooMany_NoGrove, xc.not_TooMany_NoGrove⟩ (fm_cons ⟨xc.nn_TooMany_TooBig, xc.c_TooBig.cl, xc.m_TooMany_TooBig, xc.not_TooMany_TooBig⟩ (fm_cons ⟨xc.nn_TooMany_NoneFits, xc.c_NoneFits.cl, xc.m_TooMany_NoneFits, xc.not_TooMany_NoneFits⟩ (fm_cons ⟨xc.nn_TooMany_NoBook, xc.c_NoBook.cl, xc.m_TooMany_NoBook, xc.not_TooMany_NoBook⟩ (fm_cons ⟨xc.nn_TooMany_TwiceNamed, xc.c_TwiceNamed.cl, xc.m_TooMany_TwiceNamed, xc.not_TooMany_TwiceNamed⟩ (fm_cons ⟨xc.nn_TooMany_NoName, xc.c_NoName.cl, xc.m_TooMany_NoName, xc.not_TooMany_NoName⟩ (fm_cons ⟨xc.nn_TooMany_Ring, xc.c_Ring.cl, xc.m_TooMany_Ring, xc.not_TooMany_Ring⟩ (fm_cons ⟨xc.nn_TooMany_BadChanger, xc.c_BadChanger.cl, xc.m_TooMany_BadChanger, xc.not_TooMany_BadChanger⟩ (fm_cons ⟨xc.nn_TooMany_NoRecipe, xc.c_NoRecipe.cl, xc.m_TooMany_NoRecipe, xc.not_TooMany_NoRecipe⟩ (fm_cons ⟨xc.nn_TooMany_NoChange, xc.c_NoChange.cl, xc.m_TooMany_NoChange, xc.not_TooMany_NoChange⟩ (fm_cons ⟨xc.nn_TooMany_NoRow, xc.c_NoRow.cl, xc.m_TooMany_NoRow, xc.not_TooMany_NoRow⟩ (fm_cons ⟨xc.nn_TooMany_NotStraight, xc.c_NotStraight.cl, xc.m_TooMany_NotStraight, xc.not_TooMany_NotStraight⟩ fm_nil)))))))))))
theorem IsF.one {n : Int} {hs ts : List Int} {qs : List Srd.Qd} {h h' : FQ} (x : IsF n hs ts qs h) (y : IsF n hs ts qs h') : h = h' := by
 obtain ⟨n, a, b, c⟩ := h
 obtain ⟨n', a', b', c'⟩ := h'
 have e1 := x.n.trans y.n.symm
 have e2 := rise_one x.hs y.hs fun z => (x.hm z).trans (y.hm z).symm
 have e3 := rise_one x.ts y.ts fun z => (x.tm z).trans (y.tm z).symm
 have e4 := Srd.qLt_sto.one x.qs y.qs fun z => (x.qm z).trans (y.qm z).symm
 dsimp only at e1 e2 e3 e4
 rw [e1, e2, e3, e4]
def qD (q : Srd.Qd) : PyData := .tuple [.int q.1, .str q.2.1, .int q.2.2.1, .int q.2.2.2]
def fmD (f : FQ) : PyData := .tuple [.int f.n, .tuple (f.hs.map PyData.int), .tuple (f.ts.map PyData.int), .tuple (f.qs.map qD)]
theorem dp_ints {K : PySem.W.Frag} {H : Hp} : ∀ xs : List Int, DpAll K H (xs.map V.int) (xs.map PyData.int)
 | [] => .nil
 | x :: xs => .cons (.int x) (dp_ints xs)
theorem dp_qs {K : PySem.W.Frag} {H : Hp} : ∀ {zs : List V} {qs : List Srd.Qd}, QL H zs qs → DpAll K H zs (qs.map qD)
 | _, _, .nil => .nil
 | _, _, .cons ⟨p, e, h⟩ t => .cons (by rw [e]; exact .tup (SqT.of h) (.cons (.int _) (.cons (.str _) (.cons (.int _) (.cons (.int _) .nil))))) (dp_qs t)
theorem FmQ.dp {K : PySem.W.Frag} {H : Hp} {a : Addr} {f : FQ} (h : FmQ H a f) : Dp K H (.ref a) (fmD f) := by
 obtain ⟨h1, h2, h3, zs, e1, e2, e3, e4, e5⟩ := h
 exact .tup (SqT.of e1) (.cons (.int _) (.cons (.tup (SqT.of e2) (dp_ints _)) (.cons (.tup (SqT.of e3) (dp_ints _)) (.cons (.tup (SqT.of e4) (dp_qs e5)) .nil))))
theorem lay_ints : ∀ xs : List Int, PyData.canLayAll0 (xs.map PyData.int) = true ∧ PyData.depthAll (xs.map PyData.int) = 0
 | [] => ⟨rfl, rfl⟩
 | x :: xs => by
  obtain ⟨h1, h2⟩ := lay_ints xs
  exact ⟨h1, by show max 0 (PyData.depthAll (xs.map PyData.int)) = 0; rw [h2]; rfl⟩
theorem lay_qs : ∀ {qs : List Srd.Qd}, (∀ q ∈ qs, PyData.strOk q.2.1 = true) → PyData.canLayAll0 (qs.map qD) = true ∧ PyData.depthAll (qs.map qD) ≤ 1
 | [], _ => ⟨rfl, Nat.zero_le _⟩
 | q :: qs, h => by
  obtain ⟨h1, h2⟩ := lay_qs fun x hx => h x (List.mem_cons_of_mem _ hx)
  refine ⟨?_, ?_⟩
  ·show ((true && (PyData.strOk q.2.1 && (true && (true && true)))) && PyData.canLayAll0 (qs.map qD)) = true
   rw [h q (List.mem_cons_self ..), h1]
   rfl
  ·show max (max 0 (max 0 (max 0 (max 0 0))) + 1) (PyData.depthAll (qs.map qD)) ≤ 1
   lia
theorem fm_lay {f : FQ} (h : ∀ q ∈ f.qs, PyData.strOk q.2.1 = true) : (fmD f).canLay0 = true ∧ (fmD f).depth ≤ 200 := by
 obtain ⟨a1, a2⟩ := lay_ints f.hs
 obtain ⟨b1, b2⟩ := lay_ints f.ts
 obtain ⟨c1, c2⟩ := lay_qs h
 refine ⟨?_, ?_⟩
 ·show (true && (PyData.canLayAll0 (f.hs.map PyData.int) && (PyData.canLayAll0 (f.ts.map PyData.int) && (PyData.canLayAll0 (f.qs.map qD) && true)))) = true
  rw [a1, b1, c1]
  rfl
 ·show max 0 (max (PyData.depthAll (f.hs.map PyData.int) + 1) (max (PyData.depthAll (f.ts.map PyData.int) + 1) (max (PyData.depthAll (f.qs.map qD) + 1) 0))) + 1 ≤ 200
  lia
theorem tagB_strOk {t : Str} (h : tagB t = true) : PyData.strOk t = true := by
 refine Let0.ok fun c hc => ?_
 unfold tagB at h
 rw [Bool.and_eq_true, List.all_eq_true] at h
 have := h.2 c hc
 unfold azB at this
 rw [Bool.and_eq_true] at this
 exact ⟨of_decide_eq_true this.1, of_decide_eq_true this.2⟩
def spMade12 : Sp := fun vs H Q _ => ∃ (n : Int) (L : Addr) (hs ts : List Int) (qs : List Srd.Qd), vs = [.int n, .ref L] ∧ Thg H L hs ts qs ∧ TB hs ts qs ∧ n.natAbs.log2 < 1900 ∧ Gd n hs ts qs ∧ Fine n qs ∧ ∀ H', Kp H H' → Q (.bl true) H'
set_option maxHeartbeats 4000000 in
theorem ok_l_made (B : ∀ x ∈ blts, mg x = none) (xc : XC K mg X_GroveError X_NoGrove X_BadForm X_TooMany X_TooBig X_NoneFits X_NoBook X_TwiceNamed X_NoName X_Ring X_BadChanger X_NoRecipe X_NotStraight X_NoChange X_NoRow) (g_form : HasX P w K mg base "form" ["many", "starts", "ends", "rules"] 2 (spFormX K X_BadForm X_TooMany)) (g_l_word : Has P w K mg base "_law_word" ["_law_many", "_law_things_here"] 3 spWord12) (F : Fun K "_law_made" "_law_made" s_l_made f fd) : FnOk P w K mg base CX0 4 f fd ["_law_many", "_law_things_here"] spMade12 := by
 refine F.ok sc_l_made (fun vs H Q E h => ?_) (fun cdv A outer s H vs Q E hr h => ?_)
 ·obtain ⟨n, L, hs, ts, qs, rfl, _⟩ := h
  rfl
 obtain ⟨n, L, hs, ts, qs, rfl, hT, tb, hn, hg, hfi, q⟩ := h
 obtain ⟨a, b, d, zs, hL, ha, hb, hd, hR⟩ := id hT
 have hu := hu_room hr
 have hzl := hR.length
 have hq5 := tb.q
 have hh1 := tb.h
 have hh2 := tb.t
 refine hideI ((defBody s_l_made).drop 2) (pss_one (ps_ret (pe_and (pe_cmpR op_eq (pe_has g_l_word hr rfl (pa_cons (pv 0) (pa_cons (pv 1) pa_nil))) pe_str (nomark _)) (pe_one (pe_cmpR (op_eqD hu) (pe_hasX g_form takes_no hr rfl (pa_cons (pv 0) (pa_cons (pe_ix ix_list (pv 1) pe_int (fun _ _ => rfl)) (pa_cons (pe_ix ix_list (pv 1) pe_int (fun _ _ => rfl)) (pa_cons (pv 2) pa_nil))))) (pv 3) (nomark _)))))) (fun u2 h2 e2 => ?_)
 refine hideI ((defBody s_l_made).drop 1) (pss_cons (ps_set (i := 3) sc_l_made.nd rfl (Or.inl rfl) (pe_tup (pa_cons (pv 0) (pa_cons (pe_callTy call_tuple_of rfl (B "tuple" (by decide)) bt_tuple (pa_cons (pe_sort_setS rfl hu rfl (B "sorted" (by decide)) rfl (B "set" (by decide)) (pa_cons (pe_ix ix_list (pv 1) pe_int (fun _ _ => rfl)) pa_nil)) pa_nil)) (pa_cons (pe_callTy call_tuple_of rfl (B "tuple" (by decide)) bt_tuple (pa_cons (pe_sort_setS rfl hu rfl (B "sorted" (by decide)) rfl (B "set" (by decide)) (pa_cons (pe_ix ix_list (pv 1) pe_int (fun _ _ => rfl)) pa_nil)) pa_nil)) (pa_cons (pe_callTy call_tuple_of rfl (B "tuple" (by decide)) bt_tuple (pa_cons (pe_sort_setS rfl hu rfl (B "sorted" (by decide)) rfl (B "set" (by decide)) (pa_cons (pv 2) pa_nil)) pa_nil)) pa_nil)))))) h2) (fun u1 h1 e1 => ?_)
 refine hideI ((defBody s_l_made).drop 0) (pss_cons (ps_set_comp (cl := []) (n0 := 2) sc_l_made.nd rfl (Or.inl rfl) ["_law_rule_here"] [] (pi_list (pe_ix ix_list (pv 1) pe_int (fun _ _ => rfl))) (fun _ _ _ _ => (pg_name (i := 0) nd1 rfl (Or.inl rfl))) (fun _ _ _ _ => (pe_tup (pa_cons (pe_ix (ix_listK (K := K) rfl) (pv 0) pe_int (fun _ _ => rfl)) (pa_cons (pe_ix (ix_listK (K := K) rfl) (pv 0) pe_int (fun _ _ => rfl)) (pa_cons (pe_ix (ix_listK (K := K) rfl) (pv 0) pe_int (fun _ _ => rfl)) (pa_cons (pe_ix (ix_listK (K := K) rfl) (pv 0) pe_int (fun _ _ => rfl)) pa_nil)))))) rfl rfl (by decide) rfl (by decide) (fun _ _ h => nomatch h) (nofree (by decide)) (fun _ _ h => nomatch h) (fun _ => rfl) rfl) h1) (fun u0 h0 e0 => ?_)
 refine ⟨u0, h0, ?_⟩
 refine by_eq e0 ?_
 refine ⟨_, rfl, L, _, 2, _, rfl, rfl, SqL.of hL, rfl, d, rfl, ⟨_, SqL.of hd⟩, fun pr hpr => ?_⟩
 refine comp_list (K := K) (a := d) (p := pr) (xs := zs) (fun i ys σ H2 => ∃ v0 : Option V, σ = [v0] ∧ Same H H2 ∧ H2 pr = some (.lst ys) ∧ QL H2 ys (qs.take i))
  ⟨none, rfl, Same.new hpr, upd_same, .nil⟩ ?_ ?_ ?_
 ·rintro i ys σ H2 _ ⟨v0, _, sm, h, _⟩
  exact ⟨SqL.of (sm _ _ hd), h⟩
 ·rintro i ys x σ H2 hi hx ⟨v0, rfl, sm, hp, hQ⟩
  obtain ⟨r, q0, e1, rfl, e2⟩ := hR.get i x hx
  have hr2 := sm _ _ e2
  have hyl := hQ.length
  rw [List.length_take] at hyl
  refine ⟨_, rfl, r, _, 0, _, rfl, rfl, SqL.of hr2, rfl, _, rfl, r, _, 1, _, rfl, rfl, SqL.of hr2, rfl, _, rfl, r, _, 2, _, rfl, rfl, SqL.of hr2, rfl, _, rfl, r, _, 3, _, rfl, rfl, SqL.of hr2, rfl, by show (4 : Nat) ≤ sizeLine; decide, fun t ht => ?_⟩
  have s2 : Same H2 (upd H2 t (tq q0)) := Same.new ht
  exact ⟨s2 _ _ hp, len1000' (by lia), CW.next hi ⟨_, rfl, (sm.trans s2).upd_new hpr, upd_same, rows_tup e1 hp ht hQ⟩⟩
 rintro ys σ H2 ⟨v0, rfl, s2, hp2, hQ⟩
 rw [hzl, List.take_length] at hQ
 have hyl := hQ.length
 show u1 _ _ _
 refine by_eq e1 ?_
 have hL2 := s2 _ _ hL
 refine ⟨_, rfl, _, rfl, L, _, 0, _, rfl, rfl, SqL.of hL2, rfl, .inr ⟨a, hs, rfl, SqL.of (s2 _ _ ha), by lia, fun r1 m1 hr1 hri1 hme1 => ⟨r1, _, rfl, .inl ⟨SqL.of upd_same, fun w1 hw1 => ?_⟩⟩⟩⟩
 have s4 : Same H2 (upd (upd H2 r1 (.lst (m1.map V.int))) w1 (.tup (m1.map V.int))) := (Same.new hr1).trans (Same.new hw1)
 have e4' : (upd (upd H2 r1 (.lst (m1.map V.int))) w1 (.tup (m1.map V.int))) w1 = some (.tup (m1.map V.int)) := upd_same
 generalize upd (upd H2 r1 (.lst (m1.map V.int))) w1 (.tup (m1.map V.int)) = H4 at s4 e4' ⊢
 refine ⟨_, rfl, L, _, 1, _, rfl, rfl, SqL.of (s4 _ _ hL2), rfl, .inr ⟨b, ts, rfl, SqL.of (s4 _ _ (s2 _ _ hb)), by lia, fun r2 m2 hr2 hri2 hme2 => ⟨r2, _, rfl, .inl ⟨SqL.of upd_same, fun w2 hw2 => ?_⟩⟩⟩⟩
 have s5 : Same H4 (upd (upd H4 r2 (.lst (m2.map V.int))) w2 (.tup (m2.map V.int))) := (Same.new hr2).trans (Same.new hw2)
 have e5' : (upd (upd H4 r2 (.lst (m2.map V.int))) w2 (.tup (m2.map V.int))) w2 = some (.tup (m2.map V.int)) := upd_same
 generalize upd (upd H4 r2 (.lst (m2.map V.int))) w2 (.tup (m2.map V.int)) = H5 at s5 e5' ⊢
 have s45 := s4.trans s5
 have hQ5 := hQ.keep (H' := H5) fun b xs e => s45 _ _ e
 refine ⟨_, rfl, .inl ⟨pr, ys, qs, rfl, SqL.of (s45 _ _ hp2), by lia, hQ5, fun r3 z3 m3 hr3 hrise hmem hQ3 => ⟨r3, _, rfl, .inl ⟨SqL.of upd_same, fun w3 hw3 => ?_⟩⟩⟩⟩
 have s6 : Same H5 (upd (upd H5 r3 (.lst z3)) w3 (.tup z3)) := (Same.new hr3).trans (Same.new hw3)
 have e6' : (upd (upd H5 r3 (.lst z3)) w3 (.tup z3)) w3 = some (.tup z3) := upd_same
 have hQ6 := hQ3.keep (H' := upd (upd H5 r3 (.lst z3)) w3 (.tup z3)) fun b xs e => s6 _ _ e
 generalize upd (upd H5 r3 (.lst z3)) w3 (.tup z3) = H6 at s6 e6' hQ6 ⊢
 refine ⟨by show (4 : Nat) ≤ sizeLine; decide, fun du hdu => ?_⟩
 have s7 := Same.new (o := .tup [.int n, .ref w1, .ref w2, .ref w3]) hdu
 have s67 := s6.trans s7
 have hF7 : FmQ (upd H6 du (.tup [.int n, .ref w1, .ref w2, .ref w3])) du ⟨n, m1, m2, m3⟩ := ⟨w1, w2, w3, z3, upd_same, s67 _ _ (s5 _ _ e4'), s67 _ _ e5', s7 _ _ e6', hQ6.keep fun b xs e => s7 _ _ e⟩
 have iF7 : IsF n hs ts qs ⟨n, m1, m2, m3⟩ := ⟨rfl, hri1, hri2, hrise, hme1, hme2, hmem⟩
 have s07 := (s2.trans s45).trans s67
 have hp7 := s67 _ _ (s45 _ _ hp2)
 have hQ7 := hQ5.keep (H' := upd H6 du (.tup [.int n, .ref w1, .ref w2, .ref w3])) fun b xs e => s67 _ _ e
 show u2 _ _ _
 generalize upd H6 du (.tup [.int n, .ref w1, .ref w2, .ref w3]) = H7 at hF7 s07 hp7 hQ7 ⊢
 refine by_eq e2 ?_
 refine ⟨_, rfl, _, rfl, n, L, hs, ts, qs, rfl, hT.same s07, tb, hn, fun z => absurd hg z, fun _ z => ?_, fun _ _ _ H8 k8 => ?_⟩
 ·have := z m3 hrise hmem
  have := hfi.1
  have := hfi.2 m3 hrise fun q hq => (hmem q).mp hq
  lia
 have hL8 := k8.lst _ _ (s07 _ _ hL)
 have hQ8 : QL H8 ys qs := hQ7.keep fun b xs e => k8 _ _ e fun _ z => nomatch z
 refine ⟨rfl, true, rfl, iteT ?_⟩
 refine ⟨_, rfl, _, rfl, L, _, 0, _, rfl, rfl, SqL.of hL8, rfl, _, rfl, L, _, 1, _, rfl, rfl, SqL.of hL8, rfl, _, rfl, n, a, b, pr, hs, ts, ys, qs, rfl, hn, SqL.of (k8.lst _ _ (s07 _ _ ha)), by lia, tb.hb, SqL.of (k8.lst _ _ (s07 _ _ hb)), by lia, tb.tb, SqL.of (k8.lst _ _ hp7), hQ8, by lia, tb.qb, fun z => absurd hg z, fun _ ms h1 h2 h3 => ?_, fun _ ms h1 h2 h3 h4 r fm H9 s9 hF9 iF9 => ?_⟩
 ·have := hfi.1
  have := hfi.2 ms h1 fun q hq => (h2 q).mp hq
  lia
 obtain rfl := IsF.one iF9 iF7
 have hF9' : FmQ H9 du ⟨n, m1, m2, m3⟩ := by
  obtain ⟨h1, h2, h3, zs', f1, f2, f3, f4, f5⟩ := hF7
  have kt : ∀ b xs, H7 b = some (.tup xs) → H9 b = some (.tup xs) := fun b xs e => s9 _ _ (k8 _ _ e fun _ z => nomatch z)
  exact ⟨h1, h2, h3, zs', kt _ _ f1, kt _ _ f2, kt _ _ f3, kt _ _ f4, f5.keep kt⟩
 obtain ⟨l1, l2⟩ := fm_lay (f := ⟨n, m1, m2, m3⟩) fun q hq => tagB_strOk (hg.2.2.2.2 q ((hmem q).mp hq))
 exact ⟨_, rfl, eq_data (FmQ.dp hF9) (FmQ.dp hF9') l1 l2 (q _ ((Kp.same s07).trans (k8.trans (Kp.same s9))))⟩
theorem RLs.ne {H : Hp} {p : Addr} {zs : List V} {qs : List Srd.Qd} (h : RLs H zs qs) (hp : H p = none) : ∀ z ∈ zs, z ≠ .ref p := fun z hz e => by
 obtain ⟨j, hj, ej⟩ := List.getElem_of_mem hz
 obtain ⟨p', q', _, e5, e6⟩ := h.get j _ (by rw [List.getElem?_eq_getElem hj, ej])
 rw [e] at e5
 injection e5 with e5
 rw [← e5, hp] at e6
 cases e6
theorem RLs.ins {H : Hp} {r : Addr} {q : Srd.Qd} (hr : H r = some (.lst (qV q))) : ∀ {zs : List V} {qs : List Srd.Qd} (k : Nat), RLs H zs qs → RLs H (zs.take k ++ .ref r :: zs.drop k) (qs.take k ++ q :: qs.drop k)
 | _, _, 0, h => .cons ⟨r, rfl, hr⟩ h
 | _, _, _ + 1, .nil => .cons ⟨r, rfl, hr⟩ .nil
 | _, _, k + 1, .cons x t => .cons x (RLs.ins hr k t)
theorem RLs.take {H : Hp} : ∀ {zs : List V} {qs : List Srd.Qd} (k : Nat), RLs H zs qs → RLs H (zs.take k) (qs.take k)
 | _, _, 0, _ => .nil
 | _, _, _ + 1, .nil => .nil
 | _, _, k + 1, .cons x t => .cons x (RLs.take k t)
theorem blk_ok {n sd : Int} (h4 : 4 ≤ n) (j : Nat) : QB n [blk n sd j] ∧ Lets (blk n sd j).2.1 ∧ (blk n sd j).2.1.length ≤ 8 := by
 obtain ⟨h1, h2⟩ := tgS_let sd ((j : Int) / n % 26)
 refine ⟨fun x hx => ?_, h1, h2⟩
 rw [List.mem_singleton.mp hx]
 exact ⟨modB _ (by lia), modB _ (by lia), (by show (0 : Int) ≤ 1; decide), by show (1 : Int) < n; lia⟩
theorem qb_blk {n sd : Int} (h4 : 4 ≤ n) (l : List Nat) : QB n (l.map (blk n sd)) ∧ ∀ q ∈ l.map (blk n sd), tagB q.2.1 = true ∧ SB q.2.1 := by
 refine ⟨fun x hx => ?_, fun x hx => ?_⟩
 ·obtain ⟨j, _, rfl⟩ := List.mem_map.mp hx
  exact (blk_ok h4 j).1 _ (List.mem_singleton.mpr rfl)
 ·obtain ⟨j, _, rfl⟩ := List.mem_map.mp hx
  exact ⟨tagB_letsS (blk_ok h4 j).2.1 (blk_ok h4 j).2.2, sb_lets (blk_ok h4 j).2.1 (blk_ok h4 j).2.2⟩
theorem tb_of {n : Int} {hs ts : List Int} {qs : List Srd.Qd} (g : Gd n hs ts qs) (hn : n ≤ 64) (h1 : hs.length ≤ 10) (h2 : ts.length ≤ 10) (h3 : qs.length ≤ 510) (h4 : ∀ q ∈ qs, SB q.2.1) : TB hs ts qs :=
 ⟨h1, h2, h3, nb_ib g.2.1 (by lia), nb_ib g.2.2.1 (by lia), fun q hq => ⟨nb_q (n := n) (fun x hx => by rw [List.mem_singleton.mp hx]; exact g.2.2.2.1 q hq) (by lia), h4 q hq⟩⟩
theorem ib_up {n m : Int} {xs : List Int} (h : IB n xs) (hm : n ≤ m) : IB m xs := fun x hx => ⟨(h x hx).1, by have := (h x hx).2; lia⟩
theorem gd_up {n m : Int} {hs ts : List Int} {qs : List Srd.Qd} (g : Gd n hs ts qs) (hm : n ≤ m) : Gd m hs ts qs := by
 obtain ⟨g1, g2, g3, g4, g5⟩ := g
 refine ⟨by lia, ib_up g2 hm, ib_up g3 hm, fun q hq => ?_, g5⟩
 obtain ⟨a, b, c⟩ := g4 q hq
 exact ⟨⟨a.1, by lia⟩, ⟨b.1, by lia⟩, c.1, by lia⟩
theorem gd_nil {n : Int} (h : 0 ≤ n) : Gd n [] [] [] := ⟨h, fun _ h => (nomatch h), fun _ h => (nomatch h), fun _ h => (nomatch h), fun _ h => (nomatch h)⟩
theorem tb_nil : TB [] [] [] := ⟨by decide, by decide, by decide, fun _ h => (nomatch h), fun _ h => (nomatch h), fun _ h => (nomatch h)⟩
theorem thg_nil {H : Hp} {q1 q2 q3 q4 : Addr} (h1 : H q1 = none) (h2 : upd H q1 (.lst []) q2 = none) (h3 : upd (upd H q1 (.lst [])) q2 (.lst []) q3 = none) (h4 : upd (upd (upd H q1 (.lst [])) q2 (.lst [])) q3 (.lst []) q4 = none) :
  Same H (upd (upd (upd (upd H q1 (.lst [])) q2 (.lst [])) q3 (.lst [])) q4 (.lst [.ref q1, .ref q2, .ref q3])) ∧ Thg (upd (upd (upd (upd H q1 (.lst [])) q2 (.lst [])) q3 (.lst [])) q4 (.lst [.ref q1, .ref q2, .ref q3])) q4 [] [] [] := by
 have m1 := Same.new (o := .lst []) h1
 have m2 := Same.new (o := .lst []) h2
 have m3 := Same.new (o := .lst []) h3
 have m4 := Same.new (o := .lst [.ref q1, .ref q2, .ref q3]) h4
 exact ⟨m1.trans (m2.trans (m3.trans m4)), q1, q2, q3, [], upd_same, m4 _ _ (m3 _ _ (m2 _ _ upd_same)), m4 _ _ (m3 _ _ upd_same), m4 _ _ upd_same, .nil⟩
theorem cut_400 {xs : List V} (h : 400 ≤ xs.length) : cutV xs none (some 400) = xs.take 400 := by
 have e : HT.sIx xs.length xs.length (some 400) = 400 := by
  show (if (400 : Int) < 0 then ((400 : Int) + (xs.length : Int)).toNat else min (400 : Int).toNat xs.length) = _
  rw [if_neg (by decide)]
  lia
 unfold cutV
 rw [e, HT.sIx_none, List.drop_zero, Nat.sub_zero]
set_option maxHeartbeats 8000000 in
theorem ok_law (B : ∀ x ∈ blts, mg x = none) (g_l_cell : Has P w K mg base "_law_cell" ["_law_script", "_law_k"] 1 (spCell17 K)) (g_l_things : Has P w K mg base "_law_things" ["_law_script", "_law_many"] 3 (spThings K)) (g_l_spoiled : Has P w K mg base "_law_spoiled" ["_law_things_here", "_law_many", "_law_way", "_law_seed", "_law_cell_here"] 3 spSpoil12) (g_l_word : Has P w K mg base "_law_word" ["_law_many", "_law_things_here"] 3 spWord12) (g_l_made : Has P w K mg base "_law_made" ["_law_many", "_law_things_here"] 4 spMade12) (g_l_block : Has P w K mg base "_law_block" ["_law_many", "_law_seed", "_law_count"] 2 spBlock) (F : Fun K "law" "law" s_law f fd) : FnOk P w K mg base CX0 5 f fd ["_law_script"] (spLaw K) := by
 refine F.ok sc_law (fun vs H Q E h => ?_) (fun cdv A outer s H vs Q E hr h => ?_)
 ·obtain ⟨a, ns, rfl, _⟩ := h
  rfl
 obtain ⟨a, ns, rfl, hS, h63, q⟩ := h
 have p9 : (10 : Int) ^ (9 : Int).toNat = 1000000000 := by decide
 refine hideI ((defBody s_law).drop 18) (pss_one (ps_ret (pe_and (pe_has g_l_made hr rfl (pa_cons (pv 1) (pa_cons (pe_lst (pa_cons (pe_ix ix_list (pv 4) pe_int (fun _ _ => rfl)) (pa_cons (pe_ix ix_list (pv 4) pe_int (fun _ _ => rfl)) (pa_cons (pv 9) pa_nil)))) pa_nil))) (pe_one (pe_has g_l_made hr rfl (pa_cons (pv 1) (pa_cons (pv 4) pa_nil))))))) (fun u18 h18 e18 => ?_)
 refine hideI ((defBody s_law).drop 17) (pss_cons (ps_expr (pe_bm PySem.F.plainAttrs_list PySem.F.slot_list_insert PySem.F.type_list_insert mt_insert (pv 9) (pa_cons (pe_op op_mod (pv 3) pe_int) (pa_cons (pe_callTy call_list_of rfl (B "list" (by decide)) bt_list (pa_cons (pe_ix ix_list (pv 8) (pe_op op_mod (pe_op op_fdiv (pv 3) pe_int) pe_int) (fun _ _ => rfl)) pa_nil)) pa_nil)))) h18) (fun u17 h17 e17 => ?_)
 refine hideI ((defBody s_law).drop 16) (pss_cons (ps_set (i := 9) sc_law.nd rfl (Or.inl rfl) (pe_slice sl_list (pv 8) po_none (po_some pe_int))) h17) (fun u16 h16 e16 => ?_)
 refine hideI ((defBody s_law).drop 15) (pss_cons (ps_if (pt_cmpR op_ne (pe_has g_l_word hr rfl (pa_cons (pv 1) (pa_cons (pe_has g_l_spoiled hr rfl (pa_cons (pe_lst (pa_cons (pe_ix ix_list (pv 4) pe_int (fun _ _ => rfl)) (pa_cons (pe_ix ix_list (pv 4) pe_int (fun _ _ => rfl)) (pa_cons (pv 8) pa_nil)))) (pa_cons (pv 1) (pa_cons (pe_op op_mod (pe_op op_fdiv (pv 3) pe_int) pe_int) (pa_cons (pv 2) (pa_cons (pv 3) pa_nil)))))) pa_nil))) pe_str (nomark _))
   (pss_one (ps_ret pe_bl))
   pss_nil) h16) (fun u15 h15 e15 => ?_)
 refine hideI ((defBody s_law).drop 14) (pss_cons (ps_if (pt_cmpR op_ne (pe_has g_l_word hr rfl (pa_cons (pv 1) (pa_cons (pe_lst (pa_cons (pe_ix ix_list (pv 4) pe_int (fun _ _ => rfl)) (pa_cons (pe_ix ix_list (pv 4) pe_int (fun _ _ => rfl)) (pa_cons (pv 8) pa_nil)))) pa_nil))) pe_str (nomark _))
   (pss_one (ps_ret pe_bl))
   pss_nil) h15) (fun u14 h14 e14 => ?_)
 refine hideI ((defBody s_law).drop 13) (pss_cons (ps_set (i := 8) sc_law.nd rfl (Or.inl rfl) (pe_has g_l_block hr rfl (pa_cons (pv 1) (pa_cons (pv 2) (pa_cons (pe_op op_add pe_int (pe_op op_mod (pe_op op_fdiv (pe_has g_l_cell hr rfl (pa_cons (pv 0) (pa_cons pe_int pa_nil))) pe_int) pe_int)) pa_nil))))) h14) (fun u13 h13 e13 => ?_)
 refine hideI ((defBody s_law).drop 12) (pss_cons (ps_if (pt_cmpR op_gt (pe_op op_mod (pe_op op_fdiv (pe_has g_l_cell hr rfl (pa_cons (pv 0) (pa_cons pe_int pa_nil))) pe_int) pe_int) pe_int (nomark _))
   (pss_one (ps_ret (pe_has g_l_made hr rfl (pa_cons (pv 1) (pa_cons (pv 4) pa_nil)))))
   pss_nil) h13) (fun u12 h12 e12 => ?_)
 refine hideI ((defBody s_law).drop 11) (pss_cons (ps_if (pt_cmpR op_ne (pe_has g_l_word hr rfl (pa_cons (pv 7) (pa_cons (pe_has g_l_spoiled hr rfl (pa_cons (pv 4) (pa_cons (pv 7) (pa_cons (pe_op op_mod (pv 3) pe_int) (pa_cons (pv 2) (pa_cons (pe_has g_l_cell hr rfl (pa_cons (pv 0) (pa_cons pe_int pa_nil))) pa_nil)))))) pa_nil))) pe_str (nomark _))
   (pss_one (ps_ret pe_bl))
   pss_nil) h12) (fun u11 h11 e11 => ?_)
 refine hideI ((defBody s_law).drop 10) (pss_cons (ps_if (PW.pt (pw_or (pt_cmpR op_ne (pe_has g_l_word hr rfl (pa_cons (pv 7) (pa_cons (pv 4) pa_nil))) pe_str (nomark _)) (pw_or1 (pt_cmpR op_ne (pe_has g_l_word hr rfl (pa_cons (pv 7) (pa_cons (pe_lst (pa_cons (pe_lst pa_nil) (pa_cons (pe_lst pa_nil) (pa_cons (pe_lst pa_nil) pa_nil)))) pa_nil))) pe_str (nomark _)))))
   (pss_one (ps_ret pe_bl))
   pss_nil) h11) (fun u10 h10 e10 => ?_)
 refine hideI ((defBody s_law).drop 9) (pss_cons (ps_if (pt_cmpR op_eq (pe_op op_mod (pe_has g_l_cell hr rfl (pa_cons (pv 0) (pa_cons pe_int pa_nil))) pe_int) pe_int (nomark _))
   (pss_one (ps_set (i := 7) sc_law.nd rfl (Or.inl rfl) pe_int))
   pss_nil) h10) (fun u9 h9 e9 => ?_)
 refine hideI ((defBody s_law).drop 8) (pss_cons (ps_set (i := 7) sc_law.nd rfl (Or.inl rfl) (pe_op op_add pe_int (pe_op op_mod (pe_has g_l_cell hr rfl (pa_cons (pv 0) (pa_cons pe_int pa_nil))) (pe_op op_pow pe_int pe_int)))) h9) (fun u8 h8 e8 => ?_)
 refine hideI ((defBody s_law).drop 7) (pss_cons (ps_if (PW.pt (pw_or (pt_cmpR op_ne (pe_has g_l_word hr rfl (pa_cons (pv 6) (pa_cons (pv 4) pa_nil))) pe_str (nomark _)) (pw_or1 (pt_cmpR op_ne (pe_has g_l_word hr rfl (pa_cons (pv 6) (pa_cons (pe_lst (pa_cons (pe_lst pa_nil) (pa_cons (pe_lst pa_nil) (pa_cons (pe_lst pa_nil) pa_nil)))) pa_nil))) pe_str (nomark _)))))
   (pss_one (ps_ret pe_bl))
   pss_nil) h8) (fun u7 h7 e7 => ?_)
 refine hideI ((defBody s_law).drop 6) (pss_cons (ps_set (i := 6) sc_law.nd rfl (Or.inl rfl) (pe_op op_sub (pe_op op_sub pe_int pe_int) (pe_op op_mod (pv 3) (pe_op op_pow pe_int pe_int)))) h7) (fun u6 h6 e6 => ?_)
 refine hideI ((defBody s_law).drop 5) (pss_cons (ps_if (pt_cmpR op_ne (pe_has g_l_word hr rfl (pa_cons (pv 1) (pa_cons (pv 5) pa_nil))) pe_str (nomark _))
   (pss_one (ps_ret pe_bl))
   pss_nil) h6) (fun u5 h5 e5 => ?_)
 refine hideI ((defBody s_law).drop 4) (pss_cons (ps_set (i := 5) sc_law.nd rfl (Or.inl rfl) (pe_has g_l_spoiled hr rfl (pa_cons (pv 4) (pa_cons (pv 1) (pa_cons (pe_op op_mod (pe_has g_l_cell hr rfl (pa_cons (pv 0) (pa_cons pe_int pa_nil))) pe_int) (pa_cons (pv 2) (pa_cons (pv 3) pa_nil))))))) h5) (fun u4 h4 e4 => ?_)
 refine hideI ((defBody s_law).drop 3) (pss_cons (ps_set (i := 4) sc_law.nd rfl (Or.inl rfl) (pe_has g_l_things hr rfl (pa_cons (pv 0) (pa_cons (pv 1) pa_nil)))) h4) (fun u3 h3 e3 => ?_)
 refine hideI ((defBody s_law).drop 2) (pss_cons (ps_set (i := 3) sc_law.nd rfl (Or.inl rfl) (pe_has g_l_cell hr rfl (pa_cons (pv 0) (pa_cons pe_int pa_nil)))) h3) (fun u2 h2 e2 => ?_)
 refine hideI ((defBody s_law).drop 1) (pss_cons (ps_set (i := 2) sc_law.nd rfl (Or.inl rfl) (pe_has g_l_cell hr rfl (pa_cons (pv 0) (pa_cons pe_int pa_nil)))) h2) (fun u1 h1 e1 => ?_)
 refine hideI ((defBody s_law).drop 0) (pss_cons (ps_set (i := 1) sc_law.nd rfl (Or.inl rfl) (pe_op op_add pe_int (pe_op op_mod (pe_has g_l_cell hr rfl (pa_cons (pv 0) (pa_cons pe_int pa_nil))) pe_int))) h1) (fun u0 h0 e0 => ?_)
 refine ⟨u0, h0, ?_⟩
 refine by_eq e0 ?_
 refine ⟨_, rfl, a, ns, 0, rfl, hS, h63, by decide, by decide, fun v0 v00 v01 => ⟨_, _, rfl, rfl, (by show (0 : Int) < 61; decide), _, _, rfl, rfl, ?_⟩⟩
 have b0 := modB v0 (n := 61) (by decide)
 obtain ⟨n, en, n4, n64⟩ : ∃ n : Int, 4 + v0 % 61 = n ∧ 4 ≤ n ∧ n ≤ 64 := ⟨_, rfl, by lia, by lia⟩
 show u1 _ [some (.ref a), some (.int (4 + v0 % 61)), _, _, _, _, _, _, _, _] _
 rw [en]
 clear en b0
 refine by_eq e1 ?_
 refine ⟨_, rfl, a, ns, 1, rfl, hS, h63, by decide, by decide, fun sd sd0 sd1 => ?_⟩
 show u2 _ _ _
 refine by_eq e2 ?_
 refine ⟨_, rfl, a, ns, 4, rfl, hS, h63, by decide, by decide, fun ch ch0 ch1 => ?_⟩
 show u3 _ _ _
 refine by_eq e3 ?_
 refine ⟨_, rfl, _, rfl, a, ns, n, rfl, hS, h63, by lia, n64, fun L hs ts qs H1 s1 hT l1 l2 l3 qne hg hsb => ?_⟩
 have tb := tb_of hg n64 (by lia) (by lia) (by lia) hsb
 have fi : Fine n qs := ⟨n64, fun ms h1 h2 => Nat.le_trans ((riseQ_nodup h1).length_le_of_subset h2) (by lia)⟩
 show u4 _ _ _
 refine by_eq e4 ?_
 refine ⟨_, rfl, _, rfl, _, rfl, a, ns, 5, rfl, s1.seq hS, h63, by decide, by decide, fun v5 v50 v51 => ?_⟩
 have b5 := modB v5 (n := 6) (by decide)
 refine ⟨_, _, rfl, rfl, (by show (0 : Int) < 6; decide), _, rfl, _, rfl, L, hs, ts, qs, n, v5 % 6, sd, ch, rfl, hT, by lia, by lia, tb, qne, by lia, by lia, b5.1, b5.2, ch0, fun L' hs' ts' qs' H2 s2 hT' tb' ng' => ?_⟩
 show u5 _ _ _
 refine by_eq e5 ?_
 have nN : n.natAbs.log2 < 1900 := nb_le (by lia) (by lia)
 refine ⟨_, rfl, _, rfl, n, L', hs', ts', qs', rfl, hT', tb', nN, fun _ H3 k3 => ⟨rfl, _, rfl, iteF ?_⟩, fun g => absurd g ng', fun g => absurd g ng'⟩
 have k03 := (Kp.same (s1.trans s2)).trans k3
 have hT3 := (hT.same s2).mono k3.lst
 show u6 _ _ _
 refine by_eq e6 ?_
 have bc := modB ch (n := 1000000000) (by decide)
 refine ⟨_, _, rfl, rfl, _, rfl, _, _, rfl, rfl, ⟨by decide, by decide, by decide⟩, _, _, rfl, rfl, (by rw [p9]; show (0 : Int) < 1000000000; decide), _, _, rfl, rfl, ?_⟩
 obtain ⟨be, eb, be0, be1⟩ : ∃ be : Int, 0 - 1 - ch % (10 : Int) ^ (9 : Int).toNat = be ∧ be < 0 ∧ -2000000000 ≤ be := ⟨_, rfl, by rw [p9]; lia, by rw [p9]; lia⟩
 show u7 _ [some (.ref a), some (.int n), some (.int sd), some (.int ch), some (.ref L), some (.ref L'), some (.int (0 - 1 - ch % (10 : Int) ^ (9 : Int).toNat)), none, none, none] _
 rw [eb]
 clear eb bc
 have nbe : be.natAbs.log2 < 1900 := nb_le (by lia) (by lia)
 refine by_eq e7 ?_
 refine ⟨_, rfl, _, rfl, be, L, hs, ts, qs, rfl, hT3, tb, nbe, fun _ H4 k4 => ⟨rfl, _, rfl, iteF ?_⟩, fun g => absurd g.1 (by lia), fun g => absurd g.1 (by lia)⟩
 refine ⟨_, rfl, by decide, fun q1 hq1 => ⟨by decide, fun q2 hq2 => ⟨by decide, fun q3 hq3 => ⟨(by show 3 ≤ sizeLine; decide), fun q4 hq4 => ?_⟩⟩⟩⟩
 obtain ⟨m5, t5⟩ := thg_nil hq1 hq2 hq3 hq4
 generalize upd (upd (upd (upd H4 q1 (.lst [])) q2 (.lst [])) q3 (.lst [])) q4 (.lst [.ref q1, .ref q2, .ref q3]) = H5 at m5 t5 ⊢
 refine ⟨be, q4, [], [], [], rfl, t5, tb_nil, nbe, fun _ H6 k6 => ⟨rfl, _, rfl, iteF ?_⟩, fun g => absurd g.1 (by lia), fun g => absurd g.1 (by lia)⟩
 have k36 := k4.trans ((Kp.same m5).trans k6)
 have k06 := k03.trans k36
 have hT6 := hT3.mono k36.lst
 clear m5 t5 hq1 hq2 hq3 hq4
 show u8 _ _ _
 refine by_eq e8 ?_
 refine ⟨_, rfl, a, ns, 6, rfl, k06.seq hS, h63, by decide, by decide, fun v6 v60 v61 => ?_⟩
 have b6 := modB v6 (n := 1000000000) (by decide)
 refine ⟨_, _, rfl, rfl, ⟨by decide, by decide, by decide⟩, _, _, rfl, rfl, (by rw [p9]; show (0 : Int) < 1000000000; decide), _, _, rfl, rfl, ?_⟩
 obtain ⟨ab, ea, ab0, ab1⟩ : ∃ ab : Int, 65 + v6 % (10 : Int) ^ (9 : Int).toNat = ab ∧ 65 ≤ ab ∧ ab ≤ 1100000000 := ⟨_, rfl, by rw [p9]; lia, by rw [p9]; lia⟩
 show u9 _ [some (.ref a), some (.int n), some (.int sd), some (.int ch), some (.ref L), some (.ref L'), some (.int be), some (.int (65 + v6 % (10 : Int) ^ (9 : Int).toNat)), none, none] _
 rw [ea]
 clear ea b6
 refine by_eq e9 ?_
 have rest : ∀ ab : Int, 65 ≤ ab → ab ≤ 1100000000 → u10 { nx := fun _ H' => Q .non H', rt := Q } [some (.ref a), some (.int n), some (.int sd), some (.int ch), some (.ref L), some (.ref L'), some (.int be), some (.int ab), none, none] H6 := fun ab ab0 ab1 => by
  have nab : ab.natAbs.log2 < 1900 := nb_le (by lia) (by lia)
  have gU := gd_up hg (m := ab) (by lia)
  have big : ∀ qs, Many ab qs := fun qs ms _ _ => .inl (by lia)
  refine by_eq e10 ?_
  refine ⟨_, rfl, _, rfl, ab, L, hs, ts, qs, rfl, hT6, tb, nab, fun g => absurd gU g, fun _ _ H7 k7 => ⟨rfl, _, rfl, iteF ?_⟩, fun _ z => absurd z (by lia)⟩
  refine ⟨_, rfl, by decide, fun q1 hq1 => ⟨by decide, fun q2 hq2 => ⟨by decide, fun q3 hq3 => ⟨(by show 3 ≤ sizeLine; decide), fun q4 hq4 => ?_⟩⟩⟩⟩
  obtain ⟨m5, t5⟩ := thg_nil hq1 hq2 hq3 hq4
  generalize upd (upd (upd (upd H7 q1 (.lst [])) q2 (.lst [])) q3 (.lst [])) q4 (.lst [.ref q1, .ref q2, .ref q3]) = H8 at m5 t5 ⊢
  refine ⟨ab, q4, [], [], [], rfl, t5, tb_nil, nab, fun g => absurd (gd_nil (by lia)) g, fun _ _ H9 k9 => ⟨rfl, _, rfl, iteF ?_⟩, fun _ z => absurd z (by lia)⟩
  have k69 := k7.trans ((Kp.same m5).trans k9)
  have k09 := k06.trans k69
  have hT9 := hT6.mono k69.lst
  clear m5 t5 hq1 hq2 hq3 hq4
  show u11 _ _ _
  refine by_eq e11 ?_
  refine ⟨_, rfl, _, rfl, _, rfl, _, rfl, _, _, rfl, rfl, (by show (0 : Int) < 6; decide), _, rfl, _, rfl, a, ns, 6, rfl, k09.seq hS, h63, by decide, by decide, fun v6' v60' v61' => ?_⟩
  have bw := modB ch (n := 6) (by decide)
  refine ⟨L, hs, ts, qs, ab, ch % 6, sd, v6', rfl, hT9, by lia, by lia, tb, qne, by lia, by lia, bw.1, bw.2, v60', fun L2 hs2 ts2 qs2 HA sA hTA tbA ngA => ?_⟩
  refine ⟨ab, L2, hs2, ts2, qs2, rfl, hTA, tbA, nab, fun _ HB kB => ⟨rfl, _, rfl, iteF ?_⟩, fun g => absurd g ngA, fun g => absurd g ngA⟩
  have k9B := (Kp.same sA).trans kB
  have k0B := k09.trans k9B
  have hTB := hT9.mono k9B.lst
  show u12 _ _ _
  refine by_eq e12 ?_
  refine ⟨_, rfl, a, ns, 6, rfl, k0B.seq hS, h63, by decide, by decide, fun v7 v70 v71 => ?_⟩
  refine ⟨_, _, rfl, rfl, ⟨by decide, by decide⟩, _, _, rfl, rfl, (by show (0 : Int) < 4; decide), _, _, rfl, rfl, _, rfl, ite2 (fun _ => ?_) (fun _ => ?_)⟩
  ·exact ⟨_, rfl, _, rfl, n, L, hs, ts, qs, rfl, hTB, tb, nN, hg, fi, fun HC _ => q _⟩
  show u13 _ _ _
  refine by_eq e13 ?_
  refine ⟨_, rfl, _, rfl, _, rfl, a, ns, 6, rfl, k0B.seq hS, h63, by decide, by decide, fun v8 v80 v81 => ?_⟩
  have b8 := modB (v8 / 12) (n := 100) (by decide)
  refine ⟨_, _, rfl, rfl, ⟨by decide, by decide⟩, _, _, rfl, rfl, (by show (0 : Int) < 100; decide), _, _, rfl, rfl, n, sd, _, rfl, n4, n64, by lia, by lia, fun bl zb HC sC hbl hRb => ?_⟩
  obtain ⟨m, hm, m1, m2⟩ : ∃ m : Nat, (401 + v8 / 12 % 100).toNat = m ∧ 401 ≤ m ∧ m ≤ 500 := ⟨_, rfl, by lia, by lia⟩
  rw [hm] at hRb
  have hTC := hTB.same sC
  obtain ⟨a1, a2, a3, z1, hLC, ha1, ha2, ha3, hR1⟩ := id hTC
  obtain ⟨bq, bt⟩ := qb_blk (sd := sd) n4 (List.range m)
  have gB : Gd n hs ts ((List.range m).map (blk n sd)) := ⟨by lia, hg.2.1, hg.2.2.1, bq, fun q hq => (bt q hq).1⟩
  have lB : ((List.range m).map (blk n sd)).length = m := by rw [List.length_map, List.length_range]
  have tB : TB hs ts ((List.range m).map (blk n sd)) := tb_of gB n64 (by lia) (by lia) (by lia) fun q hq => (bt q hq).2
  have mB : Many n ((List.range m).map (blk n sd)) := fun ms h1 h2 => .inr (by
   have := (blk_nodup (n := n) (sd := sd) n4 (m := 401) (by decide)).length_le_of_subset (l₂ := ms) fun x hx => (h2 x).mpr (by
    obtain ⟨j, hj, rfl⟩ := List.mem_map.mp hx
    exact List.mem_map.mpr ⟨j, List.mem_range.mpr (by have := List.mem_range.mp hj; lia), rfl⟩)
   rw [List.length_map, List.length_range] at this
   lia)
  show u14 _ _ _
  refine by_eq e14 ?_
  refine ⟨_, rfl, _, rfl, L, _, 0, _, rfl, rfl, SqL.of hLC, rfl, _, rfl, L, _, 1, _, rfl, rfl, SqL.of hLC, rfl, _, rfl, (by show 3 ≤ sizeLine; decide), fun LD hLD => ?_⟩
  have mD := Same.new (o := .lst [.ref a1, .ref a2, .ref bl]) hLD
  have tD : Thg (upd HC LD (.lst [.ref a1, .ref a2, .ref bl])) LD hs ts ((List.range m).map (blk n sd)) := ⟨a1, a2, bl, zb, upd_same, mD _ _ ha1, mD _ _ ha2, mD _ _ hbl, hRb.mono fun b xs e => mD _ _ e⟩
  generalize upd HC LD (.lst [.ref a1, .ref a2, .ref bl]) = HD at mD tD ⊢
  refine ⟨n, LD, hs, ts, _, rfl, tD, tB, nN, fun g => absurd gB g, fun _ _ HE kE => ⟨rfl, _, rfl, iteF ?_⟩, fun _ z ⟨ms, h1, h2, h3⟩ => by have := mB ms h1 h2; lia⟩
  have kCE := (Kp.same mD).trans kE
  show u15 _ _ _
  refine by_eq e15 ?_
  have hLE := kCE.lst _ _ hLC
  refine ⟨_, rfl, _, rfl, L, _, 0, _, rfl, rfl, SqL.of hLE, rfl, _, rfl, L, _, 1, _, rfl, rfl, SqL.of hLE, rfl, _, rfl, (by show 3 ≤ sizeLine; decide), fun LF hLF => ?_⟩
  have mF := Same.new (o := .lst [.ref a1, .ref a2, .ref bl]) hLF
  have kCF := kCE.trans (Kp.same mF)
  have tF : Thg (upd HE LF (.lst [.ref a1, .ref a2, .ref bl])) LF hs ts ((List.range m).map (blk n sd)) := ⟨a1, a2, bl, zb, upd_same, kCF.lst _ _ ha1, kCF.lst _ _ ha2, kCF.lst _ _ hbl, hRb.mono kCF.lst⟩
  generalize upd HE LF (.lst [.ref a1, .ref a2, .ref bl]) = HF at mF kCF tF ⊢
  have bw2 := modB (ch / 7) (n := 6) (by decide)
  refine ⟨_, rfl, _, rfl, _, _, rfl, rfl, ⟨by decide, by decide⟩, _, _, rfl, rfl, (by show (0 : Int) < 6; decide), _, rfl, _, rfl, LF, hs, ts, _, n, ch / 7 % 6, sd, ch, rfl, tF, by lia, by lia, tB, ?_, by lia, by lia, bw2.1, bw2.2, ch0, fun L3 hs3 ts3 qs3 HG sG hTG tbG ngG => ?_⟩
  ·intro z
   rw [z] at lB
   have : (0 : Nat) = m := lB
   lia
  refine ⟨n, L3, hs3, ts3, qs3, rfl, hTG, tbG, nN, fun _ HI kI => ⟨rfl, _, rfl, iteF ?_⟩, fun g => absurd g ngG, fun g => absurd g ngG⟩
  have kCI := (kCF.trans (Kp.same sG)).trans kI
  have hblI := kCI.lst _ _ hbl
  have hRI := hRb.mono kCI.lst
  have zl := hRb.length
  rw [lB] at zl
  show u16 _ _ _
  refine by_eq e16 ?_
  refine ⟨_, rfl, 400, rfl, bl, _, rfl, SqL.of hblI, fun sh hsh => ?_⟩
  rw [cut_400 (by lia)]
  have mS := Same.new (o := .lst (zb.take 400)) hsh
  have nes := hRI.ne hsh
  have hRS := hRI.mono fun b xs e => mS _ _ e
  have hblS := mS _ _ hblI
  have hshS : upd HI sh (.lst (zb.take 400)) sh = some (.lst (zb.take 400)) := upd_same
  have kCS := kCI.trans (Kp.same mS)
  show u17 _ _ _
  generalize upd HI sh (.lst (zb.take 400)) = HS at mS hRS hblS hshS kCS ⊢
  refine by_eq e17 ?_
  obtain ⟨k, ek⟩ := Int.eq_ofNat_of_zero_le (Int.emod_nonneg ch (by decide : (400 : Int) ≠ 0))
  have hk := Int.emod_lt_of_pos ch (by decide : (0 : Int) < 400)
  obtain ⟨j, ej⟩ := Int.eq_ofNat_of_zero_le (Int.emod_nonneg (ch / 400) (by decide : (400 : Int) ≠ 0))
  have hj := Int.emod_lt_of_pos (ch / 400) (by decide : (0 : Int) < 400)
  obtain ⟨rj, qj, g1, g2, g3⟩ := hRS.get j _ (List.getElem?_eq_getElem (show j < zb.length by lia))
  have g4 : zb[j]? = some (.ref rj) := by rw [List.getElem?_eq_getElem (show j < zb.length by lia), g2]
  have eqj : qj = blk n sd j := by
   rw [List.getElem?_map, List.getElem?_range (by lia)] at g1
   injection g1 with g1
   exact g1.symm
  subst eqj
  refine ⟨_, rfl, .inl ⟨rfl, _, SqL.of hshS⟩, _, rfl, _, _, rfl, rfl, (by show (0 : Int) < 400; decide), _, rfl, _, rfl, _, _, rfl, rfl, ⟨by decide, by decide⟩, _, _, rfl, rfl, (by show (0 : Int) < 400; decide), bl, _, (j : Int), _, rfl, congrArg V.int ej, SqL.of hblS, atI_nat g4, rj, _, rfl, .inl (SqL.of g3), fun rn hrn => ?_⟩
  have mN := Same.new (o := .lst (qV (blk n sd j))) hrn
  have hlt : (zb.take 400).length = 400 := by rw [List.length_take]; lia
  refine ⟨sh, _, _, k, .ref rn, rfl, rfl, ek, mN _ _ hshS, by lia, len1000' (by lia), ?_⟩
  have lT : ((List.range m).map (blk n sd)).take 400 = (List.range 400).map (blk n sd) := by
   rw [← List.map_take, List.take_range, Nat.min_eq_left (by lia)]
  have hRN : RLs (upd HS rn (.lst (qV (blk n sd j)))) ((zb.take 400).take k ++ .ref rn :: (zb.take 400).drop k) ((((List.range m).map (blk n sd)).take 400).take k ++ blk n sd j :: (((List.range m).map (blk n sd)).take 400).drop k) := ((hRS.mono fun b xs e => mN _ _ e).take 400).ins upd_same k
  rw [lT] at hRN
  have nsr : sh ≠ rn := ne_of_none hshS hrn
  have hRF := hRN.put (p := sh) (o := .lst ((zb.take 400).take k ++ .ref rn :: (zb.take 400).drop k)) fun z hz e => by
   rcases List.mem_append.mp hz with hz | hz
   ·exact nes z (List.mem_of_mem_take (List.mem_of_mem_take hz)) e
   ·rcases List.mem_cons.mp hz with hz | hz
    ·rw [hz] at e
     injection e with e
     exact nsr e.symm
    ·exact nes z (List.mem_of_mem_take (List.mem_of_mem_drop hz)) e
  obtain ⟨QS, eQS⟩ : ∃ QS, QS = ((List.range 400).map (blk n sd)).take k ++ blk n sd j :: ((List.range 400).map (blk n sd)).drop k := ⟨_, rfl⟩
  rw [← eQS] at hRF
  have mem : ∀ x ∈ QS, x ∈ (List.range 400).map (blk n sd) := fun x hx => by
   rw [eQS] at hx
   rcases List.mem_append.mp hx with hx | hx
   ·exact List.mem_of_mem_take hx
   ·rcases List.mem_cons.mp hx with hx | hx
    ·rw [hx]
     exact List.mem_map.mpr ⟨j, List.mem_range.mpr (by lia), rfl⟩
    ·exact List.mem_of_mem_drop hx
  have lQ : QS.length = 401 := by
   rw [eQS, List.length_append, List.length_cons, List.length_take, List.length_drop, List.length_map, List.length_range]
   lia
  obtain ⟨cq, ct⟩ := qb_blk (sd := sd) n4 (List.range 400)
  have gS : Gd n hs ts QS := ⟨by lia, hg.2.1, hg.2.2.1, fun x hx => cq x (mem x hx), fun x hx => (ct x (mem x hx)).1⟩
  have tS : TB hs ts QS := tb_of gS n64 (by lia) (by lia) (by lia) fun x hx => (ct x (mem x hx)).2
  have fS : Fine n QS := ⟨n64, fun ms h1 h2 => by
   have := (riseQ_nodup h1).length_le_of_subset (l₂ := (List.range 400).map (blk n sd)) fun x hx => mem x (h2 x hx)
   rwa [List.length_map, List.length_range] at this⟩
  have sh0 : HI sh = none := hsh
  have kS2 : ∀ b xs, HI b = some (.lst xs) → (upd (upd HS rn (.lst (qV (blk n sd j)))) sh (.lst ((zb.take 400).take k ++ .ref rn :: (zb.take 400).drop k))) b = some (.lst xs) := fun b xs e => by
   rw [upd_ne (ne_of_none e sh0)]
   exact mN _ _ (mS _ _ e)
  have hshF : (upd (upd HS rn (.lst (qV (blk n sd j)))) sh (.lst ((zb.take 400).take k ++ .ref rn :: (zb.take 400).drop k))) sh = some (.lst ((zb.take 400).take k ++ .ref rn :: (zb.take 400).drop k)) := upd_same
  generalize upd (upd HS rn (.lst (qV (blk n sd j)))) sh (.lst ((zb.take 400).take k ++ .ref rn :: (zb.take 400).drop k)) = HW at hRF kS2 hshF ⊢
  have hTW : Thg HW L hs ts qs := (hTC.mono kCI.lst).mono kS2
  have kk : ∀ b xs, HC b = some (.lst xs) → HW b = some (.lst xs) := fun b xs e => kS2 b xs (kCI.lst b xs e)
  have hLW := kk _ _ hLC
  show u18 _ _ _
  refine by_eq e18 ?_
  refine ⟨_, rfl, _, rfl, L, _, 0, _, rfl, rfl, SqL.of hLW, rfl, _, rfl, L, _, 1, _, rfl, rfl, SqL.of hLW, rfl, _, rfl, (by show 3 ≤ sizeLine; decide), fun LX hLX => ?_⟩
  have mX := Same.new (o := .lst [.ref a1, .ref a2, .ref sh]) hLX
  have tX : Thg (upd HW LX (.lst [.ref a1, .ref a2, .ref sh])) LX hs ts QS := ⟨a1, a2, sh, _, upd_same, mX _ _ (kk _ _ ha1), mX _ _ (kk _ _ ha2), mX _ _ hshF, hRF.mono fun b xs e => mX _ _ e⟩
  refine ⟨n, LX, hs, ts, QS, rfl, tX, tS, nN, gS, fS, fun HY kY => ⟨true, rfl, iteT ?_⟩⟩
  exact ⟨_, rfl, _, rfl, n, L, hs, ts, qs, rfl, (hTW.same mX).mono kY.lst, tb, nN, hg, fi, fun HZ _ => q _⟩
 refine ⟨_, rfl, a, ns, 6, rfl, k06.seq hS, h63, by decide, by decide, fun v9 v90 v91 => ?_⟩
 refine ⟨_, _, rfl, rfl, (by show (0 : Int) < 3; decide), rfl, _, rfl, ite2 (fun _ => ?_) (fun _ => ?_)⟩
 ·exact rest 65 (by decide) (by decide)
 ·exact rest ab ab0 ab1
end
theorem all_mk {l : PySem.W.OpenLaw} {w : World} {K : PySem.W.Frag} {h : Heap} {mg : Str → Option Value} {fa f1 f2 f3 f4 f5 f6 f7 f8 f9 f10 f11 f12 f13 f14 f15 : Addr} (X : K.In h) (G : h.Ns mainGlobals mg) (hfa : mg "law" = some (.ref fa))
  {od1 an1 od2 an2 od3 an3 od4 an4 od5 an5 od6 an6 od7 an7 od8 an8 od9 an9 od10 an10 od11 an11 od12 an12 od13 an13 od14 an14 od15 an15 : Option Addr} {sl1 sl2 sl3 sl4 sl5 sl6 sl7 sl8 sl9 sl10 sl11 sl12 sl13 sl14 sl15 : Array (Option Value)} {oc1 kV1 dc1 pm1 cd1 ct1 oc2 kV2 dc2 pm2 cd2 ct2 oc3 kV3 dc3 pm3 cd3 ct3 oc4 kV4 dc4 pm4 cd4 ct4 oc5 kV5 dc5 pm5 cd5 ct5 oc6 kV6 dc6 pm6 cd6 ct6 oc7 kV7 dc7 pm7 cd7 ct7 oc8 kV8 dc8 pm8 cd8 ct8 oc9 kV9 dc9 pm9 cd9 ct9 oc10 kV10 dc10 pm10 cd10 ct10 oc11 kV11 dc11 pm11 cd11 ct11 oc12 kV12 dc12 pm12 cd12 ct12 oc13 kV13 dc13 pm13 cd13 ct13 oc14 kV14 dc14 pm14 cd14 ct14 oc15 kV15 dc15 pm15 cd15 ct15 : Value}
  {X_GroveError X_NoGrove X_BadForm X_TooMany X_TooBig X_NoneFits X_NoBook X_TwiceNamed X_NoName X_Ring X_BadChanger X_NoRecipe X_NotStraight X_NoChange X_NoRow : Addr}
  (xn_GroveError : PySem.W.nsIn K mainGlobals "GroveError" = some (some (.ref X_GroveError)))
  (xn_NoGrove : PySem.W.nsIn K mainGlobals "NoGrove" = some (some (.ref X_NoGrove)))
  (xn_BadForm : PySem.W.nsIn K mainGlobals "BadForm" = some (some (.ref X_BadForm)))
  (xn_TooMany : PySem.W.nsIn K mainGlobals "TooMany" = some (some (.ref X_TooMany)))
  (xn_TooBig : PySem.W.nsIn K mainGlobals "TooBig" = some (some (.ref X_TooBig)))
  (xn_NoneFits : PySem.W.nsIn K mainGlobals "NoneFits" = some (some (.ref X_NoneFits)))
  (xn_NoBook : PySem.W.nsIn K mainGlobals "NoBook" = some (some (.ref X_NoBook)))
  (xn_TwiceNamed : PySem.W.nsIn K mainGlobals "TwiceNamed" = some (some (.ref X_TwiceNamed)))
  (xn_NoName : PySem.W.nsIn K mainGlobals "NoName" = some (some (.ref X_NoName)))
  (xn_Ring : PySem.W.nsIn K mainGlobals "Ring" = some (some (.ref X_Ring)))
  (xn_BadChanger : PySem.W.nsIn K mainGlobals "BadChanger" = some (some (.ref X_BadChanger)))
  (xn_NoRecipe : PySem.W.nsIn K mainGlobals "NoRecipe" = some (some (.ref X_NoRecipe)))
  (xn_NotStraight : PySem.W.nsIn K mainGlobals "NotStraight" = some (some (.ref X_NotStraight)))
  (xn_NoChange : PySem.W.nsIn K mainGlobals "NoChange" = some (some (.ref X_NoChange)))
  (xn_NoRow : PySem.W.nsIn K mainGlobals "NoRow" = some (some (.ref X_NoRow)))
  {g0 goc : Value} {gdd god : Option Addr} {gcd : ClassData} {gsl gsl' : Array (Option Value)} {ges : Array DictEntry} {gep : Nat} (xg1 : K.lookup X_GroveError = some ⟨g0, gdd, .cls gcd, gsl⟩) (xg2 : K.lookup gcd.ns = some ⟨goc, god, .dict ges gep, gsl'⟩) (xg3 : keysOk ges = true) (xg4 : PySem.W.nsIn K gcd.ns "__init__" = some none)
  (xb1 : PySem.W.specialIn K (.ref X_GroveError) "__getattribute__" = some (some (.builtin "type.__getattribute__"))) (xb2 : PySem.W.readsIn K X_GroveError (.type "type") = true) (xb3 : PySem.W.findCls K (.ref X_GroveError) (.type "type") "__init__" = some (.val (.builtin "ValueError.__init__"))) (xb4 : PySem.W.isClsIn K X_GroveError = true) (xb5 : PySem.W.typeIn K (.ref X_GroveError) = some (.type "type"))
  (d1_GroveError : PySem.W.isClsIn K X_GroveError = true) (d2_GroveError : PySem.W.mroIn K X_GroveError (.type "BaseException") = some true) (d3_GroveError : PySem.W.instIn K (.ref X_GroveError) (.type "tuple") = some false)
  (d1_NoGrove : PySem.W.isClsIn K X_NoGrove = true) (d2_NoGrove : PySem.W.mroIn K X_NoGrove (.type "BaseException") = some true) (d3_NoGrove : PySem.W.instIn K (.ref X_NoGrove) (.type "tuple") = some false)
  (d1_BadForm : PySem.W.isClsIn K X_BadForm = true) (d2_BadForm : PySem.W.mroIn K X_BadForm (.type "BaseException") = some true) (d3_BadForm : PySem.W.instIn K (.ref X_BadForm) (.type "tuple") = some false)
  (d1_TooMany : PySem.W.isClsIn K X_TooMany = true) (d2_TooMany : PySem.W.mroIn K X_TooMany (.type "BaseException") = some true) (d3_TooMany : PySem.W.instIn K (.ref X_TooMany) (.type "tuple") = some false)
  (d1_TooBig : PySem.W.isClsIn K X_TooBig = true) (d2_TooBig : PySem.W.mroIn K X_TooBig (.type "BaseException") = some true) (d3_TooBig : PySem.W.instIn K (.ref X_TooBig) (.type "tuple") = some false)
  (d1_NoneFits : PySem.W.isClsIn K X_NoneFits = true) (d2_NoneFits : PySem.W.mroIn K X_NoneFits (.type "BaseException") = some true) (d3_NoneFits : PySem.W.instIn K (.ref X_NoneFits) (.type "tuple") = some false)
  (d1_NoBook : PySem.W.isClsIn K X_NoBook = true) (d2_NoBook : PySem.W.mroIn K X_NoBook (.type "BaseException") = some true) (d3_NoBook : PySem.W.instIn K (.ref X_NoBook) (.type "tuple") = some false)
  (d1_TwiceNamed : PySem.W.isClsIn K X_TwiceNamed = true) (d2_TwiceNamed : PySem.W.mroIn K X_TwiceNamed (.type "BaseException") = some true) (d3_TwiceNamed : PySem.W.instIn K (.ref X_TwiceNamed) (.type "tuple") = some false)
  (d1_NoName : PySem.W.isClsIn K X_NoName = true) (d2_NoName : PySem.W.mroIn K X_NoName (.type "BaseException") = some true) (d3_NoName : PySem.W.instIn K (.ref X_NoName) (.type "tuple") = some false)
  (d1_Ring : PySem.W.isClsIn K X_Ring = true) (d2_Ring : PySem.W.mroIn K X_Ring (.type "BaseException") = some true) (d3_Ring : PySem.W.instIn K (.ref X_Ring) (.type "tuple") = some false)
  (d1_BadChanger : PySem.W.isClsIn K X_BadChanger = true) (d2_BadChanger : PySem.W.mroIn K X_BadChanger (.type "BaseException") = some true) (d3_BadChanger : PySem.W.instIn K (.ref X_BadChanger) (.type "tuple") = some false)
  (d1_NoRecipe : PySem.W.isClsIn K X_NoRecipe = true) (d2_NoRecipe : PySem.W.mroIn K X_NoRecipe (.type "BaseException") = some true) (d3_NoRecipe : PySem.W.instIn K (.ref X_NoRecipe) (.type "tuple") = some false)
  (d1_NotStraight : PySem.W.isClsIn K X_NotStraight = true) (d2_NotStraight : PySem.W.mroIn K X_NotStraight (.type "BaseException") = some true) (d3_NotStraight : PySem.W.instIn K (.ref X_NotStraight) (.type "tuple") = some false)
  (d1_NoChange : PySem.W.isClsIn K X_NoChange = true) (d2_NoChange : PySem.W.mroIn K X_NoChange (.type "BaseException") = some true) (d3_NoChange : PySem.W.instIn K (.ref X_NoChange) (.type "tuple") = some false)
  (d1_NoRow : PySem.W.isClsIn K X_NoRow = true) (d2_NoRow : PySem.W.mroIn K X_NoRow (.type "BaseException") = some true) (d3_NoRow : PySem.W.instIn K (.ref X_NoRow) (.type "tuple") = some false)
  {nm_BadForm q_BadForm : Str} {N_BadForm : Addr} {bs_BadForm : List Value} {hdct_BadForm : Bool} {sn_BadForm : List Str} {sub_BadForm : List Value} {ab_BadForm : Bool} {col_BadForm : Option Bool} {dd_BadForm : Option Addr} {k0_BadForm k1_BadForm k2_BadForm k3_BadForm k5_BadForm : Option Value}
  (xl_BadForm : K.lookup X_BadForm = some (excClassObj nm_BadForm q_BadForm X_BadForm N_BadForm bs_BadForm (.ref X_GroveError :: bmV) hdct_BadForm sn_BadForm sub_BadForm ab_BadForm col_BadForm dd_BadForm k0_BadForm k1_BadForm k2_BadForm k3_BadForm k5_BadForm "ValueError.__new__"))
  (xc_BadForm : PySem.W.specialIn K (.ref X_BadForm) "__call__" = some (some (.builtin "type.__call__"))) (xt_BadForm : PySem.W.instIn K (.ref X_BadForm) (.type "type") = some true) (xk_BadForm : PySem.W.keepIn K (.ref X_BadForm) = true) (xv_BadForm : PySem.W.mroIn K X_BadForm (.type "ValueError") = some true)
  (xe_BadForm : X_BadForm ≠ X_GroveError)
  (o1_BadForm_TooMany : PySem.W.findIn K (.ref X_BadForm) "__class__" = some (some (.builtin "object.__class__"))) (o2_BadForm_TooMany : PySem.W.specialIn K (.builtin "object.__class__") "__get__" = some (some (.builtin "getset_descriptor.__get__"))) (o3_BadForm_TooMany : PySem.W.takesIn K (.builtin "object.__class__") = some true) (o4_BadForm_TooMany : PySem.W.mroIn K X_BadForm (.type "object") = some true) (o5_BadForm_TooMany : PySem.W.typeIn K (.ref X_TooMany) = some (.type "type")) (o6_BadForm_TooMany : X_BadForm ≠ X_TooMany)
  (o1_BadForm_NoGrove : PySem.W.findIn K (.ref X_BadForm) "__class__" = some (some (.builtin "object.__class__"))) (o2_BadForm_NoGrove : PySem.W.specialIn K (.builtin "object.__class__") "__get__" = some (some (.builtin "getset_descriptor.__get__"))) (o3_BadForm_NoGrove : PySem.W.takesIn K (.builtin "object.__class__") = some true) (o4_BadForm_NoGrove : PySem.W.mroIn K X_BadForm (.type "object") = some true) (o5_BadForm_NoGrove : PySem.W.typeIn K (.ref X_NoGrove) = some (.type "type")) (o6_BadForm_NoGrove : X_BadForm ≠ X_NoGrove)
  (o1_BadForm_TooBig : PySem.W.findIn K (.ref X_BadForm) "__class__" = some (some (.builtin "object.__class__"))) (o2_BadForm_TooBig : PySem.W.specialIn K (.builtin "object.__class__") "__get__" = some (some (.builtin "getset_descriptor.__get__"))) (o3_BadForm_TooBig : PySem.W.takesIn K (.builtin "object.__class__") = some true) (o4_BadForm_TooBig : PySem.W.mroIn K X_BadForm (.type "object") = some true) (o5_BadForm_TooBig : PySem.W.typeIn K (.ref X_TooBig) = some (.type "type")) (o6_BadForm_TooBig : X_BadForm ≠ X_TooBig)
  (o1_BadForm_NoneFits : PySem.W.findIn K (.ref X_BadForm) "__class__" = some (some (.builtin "object.__class__"))) (o2_BadForm_NoneFits : PySem.W.specialIn K (.builtin "object.__class__") "__get__" = some (some (.builtin "getset_descriptor.__get__"))) (o3_BadForm_NoneFits : PySem.W.takesIn K (.builtin "object.__class__") = some true) (o4_BadForm_NoneFits : PySem.W.mroIn K X_BadForm (.type "object") = some true) (o5_BadForm_NoneFits : PySem.W.typeIn K (.ref X_NoneFits) = some (.type "type")) (o6_BadForm_NoneFits : X_BadForm ≠ X_NoneFits)
  (o1_BadForm_NoBook : PySem.W.findIn K (.ref X_BadForm) "__class__" = some (some (.builtin "object.__class__"))) (o2_BadForm_NoBook : PySem.W.specialIn K (.builtin "object.__class__") "__get__" = some (some (.builtin "getset_descriptor.__get__"))) (o3_BadForm_NoBook : PySem.W.takesIn K (.builtin "object.__class__") = some true) (o4_BadForm_NoBook : PySem.W.mroIn K X_BadForm (.type "object") = some true) (o5_BadForm_NoBook : PySem.W.typeIn K (.ref X_NoBook) = some (.type "type")) (o6_BadForm_NoBook : X_BadForm ≠ X_NoBook)
  (o1_BadForm_TwiceNamed : PySem.W.findIn K (.ref X_BadForm) "__class__" = some (some (.builtin "object.__class__"))) (o2_BadForm_TwiceNamed : PySem.W.specialIn K (.builtin "object.__class__") "__get__" = some (some (.builtin "getset_descriptor.__get__"))) (o3_BadForm_TwiceNamed : PySem.W.takesIn K (.builtin "object.__class__") = some true) (o4_BadForm_TwiceNamed : PySem.W.mroIn K X_BadForm (.type "object") = some true) (o5_BadForm_TwiceNamed : PySem.W.typeIn K (.ref X_TwiceNamed) = some (.type "type")) (o6_BadForm_TwiceNamed : X_BadForm ≠ X_TwiceNamed)
  (o1_BadForm_NoName : PySem.W.findIn K (.ref X_BadForm) "__class__" = some (some (.builtin "object.__class__"))) (o2_BadForm_NoName : PySem.W.specialIn K (.builtin "object.__class__") "__get__" = some (some (.builtin "getset_descriptor.__get__"))) (o3_BadForm_NoName : PySem.W.takesIn K (.builtin "object.__class__") = some true) (o4_BadForm_NoName : PySem.W.mroIn K X_BadForm (.type "object") = some true) (o5_BadForm_NoName : PySem.W.typeIn K (.ref X_NoName) = some (.type "type")) (o6_BadForm_NoName : X_BadForm ≠ X_NoName)
  (o1_BadForm_Ring : PySem.W.findIn K (.ref X_BadForm) "__class__" = some (some (.builtin "object.__class__"))) (o2_BadForm_Ring : PySem.W.specialIn K (.builtin "object.__class__") "__get__" = some (some (.builtin "getset_descriptor.__get__"))) (o3_BadForm_Ring : PySem.W.takesIn K (.builtin "object.__class__") = some true) (o4_BadForm_Ring : PySem.W.mroIn K X_BadForm (.type "object") = some true) (o5_BadForm_Ring : PySem.W.typeIn K (.ref X_Ring) = some (.type "type")) (o6_BadForm_Ring : X_BadForm ≠ X_Ring)
  (o1_BadForm_BadChanger : PySem.W.findIn K (.ref X_BadForm) "__class__" = some (some (.builtin "object.__class__"))) (o2_BadForm_BadChanger : PySem.W.specialIn K (.builtin "object.__class__") "__get__" = some (some (.builtin "getset_descriptor.__get__"))) (o3_BadForm_BadChanger : PySem.W.takesIn K (.builtin "object.__class__") = some true) (o4_BadForm_BadChanger : PySem.W.mroIn K X_BadForm (.type "object") = some true) (o5_BadForm_BadChanger : PySem.W.typeIn K (.ref X_BadChanger) = some (.type "type")) (o6_BadForm_BadChanger : X_BadForm ≠ X_BadChanger)
  (o1_BadForm_NoRecipe : PySem.W.findIn K (.ref X_BadForm) "__class__" = some (some (.builtin "object.__class__"))) (o2_BadForm_NoRecipe : PySem.W.specialIn K (.builtin "object.__class__") "__get__" = some (some (.builtin "getset_descriptor.__get__"))) (o3_BadForm_NoRecipe : PySem.W.takesIn K (.builtin "object.__class__") = some true) (o4_BadForm_NoRecipe : PySem.W.mroIn K X_BadForm (.type "object") = some true) (o5_BadForm_NoRecipe : PySem.W.typeIn K (.ref X_NoRecipe) = some (.type "type")) (o6_BadForm_NoRecipe : X_BadForm ≠ X_NoRecipe)
  (o1_BadForm_NoChange : PySem.W.findIn K (.ref X_BadForm) "__class__" = some (some (.builtin "object.__class__"))) (o2_BadForm_NoChange : PySem.W.specialIn K (.builtin "object.__class__") "__get__" = some (some (.builtin "getset_descriptor.__get__"))) (o3_BadForm_NoChange : PySem.W.takesIn K (.builtin "object.__class__") = some true) (o4_BadForm_NoChange : PySem.W.mroIn K X_BadForm (.type "object") = some true) (o5_BadForm_NoChange : PySem.W.typeIn K (.ref X_NoChange) = some (.type "type")) (o6_BadForm_NoChange : X_BadForm ≠ X_NoChange)
  (o1_BadForm_NoRow : PySem.W.findIn K (.ref X_BadForm) "__class__" = some (some (.builtin "object.__class__"))) (o2_BadForm_NoRow : PySem.W.specialIn K (.builtin "object.__class__") "__get__" = some (some (.builtin "getset_descriptor.__get__"))) (o3_BadForm_NoRow : PySem.W.takesIn K (.builtin "object.__class__") = some true) (o4_BadForm_NoRow : PySem.W.mroIn K X_BadForm (.type "object") = some true) (o5_BadForm_NoRow : PySem.W.typeIn K (.ref X_NoRow) = some (.type "type")) (o6_BadForm_NoRow : X_BadForm ≠ X_NoRow)
  (o1_BadForm_NotStraight : PySem.W.findIn K (.ref X_BadForm) "__class__" = some (some (.builtin "object.__class__"))) (o2_BadForm_NotStraight : PySem.W.specialIn K (.builtin "object.__class__") "__get__" = some (some (.builtin "getset_descriptor.__get__"))) (o3_BadForm_NotStraight : PySem.W.takesIn K (.builtin "object.__class__") = some true) (o4_BadForm_NotStraight : PySem.W.mroIn K X_BadForm (.type "object") = some true) (o5_BadForm_NotStraight : PySem.W.typeIn K (.ref X_NotStraight) = some (.type "type")) (o6_BadForm_NotStraight : X_BadForm ≠ X_NotStraight)
  (xi_BadForm : PySem.W.findIn K (.ref X_BadForm) "__init__" = some (some (.builtin "ValueError.__init__")))
  (f1_BadForm_place : PySem.W.findIn K (.ref X_BadForm) "__setattr__" = some (some (.builtin "object.__setattr__"))) (f2_BadForm_place : PySem.W.findIn K (.ref X_BadForm) "place" = some none) (f3_BadForm_place : PySem.W.hasDictIn K X_BadForm = true) (f4_BadForm_place : PySem.W.findIn K (.ref X_BadForm) "__getattribute__" = some (some (.builtin "BaseException.__getattribute__"))) (f5_BadForm_place : PySem.W.findIn K (.ref X_BadForm) "__getattr__" = some none)
  (m_BadForm_GroveError : PySem.W.mroIn K X_BadForm (.ref X_GroveError) = some true)
  (m_BadForm_NoGrove : PySem.W.mroIn K X_BadForm (.ref X_NoGrove) = some false)
  (m_BadForm_BadForm : PySem.W.mroIn K X_BadForm (.ref X_BadForm) = some true)
  (m_BadForm_TooMany : PySem.W.mroIn K X_BadForm (.ref X_TooMany) = some false)
  (m_BadForm_TooBig : PySem.W.mroIn K X_BadForm (.ref X_TooBig) = some false)
  (m_BadForm_NoneFits : PySem.W.mroIn K X_BadForm (.ref X_NoneFits) = some false)
  (m_BadForm_NoBook : PySem.W.mroIn K X_BadForm (.ref X_NoBook) = some false)
  (m_BadForm_TwiceNamed : PySem.W.mroIn K X_BadForm (.ref X_TwiceNamed) = some false)
  (m_BadForm_NoName : PySem.W.mroIn K X_BadForm (.ref X_NoName) = some false)
  (m_BadForm_Ring : PySem.W.mroIn K X_BadForm (.ref X_Ring) = some false)
  (m_BadForm_BadChanger : PySem.W.mroIn K X_BadForm (.ref X_BadChanger) = some false)
  (m_BadForm_NoRecipe : PySem.W.mroIn K X_BadForm (.ref X_NoRecipe) = some false)
  (m_BadForm_NotStraight : PySem.W.mroIn K X_BadForm (.ref X_NotStraight) = some false)
  (m_BadForm_NoChange : PySem.W.mroIn K X_BadForm (.ref X_NoChange) = some false)
  (m_BadForm_NoRow : PySem.W.mroIn K X_BadForm (.ref X_NoRow) = some false)
  {nm_TooMany q_TooMany : Str} {N_TooMany : Addr} {bs_TooMany : List Value} {hdct_TooMany : Bool} {sn_TooMany : List Str} {sub_TooMany : List Value} {ab_TooMany : Bool} {col_TooMany : Option Bool} {dd_TooMany : Option Addr} {k0_TooMany k1_TooMany k2_TooMany k3_TooMany k5_TooMany : Option Value}
  (xl_TooMany : K.lookup X_TooMany = some (excClassObj nm_TooMany q_TooMany X_TooMany N_TooMany bs_TooMany (.ref X_GroveError :: bmV) hdct_TooMany sn_TooMany sub_TooMany ab_TooMany col_TooMany dd_TooMany k0_TooMany k1_TooMany k2_TooMany k3_TooMany k5_TooMany "ValueError.__new__"))
  (xc_TooMany : PySem.W.specialIn K (.ref X_TooMany) "__call__" = some (some (.builtin "type.__call__"))) (xt_TooMany : PySem.W.instIn K (.ref X_TooMany) (.type "type") = some true) (xk_TooMany : PySem.W.keepIn K (.ref X_TooMany) = true) (xv_TooMany : PySem.W.mroIn K X_TooMany (.type "ValueError") = some true)
  (xe_TooMany : X_TooMany ≠ X_GroveError)
  (o1_TooMany_BadForm : PySem.W.findIn K (.ref X_TooMany) "__class__" = some (some (.builtin "object.__class__"))) (o2_TooMany_BadForm : PySem.W.specialIn K (.builtin "object.__class__") "__get__" = some (some (.builtin "getset_descriptor.__get__"))) (o3_TooMany_BadForm : PySem.W.takesIn K (.builtin "object.__class__") = some true) (o4_TooMany_BadForm : PySem.W.mroIn K X_TooMany (.type "object") = some true) (o5_TooMany_BadForm : PySem.W.typeIn K (.ref X_BadForm) = some (.type "type")) (o6_TooMany_BadForm : X_TooMany ≠ X_BadForm)
  (o1_TooMany_NoGrove : PySem.W.findIn K (.ref X_TooMany) "__class__" = some (some (.builtin "object.__class__"))) (o2_TooMany_NoGrove : PySem.W.specialIn K (.builtin "object.__class__") "__get__" = some (some (.builtin "getset_descriptor.__get__"))) (o3_TooMany_NoGrove : PySem.W.takesIn K (.builtin "object.__class__") = some true) (o4_TooMany_NoGrove : PySem.W.mroIn K X_TooMany (.type "object") = some true) (o5_TooMany_NoGrove : PySem.W.typeIn K (.ref X_NoGrove) = some (.type "type")) (o6_TooMany_NoGrove : X_TooMany ≠ X_NoGrove)
  (o1_TooMany_TooBig : PySem.W.findIn K (.ref X_TooMany) "__class__" = some (some (.builtin "object.__class__"))) (o2_TooMany_TooBig : PySem.W.specialIn K (.builtin "object.__class__") "__get__" = some (some (.builtin "getset_descriptor.__get__"))) (o3_TooMany_TooBig : PySem.W.takesIn K (.builtin "object.__class__") = some true) (o4_TooMany_TooBig : PySem.W.mroIn K X_TooMany (.type "object") = some true) (o5_TooMany_TooBig : PySem.W.typeIn K (.ref X_TooBig) = some (.type "type")) (o6_TooMany_TooBig : X_TooMany ≠ X_TooBig)
  (o1_TooMany_NoneFits : PySem.W.findIn K (.ref X_TooMany) "__class__" = some (some (.builtin "object.__class__"))) (o2_TooMany_NoneFits : PySem.W.specialIn K (.builtin "object.__class__") "__get__" = some (some (.builtin "getset_descriptor.__get__"))) (o3_TooMany_NoneFits : PySem.W.takesIn K (.builtin "object.__class__") = some true) (o4_TooMany_NoneFits : PySem.W.mroIn K X_TooMany (.type "object") = some true) (o5_TooMany_NoneFits : PySem.W.typeIn K (.ref X_NoneFits) = some (.type "type")) (o6_TooMany_NoneFits : X_TooMany ≠ X_NoneFits)
  (o1_TooMany_NoBook : PySem.W.findIn K (.ref X_TooMany) "__class__" = some (some (.builtin "object.__class__"))) (o2_TooMany_NoBook : PySem.W.specialIn K (.builtin "object.__class__") "__get__" = some (some (.builtin "getset_descriptor.__get__"))) (o3_TooMany_NoBook : PySem.W.takesIn K (.builtin "object.__class__") = some true) (o4_TooMany_NoBook : PySem.W.mroIn K X_TooMany (.type "object") = some true) (o5_TooMany_NoBook : PySem.W.typeIn K (.ref X_NoBook) = some (.type "type")) (o6_TooMany_NoBook : X_TooMany ≠ X_NoBook)
  (o1_TooMany_TwiceNamed : PySem.W.findIn K (.ref X_TooMany) "__class__" = some (some (.builtin "object.__class__"))) (o2_TooMany_TwiceNamed : PySem.W.specialIn K (.builtin "object.__class__") "__get__" = some (some (.builtin "getset_descriptor.__get__"))) (o3_TooMany_TwiceNamed : PySem.W.takesIn K (.builtin "object.__class__") = some true) (o4_TooMany_TwiceNamed : PySem.W.mroIn K X_TooMany (.type "object") = some true) (o5_TooMany_TwiceNamed : PySem.W.typeIn K (.ref X_TwiceNamed) = some (.type "type")) (o6_TooMany_TwiceNamed : X_TooMany ≠ X_TwiceNamed)
  (o1_TooMany_NoName : PySem.W.findIn K (.ref X_TooMany) "__class__" = some (some (.builtin "object.__class__"))) (o2_TooMany_NoName : PySem.W.specialIn K (.builtin "object.__class__") "__get__" = some (some (.builtin "getset_descriptor.__get__"))) (o3_TooMany_NoName : PySem.W.takesIn K (.builtin "object.__class__") = some true) (o4_TooMany_NoName : PySem.W.mroIn K X_TooMany (.type "object") = some true) (o5_TooMany_NoName : PySem.W.typeIn K (.ref X_NoName) = some (.type "type")) (o6_TooMany_NoName : X_TooMany ≠ X_NoName)
  (o1_TooMany_Ring : PySem.W.findIn K (.ref X_TooMany) "__class__" = some (some (.builtin "object.__class__"))) (o2_TooMany_Ring : PySem.W.specialIn K (.builtin "object.__class__") "__get__" = some (some (.builtin "getset_descriptor.__get__"))) (o3_TooMany_Ring : PySem.W.takesIn K (.builtin "object.__class__") = some true) (o4_TooMany_Ring : PySem.W.mroIn K X_TooMany (.type "object") = some true) (o5_TooMany_Ring : PySem.W.typeIn K (.ref X_Ring) = some (.type "type")) (o6_TooMany_Ring : X_TooMany ≠ X_Ring)
  (o1_TooMany_BadChanger : PySem.W.findIn K (.ref X_TooMany) "__class__" = some (some (.builtin "object.__class__"))) (o2_TooMany_BadChanger : PySem.W.specialIn K (.builtin "object.__class__") "__get__" = some (some (.builtin "getset_descriptor.__get__"))) (o3_TooMany_BadChanger : PySem.W.takesIn K (.builtin "object.__class__") = some true) (o4_TooMany_BadChanger : PySem.W.mroIn K X_TooMany (.type "object") = some true) (o5_TooMany_BadChanger : PySem.W.typeIn K (.ref X_BadChanger) = some (.type "type")) (o6_TooMany_BadChanger : X_TooMany ≠ X_BadChanger)
  (o1_TooMany_NoRecipe : PySem.W.findIn K (.ref X_TooMany) "__class__" = some (some (.builtin "object.__class__"))) (o2_TooMany_NoRecipe : PySem.W.specialIn K (.builtin "object.__class__") "__get__" = some (some (.builtin "getset_descriptor.__get__"))) (o3_TooMany_NoRecipe : PySem.W.takesIn K (.builtin "object.__class__") = some true) (o4_TooMany_NoRecipe : PySem.W.mroIn K X_TooMany (.type "object") = some true) (o5_TooMany_NoRecipe : PySem.W.typeIn K (.ref X_NoRecipe) = some (.type "type")) (o6_TooMany_NoRecipe : X_TooMany ≠ X_NoRecipe)
  (o1_TooMany_NoChange : PySem.W.findIn K (.ref X_TooMany) "__class__" = some (some (.builtin "object.__class__"))) (o2_TooMany_NoChange : PySem.W.specialIn K (.builtin "object.__class__") "__get__" = some (some (.builtin "getset_descriptor.__get__"))) (o3_TooMany_NoChange : PySem.W.takesIn K (.builtin "object.__class__") = some true) (o4_TooMany_NoChange : PySem.W.mroIn K X_TooMany (.type "object") = some true) (o5_TooMany_NoChange : PySem.W.typeIn K (.ref X_NoChange) = some (.type "type")) (o6_TooMany_NoChange : X_TooMany ≠ X_NoChange)
  (o1_TooMany_NoRow : PySem.W.findIn K (.ref X_TooMany) "__class__" = some (some (.builtin "object.__class__"))) (o2_TooMany_NoRow : PySem.W.specialIn K (.builtin "object.__class__") "__get__" = some (some (.builtin "getset_descriptor.__get__"))) (o3_TooMany_NoRow : PySem.W.takesIn K (.builtin "object.__class__") = some true) (o4_TooMany_NoRow : PySem.W.mroIn K X_TooMany (.type "object") = some true) (o5_TooMany_NoRow : PySem.W.typeIn K (.ref X_NoRow) = some (.type "type")) (o6_TooMany_NoRow : X_TooMany ≠ X_NoRow)
  (o1_TooMany_NotStraight : PySem.W.findIn K (.ref X_TooMany) "__class__" = some (some (.builtin "object.__class__"))) (o2_TooMany_NotStraight : PySem.W.specialIn K (.builtin "object.__class__") "__get__" = some (some (.builtin "getset_descriptor.__get__"))) (o3_TooMany_NotStraight : PySem.W.takesIn K (.builtin "object.__class__") = some true) (o4_TooMany_NotStraight : PySem.W.mroIn K X_TooMany (.type "object") = some true) (o5_TooMany_NotStraight : PySem.W.typeIn K (.ref X_NotStraight) = some (.type "type")) (o6_TooMany_NotStraight : X_TooMany ≠ X_NotStraight)
  (xi_TooMany : PySem.W.findIn K (.ref X_TooMany) "__init__" = some (some (.builtin "ValueError.__init__")))
  (f1_TooMany_place : PySem.W.findIn K (.ref X_TooMany) "__setattr__" = some (some (.builtin "object.__setattr__"))) (f2_TooMany_place : PySem.W.findIn K (.ref X_TooMany) "place" = some none) (f3_TooMany_place : PySem.W.hasDictIn K X_TooMany = true) (f4_TooMany_place : PySem.W.findIn K (.ref X_TooMany) "__getattribute__" = some (some (.builtin "BaseException.__getattribute__"))) (f5_TooMany_place : PySem.W.findIn K (.ref X_TooMany) "__getattr__" = some none)
  (m_TooMany_GroveError : PySem.W.mroIn K X_TooMany (.ref X_GroveError) = some true)
  (m_TooMany_NoGrove : PySem.W.mroIn K X_TooMany (.ref X_NoGrove) = some false)
  (m_TooMany_BadForm : PySem.W.mroIn K X_TooMany (.ref X_BadForm) = some false)
  (m_TooMany_TooMany : PySem.W.mroIn K X_TooMany (.ref X_TooMany) = some true)
  (m_TooMany_TooBig : PySem.W.mroIn K X_TooMany (.ref X_TooBig) = some false)
  (m_TooMany_NoneFits : PySem.W.mroIn K X_TooMany (.ref X_NoneFits) = some false)
  (m_TooMany_NoBook : PySem.W.mroIn K X_TooMany (.ref X_NoBook) = some false)
  (m_TooMany_TwiceNamed : PySem.W.mroIn K X_TooMany (.ref X_TwiceNamed) = some false)
  (m_TooMany_NoName : PySem.W.mroIn K X_TooMany (.ref X_NoName) = some false)
  (m_TooMany_Ring : PySem.W.mroIn K X_TooMany (.ref X_Ring) = some false)
  (m_TooMany_BadChanger : PySem.W.mroIn K X_TooMany (.ref X_BadChanger) = some false)
  (m_TooMany_NoRecipe : PySem.W.mroIn K X_TooMany (.ref X_NoRecipe) = some false)
  (m_TooMany_NotStraight : PySem.W.mroIn K X_TooMany (.ref X_NotStraight) = some false)
  (m_TooMany_NoChange : PySem.W.mroIn K X_TooMany (.ref X_NoChange) = some false)
  (m_TooMany_NoRow : PySem.W.mroIn K X_TooMany (.ref X_NoRow) = some false)
  (a1 : PySem.W.nsIn K mainGlobals "_law_cell" = some (some (.ref f1))) (l1 : K.lookup f1 = some ⟨oc1, od1, .func (PySem.W.fnOf "_law_cell" "_law_cell" (defArgs s_l_cell) (defBody s_l_cell) (defScope s_l_cell) .none kV1 dc1 pm1 an1 cd1 ct1), sl1⟩) (c1 : PySem.W.codeIn K cd1 "_law_cell" = true) (k1 : PySem.W.keepIn K (.ref f1) = true)
  (a2 : PySem.W.nsIn K mainGlobals "_law_tag" = some (some (.ref f2))) (l2 : K.lookup f2 = some ⟨oc2, od2, .func (PySem.W.fnOf "_law_tag" "_law_tag" (defArgs s_l_tag) (defBody s_l_tag) (defScope s_l_tag) .none kV2 dc2 pm2 an2 cd2 ct2), sl2⟩) (c2 : PySem.W.codeIn K cd2 "_law_tag" = true) (k2 : PySem.W.keepIn K (.ref f2) = true)
  (a3 : PySem.W.nsIn K mainGlobals "_law_rule" = some (some (.ref f3))) (l3 : K.lookup f3 = some ⟨oc3, od3, .func (PySem.W.fnOf "_law_rule" "_law_rule" (defArgs s_l_rule) (defBody s_l_rule) (defScope s_l_rule) .none kV3 dc3 pm3 an3 cd3 ct3), sl3⟩) (c3 : PySem.W.codeIn K cd3 "_law_rule" = true) (k3 : PySem.W.keepIn K (.ref f3) = true)
  (a4 : PySem.W.nsIn K mainGlobals "_law_things" = some (some (.ref f4))) (l4 : K.lookup f4 = some ⟨oc4, od4, .func (PySem.W.fnOf "_law_things" "_law_things" (defArgs s_l_things) (defBody s_l_things) (defScope s_l_things) .none kV4 dc4 pm4 an4 cd4 ct4), sl4⟩) (c4 : PySem.W.codeIn K cd4 "_law_things" = true) (k4 : PySem.W.keepIn K (.ref f4) = true)
  (a5 : PySem.W.nsIn K mainGlobals "_law_no_kind" = some (some (.ref f5))) (l5 : K.lookup f5 = some ⟨oc5, od5, .func (PySem.W.fnOf "_law_no_kind" "_law_no_kind" (defArgs s_l_no_kind) (defBody s_l_no_kind) (defScope s_l_no_kind) .none kV5 dc5 pm5 an5 cd5 ct5), sl5⟩) (c5 : PySem.W.codeIn K cd5 "_law_no_kind" = true) (k5 : PySem.W.keepIn K (.ref f5) = true)
  (a6 : PySem.W.nsIn K mainGlobals "_law_no_tag" = some (some (.ref f6))) (l6 : K.lookup f6 = some ⟨oc6, od6, .func (PySem.W.fnOf "_law_no_tag" "_law_no_tag" (defArgs s_l_no_tag) (defBody s_l_no_tag) (defScope s_l_no_tag) .none kV6 dc6 pm6 an6 cd6 ct6), sl6⟩) (c6 : PySem.W.codeIn K cd6 "_law_no_tag" = true) (k6 : PySem.W.keepIn K (.ref f6) = true)
  (a7 : PySem.W.nsIn K mainGlobals "_law_spoiled" = some (some (.ref f7))) (l7 : K.lookup f7 = some ⟨oc7, od7, .func (PySem.W.fnOf "_law_spoiled" "_law_spoiled" (defArgs s_l_spoiled) (defBody s_l_spoiled) (defScope s_l_spoiled) .none kV7 dc7 pm7 an7 cd7 ct7), sl7⟩) (c7 : PySem.W.codeIn K cd7 "_law_spoiled" = true) (k7 : PySem.W.keepIn K (.ref f7) = true)
  (a8 : PySem.W.nsIn K mainGlobals "refuse_bad_kinds" = some (some (.ref f8))) (l8 : K.lookup f8 = some ⟨oc8, od8, .func (PySem.W.fnOf "refuse_bad_kinds" "refuse_bad_kinds" (defArgs s_refuse_bad_kinds) (defBody s_refuse_bad_kinds) (defScope s_refuse_bad_kinds) .none kV8 dc8 pm8 an8 cd8 ct8), sl8⟩) (c8 : PySem.W.codeIn K cd8 "refuse_bad_kinds" = true) (k8 : PySem.W.keepIn K (.ref f8) = true)
  (a9 : PySem.W.nsIn K mainGlobals "is_tag" = some (some (.ref f9))) (l9 : K.lookup f9 = some ⟨oc9, od9, .func (PySem.W.fnOf "is_tag" "is_tag" (defArgs s_is_tag) (defBody s_is_tag) (defScope s_is_tag) .none kV9 dc9 pm9 an9 cd9 ct9), sl9⟩) (c9 : PySem.W.codeIn K cd9 "is_tag" = true) (k9 : PySem.W.keepIn K (.ref f9) = true)
  (a10 : PySem.W.nsIn K mainGlobals "sorted_form" = some (some (.ref f10))) (l10 : K.lookup f10 = some ⟨oc10, od10, .func (PySem.W.fnOf "sorted_form" "sorted_form" (defArgs s_sorted_form) (defBody s_sorted_form) (defScope s_sorted_form) .none kV10 dc10 pm10 an10 cd10 ct10), sl10⟩) (c10 : PySem.W.codeIn K cd10 "sorted_form" = true) (k10 : PySem.W.keepIn K (.ref f10) = true)
  (a11 : PySem.W.nsIn K mainGlobals "form" = some (some (.ref f11))) (l11 : K.lookup f11 = some ⟨oc11, od11, .func (PySem.W.fnOf "form" "form" (defArgs s_form) (defBody s_form) (defScope s_form) .none kV11 dc11 pm11 an11 cd11 ct11), sl11⟩) (c11 : PySem.W.codeIn K cd11 "form" = true) (k11 : PySem.W.keepIn K (.ref f11) = true)
  (a12 : PySem.W.nsIn K mainGlobals "_law_word" = some (some (.ref f12))) (l12 : K.lookup f12 = some ⟨oc12, od12, .func (PySem.W.fnOf "_law_word" "_law_word" (defArgs s_l_word) (defBody s_l_word) (defScope s_l_word) .none kV12 dc12 pm12 an12 cd12 ct12), sl12⟩) (c12 : PySem.W.codeIn K cd12 "_law_word" = true) (k12 : PySem.W.keepIn K (.ref f12) = true)
  (a13 : PySem.W.nsIn K mainGlobals "_law_made" = some (some (.ref f13))) (l13 : K.lookup f13 = some ⟨oc13, od13, .func (PySem.W.fnOf "_law_made" "_law_made" (defArgs s_l_made) (defBody s_l_made) (defScope s_l_made) .none kV13 dc13 pm13 an13 cd13 ct13), sl13⟩) (c13 : PySem.W.codeIn K cd13 "_law_made" = true) (k13 : PySem.W.keepIn K (.ref f13) = true)
  (a14 : PySem.W.nsIn K mainGlobals "_law_block" = some (some (.ref f14))) (l14 : K.lookup f14 = some ⟨oc14, od14, .func (PySem.W.fnOf "_law_block" "_law_block" (defArgs s_l_block) (defBody s_l_block) (defScope s_l_block) .none kV14 dc14 pm14 an14 cd14 ct14), sl14⟩) (c14 : PySem.W.codeIn K cd14 "_law_block" = true) (k14 : PySem.W.keepIn K (.ref f14) = true)
  (a15 : PySem.W.nsIn K mainGlobals "law" = some (some (.ref f15))) (l15 : K.lookup f15 = some ⟨oc15, od15, .func (PySem.W.fnOf "law" "law" (defArgs s_law) (defBody s_law) (defScope s_law) .none kV15 dc15 pm15 an15 cd15 ct15), sl15⟩) (c15 : PySem.W.codeIn K cd15 "law" = true) (k15 : PySem.W.keepIn K (.ref f15) = true)
  {tk0 tk1 tk2 : Tok} (y0 : PySem.W.nsIn K mainGlobals "LONGEST_TAG" = some (some (.int 8 tk0))) (y1 : PySem.W.nsIn K mainGlobals "MOST_KINDS" = some (some (.int 64 tk1))) (y2 : PySem.W.nsIn K mainGlobals "MOST_RULES" = some (some (.int 400 tk2)))
  (z0 : PySem.W.nsIn K mainGlobals "ValueError" = some none) (z1 : PySem.W.nsIn K mainGlobals "all" = some none) (z2 : PySem.W.nsIn K mainGlobals "int" = some none) (z3 : PySem.W.nsIn K mainGlobals "isinstance" = some none) (z4 : PySem.W.nsIn K mainGlobals "len" = some none) (z5 : PySem.W.nsIn K mainGlobals "list" = some none) (z6 : PySem.W.nsIn K mainGlobals "max" = some none) (z7 : PySem.W.nsIn K mainGlobals "min" = some none) (z8 : PySem.W.nsIn K mainGlobals "range" = some none) (z9 : PySem.W.nsIn K mainGlobals "set" = some none) (z10 : PySem.W.nsIn K mainGlobals "sorted" = some none) (z11 : PySem.W.nsIn K mainGlobals "tuple" = some none) :
  ∃ fd : FuncData, (∀ (s : Shared) (v : Value), BindsTo s fd ⟨[v], []⟩ [("_law_script", v)]) ∧ ∀ base : Heap, K.In base → base.Ns mainGlobals mg → FnOk l.prog w K mg base CX0 5 fa fd ["_law_script"] (Fg.spLaw K) := by
 have e := hfa.symm.trans (PySem.W.mg_of X G a15)
 cases e
 have B : ∀ x ∈ blts, mg x = none := List.forall_mem_cons.mpr ⟨PySem.W.mg_none_of X G z0, List.forall_mem_cons.mpr ⟨PySem.W.mg_none_of X G z1, List.forall_mem_cons.mpr ⟨PySem.W.mg_none_of X G z2, List.forall_mem_cons.mpr ⟨PySem.W.mg_none_of X G z3, List.forall_mem_cons.mpr ⟨PySem.W.mg_none_of X G z4, List.forall_mem_cons.mpr ⟨PySem.W.mg_none_of X G z5, List.forall_mem_cons.mpr ⟨PySem.W.mg_none_of X G z6, List.forall_mem_cons.mpr ⟨PySem.W.mg_none_of X G z7, List.forall_mem_cons.mpr ⟨PySem.W.mg_none_of X G z8, List.forall_mem_cons.mpr ⟨PySem.W.mg_none_of X G z9, List.forall_mem_cons.mpr ⟨PySem.W.mg_none_of X G z10, List.forall_mem_cons.mpr ⟨PySem.W.mg_none_of X G z11, List.forall_mem_nil _⟩⟩⟩⟩⟩⟩⟩⟩⟩⟩⟩⟩
 have Cc_LONGEST_TAG : ∃ t : Tok, mg "LONGEST_TAG" = some (.int 8 t) := ⟨_, PySem.W.mg_of X G y0⟩
 have Cc_MOST_KINDS : ∃ t : Tok, mg "MOST_KINDS" = some (.int 64 t) := ⟨_, PySem.W.mg_of X G y1⟩
 have Cc_MOST_RULES : ∃ t : Tok, mg "MOST_RULES" = some (.int 400 t) := ⟨_, PySem.W.mg_of X G y2⟩
 have F1 := fun_mk (st := s_l_cell) l1 c1 k1
 have b1 := F1.binds (ps := ["_law_script", "_law_k"]) fun _ _ _ _ _ _ us hl => by obtain ⟨_, _, rfl⟩ := len2 hl; rfl
 have F2 := fun_mk (st := s_l_tag) l2 c2 k2
 have b2 := F2.binds (ps := ["_law_seed", "_law_v"]) fun _ _ _ _ _ _ us hl => by obtain ⟨_, _, rfl⟩ := len2 hl; rfl
 have F3 := fun_mk (st := s_l_rule) l3 c3 k3
 have b3 := F3.binds (ps := ["_law_seed", "_law_cell_here", "_law_many"]) fun _ _ _ _ _ _ us hl => by obtain ⟨_, _, _, rfl⟩ := len3 hl; rfl
 have F4 := fun_mk (st := s_l_things) l4 c4 k4
 have b4 := F4.binds (ps := ["_law_script", "_law_many"]) fun _ _ _ _ _ _ us hl => by obtain ⟨_, _, rfl⟩ := len2 hl; rfl
 have F5 := fun_mk (st := s_l_no_kind) l5 c5 k5
 have b5 := F5.binds (ps := ["_law_cell_here", "_law_many"]) fun _ _ _ _ _ _ us hl => by obtain ⟨_, _, rfl⟩ := len2 hl; rfl
 have F6 := fun_mk (st := s_l_no_tag) l6 c6 k6
 have b6 := F6.binds (ps := ["_law_seed", "_law_cell_here"]) fun _ _ _ _ _ _ us hl => by obtain ⟨_, _, rfl⟩ := len2 hl; rfl
 have F7 := fun_mk (st := s_l_spoiled) l7 c7 k7
 have b7 := F7.binds (ps := ["_law_things_here", "_law_many", "_law_way", "_law_seed", "_law_cell_here"]) fun _ _ _ _ _ _ us hl => by obtain ⟨_, _, _, _, _, rfl⟩ := len5 hl; rfl
 have F8 := fun_mk (st := s_refuse_bad_kinds) l8 c8 k8
 have b8 := F8.binds (ps := ["many", "kinds"]) fun _ _ _ _ _ _ us hl => by obtain ⟨_, _, rfl⟩ := len2 hl; rfl
 have F9 := fun_mk (st := s_is_tag) l9 c9 k9
 have b9 := F9.binds (ps := ["text"]) fun _ _ _ _ _ _ us hl => by obtain ⟨_, rfl⟩ := len1 hl; rfl
 have F10 := fun_mk (st := s_sorted_form) l10 c10 k10
 have b10 := F10.binds (ps := ["many", "starts", "ends", "rules"]) fun _ _ _ _ _ _ us hl => by obtain ⟨_, _, _, _, rfl⟩ := len4 hl; rfl
 have F11 := fun_mk (st := s_form) l11 c11 k11
 have b11 := F11.binds (ps := ["many", "starts", "ends", "rules"]) fun _ _ _ _ _ _ us hl => by obtain ⟨_, _, _, _, rfl⟩ := len4 hl; rfl
 have F12 := fun_mk (st := s_l_word) l12 c12 k12
 have b12 := F12.binds (ps := ["_law_many", "_law_things_here"]) fun _ _ _ _ _ _ us hl => by obtain ⟨_, _, rfl⟩ := len2 hl; rfl
 have F13 := fun_mk (st := s_l_made) l13 c13 k13
 have b13 := F13.binds (ps := ["_law_many", "_law_things_here"]) fun _ _ _ _ _ _ us hl => by obtain ⟨_, _, rfl⟩ := len2 hl; rfl
 have F14 := fun_mk (st := s_l_block) l14 c14 k14
 have b14 := F14.binds (ps := ["_law_many", "_law_seed", "_law_count"]) fun _ _ _ _ _ _ us hl => by obtain ⟨_, _, _, rfl⟩ := len3 hl; rfl
 have F15 := fun_mk (st := s_law) l15 c15 k15
 refine ⟨PySem.W.fnOf "law" "law" (defArgs s_law) (defBody s_law) (defScope s_law) .none kV15 dc15 pm15 an15 cd15 ct15, fun s v => .of_eq rfl, fun base _ _ => ?_⟩
 have xc : XC K mg X_GroveError X_NoGrove X_BadForm X_TooMany X_TooBig X_NoneFits X_NoBook X_TwiceNamed X_NoName X_Ring X_BadChanger X_NoRecipe X_NotStraight X_NoChange X_NoRow := ⟨PySem.W.mg_of X G xn_GroveError, PySem.W.mg_of X G xn_NoGrove, PySem.W.mg_of X G xn_BadForm, PySem.W.mg_of X G xn_TooMany, PySem.W.mg_of X G xn_TooBig, PySem.W.mg_of X G xn_NoneFits, PySem.W.mg_of X G xn_NoBook, PySem.W.mg_of X G xn_TwiceNamed, PySem.W.mg_of X G xn_NoName, PySem.W.mg_of X G xn_Ring, PySem.W.mg_of X G xn_BadChanger, PySem.W.mg_of X G xn_NoRecipe, PySem.W.mg_of X G xn_NotStraight, PySem.W.mg_of X G xn_NoChange, PySem.W.mg_of X G xn_NoRow, ⟨xb1, xb2, xb3⟩, xb4, xb5, ⟨d1_GroveError, d2_GroveError, d3_GroveError⟩, ⟨d1_NoGrove, d2_NoGrove, d3_NoGrove⟩, ⟨d1_BadForm, d2_BadForm, d3_BadForm⟩, ⟨d1_TooMany, d2_TooMany, d3_TooMany⟩, ⟨d1_TooBig, d2_TooBig, d3_TooBig⟩, ⟨d1_NoneFits, d2_NoneFits, d3_NoneFits⟩, ⟨d1_NoBook, d2_NoBook, d3_NoBook⟩, ⟨d1_TwiceNamed, d2_TwiceNamed, d3_TwiceNamed⟩, ⟨d1_NoName, d2_NoName, d3_NoName⟩, ⟨d1_Ring, d2_Ring, d3_Ring⟩, ⟨d1_BadChanger, d2_BadChanger, d3_BadChanger⟩, ⟨d1_NoRecipe, d2_NoRecipe, d3_NoRecipe⟩, ⟨d1_NotStraight, d2_NotStraight, d3_NotStraight⟩, ⟨d1_NoChange, d2_NoChange, d3_NoChange⟩, ⟨d1_NoRow, d2_NoRow, d3_NoRow⟩, ⟨⟨_, _, _, _, _, _, _, _, _, _, _, _, _, _, _, xl_BadForm⟩, ⟨⟨_, _, _, _, _, _, _, _, _, xg1, xg2, xg3, xg4⟩⟩, xc_BadForm, xt_BadForm, xk_BadForm⟩, xi_BadForm, ⟨f1_BadForm_place, f2_BadForm_place, f3_BadForm_place, f4_BadForm_place, f5_BadForm_place, d2_BadForm⟩, xv_BadForm, xe_BadForm, ⟨o1_BadForm_TooMany, o2_BadForm_TooMany, o3_BadForm_TooMany, o4_BadForm_TooMany, o5_BadForm_TooMany⟩, o6_BadForm_TooMany, ⟨o1_BadForm_NoGrove, o2_BadForm_NoGrove, o3_BadForm_NoGrove, o4_BadForm_NoGrove, o5_BadForm_NoGrove⟩, o6_BadForm_NoGrove, ⟨o1_BadForm_TooBig, o2_BadForm_TooBig, o3_BadForm_TooBig, o4_BadForm_TooBig, o5_BadForm_TooBig⟩, o6_BadForm_TooBig, ⟨o1_BadForm_NoneFits, o2_BadForm_NoneFits, o3_BadForm_NoneFits, o4_BadForm_NoneFits, o5_BadForm_NoneFits⟩, o6_BadForm_NoneFits, ⟨o1_BadForm_NoBook, o2_BadForm_NoBook, o3_BadForm_NoBook, o4_BadForm_NoBook, o5_BadForm_NoBook⟩, o6_BadForm_NoBook, ⟨o1_BadForm_TwiceNamed, o2_BadForm_TwiceNamed, o3_BadForm_TwiceNamed, o4_BadForm_TwiceNamed, o5_BadForm_TwiceNamed⟩, o6_BadForm_TwiceNamed, ⟨o1_BadForm_NoName, o2_BadForm_NoName, o3_BadForm_NoName, o4_BadForm_NoName, o5_BadForm_NoName⟩, o6_BadForm_NoName, ⟨o1_BadForm_Ring, o2_BadForm_Ring, o3_BadForm_Ring, o4_BadForm_Ring, o5_BadForm_Ring⟩, o6_BadForm_Ring, ⟨o1_BadForm_BadChanger, o2_BadForm_BadChanger, o3_BadForm_BadChanger, o4_BadForm_BadChanger, o5_BadForm_BadChanger⟩, o6_BadForm_BadChanger, ⟨o1_BadForm_NoRecipe, o2_BadForm_NoRecipe, o3_BadForm_NoRecipe, o4_BadForm_NoRecipe, o5_BadForm_NoRecipe⟩, o6_BadForm_NoRecipe, ⟨o1_BadForm_NoChange, o2_BadForm_NoChange, o3_BadForm_NoChange, o4_BadForm_NoChange, o5_BadForm_NoChange⟩, o6_BadForm_NoChange, ⟨o1_BadForm_NoRow, o2_BadForm_NoRow, o3_BadForm_NoRow, o4_BadForm_NoRow, o5_BadForm_NoRow⟩, o6_BadForm_NoRow, ⟨o1_BadForm_NotStraight, o2_BadForm_NotStraight, o3_BadForm_NotStraight, o4_BadForm_NotStraight, o5_BadForm_NotStraight⟩, o6_BadForm_NotStraight, m_BadForm_GroveError, m_BadForm_NoGrove, m_BadForm_BadForm, m_BadForm_TooMany, m_BadForm_TooBig, m_BadForm_NoneFits, m_BadForm_NoBook, m_BadForm_TwiceNamed, m_BadForm_NoName, m_BadForm_Ring, m_BadForm_BadChanger, m_BadForm_NoRecipe, m_BadForm_NotStraight, m_BadForm_NoChange, m_BadForm_NoRow, ⟨⟨_, _, _, _, _, _, _, _, _, _, _, _, _, _, _, xl_TooMany⟩, ⟨⟨_, _, _, _, _, _, _, _, _, xg1, xg2, xg3, xg4⟩⟩, xc_TooMany, xt_TooMany, xk_TooMany⟩, xi_TooMany, ⟨f1_TooMany_place, f2_TooMany_place, f3_TooMany_place, f4_TooMany_place, f5_TooMany_place, d2_TooMany⟩, xv_TooMany, xe_TooMany, ⟨o1_TooMany_BadForm, o2_TooMany_BadForm, o3_TooMany_BadForm, o4_TooMany_BadForm, o5_TooMany_BadForm⟩, o6_TooMany_BadForm, ⟨o1_TooMany_NoGrove, o2_TooMany_NoGrove, o3_TooMany_NoGrove, o4_TooMany_NoGrove, o5_TooMany_NoGrove⟩, o6_TooMany_NoGrove, ⟨o1_TooMany_TooBig, o2_TooMany_TooBig, o3_TooMany_TooBig, o4_TooMany_TooBig, o5_TooMany_TooBig⟩, o6_TooMany_TooBig, ⟨o1_TooMany_NoneFits, o2_TooMany_NoneFits, o3_TooMany_NoneFits, o4_TooMany_NoneFits, o5_TooMany_NoneFits⟩, o6_TooMany_NoneFits, ⟨o1_TooMany_NoBook, o2_TooMany_NoBook, o3_TooMany_NoBook, o4_TooMany_NoBook, o5_TooMany_NoBook⟩, o6_TooMany_NoBook, ⟨o1_TooMany_TwiceNamed, o2_TooMany_TwiceNamed, o3_TooMany_TwiceNamed, o4_TooMany_TwiceNamed, o5_TooMany_TwiceNamed⟩, o6_TooMany_TwiceNamed, ⟨o1_TooMany_NoName, o2_TooMany_NoName, o3_TooMany_NoName, o4_TooMany_NoName, o5_TooMany_NoName⟩, o6_TooMany_NoName, ⟨o1_TooMany_Ring, o2_TooMany_Ring, o3_TooMany_Ring, o4_TooMany_Ring, o5_TooMany_Ring⟩, o6_TooMany_Ring, ⟨o1_TooMany_BadChanger, o2_TooMany_BadChanger, o3_TooMany_BadChanger, o4_TooMany_BadChanger, o5_TooMany_BadChanger⟩, o6_TooMany_BadChanger, ⟨o1_TooMany_NoRecipe, o2_TooMany_NoRecipe, o3_TooMany_NoRecipe, o4_TooMany_NoRecipe, o5_TooMany_NoRecipe⟩, o6_TooMany_NoRecipe, ⟨o1_TooMany_NoChange, o2_TooMany_NoChange, o3_TooMany_NoChange, o4_TooMany_NoChange, o5_TooMany_NoChange⟩, o6_TooMany_NoChange, ⟨o1_TooMany_NoRow, o2_TooMany_NoRow, o3_TooMany_NoRow, o4_TooMany_NoRow, o5_TooMany_NoRow⟩, o6_TooMany_NoRow, ⟨o1_TooMany_NotStraight, o2_TooMany_NotStraight, o3_TooMany_NotStraight, o4_TooMany_NotStraight, o5_TooMany_NotStraight⟩, o6_TooMany_NotStraight, m_TooMany_GroveError, m_TooMany_NoGrove, m_TooMany_BadForm, m_TooMany_TooMany, m_TooMany_TooBig, m_TooMany_NoneFits, m_TooMany_NoBook, m_TooMany_TwiceNamed, m_TooMany_NoName, m_TooMany_Ring, m_TooMany_BadChanger, m_TooMany_NoRecipe, m_TooMany_NotStraight, m_TooMany_NoChange, m_TooMany_NoRow⟩
 have g_l_cell : Has l.prog w K mg base "_law_cell" ["_law_script", "_law_k"] 1 (Fg.spCell17 K) := ⟨⟨f1, _, ok_l_cell B  F1, b1, k1, PySem.W.mg_of X G a1⟩⟩
 have g_l_tag : Has l.prog w K mg base "_law_tag" ["_law_seed", "_law_v"] 1 (K12.spTag12) := ⟨⟨f2, _, ok_l_tag B  F2, b2, k2, PySem.W.mg_of X G a2⟩⟩
 have g_l_rule : Has l.prog w K mg base "_law_rule" ["_law_seed", "_law_cell_here", "_law_many"] 2 (K12.spRule12) := ⟨⟨f3, _, ok_l_rule B g_l_tag F3, b3, k3, PySem.W.mg_of X G a3⟩⟩
 have g_l_things : Has l.prog w K mg base "_law_things" ["_law_script", "_law_many"] 3 (K12.spThings K) := ⟨⟨f4, _, ok_l_things B g_l_cell g_l_rule F4, b4, k4, PySem.W.mg_of X G a4⟩⟩
 have g_l_no_kind : Has l.prog w K mg base "_law_no_kind" ["_law_cell_here", "_law_many"] 1 (K12.spNoKind) := ⟨⟨f5, _, ok_l_no_kind B  F5, b5, k5, PySem.W.mg_of X G a5⟩⟩
 have g_l_no_tag : Has l.prog w K mg base "_law_no_tag" ["_law_seed", "_law_cell_here"] 2 (K12.spNoTag) := ⟨⟨f6, _, ok_l_no_tag B g_l_tag F6, b6, k6, PySem.W.mg_of X G a6⟩⟩
 have g_l_spoiled : Has l.prog w K mg base "_law_spoiled" ["_law_things_here", "_law_many", "_law_way", "_law_seed", "_law_cell_here"] 3 (K12.spSpoil12) := ⟨⟨f7, _, ok_l_spoiled B g_l_no_kind g_l_no_tag F7, b7, k7, PySem.W.mg_of X G a7⟩⟩
 have g_refuse_bad_kinds : HasX l.prog w K mg base "refuse_bad_kinds" ["many", "kinds"] 1 (K12.spRefX K X_BadForm) := ⟨⟨f8, _, ok_refuse_bad_kinds B xc  F8, b8, k8, PySem.W.mg_of X G a8⟩⟩
 have g_is_tag : Has l.prog w K mg base "is_tag" ["text"] 1 (Fg.spIsTag) := ⟨⟨f9, _, ok_is_tag B Cc_LONGEST_TAG  F9, b9, k9, PySem.W.mg_of X G a9⟩⟩
 have g_sorted_form : HasX l.prog w K mg base "sorted_form" ["many", "starts", "ends", "rules"] 1 (K12.spSortX K X_TooMany) := ⟨⟨f10, _, ok_sorted_form B Cc_MOST_KINDS Cc_MOST_RULES xc  F10, b10, k10, PySem.W.mg_of X G a10⟩⟩
 have g_form : HasX l.prog w K mg base "form" ["many", "starts", "ends", "rules"] 2 (K12.spFormX K X_BadForm X_TooMany) := ⟨⟨f11, _, ok_form B xc g_refuse_bad_kinds g_is_tag g_sorted_form F11, b11, k11, PySem.W.mg_of X G a11⟩⟩
 have g_l_word : Has l.prog w K mg base "_law_word" ["_law_many", "_law_things_here"] 3 (K12.spWord12) := ⟨⟨f12, _, ok_l_word B xc g_form F12, b12, k12, PySem.W.mg_of X G a12⟩⟩
 have g_l_made : Has l.prog w K mg base "_law_made" ["_law_many", "_law_things_here"] 4 (K12.spMade12) := ⟨⟨f13, _, ok_l_made B xc g_form g_l_word F13, b13, k13, PySem.W.mg_of X G a13⟩⟩
 have g_l_block : Has l.prog w K mg base "_law_block" ["_law_many", "_law_seed", "_law_count"] 2 (K12.spBlock) := ⟨⟨f14, _, ok_l_block B g_l_tag F14, b14, k14, PySem.W.mg_of X G a14⟩⟩
 exact ok_law B g_l_cell g_l_things g_l_spoiled g_l_word g_l_made g_l_block F15
theorem walk {l : PySem.W.OpenLaw} {q : Program} {loose : List Str} {XP : (Str → Option Value) → Heap → Prop} {YP : World → Heap → Prop} {d : DefRec} {K : Params → PySem.W.Frag} (hn : l.most = some 63) (hdf : d.params.defaults = [])
  (hY : ∀ (w : World) (h : Heap), YP w h → (K w.params).In h)
  (F : ∀ (w : World) (mg : Str → Option Value) (fa : Addr) (h : Heap), (K w.params).In h → h.Ns mainGlobals mg → mg d.name = some (.ref fa) →
   ∃ fd : FuncData, (∀ (s : Shared) (u : Value), BindsTo s fd ⟨[u], []⟩ [("_law_script", u)]) ∧ ∀ base : Heap, (K w.params).In base → base.Ns mainGlobals mg → FnOk l.prog w (K w.params) mg base CX0 5 fa fd ["_law_script"] (Fg.spLaw (K w.params))) :
  PySem.W.WalkO q loose XP YP l.row.toRowW d [] (fun f vs => PySem.call f vs) :=
 L2.walk_of (n := 63) (k := 5) (x := "_law_script") (CX := fun _ => CX0) (sp := fun w => Fg.spLaw (K w.params)) hn (by decide) hdf ⟨rfl, by decide, by decide, rfl⟩ hY F (fun _ _ a ns hl _ hS => ⟨a, ns, rfl, hS, hl, fun _ => rfl⟩) fun _ _ _ _ _ z => z
end K12
def PySem.W.Fast.tw17543146338132321535 := 0
def PySem.W.Fast.tw7728342445066654546 := 0
def PySem.W.Fast.tw14124870769847468858 := 0
def PySem.W.Fast.tw2563543394585329577 := 0
def PySem.W.Fast.tw9254386631075576409 := 0
def PySem.W.Fast.tw1315309172628866814 := 0
def PySem.W.Fast.tw2460037567301874309 := 0
def PySem.W.Fast.tw3304286326994514258 := 0
def PySem.W.Fast.tw7889707854439034742 := 0
def PySem.W.Fast.tw17701375322150832268 := 0
def PySem.W.Fast.tw9822395258046640970 := 0
def PySem.W.Fast.tw16126740013818948535 := 0
def PySem.W.Fast.tw17523212700673345574 := 0
def PySem.W.Fast.tw142832401810801953 := 0
def PySem.W.Fast.tw13826811098970218218 := 0
def PySem.W.Fast.tw6664330830132485765 := 0
def PySem.W.Fast.tw16905422618019929167 := 0
def PySem.W.Fast.tw12337577413729980370 := 0
def PySem.W.Fast.tw10276138612870435839 := 0
def PySem.W.Fast.tw8126905331047691857 := 0
def PySem.W.Fast.tw15570860752293647634 := 0
def PySem.W.Fast.tw1180836081318644576 := 0
def PySem.W.Fast.tw3547656798015412792 := 0
def PySem.W.Fast.tw2494130494541178657 := 0
def PySem.W.Fast.tw1561963257755938467 := 0
def PySem.W.Fast.tw5722154579801794103 := 0
def PySem.W.Fast.tw1537538941358383622 := 0
def PySem.W.Fast.tw4556779830900618068 := 0
def PySem.W.Fast.tw3777583888050233188 := 0
def PySem.W.Fast.tw9127217043110266574 := 0
def PySem.W.Fast.tw18152284837975249895 := 0
def PySem.W.Fast.tw7048628139556302965 := 0
def PySem.W.Fast.tw7253704851405163456 := 0
def PySem.W.Fast.tw14786072899358790767 := 0
def PySem.W.Fast.tw13255669431709840801 := 0
def PySem.W.Fast.tw8481078362272918923 := 0
def PySem.W.Fast.tw15877002945127008044 := 0
def PySem.W.Fast.tw11603357401736889042 := 0
def PySem.W.Fast.tw17197259582687764641 := 0
def PySem.W.Fast.tw8813435092998839486 := 0
def PySem.W.Fast.tw8161907287365036579 := 0
def PySem.W.Fast.tw8135398861453258673 := 0
def PySem.W.Fast.tw9104420933064061484 := 0
def PySem.W.Fast.tw16213178176707351658 := 0
def PySem.W.Fast.tw9784911372519881355 := 0
def PySem.W.Fast.tw13478425125805396582 := 0
def PySem.W.Fast.tw8372641786500697775 := 0
def PySem.W.Fast.tw8056533645846284071 := 0
def PySem.W.Fast.tw6678934148840594145 := 0
def PySem.W.Fast.tw14832008102646880382 := 0
def PySem.W.Fast.tw12969829408645175742 := 0
def PySem.W.Fast.tw6656964424449468636 := 0
def PySem.W.Fast.tw9948005767279534982 := 0
def PySem.W.Fast.tw6299349176080934079 := 0
def PySem.W.Fast.tw8199456858715453793 := 0
def PySem.W.Fast.tw6099195684481318931 := 0
def PySem.W.Fast.tw6712072460716869839 := 0
def PySem.W.Fast.tw852383234822546054 := 0
def PySem.W.Fast.tw6196856775048017794 := 0
def PySem.W.Fast.tw16335689261263831451 := 0
def PySem.W.Fast.tw10543914061252213012 := 0
def PySem.W.Fast.tw14192368092463764766 := 0
def PySem.W.Fast.tw8111430758761944761 := 0
def PySem.W.Fast.tw1308828095140675696 := 0
def PySem.W.Fast.tw6991938324766037985 := 0
def PySem.W.Fast.tw2861822762076772642 := 0
def PySem.W.Fast.tw17565556402232273006 := 0
def PySem.W.Fast.tw18052002832057757447 := 0
def PySem.W.Fast.tw18360567762206660453 := 0
def PySem.W.Fast.tw6821670631478582414 := 0
def PySem.W.Fast.tw2714455973742874780 := 0
def PySem.W.Fast.tw13740954630629161769 := 0
def PySem.W.Fast.tw18354837559068964774 := 0
def PySem.W.Fast.tw16409775409377809302 := 0
def PySem.W.Fast.tw13693414746189603010 := 0
def PySem.W.Fast.tw16681983418558434501 := 0
def PySem.W.Fast.tw15915859813837093428 := 0
def PySem.W.Fast.tw17558950151790407914 := 0
def PySem.W.Fast.tw301464979808567775 := 0
def PySem.W.Fast.tw4186377829716743102 := 0
def PySem.W.Fast.tw12559505897610156423 := 0
def PySem.W.Fast.tw1823190097759028719 := 0
def PySem.W.Fast.tw10959484895681978609 := 0
def PySem.W.Fast.tw12185265908098663055 := 0
def PySem.W.Fast.tw8507646132225717018 := 0
def PySem.W.Fast.tw12057657164836123297 := 0
def PySem.W.Fast.tw17774475085350093951 := 0
def PySem.W.Fast.tw6057614870727098976 := 0
def PySem.W.Fast.tw17705428065933572412 := 0
def PySem.W.Fast.tw8737829098053467719 := 0
def PySem.W.Fast.tw4951977235295052277 := 0
def PySem.W.Fast.tw7305374090937743778 := 0
def PySem.W.Fast.tw9631837670095655636 := 0
def PySem.W.Fast.tw15788084247173488831 := 0
def PySem.W.Fast.tw361216434866010690 := 0
def PySem.W.Fast.tw8851932270554358215 := 0
def PySem.W.Fast.tw11831886492057554876 := 0
def PySem.W.Fast.tw11794027872188441072 := 0
def PySem.W.Fast.tw574098713686313824 := 0
def PySem.W.Fast.tw8667051881704574879 := 0
def PySem.W.Fast.tw3114943223430255629 := 0
def PySem.W.Fast.tw9311664954682629034 := 0
def PySem.W.Fast.tw7129490715882346605 := 0
def PySem.W.Fast.tw3919185693976342597 := 0
def PySem.W.Fast.tw10531128027440902338 := 0
def PySem.W.Fast.tw14779166857675697482 := 0
def PySem.W.Fast.tw1744370707697377818 := 0
def PySem.W.Fast.tw8114698213468639310 := 0
def PySem.W.Fast.tw12609070664645113274 := 0
def PySem.W.Fast.tw2440939665275738823 := 0
def PySem.W.Fast.tw17240743260094221783 := 0
def PySem.W.Fast.tw415944865225276346 := 0
def PySem.W.Fast.tw2791357653353677823 := 0
def PySem.W.Fast.tw2196921601066289600 := 0
def PySem.W.Fast.tw11038264311581679356 := 0
def PySem.W.Fast.tw7649948489379152943 := 0
def PySem.W.Fast.tw2937270544966842771 := 0
def PySem.W.Fast.tw4523553744647064140 := 0
def PySem.W.Fast.tw17306264737142703599 := 0
def PySem.W.Fast.tw8114702291480876234 := 0
def PySem.W.Fast.tw2046189201751156414 := 0
def PySem.W.Fast.tw5645841842713258929 := 0
def PySem.W.Fast.tw18273284882170009484 := 0
def PySem.W.Fast.tw3831844945431007059 := 0
def PySem.W.Fast.tw15787294491784649240 := 0
def PySem.W.Fast.tw14124292510318164887 := 0
def PySem.W.Fast.tw8285306468541349289 := 0
def PySem.W.Fast.tw4294867567865099235 := 0
def PySem.W.Fast.tw3772458368843440613 := 0
def PySem.W.Fast.tw10724554385818115440 := 0
def PySem.W.Fast.tw15790143459725646225 := 0
def PySem.W.Fast.tw7262597134335064276 := 0
def PySem.W.Fast.tw11478610243127996601 := 0
def PySem.W.Fast.tw1423278517176442061 := 0
def PySem.W.Fast.tw2473454564868510657 := 0
def PySem.W.Fast.tw11504618643144785611 := 0
def PySem.W.Fast.tw131901504543909570 := 0
def PySem.W.Fast.tw14763868675066323673 := 0
def PySem.W.Fast.tw14389708664985142491 := 0
def PySem.W.Fast.tw10719884554851215408 := 0
def PySem.W.Fast.tw17502261931579630100 := 0
def PySem.W.Fast.tw1633177900854642704 := 0
def PySem.W.Fast.tw9203529570255359275 := 0
def PySem.W.Fast.tw930455544380635835 := 0
def PySem.W.Fast.tw11210335338657114862 := 0
def PySem.W.Fast.tw1725106391248168424 := 0
def PySem.W.Fast.tw15785735804879177083 := 0
def PySem.W.Fast.tw17304482620593241502 := 0
def PySem.W.Fast.tw7229316871108181041 := 0
def PySem.W.Fast.tw8425634056980316605 := 0
def PySem.W.Fast.tw7389677073830886076 := 0
def PySem.W.Fast.tw719175721236827964 := 0
def PySem.W.Fast.tw2899185792163536553 := 0
def PySem.W.Fast.tw11187120808545059570 := 0
def PySem.W.Fast.tw7381979037740545581 := 0
def PySem.W.Fast.tw16356585529482391729 := 0
def PySem.W.Fast.tw3173726863446274170 := 0
def PySem.W.Fast.tw3540796462302388409 := 0
def PySem.W.Fast.tw8858529924962625418 := 0
def PySem.W.Fast.tw826508074675008411 := 0
def PySem.W.Fast.tw13190832906166463887 := 0
def PySem.W.Fast.tw18225950438069417627 := 0
def PySem.W.Fast.tw5920375066224791709 := 0
def PySem.W.Fast.tw9101473589633594645 := 0
def PySem.W.Fast.tw973822274451582812 := 0
def PySem.W.Fast.tw14411504460419339668 := 0
def PySem.W.Fast.tw1014804936634366364 := 0
def PySem.W.Fast.tw9549679691357300169 := 0
def PySem.W.Fast.tw9675179272663499382 := 0
def PySem.W.Fast.tw5454420089430637599 := 0
def PySem.W.Fast.tw10584186099036029426 := 0
def PySem.W.Fast.tw6922838275848304995 := 0
def PySem.W.Fast.tw4465931571099453621 := 0
def PySem.W.Fast.tw8355412453306568177 := 0
def PySem.W.Fast.tw10919808997646516048 := 0
def PySem.W.Fast.tw8286966138630674664 := 0
def PySem.W.Fast.tw17503460873483732329 := 0
def PySem.W.Fast.tw16270269889695814295 := 0
def PySem.W.Fast.tw11830846296112046737 := 0
def PySem.W.Fast.tw4144916663454069413 := 0
def PySem.W.Fast.tw13274141974505980568 := 0
def PySem.W.Fast.tw10853704123921601183 := 0
def PySem.W.Fast.tw17035207953119797112 := 0
def PySem.W.Fast.tw1926917275628792070 := 0
def PySem.W.Fast.tw10328891656274082888 := 0
def PySem.W.Fast.tw1492150279342330235 := 0
def PySem.W.Fast.tw13307434538410986189 := 0
def PySem.W.Fast.tw14124480890131473061 := 0
def PySem.W.Fast.tw6139515122488307682 := 0
def PySem.W.Fast.tw1177168826586885314 := 0
def PySem.W.Fast.tw16105606807320922460 := 0
def PySem.W.Fast.tw9262074841008661878 := 0
def PySem.W.Fast.tw1503025089581296845 := 0
def PySem.W.Fast.tw11830443710209823412 := 0
def PySem.W.Fast.tw11248220562619237741 := 0
def PySem.W.Fast.tw2311113551174506620 := 0
def PySem.W.Fast.tw4460896442924794507 := 0
def PySem.W.Fast.tw18372781729454290535 := 0
def PySem.W.Fast.tw13688062408283352263 := 0
def PySem.W.Fast.tw2270508309080220272 := 0
def PySem.W.Fast.tw12327914927582787182 := 0
def PySem.W.Fast.tw4701721373284633893 := 0
def PySem.W.Fast.tw11559999329173609877 := 0
def PySem.W.Fast.tw5946447146067487174 := 0
def PySem.W.Fast.tw6579029650956499086 := 0
def PySem.W.Fast.tw6138652126510598494 := 0
def PySem.W.Fast.tw1555150714780701232 := 0
def PySem.W.Fast.tw13422163292424252391 := 0
def PySem.W.Fast.tw11310521839343843032 := 0
def PySem.W.Fast.tw11556672365229938884 := 0
def PySem.W.Fast.tw4782315828589564526 := 0
def PySem.W.Fast.tw12208509161099610916 := 0
def PySem.W.Fast.tw14002257614706804540 := 0
def PySem.W.Fast.tw1598713464373859146 := 0
def PySem.W.Fast.tw9924256602752776583 := 0
def PySem.W.Fast.tw8138049798675379393 := 0
def PySem.W.Fast.tw13013453596033309403 := 0
def PySem.W.Fast.tw436345708464082663 := 0
def PySem.W.Fast.tw12949846521941149664 := 0
def PySem.W.Fast.tw5586044469945722300 := 0
def PySem.W.Fast.tw1953121362383432967 := 0
def PySem.W.Fast.tw7191592258997666820 := 0
def PySem.W.Fast.tw16960635065898253128 := 0
def PySem.W.Fast.tw1443765021605344440 := 0
def PySem.W.Fast.tw15782142089153284711 := 0
def PySem.W.Fast.tw14211916886899954196 := 0
def PySem.W.Fast.tw2283100023201852997 := 0
def PySem.W.Fast.tw17457632077766375672 := 0
def PySem.W.Fast.tw14241220654445431822 := 0
def PySem.W.Fast.tw8162835198299345862 := 0
def PySem.W.Fast.tw4568322948429464434 := 0
def PySem.W.Fast.tw9241849540890011752 := 0
def PySem.W.Fast.tw993391239482120798 := 0
def PySem.W.Fast.tw1254564921094187557 := 0
def PySem.W.Fast.tw18031960244909263902 := 0
def PySem.W.Fast.tw545387540458294261 := 0
def PySem.W.Fast.tw7223573883206528135 := 0
def PySem.W.Fast.tw10838840171504749725 := 0
def PySem.W.Fast.tw15747073539818744385 := 0
def PySem.W.Fast.tw4388558149933392766 := 0
def PySem.W.Fast.tw1299719577825455650 := 0
def PySem.W.Fast.tw15529947970612291323 := 0
def PySem.W.Fast.tw2441179726572400225 := 0
def PySem.W.Fast.tw14513204346318554934 := 0
def PySem.W.Fast.tw11139264815474441025 := 0
def PySem.W.Fast.tw1345216024908467221 := 0
def PySem.W.Fast.tw8618982030682331707 := 0
def PySem.W.Fast.tw13763447426679305638 := 0
def PySem.W.Fast.tw4346446063721350322 := 0
def PySem.W.Fast.tw8887629291100352748 := 0
def PySem.W.Fast.tw3728148381442246307 := 0
def PySem.W.Fast.tw14767435288802869817 := 0
def PySem.W.Fast.tw16176638688885115646 := 0
def PySem.W.Fast.tw11505588352587944647 := 0
def PySem.W.Fast.tw9392884446264500797 := 0
def PySem.W.Fast.tw18382031577246601177 := 0
def PySem.W.Fast.tw3835258145054854192 := 0
def PySem.W.Fast.tw8859990897270182760 := 0
def PySem.W.Fast.tw2102541346210792726 := 0
def PySem.W.Fast.tw17689103211070766552 := 0
def PySem.W.Fast.tw6461199001139187437 := 0
def PySem.W.Fast.tw693669053740294402 := 0
def PySem.W.Fast.tw9025273553939605627 := 0
def PySem.W.Fast.tw3145256846187836916 := 0
def PySem.W.Fast.tw12410275074401955212 := 0
def PySem.W.Fast.tw11871221283431007610 := 0
def PySem.W.Fast.tw786488409356284014 := 0
def PySem.W.Fast.tw14964441487504278143 := 0
def PySem.W.Fast.tw9535254332435922407 := 0
def PySem.W.Fast.tw8135847046042262247 := 0
def PySem.W.Fast.tw15851105387983855949 := 0
def PySem.W.Fast.tw6896750536986262521 := 0
def PySem.W.Fast.tw11260430330773079097 := 0
def PySem.W.Fast.tw9130995037473990343 := 0
def PySem.W.Fast.tw3839868051856663523 := 0
def PySem.W.Fast.tw3001920400111827529 := 0
def PySem.W.Fast.tw13087601884788469266 := 0
def PySem.W.Fast.tw1979575660837903900 := 0
def PySem.W.Fast.tw13219420532800096238 := 0
def PySem.W.Fast.tw7983623483265712838 := 0
def PySem.W.Fast.tw8200391567301453606 := 0
def PySem.W.Fast.tw6298092836808855713 := 0
def PySem.W.Fast.tw17465338504960666390 := 0
def PySem.W.Fast.tw11742156413901973729 := 0
def PySem.W.Fast.tw5865620247846460125 := 0
def PySem.W.Fast.tw3753038388027646934 := 0
def PySem.W.Fast.tw9912623152723430512 := 0
def PySem.W.Fast.tw14426028436128031279 := 0
def PySem.W.Fast.tw5008684777796967332 := 0
def PySem.W.Fast.tw2641157071079267554 := 0
def PySem.W.Fast.tw13450235221638224251 := 0
def PySem.W.Fast.tw5714311934846349333 := 0
def PySem.W.Fast.tw2209180285729392646 := 0
def PySem.W.Fast.tw3792928094406300284 := 0
def PySem.W.Fast.tw13427493269363106683 := 0
def PySem.W.Fast.tw8996733427585018997 := 0
def PySem.W.Fast.tw1429568869974728067 := 0
def PySem.W.Fast.tw4851430218344887698 := 0
def PySem.W.Fast.tw3885887580009510098 := 0
def PySem.W.Fast.tw5197704906711361335 := 0
def PySem.W.Fast.tw3684441551075981806 := 0
def PySem.W.Fast.tw14336174602864106181 := 0
def PySem.W.Fast.tw7141726332040126988 := 0
def PySem.W.Fast.tw16368057603035839585 := 0
def PySem.W.Fast.tw9857853640112824830 := 0
def PySem.W.Fast.tw7547957277881330742 := 0
def PySem.W.Fast.tw1939675978008560379 := 0
def PySem.W.Fast.tw15817692381629353381 := 0
def PySem.W.Fast.tw16430610650231145910 := 0
def PySem.W.Fast.tw2067891624088424054 := 0
def PySem.W.Fast.tw16709905280325794337 := 0
def PySem.W.Fast.tw11609816781831852532 := 0
def PySem.W.Fast.tw15967030748344496941 := 0
def PySem.W.Fast.tw3911829064221064213 := 0
def PySem.W.Fast.tw2464252684530459455 := 0
def PySem.W.Fast.tw11907795407700039639 := 0
def PySem.W.Fast.tw11114538073263276350 := 0
def PySem.W.Fast.tw11561139759376085767 := 0
def PySem.W.Fast.tw18274704534576708964 := 0
def PySem.W.Fast.tw348655186485650422 := 0
def PySem.W.Fast.tw2516772233825613323 := 0
def PySem.W.Fast.tw7360715320765340153 := 0
def PySem.W.Fast.tw4902166113262531078 := 0
def PySem.W.Fast.tw8137519629962602250 := 0
def PySem.W.Fast.tw10166415200748650884 := 0
def PySem.W.Fast.tw13848790872835312657 := 0
def PySem.W.Fast.tw9149431520733768439 := 0
def PySem.W.Fast.tw12379195943359080156 := 0
def PySem.W.Fast.tw11244044379096338415 := 0
def PySem.W.Fast.tw6913474399799685337 := 0
def PySem.W.Fast.tw14632491076360224942 := 0
def PySem.W.Fast.tw2164772332040513390 := 0
def PySem.W.Fast.tw1900973441080919839 := 0
def PySem.W.Fast.tw8907426062536198950 := 0
def PySem.W.Fast.tw4336831521601781112 := 0
def PySem.W.Fast.tw7573162464530370267 := 0
def PySem.W.Fast.tw4694205572714636997 := 0
def PySem.W.Fast.tw10197063541157868184 := 0
def PySem.W.Fast.tw305511068572930510 := 0
def PySem.W.Fast.tw5290178500608525059 := 0
def PySem.W.Fast.tw150859470856200957 := 0
def PySem.W.Fast.tw14771472634181037561 := 0
def PySem.W.Fast.tw690956320715659370 := 0
def PySem.W.Fast.tw5689101796846484442 := 0
def PySem.W.Fast.tw1903369748181497559 := 0
def PySem.W.Fast.tw8669461392251536875 := 0
def PySem.W.Fast.tw13055760637137116419 := 0
def PySem.W.Fast.tw17273049933928542993 := 0
def PySem.W.Fast.tw13000014038592371452 := 0
def PySem.W.Fast.tw3411677042099752993 := 0
def PySem.W.Fast.tw12129326444406012698 := 0
def PySem.W.Fast.tw7252116502976781491 := 0
def PySem.W.Fast.tw14917020140771860184 := 0
def PySem.W.Fast.tw3729017425251845894 := 0
def PySem.W.Fast.tw205902587277284091 := 0
def PySem.W.Fast.tw11589118880670314633 := 0
def PySem.W.Fast.tw6438458527405875771 := 0
def PySem.W.Fast.tw2979773409834916098 := 0
def PySem.W.Fast.tw2233084225186583382 := 0
def PySem.W.Fast.tw2729976149246843695 := 0
def PySem.W.Fast.tw3045238461084090969 := 0
def PySem.W.Fast.tw5427417624583792034 := 0
def PySem.W.Fast.tw10067286697581551214 := 0
def PySem.W.Fast.tw11586624031503235143 := 0
def PySem.W.Fast.tw15039472848617067013 := 0
def PySem.W.Fast.tw9917435885873735512 := 0
def PySem.W.Fast.tw5275155589615005620 := 0
def PySem.W.Fast.tw4276373138212554252 := 0
def PySem.W.Fast.tw1592229891357605698 := 0
def PySem.W.Fast.tw17754170159632063478 := 0
def PySem.W.Fast.tw3925040105217598372 := 0
def PySem.W.Fast.tw6349584018792236834 := 0
def PySem.W.Fast.tw9860519775185332616 := 0
def PySem.W.Fast.tw5256060585650226301 := 0
def PySem.W.Fast.tw14617465870360150395 := 0
def PySem.W.Fast.tw3251489480175023288 := 0
def PySem.W.Fast.tw11985599825157670051 := 0
def PySem.W.Fast.tw14515883908049553122 := 0
def PySem.W.Fast.tw5287572181269275687 := 0
def PySem.W.Fast.tw7043492859693073547 := 0
def PySem.W.Fast.tw2570206485883283175 := 0
def PySem.W.Fast.tw1651426159952032431 := 0
def PySem.W.Fast.tw11564487115265281365 := 0
def PySem.W.Fast.tw11779680283653262989 := 0
def PySem.W.Fast.tw12695319350029875880 := 0
def PySem.W.Fast.tw1257734366257159836 := 0
def PySem.W.Fast.tw12031903982895481587 := 0
def PySem.W.Fast.tw15011925904525664045 := 0
def PySem.W.Fast.tw14869957815222465683 := 0
def PySem.W.Fast.tw10298507863623510487 := 0
open PySem PySem.W PyProof.Rows
set_option maxRecDepth 100000 in
set_option maxHeartbeats 0 in
theorem PySem.Challenge.cw_formgrove_k12_forms_refused_holds : PySem.Challenge.rw_formgrove_k12_forms_refused.Holds := by
 w_on; o_law; k_head; (case hw => w_witness2)
 k_fill
 refine K12.walk (l := PySem.Challenge.rw_formgrove_k12_forms_refused) rfl rfl (fun w h Y => PySem.W.kIn_of Y) ?F
 case F =>
  intro w mg fa h KX G hmg
  refine' K12.all_mk KX G hmg ?xn_GroveError ?xn_NoGrove ?xn_BadForm ?xn_TooMany ?xn_TooBig ?xn_NoneFits ?xn_NoBook ?xn_TwiceNamed ?xn_NoName ?xn_Ring ?xn_BadChanger ?xn_NoRecipe ?xn_NotStraight ?xn_NoChange ?xn_NoRow ?xg1 ?xg2 ?xg3 ?xg4 ?xb1 ?xb2 ?xb3 ?xb4 ?xb5 ?d1_GroveError ?d2_GroveError ?d3_GroveError ?d1_NoGrove ?d2_NoGrove ?d3_NoGrove ?d1_BadForm ?d2_BadForm ?d3_BadForm ?d1_TooMany ?d2_TooMany ?d3_TooMany ?d1_TooBig ?d2_TooBig ?d3_TooBig ?d1_NoneFits ?d2_NoneFits ?d3_NoneFits ?d1_NoBook ?d2_NoBook ?d3_NoBook ?d1_TwiceNamed ?d2_TwiceNamed ?d3_TwiceNamed ?d1_NoName ?d2_NoName ?d3_NoName ?d1_Ring ?d2_Ring ?d3_Ring ?d1_BadChanger ?d2_BadChanger ?d3_BadChanger ?d1_NoRecipe ?d2_NoRecipe ?d3_NoRecipe ?d1_NotStraight ?d2_NotStraight ?d3_NotStraight ?d1_NoChange ?d2_NoChange ?d3_NoChange ?d1_NoRow ?d2_NoRow ?d3_NoRow ?xl_BadForm ?xc_BadForm ?xt_BadForm ?xk_BadForm ?xv_BadForm ?xe_BadForm ?o1_BadForm_TooMany ?o2_BadForm_TooMany ?o3_BadForm_TooMany ?o4_BadForm_TooMany ?o5_BadForm_TooMany ?o6_BadForm_TooMany ?o1_BadForm_NoGrove ?o2_BadForm_NoGrove ?o3_BadForm_NoGrove ?o4_BadForm_NoGrove ?o5_BadForm_NoGrove ?o6_BadForm_NoGrove ?o1_BadForm_TooBig ?o2_BadForm_TooBig ?o3_BadForm_TooBig ?o4_BadForm_TooBig ?o5_BadForm_TooBig ?o6_BadForm_TooBig ?o1_BadForm_NoneFits ?o2_BadForm_NoneFits ?o3_BadForm_NoneFits ?o4_BadForm_NoneFits ?o5_BadForm_NoneFits ?o6_BadForm_NoneFits ?o1_BadForm_NoBook ?o2_BadForm_NoBook ?o3_BadForm_NoBook ?o4_BadForm_NoBook ?o5_BadForm_NoBook ?o6_BadForm_NoBook ?o1_BadForm_TwiceNamed ?o2_BadForm_TwiceNamed ?o3_BadForm_TwiceNamed ?o4_BadForm_TwiceNamed ?o5_BadForm_TwiceNamed ?o6_BadForm_TwiceNamed ?o1_BadForm_NoName ?o2_BadForm_NoName ?o3_BadForm_NoName ?o4_BadForm_NoName ?o5_BadForm_NoName ?o6_BadForm_NoName ?o1_BadForm_Ring ?o2_BadForm_Ring ?o3_BadForm_Ring ?o4_BadForm_Ring ?o5_BadForm_Ring ?o6_BadForm_Ring ?o1_BadForm_BadChanger ?o2_BadForm_BadChanger ?o3_BadForm_BadChanger ?o4_BadForm_BadChanger ?o5_BadForm_BadChanger ?o6_BadForm_BadChanger ?o1_BadForm_NoRecipe ?o2_BadForm_NoRecipe ?o3_BadForm_NoRecipe ?o4_BadForm_NoRecipe ?o5_BadForm_NoRecipe ?o6_BadForm_NoRecipe ?o1_BadForm_NoChange ?o2_BadForm_NoChange ?o3_BadForm_NoChange ?o4_BadForm_NoChange ?o5_BadForm_NoChange ?o6_BadForm_NoChange ?o1_BadForm_NoRow ?o2_BadForm_NoRow ?o3_BadForm_NoRow ?o4_BadForm_NoRow ?o5_BadForm_NoRow ?o6_BadForm_NoRow ?o1_BadForm_NotStraight ?o2_BadForm_NotStraight ?o3_BadForm_NotStraight ?o4_BadForm_NotStraight ?o5_BadForm_NotStraight ?o6_BadForm_NotStraight ?xi_BadForm ?f1_BadForm_place ?f2_BadForm_place ?f3_BadForm_place ?f4_BadForm_place ?f5_BadForm_place ?m_BadForm_GroveError ?m_BadForm_NoGrove ?m_BadForm_BadForm ?m_BadForm_TooMany ?m_BadForm_TooBig ?m_BadForm_NoneFits ?m_BadForm_NoBook ?m_BadForm_TwiceNamed ?m_BadForm_NoName ?m_BadForm_Ring ?m_BadForm_BadChanger ?m_BadForm_NoRecipe ?m_BadForm_NotStraight ?m_BadForm_NoChange ?m_BadForm_NoRow ?xl_TooMany ?xc_TooMany ?xt_TooMany ?xk_TooMany ?xv_TooMany ?xe_TooMany ?o1_TooMany_BadForm ?o2_TooMany_BadForm ?o3_TooMany_BadForm ?o4_TooMany_BadForm ?o5_TooMany_BadForm ?o6_TooMany_BadForm ?o1_TooMany_NoGrove ?o2_TooMany_NoGrove ?o3_TooMany_NoGrove ?o4_TooMany_NoGrove ?o5_TooMany_NoGrove ?o6_TooMany_NoGrove ?o1_TooMany_TooBig ?o2_TooMany_TooBig ?o3_TooMany_TooBig ?o4_TooMany_TooBig ?o5_TooMany_TooBig ?o6_TooMany_TooBig ?o1_TooMany_NoneFits ?o2_TooMany_NoneFits ?o3_TooMany_NoneFits ?o4_TooMany_NoneFits ?o5_TooMany_NoneFits ?o6_TooMany_NoneFits ?o1_TooMany_NoBook ?o2_TooMany_NoBook ?o3_TooMany_NoBook ?o4_TooMany_NoBook ?o5_TooMany_NoBook ?o6_TooMany_NoBook ?o1_TooMany_TwiceNamed ?o2_TooMany_TwiceNamed ?o3_TooMany_TwiceNamed ?o4_TooMany_TwiceNamed ?o5_TooMany_TwiceNamed ?o6_TooMany_TwiceNamed ?o1_TooMany_NoName ?o2_TooMany_NoName ?o3_TooMany_NoName ?o4_TooMany_NoName ?o5_TooMany_NoName ?o6_TooMany_NoName ?o1_TooMany_Ring ?o2_TooMany_Ring ?o3_TooMany_Ring ?o4_TooMany_Ring ?o5_TooMany_Ring ?o6_TooMany_Ring ?o1_TooMany_BadChanger ?o2_TooMany_BadChanger ?o3_TooMany_BadChanger ?o4_TooMany_BadChanger ?o5_TooMany_BadChanger ?o6_TooMany_BadChanger ?o1_TooMany_NoRecipe ?o2_TooMany_NoRecipe ?o3_TooMany_NoRecipe ?o4_TooMany_NoRecipe ?o5_TooMany_NoRecipe ?o6_TooMany_NoRecipe ?o1_TooMany_NoChange ?o2_TooMany_NoChange ?o3_TooMany_NoChange ?o4_TooMany_NoChange ?o5_TooMany_NoChange ?o6_TooMany_NoChange ?o1_TooMany_NoRow ?o2_TooMany_NoRow ?o3_TooMany_NoRow ?o4_TooMany_NoRow ?o5_TooMany_NoRow ?o6_TooMany_NoRow ?o1_TooMany_NotStraight ?o2_TooMany_NotStraight ?o3_TooMany_NotStraight ?o4_TooMany_NotStraight ?o5_TooMany_NotStraight ?o6_TooMany_NotStraight ?xi_TooMany ?f1_TooMany_place ?f2_TooMany_place ?f3_TooMany_place ?f4_TooMany_place ?f5_TooMany_place ?m_TooMany_GroveError ?m_TooMany_NoGrove ?m_TooMany_BadForm ?m_TooMany_TooMany ?m_TooMany_TooBig ?m_TooMany_NoneFits ?m_TooMany_NoBook ?m_TooMany_TwiceNamed ?m_TooMany_NoName ?m_TooMany_Ring ?m_TooMany_BadChanger ?m_TooMany_NoRecipe ?m_TooMany_NotStraight ?m_TooMany_NoChange ?m_TooMany_NoRow ?a1 ?l1 ?c1 ?k1 ?a2 ?l2 ?c2 ?k2 ?a3 ?l3 ?c3 ?k3 ?a4 ?l4 ?c4 ?k4 ?a5 ?l5 ?c5 ?k5 ?a6 ?l6 ?c6 ?k6 ?a7 ?l7 ?c7 ?k7 ?a8 ?l8 ?c8 ?k8 ?a9 ?l9 ?c9 ?k9 ?a10 ?l10 ?c10 ?k10 ?a11 ?l11 ?c11 ?k11 ?a12 ?l12 ?c12 ?k12 ?a13 ?l13 ?c13 ?k13 ?a14 ?l14 ?c14 ?k14 ?a15 ?l15 ?c15 ?k15 ?y0 ?y1 ?y2 ?z0 ?z1 ?z2 ?z3 ?z4 ?z5 ?z6 ?z7 ?z8 ?z9 ?z10 ?z11
  (case xn_GroveError => k_is)
  (case xn_NoGrove => k_is)
  (case xn_BadForm => k_is)
  (case xn_TooMany => k_is)
  (case xn_TooBig => k_is)
  (case xn_NoneFits => k_is)
  (case xn_NoBook => k_is)
  (case xn_TwiceNamed => k_is)
  (case xn_NoName => k_is)
  (case xn_Ring => k_is)
  (case xn_BadChanger => k_is)
  (case xn_NoRecipe => k_is)
  (case xn_NotStraight => k_is)
  (case xn_NoChange => k_is)
  (case xn_NoRow => k_is)
  (case xg1 => k_is)
  (case xg2 => k_is)
  (case xg3 => rfl)
  (case xg4 => k_is)
  (case xb1 => k_is)
  (case xb2 => k_is)
  (case xb3 => k_is)
  (case xb4 => k_is)
  (case xb5 => k_is)
  (case d1_GroveError => k_is)
  (case d2_GroveError => k_is)
  (case d3_GroveError => k_is)
  (case d1_NoGrove => k_is)
  (case d2_NoGrove => k_is)
  (case d3_NoGrove => k_is)
  (case d1_BadForm => k_is)
  (case d2_BadForm => k_is)
  (case d3_BadForm => k_is)
  (case d1_TooMany => k_is)
  (case d2_TooMany => k_is)
  (case d3_TooMany => k_is)
  (case d1_TooBig => k_is)
  (case d2_TooBig => k_is)
  (case d3_TooBig => k_is)
  (case d1_NoneFits => k_is)
  (case d2_NoneFits => k_is)
  (case d3_NoneFits => k_is)
  (case d1_NoBook => k_is)
  (case d2_NoBook => k_is)
  (case d3_NoBook => k_is)
  (case d1_TwiceNamed => k_is)
  (case d2_TwiceNamed => k_is)
  (case d3_TwiceNamed => k_is)
  (case d1_NoName => k_is)
  (case d2_NoName => k_is)
  (case d3_NoName => k_is)
  (case d1_Ring => k_is)
  (case d2_Ring => k_is)
  (case d3_Ring => k_is)
  (case d1_BadChanger => k_is)
  (case d2_BadChanger => k_is)
  (case d3_BadChanger => k_is)
  (case d1_NoRecipe => k_is)
  (case d2_NoRecipe => k_is)
  (case d3_NoRecipe => k_is)
  (case d1_NotStraight => k_is)
  (case d2_NotStraight => k_is)
  (case d3_NotStraight => k_is)
  (case d1_NoChange => k_is)
  (case d2_NoChange => k_is)
  (case d3_NoChange => k_is)
  (case d1_NoRow => k_is)
  (case d2_NoRow => k_is)
  (case d3_NoRow => k_is)
  (case xl_BadForm => k_is)
  (case xc_BadForm => k_is)
  (case xt_BadForm => k_is)
  (case xk_BadForm => k_is)
  (case xv_BadForm => k_is)
  (case xe_BadForm => decide)
  (case o1_BadForm_TooMany => k_is)
  (case o2_BadForm_TooMany => k_is)
  (case o3_BadForm_TooMany => k_is)
  (case o4_BadForm_TooMany => k_is)
  (case o5_BadForm_TooMany => k_is)
  (case o6_BadForm_TooMany => decide)
  (case o1_BadForm_NoGrove => k_is)
  (case o2_BadForm_NoGrove => k_is)
  (case o3_BadForm_NoGrove => k_is)
  (case o4_BadForm_NoGrove => k_is)
  (case o5_BadForm_NoGrove => k_is)
  (case o6_BadForm_NoGrove => decide)
  (case o1_BadForm_TooBig => k_is)
  (case o2_BadForm_TooBig => k_is)
  (case o3_BadForm_TooBig => k_is)
  (case o4_BadForm_TooBig => k_is)
  (case o5_BadForm_TooBig => k_is)
  (case o6_BadForm_TooBig => decide)
  (case o1_BadForm_NoneFits => k_is)
  (case o2_BadForm_NoneFits => k_is)
  (case o3_BadForm_NoneFits => k_is)
  (case o4_BadForm_NoneFits => k_is)
  (case o5_BadForm_NoneFits => k_is)
  (case o6_BadForm_NoneFits => decide)
  (case o1_BadForm_NoBook => k_is)
  (case o2_BadForm_NoBook => k_is)
  (case o3_BadForm_NoBook => k_is)
  (case o4_BadForm_NoBook => k_is)
  (case o5_BadForm_NoBook => k_is)
  (case o6_BadForm_NoBook => decide)
  (case o1_BadForm_TwiceNamed => k_is)
  (case o2_BadForm_TwiceNamed => k_is)
  (case o3_BadForm_TwiceNamed => k_is)
  (case o4_BadForm_TwiceNamed => k_is)
  (case o5_BadForm_TwiceNamed => k_is)
  (case o6_BadForm_TwiceNamed => decide)
  (case o1_BadForm_NoName => k_is)
  (case o2_BadForm_NoName => k_is)
  (case o3_BadForm_NoName => k_is)
  (case o4_BadForm_NoName => k_is)
  (case o5_BadForm_NoName => k_is)
  (case o6_BadForm_NoName => decide)
  (case o1_BadForm_Ring => k_is)
  (case o2_BadForm_Ring => k_is)
  (case o3_BadForm_Ring => k_is)
  (case o4_BadForm_Ring => k_is)
  (case o5_BadForm_Ring => k_is)
  (case o6_BadForm_Ring => decide)
  (case o1_BadForm_BadChanger => k_is)
  (case o2_BadForm_BadChanger => k_is)
  (case o3_BadForm_BadChanger => k_is)
  (case o4_BadForm_BadChanger => k_is)
  (case o5_BadForm_BadChanger => k_is)
  (case o6_BadForm_BadChanger => decide)
  (case o1_BadForm_NoRecipe => k_is)
  (case o2_BadForm_NoRecipe => k_is)
  (case o3_BadForm_NoRecipe => k_is)
  (case o4_BadForm_NoRecipe => k_is)
  (case o5_BadForm_NoRecipe => k_is)
  (case o6_BadForm_NoRecipe => decide)
  (case o1_BadForm_NoChange => k_is)
  (case o2_BadForm_NoChange => k_is)
  (case o3_BadForm_NoChange => k_is)
  (case o4_BadForm_NoChange => k_is)
  (case o5_BadForm_NoChange => k_is)
  (case o6_BadForm_NoChange => decide)
  (case o1_BadForm_NoRow => k_is)
  (case o2_BadForm_NoRow => k_is)
  (case o3_BadForm_NoRow => k_is)
  (case o4_BadForm_NoRow => k_is)
  (case o5_BadForm_NoRow => k_is)
  (case o6_BadForm_NoRow => decide)
  (case o1_BadForm_NotStraight => k_is)
  (case o2_BadForm_NotStraight => k_is)
  (case o3_BadForm_NotStraight => k_is)
  (case o4_BadForm_NotStraight => k_is)
  (case o5_BadForm_NotStraight => k_is)
  (case o6_BadForm_NotStraight => decide)
  (case xi_BadForm => k_is)
  (case f1_BadForm_place => k_is)
  (case f2_BadForm_place => k_is)
  (case f3_BadForm_place => k_is)
  (case f4_BadForm_place => k_is)
  (case f5_BadForm_place => k_is)
  (case m_BadForm_GroveError => k_is)
  (case m_BadForm_NoGrove => k_is)
  (case m_BadForm_BadForm => k_is)
  (case m_BadForm_TooMany => k_is)
  (case m_BadForm_TooBig => k_is)
  (case m_BadForm_NoneFits => k_is)
  (case m_BadForm_NoBook => k_is)
  (case m_BadForm_TwiceNamed => k_is)
  (case m_BadForm_NoName => k_is)
  (case m_BadForm_Ring => k_is)
  (case m_BadForm_BadChanger => k_is)
  (case m_BadForm_NoRecipe => k_is)
  (case m_BadForm_NotStraight => k_is)
  (case m_BadForm_NoChange => k_is)
  (case m_BadForm_NoRow => k_is)
  (case xl_TooMany => k_is)
  (case xc_TooMany => k_is)
  (case xt_TooMany => k_is)
  (case xk_TooMany => k_is)
  (case xv_TooMany => k_is)
  (case xe_TooMany => decide)
  (case o1_TooMany_BadForm => k_is)
  (case o2_TooMany_BadForm => k_is)
  (case o3_TooMany_BadForm => k_is)
  (case o4_TooMany_BadForm => k_is)
  (case o5_TooMany_BadForm => k_is)
  (case o6_TooMany_BadForm => decide)
  (case o1_TooMany_NoGrove => k_is)
  (case o2_TooMany_NoGrove => k_is)
  (case o3_TooMany_NoGrove => k_is)
  (case o4_TooMany_NoGrove => k_is)
  (case o5_TooMany_NoGrove => k_is)
  (case o6_TooMany_NoGrove => decide)
  (case o1_TooMany_TooBig => k_is)
  (case o2_TooMany_TooBig => k_is)
  (case o3_TooMany_TooBig => k_is)
  (case o4_TooMany_TooBig => k_is)
  (case o5_TooMany_TooBig => k_is)
  (case o6_TooMany_TooBig => decide)
  (case o1_TooMany_NoneFits => k_is)
  (case o2_TooMany_NoneFits => k_is)
  (case o3_TooMany_NoneFits => k_is)
  (case o4_TooMany_NoneFits => k_is)
  (case o5_TooMany_NoneFits => k_is)
  (case o6_TooMany_NoneFits => decide)
  (case o1_TooMany_NoBook => k_is)
  (case o2_TooMany_NoBook => k_is)
  (case o3_TooMany_NoBook => k_is)
  (case o4_TooMany_NoBook => k_is)
  (case o5_TooMany_NoBook => k_is)
  (case o6_TooMany_NoBook => decide)
  (case o1_TooMany_TwiceNamed => k_is)
  (case o2_TooMany_TwiceNamed => k_is)
  (case o3_TooMany_TwiceNamed => k_is)
  (case o4_TooMany_TwiceNamed => k_is)
  (case o5_TooMany_TwiceNamed => k_is)
  (case o6_TooMany_TwiceNamed => decide)
  (case o1_TooMany_NoName => k_is)
  (case o2_TooMany_NoName => k_is)
  (case o3_TooMany_NoName => k_is)
  (case o4_TooMany_NoName => k_is)
  (case o5_TooMany_NoName => k_is)
  (case o6_TooMany_NoName => decide)
  (case o1_TooMany_Ring => k_is)
  (case o2_TooMany_Ring => k_is)
  (case o3_TooMany_Ring => k_is)
  (case o4_TooMany_Ring => k_is)
  (case o5_TooMany_Ring => k_is)
  (case o6_TooMany_Ring => decide)
  (case o1_TooMany_BadChanger => k_is)
  (case o2_TooMany_BadChanger => k_is)
  (case o3_TooMany_BadChanger => k_is)
  (case o4_TooMany_BadChanger => k_is)
  (case o5_TooMany_BadChanger => k_is)
  (case o6_TooMany_BadChanger => decide)
  (case o1_TooMany_NoRecipe => k_is)
  (case o2_TooMany_NoRecipe => k_is)
  (case o3_TooMany_NoRecipe => k_is)
  (case o4_TooMany_NoRecipe => k_is)
  (case o5_TooMany_NoRecipe => k_is)
  (case o6_TooMany_NoRecipe => decide)
  (case o1_TooMany_NoChange => k_is)
  (case o2_TooMany_NoChange => k_is)
  (case o3_TooMany_NoChange => k_is)
  (case o4_TooMany_NoChange => k_is)
  (case o5_TooMany_NoChange => k_is)
  (case o6_TooMany_NoChange => decide)
  (case o1_TooMany_NoRow => k_is)
  (case o2_TooMany_NoRow => k_is)
  (case o3_TooMany_NoRow => k_is)
  (case o4_TooMany_NoRow => k_is)
  (case o5_TooMany_NoRow => k_is)
  (case o6_TooMany_NoRow => decide)
  (case o1_TooMany_NotStraight => k_is)
  (case o2_TooMany_NotStraight => k_is)
  (case o3_TooMany_NotStraight => k_is)
  (case o4_TooMany_NotStraight => k_is)
  (case o5_TooMany_NotStraight => k_is)
  (case o6_TooMany_NotStraight => decide)
  (case xi_TooMany => k_is)
  (case f1_TooMany_place => k_is)
  (case f2_TooMany_place => k_is)
  (case f3_TooMany_place => k_is)
  (case f4_TooMany_place => k_is)
  (case f5_TooMany_place => k_is)
  (case m_TooMany_GroveError => k_is)
  (case m_TooMany_NoGrove => k_is)
  (case m_TooMany_BadForm => k_is)
  (case m_TooMany_TooMany => k_is)
  (case m_TooMany_TooBig => k_is)
  (case m_TooMany_NoneFits => k_is)
  (case m_TooMany_NoBook => k_is)
  (case m_TooMany_TwiceNamed => k_is)
  (case m_TooMany_NoName => k_is)
  (case m_TooMany_Ring => k_is)
  (case m_TooMany_BadChanger => k_is)
  (case m_TooMany_NoRecipe => k_is)
  (case m_TooMany_NotStraight => k_is)
  (case m_TooMany_NoChange => k_is)
  (case m_TooMany_NoRow => k_is)
  (case a1 => k_is)
  (case l1 => k_is)
  (case c1 => k_is)
  (case k1 => k_is)
  (case a2 => k_is)
  (case l2 => k_is)
  (case c2 => k_is)
  (case k2 => k_is)
  (case a3 => k_is)
  (case l3 => k_is)
  (case c3 => k_is)
  (case k3 => k_is)
  (case a4 => k_is)
  (case l4 => k_is)
  (case c4 => k_is)
  (case k4 => k_is)
  (case a5 => k_is)
  (case l5 => k_is)
  (case c5 => k_is)
  (case k5 => k_is)
  (case a6 => k_is)
  (case l6 => k_is)
  (case c6 => k_is)
  (case k6 => k_is)
  (case a7 => k_is)
  (case l7 => k_is)
  (case c7 => k_is)
  (case k7 => k_is)
  (case a8 => k_is)
  (case l8 => k_is)
  (case c8 => k_is)
  (case k8 => k_is)
  (case a9 => k_is)
  (case l9 => k_is)
  (case c9 => k_is)
  (case k9 => k_is)
  (case a10 => k_is)
  (case l10 => k_is)
  (case c10 => k_is)
  (case k10 => k_is)
  (case a11 => k_is)
  (case l11 => k_is)
  (case c11 => k_is)
  (case k11 => k_is)
  (case a12 => k_is)
  (case l12 => k_is)
  (case c12 => k_is)
  (case k12 => k_is)
  (case a13 => k_is)
  (case l13 => k_is)
  (case c13 => k_is)
  (case k13 => k_is)
  (case a14 => k_is)
  (case l14 => k_is)
  (case c14 => k_is)
  (case k14 => k_is)
  (case a15 => k_is)
  (case l15 => k_is)
  (case c15 => k_is)
  (case k15 => k_is)
  (case y0 => k_is)
  (case y1 => k_is)
  (case y2 => k_is)
  (case z0 => k_is)
  (case z1 => k_is)
  (case z2 => k_is)
  (case z3 => k_is)
  (case z4 => k_is)
  (case z5 => k_is)
  (case z6 => k_is)
  (case z7 => k_is)
  (case z8 => k_is)
  (case z9 => k_is)
  (case z10 => k_is)
  (case z11 => k_is)
