import PyProof.Rows.All
import Wide.All
import OpenK.AllK
import Wide.FinOn
import Lean
import PyProof.EqAt
import PyProof.EqKinds
import PyProof.TupleCall
import PySem.Challenge.RW_formgrove_k08_groves_read
set_option Elab.async false
set_option linter.all false
set_option maxRecDepth 100000
/-! THE HAND LAYER, for ints, bools, texts, own classes, LISTS and tuples (index, slices, in, append, pop ..), calls, loops. Paste it whole ahead of your own text; what your proof does not reach may be deleted. -/
namespace L2
open PySem PySem.Spec PyProof.Rows

/-- a key: an int or a str -/
abbrev Key := Sum Int Str
def keyIs : Key → Value → Bool
  | .inl k, v => Value.isInt k v
  | .inr x, v => Value.isStrOf x v
def keyH (w : World) : Key → Int
  | .inl k => hashInt k
  | .inr x => hashStr w x
theorem keyIs_shape : ∀ {k : Key} {v : Value}, keyIs k v = true → (∃ i t, k = Sum.inl i ∧ v = Value.int i t) ∨ (∃ x t, k = Sum.inr x ∧ v = Value.str x t)
  | .inl i, v, h => by
    obtain ⟨t, e⟩ := Value.isInt_shape (k := i) (v := v) h
    exact .inl ⟨i, t, rfl, e⟩
  | .inr x, v, h => by
    obtain ⟨t, e⟩ := Value.isStrOf_shape (x := x) (v := v) h
    exact .inr ⟨x, t, rfl, e⟩
theorem key_ll (a b : Int) : decide ((Sum.inl a : Key) = Sum.inl b) = (a == b) := by
  by_cases e : a = b
  · subst e; simp
  · have h : ¬ (Sum.inl a : Key) = Sum.inl b := fun q => e (Sum.inl.inj q)
    rw [decide_eq_false h]
    exact (beq_eq_false_iff_ne.mpr e).symm
theorem key_rr (a b : Str) : decide ((Sum.inr a : Key) = Sum.inr b) = decide (a = b) := by
  by_cases e : a = b
  · subst e; simp
  · have h : ¬ (Sum.inr a : Key) = Sum.inr b := fun q => e (Sum.inr.inj q)
    rw [decide_eq_false h, decide_eq_false e]
theorem key_lr (a : Int) (b : Str) : decide ((Sum.inl a : Key) = Sum.inr b) = false := decide_eq_false (fun q => nomatch q)
theorem key_rl (a : Str) (b : Int) : decide ((Sum.inr a : Key) = Sum.inl b) = false := decide_eq_false (fun q => nomatch q)

def mixKind (prog : Program) (w : World) : PySem.KeyKind prog w Key where
  is := keyIs
  hash := keyH w
  inj := fun v a b ha hb => by
    rcases keyIs_shape ha with ⟨i, t, rfl, rfl⟩ | ⟨x, t, rfl, rfl⟩
    · rcases keyIs_shape hb with ⟨j, u, rfl, e⟩ | ⟨y, u, rfl, e⟩
      · injection e with e1 _; rw [e1]
      · exact nomatch e
    · rcases keyIs_shape hb with ⟨j, u, rfl, e⟩ | ⟨y, u, rfl, e⟩
      · exact nomatch e
      · injection e with e1 _; rw [e1]
  byValue := fun k v h => by
    rcases keyIs_shape h with ⟨i, t, rfl, rfl⟩ | ⟨x, t, rfl, rfl⟩ <;> rfl
  pyHash := fun hv h => by
    rcases keyIs_shape hv with ⟨i, t, rfl, rfl⟩ | ⟨x, t, rfl, rfl⟩
    · exact wpAny_pyHash_int h
    · exact wpAny_pyHash_str h
  eqBool := fun hu hv h => by
    rcases keyIs_shape hu with ⟨i, t, rfl, rfl⟩ | ⟨x, t, rfl, rfl⟩
    · rcases keyIs_shape hv with ⟨j, u, rfl, rfl⟩ | ⟨y, u, rfl, rfl⟩
      · rw [key_ll] at h; exact wpAny_eqBool_int h
      · rw [key_lr] at h; exact SeqAt.EqAt.int_str i t y u _ _ _ _ h
    · rcases keyIs_shape hv with ⟨j, u, rfl, rfl⟩ | ⟨y, u, rfl, rfl⟩
      · rw [key_rl] at h; exact SeqAt.EqAt.str_int x t j u _ _ _ _ h
      · rw [key_rr] at h; exact wpAny_eqBool_str h
  «strs» := fun k x t v h => by
    rcases keyIs_shape h with ⟨i, u, rfl, e⟩ | ⟨y, u, rfl, e⟩
    · exact nomatch e
    · injection e with e1 _
      subst e1
      cases v <;> rfl

end L2

namespace L2
open PySem PySem.Spec PyProof.Rows

/-- a value, without the heap -/
inductive V where
  | non | bl (b : Bool) | int (i : Int) | str (x : Str) | byt (b : Array UInt8) | flt (b : UInt64) | ref (a : Addr) | ty (n : String)
  deriving DecidableEq

def RelV : V → Value → Prop
  | .non, u => u = Value.none
  | .bl b, u => u = Value.bool b
  | .int i, u => ∃ t, u = Value.int i t
  | .str x, u => ∃ t, u = Value.str x t
  | .byt b, u => ∃ t, u = Value.bytes b t
  | .flt b, u => ∃ t, u = Value.float b t
  | .ref a, u => u = Value.ref a
  | .ty n, u => u = Value.type n

abbrev Vals : List V → List Value → Prop := Paired RelV
theorem Vals.length {xs : List V} {us : List Value} (r : Vals xs us) : xs.length = us.length := Paired.length r
theorem Vals.get : ∀ {xs : List V} {us : List Value} {i : Nat} {x : V}, Vals xs us → xs[i]? = some x → ∃ u, us[i]? = some u ∧ RelV x u
  | _, _, _, _, .nil, e => by simp at e
  | _, _, 0, _, .cons r _, e => by simp at e; subst e; exact ⟨_, rfl, r⟩
  | _, _, i + 1, x, .cons _ t, e => by
    obtain ⟨u, h1, h2⟩ := Vals.get (i := i) (x := x) t (by simpa using e)
    exact ⟨u, by simpa using h1, h2⟩
theorem Vals.append : ∀ {xs ys : List V} {us ws : List Value}, Vals xs us → Vals ys ws → Vals (xs ++ ys) (us ++ ws)
  | _, _, _, _, .nil, s => s
  | _, _, _, _, .cons r t, s => .cons r (Vals.append t s)
def RelO : Option V → Option Value → Prop
  | some v, some u => RelV v u
  | none, none => True
  | _, _ => False
def KV {κ : Type} : List (κ × V) → List (κ × Value) → Prop := Paired fun (p : κ × V) (q : κ × Value) => p.1 = q.1 ∧ RelV p.2 q.2

/-- a key of a dict (00_mix): an int or a text -/
def kV : Key → V
  | .inl i => .int i
  | .inr x => .str x

/-- what stands at a tracked address -/
inductive HO where
  /-- a list -/
  | lst (xs : List V)
  /-- a tuple (never changes) -/
  | tup (xs : List V)
  /-- a dict whose keys are ints and texts; one whose keys are tuples of ints and texts (the empty one is both) -/
  | dK (kvs : List (Key × V)) | dT (kvs : List (List Key × V))
  /-- a set of ints: its members, its size -/
  | set (S : Int → Bool) (n : Nat)
  /-- an instance of the class at C, its dict at dx, its attributes -/
  | ins (C dx : Addr) (fs : List (Str × V))
  /-- the dict of the instance at x -/
  | own (x : Addr)
  /-- the dict of an exception -/
  | xd (fs : List (Str × V))
  /-- a bound method, f of x -/
  | met (f x : Addr)
  /-- a range object lo, lo + 1, .. below hi -/
  | rng (lo hi : Int)
  /-- a thing that is known to the object (the script; a dict while a loop walks it): read, never written while it is so -/
  | frz (o : Obj) (u : HO)
  /-- a code object's table -/
  | tbl (ps : Array Value)
  /-- any other thing, by what is true of its one object (a def of one's own: SetO a S n := HO.ext fun h => ..) -/
  | ext (φ : Heap → Prop)

abbrev Hp := Addr → Option HO
def upd (H : Hp) (a : Addr) (o : HO) : Hp := fun b => if b = a then some o else H b
theorem upd_same {H : Hp} {a : Addr} {o : HO} : upd H a o a = some o := by unfold upd; rw [if_pos rfl]
theorem upd_ne {H : Hp} {a b : Addr} {o : HO} (h : b ≠ a) : upd H a o b = H b := by unfold upd; rw [if_neg h]
theorem ne_of_none {H : Hp} {a b : Addr} {o : HO} (h : H a = some o) (h' : H b = none) : a ≠ b := by
  intro e; subst e; rw [h] at h'; cases h'

section
variable (P : Program) (w : World)
def ObjOk (H : Hp) (h : Heap) (a : Addr) : HO → Prop
  | .lst xs => xs.length ≤ sizeLine ∧ ∃ (its : List Value) (n : Nat), Vals xs its ∧ h.get? a = some { cls := .type "list", data := .seq its.toArray n }
  | .tup xs => xs.length ≤ sizeLine ∧ ∃ its : List Value, Vals xs its ∧ IsTup h a its.toArray
  | .dK kvs => kvs.length ≤ sizeLine ∧ (a == sysModules) = false ∧ ∃ vs, KV kvs vs ∧ h.DictOf (mixKind P w) a vs
  | .dT kvs => kvs.length ≤ sizeLine ∧ (a == sysModules) = false ∧ ∃ xs : List (List Key × Addr × Value),
      Paired (fun (p : List Key × V) (q : List Key × Addr × Value) => p.1 = q.1 ∧ H q.2.1 = some (.tup (p.1.map kV)) ∧ RelV p.2 q.2.2) kvs xs ∧
      ∃ o es ep, h.get? a = some o ∧ o.ExactDict ∧ o.data = .dict es ep ∧ es.toList = xs.map (entryOfKey (tupleKind (mixKind P w))) ∧ (xs.map (·.1)).Nodup
  | .set S n => h.SetOf (intKind P w) a S n
  | .ins C dx fs => H dx = some (.own a) ∧ fs.length ≤ 1000 ∧ dx ≠ a ∧ h.get? a = some (PySem.W.instObj C dx) ∧
      ∃ mA, h.Ns1 dx mA ∧ (∀ f, RelO (fs.lookup f) (mA f)) ∧ PySem.Within mA (fs.map (·.1))
  | .own _ => ∃ o, h.get? a = some o
  | .xd fs => ∃ mA, h.Ns1 a mA ∧ ∀ f, RelO (fs.lookup f) (mA f)
  | .rng lo hi => ∃ t u v, h.get? a = some { cls := .type "range", data := .fields #[.int lo t, .int hi u, .int 1 v] }
  | .frz o u => h.get? a = some o ∧ ObjOk H h a u
  | .tbl ps => h.get? a = some { cls := .none, data := .fields ps }
  | .met f x => h.get? a = some (PySem.W.methodObj (.ref f) (.ref x))
  | .ext φ => φ h ∧ (∃ o, h.get? a = some o) ∧ ∀ h1 h2 : Heap, φ h1 → (∀ o, h1.get? a = some o → h2.get? a = some o) → φ h2
/-- the abstract heap is held -/
def HOk (H : Hp) (h : Heap) : Prop := ∀ a o, H a = some o → ObjOk P w H h a o
end

section
variable {P : Program} {w : World} {H H' : Hp} {h h' : Heap} {a : Addr} {o : HO}
theorem ObjOk.lt (x : ObjOk P w H h a o) : a < h.objs.size := by
  cases o with
  | lst xs => obtain ⟨_, _, _, _, e⟩ := x; exact Heap.lt_size e
  | tup xs => obtain ⟨_, _, _, p⟩ := x; exact p.lt
  | dK kvs => obtain ⟨_, _, _, _, o, _, _, e, _⟩ := x; exact Heap.lt_size e
  | dT kvs => obtain ⟨_, _, _, _, o, _, _, e, _⟩ := x; exact Heap.lt_size e
  | set S n => obtain ⟨o, _, _, _, e, _⟩ := x; exact Heap.lt_size e
  | ins C dx fs => obtain ⟨_, _, _, e, _⟩ := x; exact Heap.lt_size e
  | own y => obtain ⟨_, e⟩ := x; exact Heap.lt_size e
  | xd fs => obtain ⟨_, ⟨_, _, _, e, _⟩, _⟩ := x; exact Heap.lt_size e
  | rng lo hi => obtain ⟨_, _, _, e⟩ := x; exact Heap.lt_size e
  | frz ob u => obtain ⟨e, _⟩ := x; exact Heap.lt_size e
  | tbl ps => exact Heap.lt_size (show h.get? a = some _ from x)
  | met f y => exact Heap.lt_size (show h.get? a = some _ from x)
  | ext φ => obtain ⟨_, ⟨_, e⟩, _⟩ := x; exact Heap.lt_size e
theorem Paired.mapP {α β : Type} {F G : α → β → Prop} : ∀ {l₁ : List α} {l₂ : List β}, Paired F l₁ l₂ → (∀ a b, F a b → G a b) → Paired G l₁ l₂
  | _, _, .nil, _ => .nil
  | _, _, .cons r t, f => .cons (f _ _ r) (Paired.mapP t f)
/-- what an object's description leans on: its own object, its own dict, the tuples -/
theorem ObjOk.stay (x : ObjOk P w H h a o) (k : ∀ b u, (b = a ∨ H b = some (.own a)) → h.get? b = some u → h'.get? b = some u)
    (ho : ∀ b, H b = some (.own a) → H' b = some (.own a)) (ht : ∀ b xs, H b = some (.tup xs) → H' b = some (.tup xs)) : ObjOk P w H' h' a o := by
  induction o with
  | lst xs => obtain ⟨z, its, n, r, e⟩ := x; exact ⟨z, its, n, r, k _ _ (.inl rfl) e⟩
  | tup xs => obtain ⟨z, its, r, ob, e, c⟩ := x; exact ⟨z, its, r, ob, k _ _ (.inl rfl) e, c⟩
  | dK kvs => obtain ⟨z, y, vs, r, ob, es, ep, e, c⟩ := x; exact ⟨z, y, vs, r, ob, es, ep, k _ _ (.inl rfl) e, c⟩
  | dT kvs =>
    obtain ⟨z, y, xs, r, ob, es, ep, e, c⟩ := x
    exact ⟨z, y, xs, Paired.mapP r fun p q z => ⟨z.1, ht _ _ z.2.1, z.2.2⟩, ob, es, ep, k _ _ (.inl rfl) e, c⟩
  | set S n => obtain ⟨ob, es, ep, t, e, c⟩ := x; exact ⟨ob, es, ep, t, k _ _ (.inl rfl) e, c⟩
  | ins C dx fs =>
    obtain ⟨d, z, ne, e, mA, ⟨od, es, ep, e2, c⟩, r⟩ := x
    exact ⟨ho _ d, z, ne, k _ _ (.inl rfl) e, mA, ⟨od, es, ep, k _ _ (.inr d) e2, c⟩, r⟩
  | own y => obtain ⟨ob, e⟩ := x; exact ⟨ob, k _ _ (.inl rfl) e⟩
  | xd fs => obtain ⟨mA, ⟨od, es, ep, e, c⟩, r⟩ := x; exact ⟨mA, ⟨od, es, ep, k _ _ (.inl rfl) e, c⟩, r⟩
  | rng lo hi => obtain ⟨t, u, v, e⟩ := x; exact ⟨t, u, v, k _ _ (.inl rfl) e⟩
  | frz ob u ih => obtain ⟨e, q⟩ := x; exact ⟨k _ _ (.inl rfl) e, ih q⟩
  | tbl ps =>
    have e : h.get? a = some { cls := .none, data := .fields ps } := x
    show h'.get? a = some { cls := .none, data := .fields ps }
    exact k a _ (.inl rfl) e
  | met f y =>
    have e : h.get? a = some (PySem.W.methodObj (.ref f) (.ref y)) := x
    show h'.get? a = some (PySem.W.methodObj (.ref f) (.ref y))
    exact k a _ (.inl rfl) e
  | ext φ => obtain ⟨p, ⟨o, e⟩, st⟩ := x; exact ⟨st _ _ p fun o q => k _ _ (.inl rfl) q, ⟨o, k _ _ (.inl rfl) e⟩, st⟩
theorem HOk.lt (x : HOk P w H h) (e : H a = some o) : a < h.objs.size := (x a o e).lt
theorem HOk.fresh (x : HOk P w H h) (e : h.objs.size ≤ a) : H a = none := by
  cases q : H a with
  | none => rfl
  | some u => exact absurd (Nat.lt_of_lt_of_le (x.lt q) e) (Nat.lt_irrefl _)
/-- every object of the heap is kept -/
theorem HOk.kept (x : HOk P w H h) (k : ∀ b u, h.get? b = some u → h'.get? b = some u) : HOk P w H h' := fun a o e =>
  (x a o e).stay (fun b u _ q => k b u q) (fun _ q => q) fun _ _ q => q
/-- a new object is laid and tracked -/
theorem HOk.laid (x : HOk P w H h) (k : ∀ b u, h.get? b = some u → h'.get? b = some u) (hp : h.objs.size ≤ a) (new : ObjOk P w (upd H a o) h' a o) : HOk P w (upd H a o) h' := fun b u e => by
  have hn := x.fresh hp
  by_cases hb : b = a
  · subst hb; rw [upd_same] at e; cases e; exact new
  · rw [upd_ne hb] at e
    exact (x b u e).stay (fun c v _ q => k c v q) (fun c q => by rw [upd_ne (ne_of_none q hn)]; exact q) fun c xs q => by rw [upd_ne (ne_of_none q hn)]; exact q
end

/-- what may be read as u: it is u, or a known u -/
def Rd (H : Hp) (a : Addr) (u : HO) : Prop := H a = some u ∨ ∃ o, H a = some (.frz o u)
theorem Rd.ok {P : Program} {w : World} {H : Hp} {h : Heap} {a : Addr} {u : HO} (r : Rd H a u) (x : HOk P w H h) : ObjOk P w H h a u := by
  rcases r with r | ⟨o, r⟩
  · exact x a u r
  · obtain ⟨_, q⟩ := x a _ r
    exact q
/-- what may be written -/
def Mut : Option HO → Prop
  | some (.lst _) => True
  | some (.dK _) => True
  | some (.dT _) => True
  | some (.set _ _) => True
  | some (.ins _ _ _) => True
  | some (.ext _) => True
  | _ => False
section
variable {P : Program} {w : World} {H : Hp} {h h' : Heap} {x e : Addr} {o' : HO}
/-- the object at e is changed: x itself, or the dict of the instance x -/
theorem HOk.write (ok : HOk P w H h) (mu : Mut (H x)) (he : e = x ∨ H e = some (.own x)) (k : ∀ b u, b ≠ e → h.get? b = some u → h'.get? b = some u) (heo : ∃ u, h'.get? e = some u)
    (new : ObjOk P w (upd H x o') h' x o') : HOk P w (upd H x o') h' := fun b u q => by
  have nown : ∀ c y, H c = some (.own y) → c ≠ x := fun c y r z => by subst z; rw [r] at mu; exact mu
  have ntup : ∀ c xs, H c = some (.tup xs) → c ≠ x := fun c xs r z => by subst z; rw [r] at mu; exact mu
  by_cases hb : b = x
  · subst hb; rw [upd_same] at q; cases q; exact new
  · rw [upd_ne hb] at q
    by_cases hbe : b = e
    · have q' : H b = some (.own x) := by
        rcases he with z | z
        · exact absurd (hbe.trans z) hb
        · rw [hbe]; exact z
      rw [q] at q'; cases q'
      obtain ⟨v, hv⟩ := heo
      exact ⟨v, by rw [hbe]; exact hv⟩
    · refine (ok b u q).stay (fun c v hc r => k c v ?_ r) (fun c r => by rw [upd_ne (nown c b r)]; exact r) fun c xs r => by rw [upd_ne (ntup c xs r)]; exact r
      rcases hc with rfl | hc
      · exact hbe
      · rintro rfl
        rcases he with z | z
        · exact nown c b hc z
        · rw [hc] at z; cases z; exact hb rfl
end

/-! ### kept unless tracked; of the frames at fs (the callers') the slots may change (an exception that passes writes there); of the records at ex (iterators) nothing is said -/
structure Un (fs ex : List Addr) (H H' : Hp) (h h' : Heap) : Prop where
  keep : ∀ b o, h.get? b = some o → H b = none → b ∉ fs → b ∉ ex → h'.get? b = some o
  slot : ∀ b o, h.get? b = some o → H b = none → b ∈ fs → b ∉ ex → ∃ sl, h'.get? b = some { o with slots := sl }
  free : ∀ b o, h.get? b = some o → H b = none → b ∉ ex → H' b = none
  there : ∀ b o, h.get? b = some o → b ∉ ex → ∃ o', h'.get? b = some o'
  tups : ∀ b xs, H b = some (.tup xs) → H' b = some (.tup xs)
  frzs : ∀ b o u, H b = some (.frz o u) → H' b = some (.frz o u)
  tbls : ∀ b ps, H b = some (.tbl ps) → ∃ more, H' b = some (.tbl (ps ++ more))
section
variable {fs fs' ex ex' : List Addr} {H H1 H2 : Hp} {h h1 h2 h' : Heap} {a x e : Addr} {o : HO}
theorem Un.any (u : Un fs ex H H1 h h1) {b : Addr} {ob : Obj} (q : h.get? b = some ob) (n : H b = none) (hx : b ∉ ex) : ∃ sl, h1.get? b = some { ob with slots := sl } := by
  by_cases hb : b ∈ fs
  · exact u.slot b ob q n hb hx
  · exact ⟨ob.slots, u.keep b ob q n hb hx⟩
theorem Un.kept (k : ∀ b u, h.get? b = some u → h'.get? b = some u) : Un fs ex H H h h' :=
  ⟨fun b ob q _ _ _ => k b ob q, fun b ob q _ _ _ => ⟨ob.slots, k b ob q⟩, fun _ _ _ n _ => n, fun b ob q _ => ⟨ob, k b ob q⟩, fun _ _ q => q, fun _ _ _ q => q, fun _ ps q => ⟨#[], by rw [q]; simp⟩⟩
theorem Un.refl : Un fs ex H H h h := Un.kept fun _ _ q => q
theorem Un.laid (k : ∀ b u, h.get? b = some u → h'.get? b = some u) (hp : h.objs.size ≤ a) (hn : H a = none) : Un fs ex H (upd H a o) h h' where
  keep := fun b u q _ _ _ => k b u q
  slot := fun b u q _ _ _ => ⟨u.slots, k b u q⟩
  free := fun b u q n _ => by rw [upd_ne (Nat.ne_of_lt (Nat.lt_of_lt_of_le (Heap.lt_size q) hp))]; exact n
  there := fun b u q _ => ⟨u, k b u q⟩
  tups := fun b xs q => by rw [upd_ne (ne_of_none q hn)]; exact q
  frzs := fun b u xs q => by rw [upd_ne (ne_of_none q hn)]; exact q
  tbls := fun b ps q => ⟨#[], by rw [upd_ne (ne_of_none q hn), q]; simp⟩
theorem Un.write (mu : Mut (H x)) (he : e = x ∨ H e = some (.own x)) (k : ∀ b u, b ≠ e → h.get? b = some u → h'.get? b = some u) (heo : ∃ u, h'.get? e = some u) : Un fs ex H (upd H x o) h h' := by
  have hx : ∀ b, H b = none → b ≠ x := fun b n z => by subst z; rw [n] at mu; exact mu
  have hb : ∀ b, H b = none → b ≠ e := fun b n z => by
    subst z
    rcases he with r | r
    · exact hx b n r
    · rw [n] at r; cases r
  have hm : ∀ b u, H b = some u → ¬ Mut (some u) → b ≠ x := fun b u q nm z => by subst z; rw [q] at mu; exact nm mu
  refine ⟨fun b u q n _ _ => k b u (hb b n) q, fun b u q n _ _ => ⟨u.slots, k b u (hb b n) q⟩, fun b u q n _ => by rw [upd_ne (hx b n)]; exact n, fun b u q _ => ?_,
    fun b xs q => by rw [upd_ne (hm b _ q fun z => z)]; exact q, fun b u xs q => by rw [upd_ne (hm b _ q fun z => z)]; exact q, fun b ps q => ⟨#[], by rw [upd_ne (hm b _ q fun z => z), q]; simp⟩⟩
  by_cases hbe : b = e
  · subst hbe; exact heo
  · exact ⟨u, k b u hbe q⟩
end

/-! ### the heap without what is tracked -/
def trk (h : Heap) (H : Hp) : List Addr := (List.range h.objs.size).filter fun a => (H a).isSome
def hidT (h : Heap) (H : Hp) : Heap := PySem.W.hideAll h (trk h H)
theorem hidT_size (h : Heap) (H : Hp) : (hidT h H).objs.size = h.objs.size := PySem.W.hideAll_size _ _
theorem hidT_get {h : Heap} {H : Hp} {b : Addr} {o : Obj} (e : h.get? b = some o) (n : H b = none) : (hidT h H).get? b = some o :=
  PySem.W.hideAll_get _ e fun hm => by
    have q : (H b).isSome = true := (List.mem_filter.mp hm).2
    rw [n] at q; simp at q
theorem of_hidT {h : Heap} {H : Hp} {b : Addr} {o : Obj} (e : (hidT h H).get? b = some o) : h.get? b = some o ∧ H b = none := by
  have e' : h.get? b = some o := PySem.W.of_hideAll (trk h H) e
  refine ⟨e', ?_⟩
  cases q : H b with
  | none => rfl
  | some x =>
    have hm : b ∈ trk h H := List.mem_filter.mpr ⟨List.mem_range.mpr (Heap.lt_size e'), by simp [q]⟩
    have z : (hidT h H).get? b = none := PySem.W.hideAll_none (trk h H) hm
    rw [z] at e; cases e

/-! ### OpenK's ledger, filled with every new object but one -/
end L2

namespace L2
open PySem PySem.Spec PyProof.Rows

/-- the module's facts, over the base: the heap at the law's entry without what is tracked there -/
structure Mod (K : PySem.W.Frag) (mg : Str → Option Value) (base : Heap) : Prop where
  kin : K.In base
  glob : base.Ns mainGlobals mg
  blt : ∃ mb, base.Ns builtinsNs mb ∧ ∀ x : Str, x ≠ "__name__" → mb x = bootBuiltins x
  nolimit : base.NoLimit

/-- the context: a def's body (or a comprehension's block) running. base: fixed through the whole law; s₀, H₀: the entry; outer: the frames whose slots others may change (a def's callers); stack: all frames that run;
   ex: iterators that were made ahead of the entry and are walked here (a comprehension's); fn: the names whose cells were made at the entry (a def: all; a comprehension's block: its own); calm: not within an except suite; pn: pins that every state bears; xe: what is wanted of an exception that leaves the code -/
structure Cx where
  prog : Program
  w : World
  K : PySem.W.Frag
  mg : Str → Option Value
  base : Heap
  A : Around
  N : List Str
  s₀ : Shared
  H₀ : Hp
  env : Env
  outer : List Env
  stack : List Env
  ex : List Addr
  fn : Str → Bool
  calm : Bool
  pn : List (Addr × Obj)
  xe : Value → Shared → Prop
/-- the callers' frames -/
def frs (l : List Env) : List Addr := l.filterMap (·.frame)
abbrev Cx.fs (X : Cx) : List Addr := frs X.outer

def Vis (sc : Scope) (x : Str) : Prop := sc.names.lookup x = some .local ∨ sc.names.lookup x = some .cell ∨ sc.names.lookup x = some .free
def Loc (sc : Scope) (x : Str) : Prop := sc.names.lookup x = some .local ∨ sc.names.lookup x = some .cell
def Look (env : Env) (h : Heap) (m : Str → Option Value) (x : Str) (u : Value) : Prop :=
  (env.kindOf x = some .local ∧ m x = some u) ∨ ((env.kindOf x = some .cell ∨ env.kindOf x = some .free) ∧ ∃ c, env.cells.lookup x = some c ∧ h.IsCell c (some u))

structure Cx.Ok (X : Cx) : Prop where
  mod : Mod X.K X.mg X.base
  kind : X.env.scope.kind = .function
  glob : X.env.globals = mainGlobals
  blt : X.env.builtins = builtinsNs
  above : X.s₀.heap.objs.size ≤ X.env.locals
  inj : ∀ x y c, X.env.cells.lookup x = some c → X.env.cells.lookup y = some c → x = y
  has : ∀ x, (X.env.kindOf x = some .cell ∨ X.env.kindOf x = some .free) → ∃ c, X.env.cells.lookup x = some c
  cab : ∀ x c, X.fn x = true → X.env.cells.lookup x = some c → X.s₀.heap.objs.size ≤ c
  hd : X.calm = true → X.A.handled = none
  frames : X.A.frames = some X.stack
  stk : X.stack = X.outer ∨ (X.stack = X.env :: X.outer ∧ X.env.frame = some X.env.locals)
  exf : ∀ b ∈ X.ex, b ≠ X.env.locals ∧ ∀ x c, X.env.cells.lookup x = some c → c ≠ b
  bs : ∀ b o, X.base.get? b = some o → X.s₀.heap.get? b = some o ∧ X.H₀ b = none
  bsz : X.base.objs.size ≤ X.s₀.heap.objs.size
  noex : ∀ b o, X.base.get? b = some o → b ∉ X.ex
  exfs : ∀ b ∈ X.ex, b ∉ X.fs
  funs : X.s₀.heap.FunFrames X.base X.outer
  frf : ∀ b ∈ X.fs, X.H₀ b = none

structure Inv (X : Cx) (pins : List (Addr × Obj)) (σ : List (Option V)) (H : Hp) (s : Shared) : Prop where
  ok : X.Ok
  os : s.os = X.s₀.os
  bare : AllBare s.gens
  base : Un X.fs X.ex X.H₀ H X.s₀.heap s.heap
  loc : ∃ m, s.heap.Ns X.env.locals m ∧ ∀ (i : Nat) (x : Str) (v : V), X.N[i]? = some x → σ[i]? = some (some v) → Vis X.env.scope x → ∃ u, RelV v u ∧ Look X.env s.heap m x u
  cell : ∀ x c, X.env.cells.lookup x = some c → ∃ v, s.heap.IsCell c v
  free : H X.env.locals = none
  freeC : ∀ x c, X.env.cells.lookup x = some c → H c = none
  pin : ∀ p ∈ X.pn ++ pins, s.heap.get? p.1 = some p.2 ∧ H p.1 = none ∧ p.1 ≠ X.env.locals ∧ p.1 ∉ X.fs ∧ ∀ v, p.2.data ≠ .cell v
  hok : HOk X.prog X.w H s.heap
  len : σ.length = X.N.length

section
variable {X : Cx} {pins : List (Addr × Obj)} {σ : List (Option V)} {H H' : Hp} {s : Shared} {h' : Heap}

theorem Cx.Ok.nofr (ok : X.Ok) {b : Addr} {o : Obj} (e : X.base.get? b = some o) : b ∉ X.fs := fun hb => by
  have := (ok.funs.mem hb).1
  rw [e] at this; cases this
theorem Inv.bs (I : Inv X pins σ H s) : ∀ b o, X.base.get? b = some o → s.heap.get? b = some o ∧ H b = none := fun b o e =>
  ⟨I.base.keep b o (I.ok.bs b o e).1 (I.ok.bs b o e).2 (I.ok.nofr e) (I.ok.noex b o e), I.base.free b o (I.ok.bs b o e).1 (I.ok.bs b o e).2 (I.ok.noex b o e)⟩
theorem Inv.bk (I : Inv X pins σ H s) : ∀ b o, X.base.get? b = some o → s.heap.get? b = some o := fun b o e => (I.bs b o e).1
theorem Inv.mod (I : Inv X pins σ H s) : Mod X.K X.mg X.base := I.ok.mod
theorem Inv.kIn (I : Inv X pins σ H s) : X.K.In s.heap := I.ok.mod.kin.keeps I.bk
theorem Inv.lt (I : Inv X pins σ H s) : X.env.locals < s.heap.objs.size := let ⟨_, hn, _⟩ := I.loc; hn.lt
theorem Inv.sz (I : Inv X pins σ H s) : X.s₀.heap.objs.size ≤ s.heap.objs.size := Nat.le_trans I.ok.above (Nat.le_of_lt I.lt)
theorem Inv.nofs (I : Inv X pins σ H s) {a : Addr} (h : s.heap.objs.size ≤ a) : a ∉ X.fs := fun hb => by
  obtain ⟨_, o, ho, _⟩ := I.ok.funs.mem hb
  exact absurd (Nat.lt_of_lt_of_le (Heap.lt_size ho) (Nat.le_trans I.sz h)) (Nat.lt_irrefl _)
theorem Inv.cne (I : Inv X pins σ H s) : ∀ x c, X.env.cells.lookup x = some c → c ≠ X.env.locals := fun x c e z => by
  obtain ⟨v, o, ho, hd⟩ := I.cell x c e
  obtain ⟨m, ⟨o', es, ep, ho', hd', _⟩, _⟩ := I.loc
  rw [z, ho'] at ho; cases ho; rw [hd'] at hd; cases hd
theorem Inv.funs (I : Inv X pins σ H s) : s.heap.FunFrames X.base X.outer := by
  have all : ∀ (l : List Env), (∀ b ∈ frs l, b ∈ X.fs) → X.s₀.heap.FunFrames X.base l → s.heap.FunFrames X.base l := by
    intro l
    induction l with
    | nil => intro _ _; trivial
    | cons env r ih =>
      intro hs hl
      obtain ⟨hk, ⟨L, o, hf, hn, ho, hd⟩, hr⟩ := hl
      have hL : L ∈ X.fs := hs L (by unfold frs; rw [List.filterMap_cons, hf]; exact List.mem_cons_self)
      obtain ⟨sl, e⟩ := I.base.slot L o ho (I.ok.frf L hL) hL fun z => I.ok.exfs L z hL
      exact ⟨hk, ⟨L, _, hf, hn, e, hd⟩, ih (fun b hb => hs b (by unfold frs; rw [List.filterMap_cons, hf]; exact List.mem_cons_of_mem _ hb)) hr⟩
  exact all X.outer (fun _ hb => hb) I.ok.funs

/-- the frames that run, for a call -/
theorem Inv.stack (I : Inv X pins σ H s) : s.heap.FunFrames X.base X.stack := by
  rcases I.ok.stk with e | ⟨e, hf⟩
  · rw [e]; exact I.funs
  · rw [e]
    obtain ⟨m, hn, _⟩ := I.loc
    refine .cons (by rw [I.ok.kind]; decide) hf hn ?_ I.funs
    exact Heap.get?_none_of_le (Nat.le_trans I.ok.bsz I.ok.above)
theorem Inv.stkSub (I : Inv X pins σ H s) : ∀ b ∈ frs X.stack, b ∈ X.env.locals :: X.fs := fun b hb => by
  rcases I.ok.stk with e | ⟨e, hf⟩
  · rw [e] at hb; exact List.mem_cons_of_mem _ hb
  · rw [e] at hb
    unfold frs at hb
    rw [List.filterMap_cons, hf] at hb
    exact hb
theorem Inv.stkFree (I : Inv X pins σ H s) : ∀ b ∈ frs X.stack, H b = none := fun b hb => by
  rcases List.mem_cons.mp (I.stkSub b hb) with e | hb
  · rw [e]; exact I.free
  · obtain ⟨_, o, ho, _⟩ := I.ok.funs.mem hb
    exact I.base.free b o ho (I.ok.frf b hb) fun z => I.ok.exfs b z hb

/-- THE STEP: the untracked objects but the frame and the records at ch are kept (the callers' frames up to slots), the frame's map is kept, the new abstract heap is held -/
theorem Inv.step {g' : Array GenState} {t' : Nat} {d' : Drawn} {ch : List Addr} (I : Inv X pins σ H s)
    (hch : ∀ b ∈ ch, (b ∈ X.ex ∨ X.s₀.heap.objs.size ≤ b) ∧ b ≠ X.env.locals ∧ (∀ x c, X.env.cells.lookup x = some c → c ≠ b) ∧ ∀ p ∈ X.pn ++ pins, p.1 ≠ b)
    (keep : ∀ b o, b ≠ X.env.locals → b ∉ X.fs → b ∉ ch → s.heap.get? b = some o → H b = none → h'.get? b = some o)
    (slot : ∀ b o, b ≠ X.env.locals → b ∈ X.fs → b ∉ ch → s.heap.get? b = some o → H b = none → ∃ sl, h'.get? b = some { o with slots := sl }) (free : ∀ b o, b ∉ ch → s.heap.get? b = some o → H b = none → H' b = none)
    (there : ∀ b o, b ∉ ch → s.heap.get? b = some o → ∃ o', h'.get? b = some o')
    (tups : ∀ b xs, H b = some (.tup xs) → H' b = some (.tup xs)) (frzs : ∀ b o u, H b = some (.frz o u) → H' b = some (.frz o u)) (tbls : ∀ b ps, H b = some (.tbl ps) → ∃ more, H' b = some (.tbl (ps ++ more)))
    (ns : ∀ m, s.heap.Ns X.env.locals m → h'.Ns X.env.locals m) (hok : HOk X.prog X.w H' h') (hg : AllBare g') :
    Inv X pins σ H' { s with heap := h', gens := g', drawn := d', toks := t' } := by
  have neL : ∀ b o, X.s₀.heap.get? b = some o → b ≠ X.env.locals := fun b o e => Nat.ne_of_lt (Nat.lt_of_lt_of_le (Heap.lt_size e) I.ok.above)
  have neC : ∀ b o, X.s₀.heap.get? b = some o → b ∉ X.ex → b ∉ ch := fun b o e hx hb => by
    rcases (hch b hb).1 with z | z
    · exact hx z
    · exact absurd (Nat.lt_of_lt_of_le (Heap.lt_size e) z) (Nat.lt_irrefl _)
  have cellK : ∀ x c, X.env.cells.lookup x = some c → ∀ v, s.heap.IsCell c v → h'.IsCell c v := fun x c e v ⟨o, ho, hd⟩ => by
    have nch : c ∉ ch := fun z => (hch c z).2.2.1 x c e rfl
    by_cases hc : c ∈ X.fs
    · obtain ⟨sl, q⟩ := slot c o (I.cne x c e) hc nch ho (I.freeC x c e)
      exact ⟨_, q, hd⟩
    · exact ⟨o, keep c o (I.cne x c e) hc nch ho (I.freeC x c e), hd⟩
  refine ⟨I.ok, I.os, hg, ⟨fun b o e n hb hx => ?_, fun b o e n hb hx => ?_, fun b o e n hx => ?_, fun b o e hx => ?_, fun b xs e => tups b xs (I.base.tups b xs e), fun b o xs e => frzs b o xs (I.base.frzs b o xs e), fun b ps e => ?_⟩, ?_, fun x c e => ?_, ?_, fun x c e => ?_, fun p hp => ?_, hok, I.len⟩
  · exact keep b o (neL b o e) hb (neC b o e hx) (I.base.keep b o e n hb hx) (I.base.free b o e n hx)
  · obtain ⟨sl, e1⟩ := I.base.slot b o e n hb hx
    obtain ⟨sl', e2⟩ := slot b _ (neL b o e) hb (neC b o e hx) e1 (I.base.free b o e n hx)
    exact ⟨sl', e2⟩
  · obtain ⟨o', e1⟩ := I.base.there b o e hx
    exact free b o' (neC b o e hx) e1 (I.base.free b o e n hx)
  · obtain ⟨o', e1⟩ := I.base.there b o e hx
    exact there b o' (neC b o e hx) e1
  · obtain ⟨m1, e1⟩ := I.base.tbls b ps e
    obtain ⟨m2, e2⟩ := tbls b _ e1
    exact ⟨m1 ++ m2, by rw [e2, Array.append_assoc]⟩
  · obtain ⟨m, hn, hl⟩ := I.loc
    refine ⟨m, ns m hn, fun i x v e1 e2 e3 => ?_⟩
    obtain ⟨u, r, l⟩ := hl i x v e1 e2 e3
    refine ⟨u, r, ?_⟩
    rcases l with l | ⟨k, c, e, z⟩
    · exact .inl l
    · exact .inr ⟨k, c, e, cellK x c e _ z⟩
  · obtain ⟨v, z⟩ := I.cell x c e
    exact ⟨v, cellK x c e v z⟩
  · obtain ⟨m, ⟨o, _, _, ho, _⟩, _⟩ := I.loc
    exact free _ o (fun z => (hch _ z).2.1 rfl) ho I.free
  · obtain ⟨v, o, ho, hd⟩ := I.cell x c e
    exact free c o (fun z => (hch c z).2.2.1 x c e rfl) ho (I.freeC x c e)
  · obtain ⟨e, n, ne, nf, d⟩ := I.pin p hp
    have nch : p.1 ∉ ch := fun z => (hch p.1 z).2.2.2 p hp rfl
    exact ⟨keep p.1 p.2 ne nf nch e n, free p.1 p.2 nch e n, ne, nf, d⟩
/-- .. where the frame's own object is kept too -/
theorem Inv.un {t' : Nat} (I : Inv X pins σ H s) (u : Un X.fs [] H H' s.heap h') (hok : HOk X.prog X.w H' h') : Inv X pins σ H' { s with heap := h', toks := t' } := by
  obtain ⟨m, ⟨o, es, ep, ho, r⟩, _⟩ := id I.loc
  obtain ⟨sl, hL⟩ := u.any ho I.free (by simp)
  exact I.step (g' := s.gens) (d' := s.drawn) (ch := []) (fun _ z => nomatch z) (fun b o _ hb _ e n => u.keep b o e n hb (by simp)) (fun b o _ hb _ e n => u.slot b o e n hb (by simp)) (fun b o _ e n => u.free b o e n (by simp)) (fun b o _ e => u.there b o e (by simp)) u.tups u.frzs u.tbls (fun m' hm => by
    obtain ⟨o', es', ep', ho', r'⟩ := hm
    rw [ho] at ho'; cases ho'
    exact ⟨_, es', ep', hL, r'⟩) hok I.bare
/-- behind a call (or a comprehension's block): the slots of this frame may have changed too, the records at ch may have turned -/
theorem Inv.call {g' : Array GenState} {t' : Nat} {d' : Drawn} {ch : List Addr} (I : Inv X pins σ H s) (u : Un (frs X.stack) ch H H' s.heap h') (hok : HOk X.prog X.w H' h') (hg : AllBare g')
    (hch : ∀ b ∈ ch, (b ∈ X.ex ∨ X.s₀.heap.objs.size ≤ b) ∧ b ≠ X.env.locals ∧ (∀ x c, X.env.cells.lookup x = some c → c ≠ b) ∧ ∀ p ∈ X.pn ++ pins, p.1 ≠ b) :
    Inv X pins σ H' { s with heap := h', gens := g', drawn := d', toks := t' } := by
  obtain ⟨m, ⟨o, es, ep, ho, r⟩, _⟩ := id I.loc
  obtain ⟨sl, hL⟩ := u.any ho I.free fun z => (hch _ z).2.1 rfl
  exact I.step (ch := ch) hch (fun b o hL hb hc e n => u.keep b o e n (fun z => (List.mem_cons.mp (I.stkSub b z)).elim hL hb) hc) (fun b o _ _ hc e n => u.any e n hc) (fun b o hc e n => u.free b o e n hc) (fun b o hc e => u.there b o e hc) u.tups u.frzs u.tbls (fun m' hm => by
    obtain ⟨o', es', ep', ho', r'⟩ := hm
    rw [ho] at ho'; cases ho'
    exact ⟨_, es', ep', hL, r'⟩) hok hg
/-- an untracked record of ours (an iterator) has turned -/
theorem Inv.turned {t' : Nat} {it : Addr} (I : Inv X pins σ H s) (k : ∀ b o, b ≠ it → s.heap.get? b = some o → h'.get? b = some o) (hn : H it = none) (hL : it ≠ X.env.locals)
    (h1 : it ∈ X.ex ∨ X.s₀.heap.objs.size ≤ it) (h2 : ∀ x c, X.env.cells.lookup x = some c → c ≠ it) (h3 : ∀ p ∈ X.pn ++ pins, p.1 ≠ it) : Inv X pins σ H { s with heap := h', toks := t' } := by
  have nit : ∀ b u, H b = some u → b ≠ it := fun b u e z => by rw [z, hn] at e; cases e
  refine I.step (g' := s.gens) (d' := s.drawn) (ch := [it]) (fun b hb => ?_) (fun b o _ _ hc e _ => k b o (fun z => hc (by simp [z])) e) (fun b o _ _ hc e _ => ⟨o.slots, k b o (fun z => hc (by simp [z])) e⟩) (fun _ _ _ _ n => n)
    (fun b o hc e => ⟨o, k b o (fun z => hc (by simp [z])) e⟩) (fun _ _ e => e) (fun _ _ _ e => e) (fun b ps e => ⟨#[], by rw [e]; simp⟩) (fun m hm => ?_) (fun b u e => ?_) I.bare
  · have e : b = it := by simpa using hb
    subst e
    exact ⟨h1, hL, h2, h3⟩
  · obtain ⟨o, es, ep, ho, r⟩ := hm
    exact ⟨o, es, ep, k _ o (Ne.symm hL) ho, r⟩
  · refine (I.hok b u e).stay (fun c v hc q => k c v ?_ q) (fun _ q => q) fun _ _ q => q
    rcases hc with z | z
    · rw [z]; exact nit b u e
    · exact nit c _ z
theorem Inv.tok (I : Inv X pins σ H s) (t : Nat) : Inv X pins σ H { s with toks := t } := I.un (h' := s.heap) (t' := t) Un.refl I.hok
/-- all objects kept -/
theorem Inv.kept {t' : Nat} (I : Inv X pins σ H s) (k : ∀ b u, s.heap.get? b = some u → h'.get? b = some u) : Inv X pins σ H { s with heap := h', toks := t' } := I.un (Un.kept k) (I.hok.kept k)
/-- a new object laid and tracked -/
theorem Inv.laid {a : Addr} {o : HO} {t' : Nat} (I : Inv X pins σ H s) (k : ∀ b u, s.heap.get? b = some u → h'.get? b = some u) (hp : s.heap.objs.size ≤ a) (new : ObjOk X.prog X.w (upd H a o) h' a o) :
    Inv X pins σ (upd H a o) { s with heap := h', toks := t' } := I.un (Un.laid k hp (I.hok.fresh hp)) (I.hok.laid k hp new)
/-- an object written -/
theorem Inv.write {x e : Addr} {o : HO} {t' : Nat} (I : Inv X pins σ H s) (mu : Mut (H x)) (he : e = x ∨ H e = some (.own x)) (k : ∀ b u, b ≠ e → s.heap.get? b = some u → h'.get? b = some u) (heo : ∃ u, h'.get? e = some u)
    (new : ObjOk X.prog X.w (upd H x o) h' x o) : Inv X pins σ (upd H x o) { s with heap := h', toks := t' } := I.un (Un.write mu he k heo) (I.hok.write mu he k heo new)
theorem Inv.pins_of {pins' : List (Addr × Obj)} (I : Inv X pins σ H s) (h : ∀ p ∈ pins', s.heap.get? p.1 = some p.2 ∧ H p.1 = none ∧ p.1 ≠ X.env.locals ∧ p.1 ∉ X.fs ∧ ∀ v, p.2.data ≠ .cell v) : Inv X pins' σ H s :=
  ⟨I.ok, I.os, I.bare, I.base, I.loc, I.cell, I.free, I.freeC, fun p hp => (List.mem_append.mp hp).elim (fun z => I.pin p (List.mem_append_left _ z)) (h p), I.hok, I.len⟩

theorem nodup_ix {N : List Str} (hN : N.Nodup) {i j : Nat} {x : Str} (a : N[i]? = some x) (b : N[j]? = some x) : i = j := by
  obtain ⟨h1, e1⟩ := List.getElem?_eq_some_iff.mp a
  obtain ⟨h2, e2⟩ := List.getElem?_eq_some_iff.mp b
  exact (List.getElem_inj hN).mp (e1.trans e2.symm)

/-- a name is stored; what changed -/
theorem store_ok2 {M : Model} {A : Around} {E : Value → Shared → Prop} {i : Nat} {x : Str} {v : V} {u : Value} {Q : Unit → Shared → Prop} (I : Inv X pins σ H s) (hN : X.N.Nodup) (hi : X.N[i]? = some x) (hx : Loc X.env.scope x) (r : RelV v u)
    (h : ∀ s', Inv X pins (σ.set i (some v)) H s' → (∃ a, Heap.SameBut a s.heap s'.heap ∧ (a = X.env.locals ∨ X.env.cells.lookup x = some a)) → Q () s') (hf : X.fn x = true ∨ X.env.scope.names.lookup x = some .local := by first | exact .inl rfl | exact .inr rfl | assumption) : wpAny M A (storeName X.env x u) Q E s := by
  obtain ⟨m, hn, hl⟩ := id I.loc
  have hcls : (X.env.scope.kind == .class || (X.env.scope.kind == .module && X.env.locals != X.env.globals)) = false := by rw [I.ok.kind]; rfl
  have hiσ : i < σ.length := by rw [I.len]; exact (List.getElem?_eq_some_iff.mp hi).1
  have cne := I.cne
  have tracked : ∀ {a : Addr} {h' : Heap}, (∃ o, s.heap.get? a = some o ∧ H a = none) → Heap.SameBut a s.heap h' → HOk X.prog X.w H h' := fun {a h'} ha hs b ob e => by
    obtain ⟨_, _, hfree⟩ := ha
    refine (I.hok b ob e).stay (fun c w' hc q => (hs.2 c ?_).trans q) (fun _ q => q) fun _ _ q => q
    rintro rfl
    rcases hc with rfl | hc
    · rw [hfree] at e; cases e
    · rw [hfree] at hc; cases hc
  rcases hx with hk | hk
  · refine wpAny_storeName_local hk hn (fun h' hn' hs => ?_) hcls
    obtain ⟨oL, _, _, hoL, _⟩ := id hn
    refine h _ ⟨I.ok, I.os, I.bare, ⟨fun b o e n hb hx => ?_, fun b o e n hb hx => ?_, I.base.free, fun b o e hx => ?_, I.base.tups, I.base.frzs, I.base.tbls⟩, ⟨_, hn', fun j y v' e1 e2 e3 => ?_⟩, fun y c e => ?_, I.free, I.freeC, fun p hp => ?_, tracked ⟨oL, hoL, I.free⟩ hs, by simpa using I.len⟩ ⟨_, hs, .inl rfl⟩
    · exact (hs.2 b (Nat.ne_of_lt (Nat.lt_of_lt_of_le (Heap.lt_size e) I.ok.above))).trans (I.base.keep b o e n hb hx)
    · obtain ⟨sl, e1⟩ := I.base.slot b o e n hb hx
      exact ⟨sl, (hs.2 b (Nat.ne_of_lt (Nat.lt_of_lt_of_le (Heap.lt_size e) I.ok.above))).trans e1⟩
    · obtain ⟨o', e1⟩ := I.base.there b o e hx
      exact ⟨o', (hs.2 b (Nat.ne_of_lt (Nat.lt_of_lt_of_le (Heap.lt_size e) I.ok.above))).trans e1⟩
    · by_cases hj : j = i
      · subst hj
        rw [hi] at e1; cases e1
        rw [List.getElem?_set_self hiσ] at e2
        cases e2
        exact ⟨u, r, .inl ⟨hk, by simp⟩⟩
      · rw [List.getElem?_set_ne (Ne.symm hj)] at e2
        obtain ⟨u', r', q⟩ := hl j y v' e1 e2 e3
        refine ⟨u', r', ?_⟩
        rcases q with ⟨k, e⟩ | ⟨k, c, e, z⟩
        · refine .inl ⟨k, ?_⟩
          have : y ≠ x := fun e => hj (nodup_ix hN e1 (e ▸ hi))
          simp [this, e]
        · exact .inr ⟨k, c, e, z.sameBut hs (cne y c e)⟩
    · obtain ⟨w', z⟩ := I.cell y c e
      exact ⟨w', z.sameBut hs (cne y c e)⟩
    · obtain ⟨e, n, ne, nf, d⟩ := I.pin p hp
      exact ⟨(hs.2 p.1 ne).trans e, n, ne, nf, d⟩
  · have hfn : X.fn x = true := by
      rcases hf with z | z
      · exact z
      · rw [z] at hk; cases hk
    obtain ⟨c, hc⟩ := I.ok.has x (.inl hk)
    obtain ⟨w', z⟩ := I.cell x c hc
    refine wpAny_storeName_cell I.ok.kind hk hc z (fun h' hc' hs => ?_)
    obtain ⟨oc, hoc, hocd⟩ := id z
    refine h { s with heap := h' } ⟨I.ok, I.os, I.bare, ⟨fun b o e n hb hx => ?_, fun b o e n hb hx => ?_, I.base.free, fun b o e hx => ?_, I.base.tups, I.base.frzs, I.base.tbls⟩, ⟨m, hn.sameBut hs (Ne.symm (cne x c hc)), fun j y v' e1 e2 e3 => ?_⟩, fun y c' e => ?_, I.free, I.freeC, fun p hp => ?_, tracked ⟨oc, hoc, I.freeC x c hc⟩ hs, by simpa using I.len⟩ ⟨c, hs, .inr hc⟩
    · exact (hs.2 b (Nat.ne_of_lt (Nat.lt_of_lt_of_le (Heap.lt_size e) (I.ok.cab x c hfn hc)))).trans (I.base.keep b o e n hb hx)
    · obtain ⟨sl, e1⟩ := I.base.slot b o e n hb hx
      exact ⟨sl, (hs.2 b (Nat.ne_of_lt (Nat.lt_of_lt_of_le (Heap.lt_size e) (I.ok.cab x c hfn hc)))).trans e1⟩
    · obtain ⟨o', e1⟩ := I.base.there b o e hx
      exact ⟨o', (hs.2 b (Nat.ne_of_lt (Nat.lt_of_lt_of_le (Heap.lt_size e) (I.ok.cab x c hfn hc)))).trans e1⟩
    · by_cases hj : j = i
      · subst hj
        rw [hi] at e1; cases e1
        rw [List.getElem?_set_self hiσ] at e2
        cases e2
        exact ⟨u, r, .inr ⟨.inl hk, c, hc, hc'⟩⟩
      · rw [List.getElem?_set_ne (Ne.symm hj)] at e2
        obtain ⟨u', r', q⟩ := hl j y v' e1 e2 e3
        refine ⟨u', r', ?_⟩
        rcases q with q | ⟨k, c', e, z'⟩
        · exact .inl q
        · refine .inr ⟨k, c', e, z'.sameBut hs ?_⟩
          rintro rfl
          exact hj (nodup_ix hN e1 (I.ok.inj _ _ _ e hc ▸ hi))
    · by_cases hcc : c' = c
      · subst hcc; exact ⟨_, hc'⟩
      · obtain ⟨w2, z2⟩ := I.cell y c' e
        exact ⟨w2, z2.sameBut hs hcc⟩
    · obtain ⟨e, n, ne, nf, d⟩ := I.pin p hp
      refine ⟨(hs.2 p.1 ?_).trans e, n, ne, nf, d⟩
      intro q
      rw [q, hoc] at e
      have q' : oc = p.2 := Option.some.inj e
      exact d w' (by rw [← q']; exact hocd)
theorem store_ok {M : Model} {A : Around} {E : Value → Shared → Prop} {i : Nat} {x : Str} {v : V} {u : Value} {Q : Unit → Shared → Prop} (I : Inv X pins σ H s) (hN : X.N.Nodup) (hi : X.N[i]? = some x) (hx : Loc X.env.scope x) (r : RelV v u)
    (h : ∀ s', Inv X pins (σ.set i (some v)) H s' → Q () s') (hf : X.fn x = true ∨ X.env.scope.names.lookup x = some .local := by first | exact .inl rfl | exact .inr rfl | assumption) : wpAny M A (storeName X.env x u) Q E s :=
  store_ok2 I hN hi hx r (fun s' I' _ => h s' I') hf
/-- behind a call or a block, the state as it is -/
theorem Inv.call' {s' : Shared} {ch : List Addr} (I : Inv X pins σ H s) (ho : s'.os = s.os) (u : Un (frs X.stack) ch H H' s.heap s'.heap) (hok : HOk X.prog X.w H' s'.heap) (hg : AllBare s'.gens)
    (hch : ∀ b ∈ ch, (b ∈ X.ex ∨ X.s₀.heap.objs.size ≤ b) ∧ b ≠ X.env.locals ∧ (∀ x c, X.env.cells.lookup x = some c → c ≠ b) ∧ ∀ p ∈ X.pn ++ pins, p.1 ≠ b) : Inv X pins σ H' s' := by
  obtain ⟨h', g', d', t', o'⟩ := s'
  have e : o' = s.os := ho
  subst e
  exact I.call (g' := g') (t' := t') (d' := d') u hok hg hch
end

/-! ### the judgements -/
/-- an exception: its class, its own dict's address (where it has one), the abstract heap behind it -/
abbrev XK := Value → Option Addr → Hp → Prop
abbrev St := List (Option V)
abbrev VK := V → Hp → Prop
/-- an expression's reading; a test's; an argument list's -/
abbrev TE := St → Hp → VK → Prop
abbrev TT := St → Hp → (Bool → Hp → Prop) → Prop
abbrev TA := St → Hp → (List V → Hp → Prop) → Prop
/-- what is wanted behind a statement -/
structure Ends where
  nx : St → Hp → Prop
  rt : VK
  bk : St → Hp → Prop := fun _ _ => False
  ct : St → Hp → Prop := fun _ _ => False
abbrev TS := Ends → St → Hp → Prop

def EP (X : Cx) (pins : List (Addr × Obj)) (σ : St) (Q : VK) (u : Value) (s' : Shared) : Prop := ∃ v H', Inv X pins σ H' s' ∧ RelV v u ∧ Q v H'
def TP (X : Cx) (pins : List (Addr × Obj)) (σ : St) (Q : Bool → Hp → Prop) (b : Bool) (s' : Shared) : Prop := ∃ H', Inv X pins σ H' s' ∧ Q b H'
def AP (X : Cx) (pins : List (Addr × Obj)) (σ : St) (Q : List V → Hp → Prop) (us : List Value) (s' : Shared) : Prop := ∃ vs H', Inv X pins σ H' s' ∧ Vals vs us ∧ Q vs H'
def SP (X : Cx) (pins : List (Addr × Obj)) (D : Ends) (f : Flow) (s' : Shared) : Prop :=
  match f with
  | .next => ∃ σ' H', Inv X pins σ' H' s' ∧ D.nx σ' H'
  | .brk => ∃ σ' H', Inv X pins σ' H' s' ∧ D.bk σ' H'
  | .cont => ∃ σ' H', Inv X pins σ' H' s' ∧ D.ct σ' H'
  | .ret u => ∃ v σ' H', Inv X pins σ' H' s' ∧ RelV v u ∧ D.rt v H'

def PE (X : Cx) (e : Expr) (t : TE) : Prop :=
  ∀ (pins : List (Addr × Obj)) (s : Shared) (σ : St) (H : Hp) (Q : VK), Inv X pins σ H s → t σ H Q → wpAny (model X.prog X.w) X.A (eval e X.env) (EP X pins σ Q) X.xe s
def PT (X : Cx) (e : Expr) (t : TT) : Prop :=
  ∀ (pins : List (Addr × Obj)) (s : Shared) (σ : St) (H : Hp) (Q : Bool → Hp → Prop), Inv X pins σ H s → t σ H Q → wpAny (model X.prog X.w) X.A (isTrue e X.env (eval e X.env)) (TP X pins σ Q) X.xe s
/-- a test whatever its 'whole' is (and, or) -/
def PW (X : Cx) (e : Expr) (t : TT) : Prop :=
  ∀ (whole : Sem Value) (pins : List (Addr × Obj)) (s : Shared) (σ : St) (H : Hp) (Q : Bool → Hp → Prop), Inv X pins σ H s → t σ H Q → wpAny (model X.prog X.w) X.A (isTrue e X.env whole) (TP X pins σ Q) X.xe s
theorem PW.pt {X : Cx} {e : Expr} {t : TT} (h : PW X e t) : PT X e t := h _
/-- an argument list (no star), from the left -/
def PA (X : Cx) (es : List Expr) (t : TA) : Prop :=
  ∀ (pos : Pos) (pins : List (Addr × Obj)) (s : Shared) (σ : St) (H : Hp) (Q : List V → Hp → Prop), Inv X pins σ H s → t σ H Q → wpAny (model X.prog X.w) X.A (spliced (backTo pos (starEach es X.env))) (AP X pins σ Q) X.xe s
def PS (X : Cx) (st : Stmt) (t : TS) : Prop :=
  ∀ (pins : List (Addr × Obj)) (s : Shared) (σ : St) (H : Hp) (D : Ends), Inv X pins σ H s → t D σ H → wpAny (model X.prog X.w) X.A (exec st X.env) (SP X pins D) X.xe s
def PSs (X : Cx) (st : List Stmt) (t : TS) : Prop :=
  ∀ (pins : List (Addr × Obj)) (s : Shared) (σ : St) (H : Hp) (D : Ends), Inv X pins σ H s → t D σ H → wpAny (model X.prog X.w) X.A (execs st X.env) (SP X pins D) X.xe s
/-- weaken the end -/
theorem thn {α : Type} {t : Sem α} {Q Q' : α → Shared → Prop} {M : Model} {A : Around} {E : Value → Shared → Prop} {s : Shared} (h : wpAny M A t Q E s) (hQ : ∀ a s, Q a s → Q' a s) : wpAny M A t Q' E s := wpAny_mono h hQ fun _ _ x => x
end L2

namespace L2
open PySem PySem.Spec PyProof.Rows
section
variable {X : Cx}

/-! ### names and constants -/
def tVar (i : Nat) : TE := fun σ H Q => ∃ v, σ[i]? = some (some v) ∧ Q v H
def tC (v : V) : TE := fun _ H Q => Q v H
theorem pe_var {i : Nat} {x : Str} {pos : Pos} (hN : X.N[i]? = some x) (hv : Vis X.env.scope x) (hd : (x == ("__debug__" : Str)) = false := by decide) (hcd : (x == ("__classdict__" : Str)) = false := by decide) : PE X (.Name x pos) (tVar i) := by
  intro pins s σ H Q I h
  obtain ⟨v, e, h⟩ := h
  obtain ⟨m, hn, hl⟩ := I.loc
  obtain ⟨u, r, l⟩ := hl i x v hN e hv
  have fin : EP X pins σ Q u s := ⟨v, H, I, r, h⟩
  rcases l with ⟨hk, hm⟩ | ⟨hk, c, hc, hcell⟩
  · exact wpAny_Name (wpAny_loadName_local I.ok.kind hk hn hm fin) hd
  · rcases hk with hk | hk
    · exact wpAny_Name (wpAny_loadName_cell I.ok.kind hk hc hcell fin) hd
    · exact wpAny_Name (wpAny_loadName_free I.ok.kind hk hc hcell fin hcd) hd
theorem pe_int {i j pos} : PE X (.Constant (.int i) j pos) (tC (.int i)) := fun _ _ _ H _ I h => wpAny_Constant_int ⟨.int i, H, I.tok _, ⟨_, rfl⟩, h⟩
theorem pe_bl {b j pos} : PE X (.Constant (.bool b) j pos) (tC (.bl b)) := fun _ _ _ H _ I h => Constant_bool ⟨.bl b, H, I, rfl, h⟩
theorem pe_non {j pos} : PE X (.Constant .none j pos) (tC .non) := fun _ _ _ H _ I h => Constant_none ⟨.non, H, I, rfl, h⟩
theorem pe_str {x j pos} : PE X (.Constant (.str x) j pos) (tC (.str x)) := fun _ _ _ H _ I h => Calls.Constant_str ⟨.str x, H, I.tok _, ⟨_, rfl⟩, h⟩

/-- a global name of the def -/
def Gl (X : Cx) (x : Str) : Prop := X.env.kindOf x = some .globalImplicit
theorem ld_glob {E : Value → Shared → Prop} {pins : List (Addr × Obj)} {s : Shared} {σ : St} {H : Hp} {x : Str} {u : Value} {pos : Pos} {Q : Value → Shared → Prop} (I : Inv X pins σ H s) (hg : Gl X x) (hm : X.mg x = some u) (h : Q u s)
    (hd : (x == ("__debug__" : Str)) = false := by decide) : wpAny (model X.prog X.w) X.A (eval (.Name x pos) X.env) Q E s :=
  Calls.Name_function_global I.ok.kind hg (Calls.loadGlobal_global (by rw [I.ok.glob]; exact I.mod.glob.keeps I.bk) hm h) hd
theorem ld_blt {E : Value → Shared → Prop} {pins : List (Addr × Obj)} {s : Shared} {σ : St} {H : Hp} {x : Str} {u : Value} {pos : Pos} {Q : Value → Shared → Prop} (I : Inv X pins σ H s) (hg : Gl X x) (hm : X.mg x = none) (hv : bootBuiltins x = some u) (h : Q u s)
    (hn : x ≠ "__name__" := by decide) (hd : (x == ("__debug__" : Str)) = false := by decide) : wpAny (model X.prog X.w) X.A (eval (.Name x pos) X.env) Q E s := by
  obtain ⟨mb, h1, h2⟩ := I.mod.blt
  exact Calls.Name_function_global I.ok.kind hg (Calls.loadGlobal_builtin (by rw [I.ok.glob]; exact I.mod.glob.keeps I.bk) hm (by rw [I.ok.blt]; exact h1.keeps I.bk) ((h2 x hn).trans hv) h) hd
/-- a module's constant, a class, a function, as a value -/
theorem pe_glob {x : Str} {v : V} {u : Value} {pos : Pos} (hg : Gl X x) (hm : X.mg x = some u) (r : RelV v u) (hd : (x == ("__debug__" : Str)) = false := by decide) : PE X (.Name x pos) (tC v) :=
  fun _ _ _ H _ I h => ld_glob I hg hm ⟨v, H, I, r, h⟩ hd
theorem pe_bltn {x : Str} {v : V} {u : Value} {pos : Pos} (hg : Gl X x) (hm : X.mg x = none) (hv : bootBuiltins x = some u) (r : RelV v u) (hn : x ≠ "__name__" := by decide) (hd : (x == ("__debug__" : Str)) = false := by decide) : PE X (.Name x pos) (tC v) :=
  fun _ _ _ H _ I h => ld_blt I hg hm hv ⟨v, H, I, r, h⟩ hn hd

/-! ### arithmetic -/
variable {a b : Expr} {ta tb : TE} {pos : Pos}
/-! ### comparisons -/
/-! ### and, or, not -/
variable {tA tB' : TT} {rest : List Expr}
def tAnd (t u : TT) : TT := fun σ H Q => t σ H fun c H1 => if c = true then u σ H1 Q else Q false H1
def tOr (t u : TT) : TT := fun σ H Q => t σ H fun c H1 => if c = true then Q true H1 else u σ H1 Q
def tNot (t : TT) : TT := fun σ H Q => t σ H fun c H1 => Q (!c) H1
theorem pw_and1 (ha : PT X a tA) : PW X (.BoolOp .And [a] pos) tA := by
  intro wh pins s σ H Q I h
  refine isTrue_and (thn (ha pins s σ H Q I h) fun c s1 e => ?_)
  cases c with
  | true => exact isTrue_and_nil e
  | false => exact e
theorem pw_or1 (ha : PT X a tA) : PW X (.BoolOp .Or [a] pos) tA := by
  intro wh pins s σ H Q I h
  refine isTrue_or (thn (ha pins s σ H Q I h) fun c s1 e => ?_)
  cases c with
  | false => exact isTrue_or_nil e
  | true => exact e
theorem pw_and (ha : PT X a tA) (hb : PW X (.BoolOp .And (b :: rest) pos) tB') : PW X (.BoolOp .And (a :: b :: rest) pos) (tAnd tA tB') := by
  intro wh pins s σ H Q I h
  refine isTrue_and (thn (ha pins s σ H _ I h) fun c s1 ⟨H1, I1, q1⟩ => ?_)
  cases c with
  | true => exact hb wh pins s1 σ H1 Q I1 q1
  | false => exact ⟨H1, I1, q1⟩
theorem pw_or (ha : PT X a tA) (hb : PW X (.BoolOp .Or (b :: rest) pos) tB') : PW X (.BoolOp .Or (a :: b :: rest) pos) (tOr tA tB') := by
  intro wh pins s σ H Q I h
  refine isTrue_or (thn (ha pins s σ H _ I h) fun c s1 ⟨H1, I1, q1⟩ => ?_)
  cases c with
  | true => exact ⟨H1, I1, q1⟩
  | false => exact hb wh pins s1 σ H1 Q I1 q1
theorem pt_not (ha : PT X a tA) : PT X (.UnaryOp .Not a pos) (tNot tA) := by
  intro pins s σ H Q I h
  exact isTrue_not (ha pins s σ H (fun c H1 => Q (!c) H1) I h)
/-- .. as values (bools) -/
def tAndV (ta tb : TE) : TE := fun σ H Q => ta σ H fun x H1 => ∃ c, x = .bl c ∧ if c = true then tb σ H1 Q else Q (.bl false) H1
def tOrV (ta tb : TE) : TE := fun σ H Q => ta σ H fun x H1 => ∃ c, x = .bl c ∧ if c = true then Q (.bl true) H1 else tb σ H1 Q
theorem pe_one {op} {t : TE} (h : PE X a t) : PE X (.BoolOp op [a] pos) t := fun pins s σ H Q I hw => BoolOp_one (h pins s σ H Q I hw)
theorem pe_and (ha : PE X a ta) (hb : PE X (.BoolOp .And (b :: rest) pos) tb) : PE X (.BoolOp .And (a :: b :: rest) pos) (tAndV ta tb) := by
  intro pins s σ H Q I h
  refine BoolOp_and (thn (ha pins s σ H _ I h) fun v s1 ⟨x, H1, I1, r1, q1⟩ => ?_)
  obtain ⟨c, rfl, q1⟩ := q1
  cases r1
  refine wpAny_truthy_bool ?_
  cases c with
  | true => exact hb pins s1 σ H1 Q I1 q1
  | false => exact ⟨.bl false, H1, I1, rfl, q1⟩
theorem pe_or (ha : PE X a ta) (hb : PE X (.BoolOp .Or (b :: rest) pos) tb) : PE X (.BoolOp .Or (a :: b :: rest) pos) (tOrV ta tb) := by
  intro pins s σ H Q I h
  refine BoolOp_or (thn (ha pins s σ H _ I h) fun v s1 ⟨x, H1, I1, r1, q1⟩ => ?_)
  obtain ⟨c, rfl, q1⟩ := q1
  cases r1
  refine wpAny_truthy_bool ?_
  cases c with
  | false => exact hb pins s1 σ H1 Q I1 q1
  | true => exact ⟨.bl true, H1, I1, rfl, q1⟩
end
end L2

namespace L2
open PySem PySem.Spec PyProof.Rows

/-! ### a list, a tuple that is read: tracked, frozen, or an object of the module -/
def SqL (K : PySem.W.Frag) (H : Hp) (a : Addr) (xs : List V) : Prop :=
  Rd H a (.lst xs) ∨
    ∃ (o : Obj) (its : Array Value) (n : Nat), K.lookup a = some o ∧ o.cls = .type "list" ∧ o.dict = none ∧ o.data = .seq its n ∧ its.size ≤ sizeLine ∧ Vals xs its.toList
def SqT (K : PySem.W.Frag) (H : Hp) (a : Addr) (xs : List V) : Prop :=
  Rd H a (.tup xs) ∨
    ∃ (o : Obj) (its : Array Value) (n : Nat), K.lookup a = some o ∧ o.cls = .type "tuple" ∧ o.data = .seq its n ∧ its.size ≤ sizeLine ∧ Vals xs its.toList
def absV : Value → Option V
  | .none => some .non
  | .bool b => some (.bl b)
  | .int i _ => some (.int i)
  | .str x _ => some (.str x)
  | .bytes b _ => some (.byt b)
  | .float b _ => some (.flt b)
  | .ref a => some (.ref a)
  | .type n => some (.ty n)
  | _ => none
theorem RelV.abs {x : V} {u : Value} (r : RelV x u) : absV u = some x := by
  cases x with
  | non => cases r; rfl
  | bl _ => cases r; rfl
  | int _ => obtain ⟨t, rfl⟩ := r; rfl
  | str _ => obtain ⟨t, rfl⟩ := r; rfl
  | byt _ => obtain ⟨t, rfl⟩ := r; rfl
  | flt _ => obtain ⟨t, rfl⟩ := r; rfl
  | ref _ => cases r; rfl
  | ty _ => cases r; rfl
theorem RelV.inj {x y : V} {u : Value} (r : RelV x u) (q : RelV y u) : x = y := Option.some.inj (r.abs.symm.trans q.abs)
theorem Vals.inj : ∀ {xs ys : List V} {us : List Value}, Vals xs us → Vals ys us → xs = ys
  | _, _, _, .nil, .nil => rfl
  | _, _, _, .cons r t, .cons r' t' => by rw [r.inj r', Vals.inj t t']
section
variable {X : Cx} {pins : List (Addr × Obj)} {σ : St} {H : Hp} {s : Shared} {a : Addr} {xs ys : List V}
theorem SqL.of {K : PySem.W.Frag} (h : H a = some (.lst xs)) : SqL K H a xs := .inl (.inl h)
theorem SqT.of {K : PySem.W.Frag} (h : H a = some (.tup xs)) : SqT K H a xs := .inl (.inl h)
theorem Inv.list (I : Inv X pins σ H s) (h : SqL X.K H a xs) : ∃ its : List Value, Vals xs its ∧ PlainL s.heap a its.toArray ∧ xs.length ≤ sizeLine := by
  rcases h with h | ⟨o, its, n, hk, hc, hd, hs, hz, r⟩
  · obtain ⟨z, its, n, r, e⟩ := h.ok I.hok
    exact ⟨its, r, ⟨_, n, e, rfl, rfl, rfl⟩, z⟩
  · refine ⟨its.toList, r, ⟨o, n, I.kIn a o hk, hc, hd, by simpa using hs⟩, ?_⟩
    have e := r.length
    simp only [Array.length_toList] at e
    (first | lia | omega)
theorem Inv.tuple (I : Inv X pins σ H s) (h : SqT X.K H a xs) : ∃ its : List Value, Vals xs its ∧ IsTup s.heap a its.toArray ∧ xs.length ≤ sizeLine := by
  rcases h with h | ⟨o, its, n, hk, hc, hs, hz, r⟩
  · obtain ⟨z, its, r, p⟩ := h.ok I.hok
    exact ⟨its, r, p, z⟩
  · refine ⟨its.toList, r, ⟨o, I.kIn a o hk, hc, n, by simpa using hs⟩, ?_⟩
    have e := r.length
    simp only [Array.length_toList] at e
    (first | lia | omega)
theorem Inv.list_inj (I : Inv X pins σ H s) (h : SqL X.K H a xs) (h' : SqL X.K H a ys) : xs = ys := by
  obtain ⟨its, r, ⟨o, n, e, _, _, d⟩, _⟩ := I.list h
  obtain ⟨its', r', ⟨o', n', e', _, _, d'⟩, _⟩ := I.list h'
  rw [e] at e'; cases e'
  rw [d] at d'
  injection d' with d1 _
  have : its = its' := by simpa using congrArg Array.toList d1
  subst this
  exact r.inj r'
theorem Inv.tuple_inj (I : Inv X pins σ H s) (h : SqT X.K H a xs) (h' : SqT X.K H a ys) : xs = ys := by
  obtain ⟨its, r, ⟨o, e, _, n, d⟩, _⟩ := I.tuple h
  obtain ⟨its', r', ⟨o', e', _, n', d'⟩, _⟩ := I.tuple h'
  rw [e] at e'; cases e'
  rw [d] at d'
  injection d' with d1 _
  have : its = its' := by simpa using congrArg Array.toList d1
  subst this
  exact r.inj r'
end

/-! ### another wish about exceptions -/
abbrev Cx.wish (X : Cx) (E : Value → Shared → Prop) : Cx := { X with xe := E }
/-- no exception leaves -/
abbrev Cx.nox (X : Cx) : Cx := X.wish fun _ _ => False
theorem Cx.Ok.wish {X : Cx} (ok : X.Ok) (E : Value → Shared → Prop) : (X.wish E).Ok :=
  ⟨ok.mod, ok.kind, ok.glob, ok.blt, ok.above, ok.inj, ok.has, ok.cab, ok.hd, ok.frames, ok.stk, ok.exf, ok.bs, ok.bsz, ok.noex, ok.exfs, ok.funs, ok.frf⟩
theorem Cx.Ok.unwish {X : Cx} {E : Value → Shared → Prop} (ok : (X.wish E).Ok) : X.Ok :=
  ⟨ok.mod, ok.kind, ok.glob, ok.blt, ok.above, ok.inj, ok.has, ok.cab, ok.hd, ok.frames, ok.stk, ok.exf, ok.bs, ok.bsz, ok.noex, ok.exfs, ok.funs, ok.frf⟩
section
variable {X : Cx} {pins : List (Addr × Obj)} {σ : St} {H : Hp} {s : Shared} {E : Value → Shared → Prop}
theorem Inv.wish (I : Inv X pins σ H s) (E : Value → Shared → Prop) : Inv (X.wish E) pins σ H s := ⟨I.ok.wish E, I.os, I.bare, I.base, I.loc, I.cell, I.free, I.freeC, I.pin, I.hok, I.len⟩
theorem Inv.unwish (I : Inv (X.wish E) pins σ H s) : Inv X pins σ H s := ⟨I.ok.unwish, I.os, I.bare, I.base, I.loc, I.cell, I.free, I.freeC, I.pin, I.hok, I.len⟩
theorem SP.unwish {D : Ends} {f : Flow} {s' : Shared} (h : SP (X.wish E) pins D f s') : SP X pins D f s' := by
  cases f with
  | next => obtain ⟨σ', H', I, q⟩ := h; exact ⟨σ', H', I.unwish, q⟩
  | brk => obtain ⟨σ', H', I, q⟩ := h; exact ⟨σ', H', I.unwish, q⟩
  | cont => obtain ⟨σ', H', I, q⟩ := h; exact ⟨σ', H', I.unwish, q⟩
  | ret u => obtain ⟨v, σ', H', I, r, q⟩ := h; exact ⟨v, σ', H', I.unwish, r, q⟩
theorem PSs.nox {st : List Stmt} {t : TS} (h : PSs X.nox st t) : PSs X st t := fun pins s σ H D I hw =>
  wpAny_mono (h pins s σ H D (I.wish _) hw) (fun _ _ q => q.unwish) fun _ _ z => False.elim z
end

/-! ### blocks and small statements -/
section
variable {X : Cx} {st : Stmt} {rest : List Stmt} {t u : TS} {e : Expr} {te : TE} {pos : Pos}
def tNext : TS := fun D σ H => D.nx σ H
def tSeq (t u : TS) : TS := fun D σ H => t { D with nx := u D } σ H
theorem pss_nil : PSs X [] tNext := fun _ _ σ H _ I h => wpAny_execs_nil ⟨σ, H, I, h⟩
theorem pss_cons (h1 : PS X st t) (h2 : PSs X rest u) : PSs X (st :: rest) (tSeq t u) := by
  intro pins s σ H D I h
  refine wpAny_execs_cons (thn (h1 pins s σ H { D with nx := u D } I h) fun f s1 q => ?_)
  cases f with
  | next =>
    obtain ⟨σ', H', I', q⟩ := q
    exact h2 pins s1 σ' H' D I' q
  | ret v => exact q
  | brk => exact q
  | cont => exact q
theorem pss_one (h1 : PS X st t) : PSs X [st] t := by
  intro pins s σ H D I h
  refine wpAny_execs_cons (thn (h1 pins s σ H D I h) fun f s1 q => ?_)
  cases f with
  | next => exact wpAny_execs_nil q
  | ret v => exact q
  | brk => exact q
  | cont => exact q
def tCont : TS := fun D σ H => D.ct σ H
theorem ps_continue : PS X (.Continue pos) tCont := fun _ _ σ H _ I h => wpAny_Continue ⟨σ, H, I, h⟩
/-- in a def's body nothing is shown -/
theorem Inv.quiet {pins : List (Addr × Obj)} {σ : St} {H : Hp} {s : Shared} (I : Inv X pins σ H s) : interactive X.env = false := by simp [interactive, I.ok.kind]
/-- an expression whose value is dropped -/
def tDrop (te : TE) : TS := fun D σ H => te σ H fun _ H1 => D.nx σ H1
theorem ps_expr (he : PE X e te) (hs : swapsWith e none pos.line X.env = pure false := by rfl) : PS X (.Expr e pos) (tDrop te) := by
  intro pins s σ H D I h
  exact wpAny_Expr_any (thn (he pins s σ H _ I h) fun v s1 ⟨x, H1, I1, r1, q1⟩ => ⟨σ, H1, I1, q1⟩) I.quiet hs
def tRet (te : TE) : TS := fun D σ H => te σ H D.rt
theorem ps_ret (he : PE X e te) : PS X (.Return (some e) pos) (tRet te) := by
  intro pins s σ H D I h
  exact wpAny_Return_some (thn (he pins s σ H _ I h) fun v s1 ⟨x, H1, I1, r1, q1⟩ => ⟨x, σ, H1, I1, r1, q1⟩)
def tIfS (c : TT) (t u : TS) : TS := fun D σ H => c σ H fun b H1 => if b = true then t D σ H1 else u D σ H1
theorem ps_if {c : Expr} {a b : List Stmt} {tc : TT} (hc : PT X c tc) (ha : PSs X a t) (hb : PSs X b u) : PS X (.If c a b pos) (tIfS tc t u) := by
  intro pins s σ H D I h
  refine wpAny_If (thn (hc pins s σ H _ I h) fun d s1 ⟨H1, I1, q1⟩ => ?_)
  cases d with
  | true => exact ha pins s1 σ H1 D I1 q1
  | false => exact hb pins s1 σ H1 D I1 q1
end

/-! ### targets -/
abbrev TG := V → St → Hp → (St → Hp → Prop) → Prop
abbrev TGs := List V → St → Hp → (St → Hp → Prop) → Prop
def PG (X : Cx) (target : Expr) (t : TG) : Prop :=
  ∀ (pins : List (Addr × Obj)) (s : Shared) (σ : St) (H : Hp) (v : V) (u : Value) (Q : St → Hp → Prop), Inv X pins σ H s → RelV v u → t v σ H Q →
    wpAny (model X.prog X.w) X.A (assign target X.env u) (fun _ s' => ∃ σ' H', Inv X pins σ' H' s' ∧ Q σ' H') X.xe s
/-- several targets, one after another -/
def PGs (X : Cx) (ts : List Expr) (t : TGs) : Prop :=
  ∀ (pins : List (Addr × Obj)) (s : Shared) (σ : St) (H : Hp) (vs : List V) (us : List Value) (Q : St → Hp → Prop), Inv X pins σ H s → Vals vs us → t vs σ H Q →
    wpAny (model X.prog X.w) X.A (assignInOrder ((assignEach ts X.env).map (·.2)) us) (fun _ s' => ∃ σ' H', Inv X pins σ' H' s' ∧ Q σ' H') X.xe s
section
variable {X : Cx} {pos : Pos}
def gName (i : Nat) : TG := fun v σ H Q => Q (σ.set i (some v)) H
theorem pg_name {i : Nat} {x : Str} (hN : X.N.Nodup) (hi : X.N[i]? = some x) (hx : Loc X.env.scope x) (hf : X.fn x = true ∨ X.env.scope.names.lookup x = some .local := by first | exact .inl rfl | exact .inr rfl | assumption) : PG X (.Name x pos) (gName i) := by
  intro pins s σ H v u Q I r h
  exact wpAny_assign_Name (store_ok I hN hi hx r (fun s' I' => ⟨_, H, I', h⟩) hf)
def gNil : TGs := fun vs σ H Q => vs = [] ∧ Q σ H
def gCons (t : TG) (u : TGs) : TGs := fun vs σ H Q => ∃ v r, vs = v :: r ∧ t v σ H fun σ' H' => u r σ' H' Q
theorem pgs_nil : PGs X [] gNil := by
  intro pins s σ H vs us Q I r h
  obtain ⟨e, h⟩ := h
  subst e
  cases r
  exact assignInOrder_nil ⟨σ, H, I, h⟩
theorem pgs_cons {e : Expr} {es : List Expr} {t : TG} {u : TGs} (h1 : PG X e t) (h2 : PGs X es u)
    (hs : (assignEach (e :: es) X.env).map (·.2) = assign e X.env :: (assignEach es X.env).map (·.2) := by rfl) : PGs X (e :: es) (gCons t u) := by
  intro pins s σ H vs us Q I r h
  obtain ⟨v, vr, e1, h⟩ := h
  subst e1
  cases r with
  | cons r rr =>
    rw [hs]
    refine assignInOrder_cons (thn (h1 pins s σ H _ _ _ I r h) fun _ s1 ⟨σ1, H1, I1, q1⟩ => ?_)
    exact h2 pins s1 σ1 H1 _ _ Q I1 rr q1
/-- (a, b, ..) = a tuple of that length -/
def gTup (K : PySem.W.Frag) (n : Nat) (t : TGs) : TG := fun v σ H Q => ∃ a xs, v = .ref a ∧ SqT K H a xs ∧ xs.length = n ∧ t xs σ H Q
theorem pg_tup {es : List Expr} {k : Nat} {t : TGs} {n : Nat} (hc : X.calm = true) (h : PGs X es t)
    (hn : (assignEach es X.env).length = n := by rfl) (hst : (assignEach es X.env).findIdx? (·.1) = none := by rfl) : PG X (.Tuple es k pos) (gTup X.K n t) := by
  intro pins s σ H v u Q I r hw
  obtain ⟨a, xs, e1, hq, hl, hw⟩ := hw
  subst e1
  cases r
  obtain ⟨its, rv, ht, hz⟩ := I.tuple hq
  refine assign_Tuple_tuple (I.ok.hd hc) ht (by simp [hn, ← hl, rv.length]) hst fun h' hx => ?_
  have I1 : Inv X pins σ H { s with heap := h' } := I.kept (t' := s.toks) fun b o e => hx b o (Nat.ne_of_lt (Heap.lt_size e)) e
  exact h pins _ σ H xs _ Q I1 (by simpa using rv) hw
/-- target = value -/
def tAsg (te : TE) (g : TG) : TS := fun D σ H => te σ H fun x H1 => g x σ H1 D.nx
theorem ps_asg {tg e : Expr} {te : TE} {g : TG} (he : PE X e te) (hg : PG X tg g) (hs : swapsWithSole [tg] e pos.line X.env = pure false := by rfl) (hw : swappedStores [tg] e X.env = pure none := by rfl)
    (h1 : (assignEach [tg] X.env).map (·.2) = [assign tg X.env] := by rfl) : PS X (.Assign [tg] e pos) (tAsg te g) := by
  intro pins s σ H D I h
  refine wpAny_Assign_stores (thn (he pins s σ H _ I h) fun v s1 ⟨x, H1, I1, r1, q1⟩ => ?_) hs hw
  rw [h1]
  exact thn (hg pins s1 σ H1 x v _ I1 r1 q1) fun _ s2 q => q
/-- name = value -/
theorem ps_set {i : Nat} {x : Str} {e : Expr} {te : TE} {pos' : Pos} (hN : X.N.Nodup) (hi : X.N[i]? = some x) (hx : Loc X.env.scope x) (he : PE X e te) (hs : swapsWith e (some (.Name x pos')) pos.line X.env = pure false := by rfl) (hf : X.fn x = true ∨ X.env.scope.names.lookup x = some .local := by first | exact .inl rfl | exact .inr rfl | assumption) :
    PS X (.Assign [.Name x pos'] e pos) (tAsg te (gName i)) := by
  intro pins s σ H D I h
  refine wpAny_Assign_Name (thn (he pins s σ H _ I h) fun v s1 ⟨y, H1, I1, r1, q1⟩ => ?_) hs
  exact store_ok I1 hN hi hx r1 (fun s2 I2 => ⟨_, H1, I2, q1⟩) hf
end

/-! ### while -/
section
variable {X : Cx} {pos : Pos}
/-- the invariant W with its measure -/
def tWhile (c : TT) (tb : TS) : TS := fun D σ H => ∃ W : Nat → St → Hp → Prop, (∃ m, W m σ H) ∧ ∀ m σ H, W m σ H →
  c σ H fun b H1 => if b = true then ∃ N : St → Hp → Prop, (∀ σ' H', N σ' H' → ∃ m', m' < m ∧ W m' σ' H') ∧ tb { D with nx := N, ct := N, bk := D.nx } σ H1 else D.nx σ H1
theorem ps_while {c : Expr} {body : List Stmt} {tc : TT} {tb : TS} (hp : PassesOwn (model X.prog X.w) X.A X.env X.xe) (hc : PT X c tc) (hb : PSs X body tb) : PS X (.While c body [] pos) (tWhile tc tb) := by
  intro pins s σ H D I h
  obtain ⟨W, ⟨m0, w0⟩, turn⟩ := h
  refine wpAny_While (codeAny_whileLoop (fun n s' => ∃ σ' H', Inv X pins σ' H' s' ∧ W n σ' H') ?_ m0 ⟨σ, H, I, w0⟩)
  rintro n s1 ⟨σ1, H1, I1, w1⟩
  refine wpAny_passesOwn hp (thn (hc pins s1 σ1 H1 _ I1 (turn n σ1 H1 w1)) fun b s2 ⟨H2, I2, q2⟩ => ?_)
  cases b with
  | true =>
    obtain ⟨N, hN, q2⟩ := q2
    rw [if_pos rfl]
    refine wpAny_passesOwn hp (thn (hb pins s2 σ1 H2 _ I2 q2) fun f s3 q3 => ?_)
    cases f with
    | next =>
      obtain ⟨σ3, H3, I3, n3⟩ := q3
      obtain ⟨m', hm, w3⟩ := hN σ3 H3 n3
      exact ⟨m', hm, σ3, H3, I3, w3⟩
    | cont =>
      obtain ⟨σ3, H3, I3, n3⟩ := q3
      obtain ⟨m', hm, w3⟩ := hN σ3 H3 n3
      exact ⟨m', hm, σ3, H3, I3, w3⟩
    | brk => exact q3
    | ret v => exact q3
  | false =>
    rw [if_neg Bool.false_ne_true]
    exact wpAny_execs_nil ⟨σ1, H2, I2, q2⟩
end

/-! ### what a loop or a comprehension walks -/
/-- at turn i: it yields x (the heap may grow), or it stops -/
structure It where
  go : Nat → Hp → Prop
  yld : Nat → Hp → V → Hp → Prop
  stop : Nat → Hp → Prop
/-- the iterator's own objects may turn: they are not the frame's, not pinned, younger than the entry (or a comprehension's own) -/
def FpOk (X : Cx) (pins : List (Addr × Obj)) (H : Hp) (b : Addr) : Prop :=
  H b = none ∧ b ≠ X.env.locals ∧ b ∉ X.fs ∧ (b ∈ X.ex ∨ X.s₀.heap.objs.size ≤ b) ∧ (∀ x c, X.env.cells.lookup x = some c → c ≠ b) ∧ ∀ p ∈ X.pn ++ pins, p.1 ≠ b
theorem Inv.fpOk {X : Cx} {pins : List (Addr × Obj)} {σ : St} {H H' : Hp} {s : Shared} {b : Addr} (I : Inv X pins σ H s) (hb : s.heap.objs.size ≤ b) (hn : H' b = none) : FpOk X pins H' b := by
  refine ⟨hn, Nat.ne_of_gt (Nat.lt_of_lt_of_le I.lt hb), I.nofs hb, .inr (Nat.le_trans I.sz hb), fun x c e z => ?_, fun p hp z => ?_⟩
  · obtain ⟨v, q⟩ := I.cell x c e
    exact absurd (Nat.lt_of_lt_of_le q.lt (by rw [z]; exact hb)) (Nat.lt_irrefl _)
  · exact absurd (Nat.lt_of_lt_of_le (Heap.lt_size (I.pin p hp).1) (by rw [z]; exact hb)) (Nat.lt_irrefl _)
structure Turn (P : Program) (w : World) (K : PySem.W.Frag) (tg : Expr) (J : It) (fp : List Addr) (it : Addr) (tn : Nat → Heap → Prop) : Prop where
  mem : it ∈ fp
  obj : ∀ i h, tn i h → ∀ b ∈ fp, ∃ o, h.get? b = some o ∧ ∀ v, o.data ≠ .cell v
  keep : ∀ i h h', tn i h → (∀ b ∈ fp, ∀ o, h.get? b = some o → h'.get? b = some o) → tn i h'
  item : ∀ (X : Cx), X.prog = P → X.w = w → X.K = K → X.calm = true → ∀ (i : Nat) (pins : List (Addr × Obj)) (s : Shared) (σ : St) (H : Hp) (E : Value → Shared → Prop), Inv X pins σ H s → (∀ b ∈ fp, FpOk X pins H b) → tn i s.heap → J.go i H →
    wpAny (model P w) X.A (pyNext (.ref it)) (fun r s1 => ∃ u, r = some u ∧
      wpAny (model P w) X.A (letOwnedTupleGo tg (.ref it) u) (fun _ s2 => ∃ x H', Inv X pins σ H' s2 ∧ RelV x u ∧ J.yld i H x H' ∧ tn (i + 1) s2.heap ∧ ∀ b ∈ fp, H' b = none) E s1) E s
  done : ∀ (X : Cx), X.prog = P → X.w = w → X.K = K → X.calm = true → ∀ (i : Nat) (pins : List (Addr × Obj)) (s : Shared) (σ : St) (H : Hp) (E : Value → Shared → Prop), Inv X pins σ H s → (∀ b ∈ fp, FpOk X pins H b) → tn i s.heap → J.stop i H →
    wpAny (model P w) X.A (pyNext (.ref it)) (fun r s1 => r = none ∧ Inv X pins σ H s1) E s
  self : ∀ (A : Around) (i : Nat) (s : Shared) (Q : Value → Shared → Prop) (E : Value → Shared → Prop), tn i s.heap → Q (.ref it) s → wpAny (model P w) A (pyIter (.ref it)) Q E s
abbrev TI := St → Hp → (It → Hp → Prop) → Prop
/-- an iterator has come -/
def PIE (X : Cx) (pins : List (Addr × Obj)) (σ : St) (tg : Expr) (R : It → Hp → Prop) (itv : Value) (s2 : Shared) : Prop :=
  ∃ (it : Addr) (fp : List Addr) (tn : Nat → Heap → Prop) (J : It) (H' : Hp), itv = .ref it ∧ Inv X pins σ H' s2 ∧ Turn X.prog X.w X.K tg J fp it tn ∧ tn 0 s2.heap ∧ (∀ b ∈ fp, FpOk X pins H' b) ∧ R J H'
def PI (X : Cx) (tg iter : Expr) (wi : TI) : Prop :=
  ∀ (pins : List (Addr × Obj)) (s : Shared) (σ : St) (H : Hp) (R : It → Hp → Prop), Inv X pins σ H s → wi σ H R →
    wpAny (model X.prog X.w) X.A (eval iter X.env) (fun v s1 => wpAny (model X.prog X.w) X.A (pyIter v) (PIE X pins σ tg R) X.xe s1) X.xe s

/-- the step ahead of the store is nothing for an iterator that keeps no tuple -/
theorem go_of {M : Model} {A : Around} {E : Value → Shared → Prop} {s : Shared} {tg : Expr} {it : Addr} {u : Value} {o : Obj} {n : String} {vs : Array Value} {Q : Unit → Shared → Prop} (ho : s.heap.get? it = some o) (hc : o.cls = .type n) (hd : o.data = .fields vs)
    (hn : ["enumerate", "zip", "dict_itemiterator", "dict_reverseitemiterator", "odict_iterator", "itertools.zip_longest", "itertools.pairwise"].contains n = false) (hQ : Q () s) : wpAny M A (letOwnedTupleGo tg (.ref it) u) Q E s := by
  unfold letOwnedTupleGo
  cases tg <;> first
    | exact wpAny_pure hQ
    | (cases u <;> first
        | exact wpAny_pure hQ
        | (refine wpAny_bind (wpAny_load ho ?_)
           rw [hc, hd]
           show wpAny M A (if (["enumerate", "zip", "dict_itemiterator", "dict_reverseitemiterator", "odict_iterator", "itertools.zip_longest", "itertools.pairwise"].contains n && vs[0]? == some (rawInt _)) = true then _ else _) Q E s
           rw [if_neg (by intro h; rw [hn, Bool.false_and] at h; cases h)]
           exact wpAny_pure hQ))

/-- the list at a, as it stands at each turn (a loop may append to it) -/
def Itl (K : PySem.W.Frag) (a : Addr) : It :=
  ⟨fun i H => ∃ xs x, SqL K H a xs ∧ xs[i]? = some x, fun i H x H' => H' = H ∧ ∀ xs, SqL K H a xs → xs[i]? = some x, fun i H => ∃ xs, SqL K H a xs ∧ xs.length ≤ i⟩
def Itt (K : PySem.W.Frag) (a : Addr) : It :=
  ⟨fun i H => ∃ xs x, SqT K H a xs ∧ xs[i]? = some x, fun i H x H' => H' = H ∧ ∀ xs, SqT K H a xs → xs[i]? = some x, fun i H => ∃ xs, SqT K H a xs ∧ xs.length ≤ i⟩
/-- lo, lo + 1, .. (n of them) -/
def Itr (lo : Int) (n : Nat) : It := ⟨fun i _ => i < n, fun i H x H' => H' = H ∧ x = .int (lo + i), fun i _ => n ≤ i⟩
theorem turn_list {P : Program} {w : World} {K : PySem.W.Frag} {tg : Expr} (a it : Addr) : Turn P w K tg (Itl K a) [it] it (fun i h => h.IsListIter it a i) where
  mem := by simp
  obj := fun i h st b hb => by
    have e : b = it := by simpa using hb
    subst e
    obtain ⟨o, e, c, d⟩ := st
    exact ⟨o, e, fun v z => by rw [d] at z; cases z⟩
  keep := fun i h h' st k => st.at fun o e => k it (by simp) o e
  item := by
    intro X hP hw hK hc i pins s σ H E I hf st hg
    subst hP hw hK
    obtain ⟨xs, x, hq, hx⟩ := hg
    obtain ⟨its, rv, p, hz⟩ := I.list hq
    obtain ⟨u, hu, ru⟩ := rv.get hx
    obtain ⟨f0, f1, f2, f3, f4, f5⟩ := hf it (by simp)
    refine wpAny_pyNext_list_item st p.isList (x := u) (by simpa using hu) fun h' st' sb => ?_
    have I1 : Inv X pins σ H { s with heap := h' } := I.turned (t' := s.toks) (fun b o hb e => (sb.2 b hb).trans e) f0 f1 f3 f4 f5
    obtain ⟨o, e, c, d⟩ := id st'
    exact ⟨u, rfl, go_of (s := { s with heap := h' }) e c d (by decide) ⟨x, H, I1, ru, ⟨rfl, fun ys hy => by rw [I.list_inj hy hq]; exact hx⟩, st', fun b hb => (hf b hb).1⟩⟩
  done := by
    intro X hP hw hK hc i pins s σ H E I hf st hg
    subst hP hw hK
    obtain ⟨xs, hq, hx⟩ := hg
    obtain ⟨its, rv, p, hz⟩ := I.list hq
    obtain ⟨f0, f1, f2, f3, f4, f5⟩ := hf it (by simp)
    have hl := rv.length
    exact wpAny_pyNext_list_end (I.ok.hd hc) st p.isList (by simp; (first | lia | omega)) fun h' eb => ⟨rfl, I.turned (t' := s.toks) (fun b o hb e => eb b o hb e) f0 f1 f3 f4 f5⟩
  self := fun _ _ _ _ _ st h => wpAny_pyIter_listiter st h
theorem turn_tuple {P : Program} {w : World} {K : PySem.W.Frag} {tg : Expr} (a it : Addr) : Turn P w K tg (Itt K a) [it] it (fun i h => h.IsTupleIter it a i) where
  mem := by simp
  obj := fun i h st b hb => by
    have e : b = it := by simpa using hb
    subst e
    obtain ⟨o, e, c, d⟩ := st
    exact ⟨o, e, fun v z => by rw [d] at z; cases z⟩
  keep := fun i h h' st k => st.at fun o e => k it (by simp) o e
  item := by
    intro X hP hw hK hc i pins s σ H E I hf st hg
    subst hP hw hK
    obtain ⟨xs, x, hq, hx⟩ := hg
    obtain ⟨its, rv, p, hz⟩ := I.tuple hq
    obtain ⟨u, hu, ru⟩ := rv.get hx
    obtain ⟨f0, f1, f2, f3, f4, f5⟩ := hf it (by simp)
    refine wpAny_pyNext_tuple_item st (show s.heap.IsTuple a its.toArray from p) (x := u) (by simpa using hu) fun h' st' sb => ?_
    have I1 : Inv X pins σ H { s with heap := h' } := I.turned (t' := s.toks) (fun b o hb e => (sb.2 b hb).trans e) f0 f1 f3 f4 f5
    obtain ⟨o, e, c, d⟩ := id st'
    exact ⟨u, rfl, go_of (s := { s with heap := h' }) e c d (by decide) ⟨x, H, I1, ru, ⟨rfl, fun ys hy => by rw [I.tuple_inj hy hq]; exact hx⟩, st', fun b hb => (hf b hb).1⟩⟩
  done := by
    intro X hP hw hK hc i pins s σ H E I hf st hg
    subst hP hw hK
    obtain ⟨xs, hq, hx⟩ := hg
    obtain ⟨its, rv, p, hz⟩ := I.tuple hq
    obtain ⟨f0, f1, f2, f3, f4, f5⟩ := hf it (by simp)
    have hl := rv.length
    exact wpAny_pyNext_tuple_end (I.ok.hd hc) st (show s.heap.IsTuple a its.toArray from p) (by simp; (first | lia | omega)) fun h' eb => ⟨rfl, I.turned (t' := s.toks) (fun b o hb e => eb b o hb e) f0 f1 f3 f4 f5⟩
  self := fun _ _ _ _ _ st h => wpAny_pyIter_tupleiter st h
theorem turn_range {P : Program} {w : World} {K : PySem.W.Frag} {tg : Expr} (it : Addr) (lo : Int) (n : Nat) : Turn P w K tg (Itr lo n) [it] it (fun i h => IsRangeIter h it (lo + (i : Nat) * 1) ((n : Int) - (i : Nat)) 1) where
  mem := by simp
  obj := fun i h st b hb => by
    have e : b = it := by simpa using hb
    subst e
    exact ⟨_, st, fun v z => by
      have z' : Data.fields _ = Data.cell v := z
      cases z'⟩
  keep := fun i h h' st k => k it (by simp) _ st
  item := by
    intro X hP hw hK hc i pins s σ H E I hf st hg
    subst hP hw hK
    obtain ⟨f0, f1, f2, f3, f4, f5⟩ := hf it (by simp)
    have W := Walks.range (prog := X.prog) (w := X.w) (I.ok.hd hc) it lo 1 n
    refine W.item i s _ _ hg st fun v h' tk hv st' kk => ?_
    obtain ⟨t, rfl⟩ := hv
    have I1 : Inv X pins σ H { s with heap := h', toks := tk } := I.turned (fun b o hb e => kk b o (by simpa using hb) e) f0 f1 f3 f4 f5
    refine ⟨_, rfl, go_of (s := { s with heap := h', toks := tk }) (n := "range_iterator") st' rfl rfl (by decide) ⟨.int (lo + i), H, I1, ⟨t, ?_⟩, ⟨rfl, rfl⟩, st', fun b hb => (hf b hb).1⟩⟩
    rw [Int.mul_one]
  done := by
    intro X hP hw hK hc i pins s σ H E I hf st hg
    subst hP hw hK
    obtain ⟨f0, f1, f2, f3, f4, f5⟩ := hf it (by simp)
    exact wpAny_pyNext_range_end (I.ok.hd hc) st (by have : n ≤ i := hg; (first | lia | omega)) fun h' eb => ⟨rfl, I.turned (t' := s.toks) (fun b o hb e => eb b o hb e) f0 f1 f3 f4 f5⟩
  self := fun _ _ _ _ _ st h => wpAny_pyIter_rangeiter st h
end L2

namespace L2
open PySem PySem.Spec PyProof.Rows
section
variable {X : Cx} {tg : Expr}
def iList (K : PySem.W.Frag) (tl : TE) : TI := fun σ H R => tl σ H fun x H1 => ∃ a, x = .ref a ∧ (∃ xs, SqL K H1 a xs) ∧ R (Itl K a) H1
def iTup (K : PySem.W.Frag) (tl : TE) : TI := fun σ H R => tl σ H fun x H1 => ∃ a, x = .ref a ∧ (∃ xs, SqT K H1 a xs) ∧ R (Itt K a) H1
theorem pi_list {l : Expr} {tl : TE} (hl : PE X l tl) : PI X tg l (iList X.K tl) := by
  intro pins s σ H R I h
  refine thn (hl pins s σ H _ I h) fun v s1 ⟨x, H1, I1, r1, q1⟩ => ?_
  obtain ⟨a, e, ⟨xs, hq⟩, q⟩ := q1
  subst e
  cases r1
  obtain ⟨its, rv, p, hz⟩ := I1.list hq
  refine wpAny_pyIter_list p.isList ?_
  refine ⟨s1.heap.objs.size, [s1.heap.objs.size], _, _, H1, rfl, I1.kept (t' := s1.toks) fun b o e => Heap.get?_push_of_some _ e, turn_list a _, ⟨_, Heap.get?_push_size _ rfl, rfl, rfl⟩, fun b hb => ?_, q⟩
  have e : b = s1.heap.objs.size := by simpa using hb
  subst e
  exact I1.fpOk (Nat.le_refl _) (I1.hok.fresh (Nat.le_refl _))
theorem pi_tup {l : Expr} {tl : TE} (hl : PE X l tl) : PI X tg l (iTup X.K tl) := by
  intro pins s σ H R I h
  refine thn (hl pins s σ H _ I h) fun v s1 ⟨x, H1, I1, r1, q1⟩ => ?_
  obtain ⟨a, e, ⟨xs, hq⟩, q⟩ := q1
  subst e
  cases r1
  obtain ⟨its, rv, p, hz⟩ := I1.tuple hq
  refine wpAny_pyIter_tuple (show s1.heap.IsTuple a its.toArray from p) ?_
  refine ⟨s1.heap.objs.size, [s1.heap.objs.size], _, _, H1, rfl, I1.kept (t' := s1.toks) fun b o e => Heap.get?_push_of_some _ e, turn_tuple a _, ⟨_, Heap.get?_push_size _ rfl, rfl, rfl⟩, fun b hb => ?_, q⟩
  have e : b = s1.heap.objs.size := by simpa using hb
  subst e
  exact I1.fpOk (Nat.le_refl _) (I1.hok.fresh (Nat.le_refl _))
/-- a range object just made, walked -/
theorem range_it {pins : List (Addr × Obj)} {σ : St} {H : Hp} {s : Shared} {R : It → Hp → Prop} {E : Value → Shared → Prop} {lo hi : Int} {t u v : Tok} {tk : Nat} (I : Inv X pins σ H s) (h1 : -(2 ^ 62) ≤ lo) (h2 : lo < 2 ^ 62) (h3 : -(2 ^ 62) ≤ hi) (h4 : hi < 2 ^ 62)
    (q : R (Itr lo (hi - lo).toNat) H) : wpAny (model X.prog X.w) X.A (pyIter (.ref s.heap.objs.size)) (PIE X pins σ tg R) E { s with heap := s.heap.push { cls := .type "range", data := .fields #[.int lo t, .int hi u, .int 1 v] }, toks := tk } := by
  refine wpAny_pyIter_range (IsRange.new ..) (small_one h1 h2 h3 h4) ?_
  have I1 : Inv X pins σ H { s with heap := s.heap.push { cls := .type "range", data := .fields #[.int lo t, .int hi u, .int 1 v] }, toks := tk } := I.kept fun b o e => Heap.get?_push_of_some _ e
  refine ⟨(s.heap.push { cls := .type "range", data := .fields #[.int lo t, .int hi u, .int 1 v] }).objs.size, [(s.heap.push { cls := .type "range", data := .fields #[.int lo t, .int hi u, .int 1 v] }).objs.size], _, _, H, rfl,
    I1.kept (t' := tk) fun b o e => Heap.get?_push_of_some _ e, turn_range _ lo (hi - lo).toNat, ?_, fun b hb => ?_, q⟩
  · have e1 : lo + ((0 : Nat) : Int) * 1 = lo := by simp
    have e2 : (((hi - lo).toNat : Nat) : Int) - ((0 : Nat) : Int) = Builtin.Range.rangeSize lo hi 1 := by rw [rangeSize_one]; split <;> (first | lia | omega)
    show IsRangeIter _ _ (lo + ((0 : Nat) : Int) * 1) ((((hi - lo).toNat : Nat) : Int) - ((0 : Nat) : Int)) 1
    rw [e1, e2]
    exact Heap.get?_push_size _ rfl
  · have e : b = (s.heap.push { cls := .type "range", data := .fields #[.int lo t, .int hi u, .int 1 v] }).objs.size := by simpa using hb
    subst e
    exact I1.fpOk (Nat.le_refl _) (I1.hok.fresh (Nat.le_refl _))
def iRng1 (ta : TA) : TI := fun σ H R => ta σ H fun vs H1 => ∃ j : Int, vs = [.int j] ∧ -(2 ^ 62) ≤ j ∧ j < 2 ^ 62 ∧ R (Itr 0 j.toNat) H1
theorem pi_range1 {a : Expr} {ta : TA} {p pos : Pos} (hg : Gl X "range") (hm : X.mg "range" = none) (ha : PA X [a] ta) (hs : starEach [a] X.env = [(false, eval a X.env)] := by rfl) : PI X tg (.Call (.Name "range" p) [a] [] pos) (iRng1 ta) := by
  intro pins s σ H R I h
  refine Call_ (ld_blt I hg hm boot_range (PyProof.Rows.callWith_type1 (thn (ha pos pins s σ H _ I h) fun us s1 ⟨vs, H1, I1, r1, q1⟩ => ?_) hs rfl))
  obtain ⟨j, e, q1, q2, q⟩ := q1
  subst e
  cases r1 with
  | cons r rr =>
    cases rr
    obtain ⟨t, rfl⟩ := r
    exact call_range_1 (range_it I1 (by (first | lia | omega)) (by (first | lia | omega)) q1 q2 (by simpa using q))
/-! ### for -/
/-- W: the invariant by the turn and a measure; N: what the body is to reach -/
def tFor (wi : TI) (g : TG) (tb : TS) : TS := fun D σ H => wi σ H fun J H1 => ∃ W : Nat → Nat → St → Hp → Prop, (∃ m, W 0 m σ H1) ∧ ∀ i m σ H, W i m σ H →
  (J.stop i H ∧ D.nx σ H) ∨ (J.go i H ∧ ∃ N : St → Hp → Prop, (∀ σ' H', N σ' H' → ∃ m', m' < m ∧ W (i + 1) m' σ' H') ∧ ∀ x H', J.yld i H x H' → g x σ H' fun σ2 H2 => tb { D with nx := N, ct := N, bk := D.nx } σ2 H2)
/-- the records at fp as they stand -/
def pinsAt (fp : List Addr) (h : Heap) : List (Addr × Obj) := fp.filterMap fun b => (h.get? b).map fun o => (b, o)
theorem mem_pinsAt {fp : List Addr} {h : Heap} {b : Addr} {o : Obj} (hb : b ∈ fp) (e : h.get? b = some o) : (b, o) ∈ pinsAt fp h := List.mem_filterMap.mpr ⟨b, hb, by rw [e]; rfl⟩
theorem of_pinsAt {fp : List Addr} {h : Heap} {p : Addr × Obj} (hp : p ∈ pinsAt fp h) : p.1 ∈ fp ∧ h.get? p.1 = some p.2 := by
  obtain ⟨b, hb, e⟩ := List.mem_filterMap.mp hp
  cases q : h.get? b with
  | none => rw [q] at e; cases e
  | some o =>
    rw [q] at e
    have e' : (b, o) = p := Option.some.inj e
    subst e'
    exact ⟨hb, q⟩
theorem Inv.pinned {pins : List (Addr × Obj)} {σ : St} {H : Hp} {s : Shared} {fp : List Addr} (I : Inv X pins σ H s) (hf : ∀ b ∈ fp, FpOk X pins H b) (ho : ∀ b ∈ fp, ∃ o, s.heap.get? b = some o ∧ ∀ v, o.data ≠ .cell v) : Inv X (pins ++ pinsAt fp s.heap) σ H s :=
  I.pins_of fun p hp => (List.mem_append.mp hp).elim (fun z => I.pin p (List.mem_append_right _ z)) fun z => by
    obtain ⟨hb, e⟩ := of_pinsAt z
    obtain ⟨f0, f1, f2, _⟩ := hf p.1 hb
    obtain ⟨o, e', d⟩ := ho p.1 hb
    rw [e] at e'; cases e'
    exact ⟨e, f0, f1, f2, d⟩
theorem Inv.unpinned {pins pl : List (Addr × Obj)} {σ : St} {H : Hp} {s : Shared} (I : Inv X (pins ++ pl) σ H s) : Inv X pins σ H s := I.pins_of fun p hp => I.pin p (List.mem_append_right _ (List.mem_append_left _ hp))
theorem ps_for {iter : Expr} {body : List Stmt} {wi : TI} {g : TG} {tb : TS} {pos : Pos} (hp : PassesOwn (model X.prog X.w) X.A X.env X.xe) (hc : X.calm = true) (hi : PI X tg iter wi) (hg : PG X tg g) (hb : PSs X body tb)
    (hs : ∀ x, foldedSetIterable iter X.env x = pure x := by intro _; rfl) : PS X (.For tg iter body [] pos) (tFor wi g tb) := by
  intro pins s σ H D I h
  refine wpAny_For (thn (hi pins s σ H _ I h) fun v s1 h1 => thn h1 fun itv s2 h2 => ?_) hs
  obtain ⟨it, fp, tn, J, H2, e, I2, T, st2, f2, W, ⟨m0, w0⟩, turn⟩ := h2
  subst e
  -- what stays true of the iterator's objects through the loop
  have stat : ∀ {H' : Hp}, (∀ b ∈ fp, H' b = none) → ∀ b ∈ fp, FpOk X pins H' b := fun hn b hb => ⟨hn b hb, (f2 b hb).2⟩
  refine codeAny_forLoop_any (fun n s' => ∃ i σ' H', Inv X pins σ' H' s' ∧ tn i s'.heap ∧ (∀ b ∈ fp, H' b = none) ∧ W i n σ' H') ?_ m0 ⟨0, σ, H2, I2, st2, fun b hb => (f2 b hb).1, w0⟩
  rintro n s3 ⟨i, σ3, H3, I3, st3, fr3, w3⟩
  rcases turn i n σ3 H3 w3 with ⟨stop, qn⟩ | ⟨go, N, hN, step⟩
  · refine wpAny_passesOwn hp (thn (T.done X rfl rfl rfl hc i pins s3 σ3 H3 X.xe I3 (stat fr3) st3 stop) fun r s4 ⟨hr, I4⟩ => ?_)
    subst hr
    exact wpAny_execs_nil ⟨σ3, H3, I4, qn⟩
  · refine wpAny_passesOwn hp (thn (T.item X rfl rfl rfl hc i pins s3 σ3 H3 X.xe I3 (stat fr3) st3 go) fun r s4 ⟨u, hr, h4⟩ => ?_)
    subst hr
    refine wpAny_passesOwn hp (thn h4 fun _ s5 ⟨x, H5, I5, r5, y5, st5, fr5⟩ => ?_)
    have I5' := I5.pinned (stat fr5) (T.obj _ _ st5)
    refine wpAny_passesOwn hp (thn (hg _ s5 σ3 H5 x u _ I5' r5 (step x H5 y5)) fun _ s6 ⟨σ6, H6, I6, q6⟩ => ?_)
    refine wpAny_passesOwn hp (thn (hb _ s6 σ6 H6 _ I6 q6) fun f s7 q7 => ?_)
    have again : ∀ {σ7 : St} {H7 : Hp}, Inv X (pins ++ pinsAt fp s5.heap) σ7 H7 s7 → N σ7 H7 → ∃ m, m < n ∧ ∃ i σ' H', Inv X pins σ' H' s7 ∧ tn i s7.heap ∧ (∀ b ∈ fp, H' b = none) ∧ W i m σ' H' := fun {σ7 H7} I7 n7 => by
      obtain ⟨m', hm, w7⟩ := hN σ7 H7 n7
      refine ⟨m', hm, i + 1, σ7, H7, I7.unpinned, T.keep _ _ _ st5 fun b hb o e => (I7.pin (b, o) (List.mem_append_right _ (List.mem_append_right _ (mem_pinsAt hb e)))).1, fun b hb => ?_, w7⟩
      obtain ⟨o, e, d⟩ := T.obj _ _ st5 b hb
      exact (I7.pin (b, o) (List.mem_append_right _ (List.mem_append_right _ (mem_pinsAt hb e)))).2.1
    cases f with
    | next => obtain ⟨σ7, H7, I7, n7⟩ := q7; exact again I7 n7
    | cont => obtain ⟨σ7, H7, I7, n7⟩ := q7; exact again I7 n7
    | brk => obtain ⟨σ7, H7, I7, q7⟩ := q7; exact ⟨σ7, H7, I7.unpinned, q7⟩
    | ret v => obtain ⟨x7, σ7, H7, I7, r7, q7⟩ := q7; exact ⟨x7, σ7, H7, I7.unpinned, r7, q7⟩
end

/-! ### the forms one uses -/
/-- over a list that the body leaves as it is -/
theorem for_list {K : PySem.W.Frag} {a : Addr} {xs : List V} {g : TG} {tb : TS} {D : Ends} {σ : St} {H : Hp} (Pv : Nat → St → Hp → Prop) (h0 : Pv 0 σ H) (hl : ∀ i σ H, i ≤ xs.length → Pv i σ H → SqL K H a xs)
    (hs : ∀ i x σ H, xs[i]? = some x → Pv i σ H → g x σ H fun σ2 H2 => tb { D with nx := Pv (i + 1), ct := Pv (i + 1), bk := D.nx } σ2 H2) (hd : ∀ σ H, Pv xs.length σ H → D.nx σ H) :
    ∃ W : Nat → Nat → St → Hp → Prop, (∃ m, W 0 m σ H) ∧ ∀ i m σ H, W i m σ H →
      ((Itl K a).stop i H ∧ D.nx σ H) ∨ ((Itl K a).go i H ∧ ∃ N : St → Hp → Prop, (∀ σ' H', N σ' H' → ∃ m', m' < m ∧ W (i + 1) m' σ' H') ∧ ∀ x H', (Itl K a).yld i H x H' → g x σ H' fun σ2 H2 => tb { D with nx := N, ct := N, bk := D.nx } σ2 H2) := by
  refine ⟨fun i m σ H => m = xs.length - i ∧ i ≤ xs.length ∧ Pv i σ H, ⟨xs.length, by simp, Nat.zero_le _, h0⟩, ?_⟩
  rintro i m σ H ⟨rfl, hi, p⟩
  have q := hl i σ H hi p
  by_cases hlt : i < xs.length
  · refine .inr ⟨⟨xs, xs[i], q, by simp [hlt]⟩, Pv (i + 1), fun σ' H' p' => ⟨xs.length - (i + 1), by (first | lia | omega), rfl, hlt, p'⟩, fun x H' y => ?_⟩
    obtain ⟨e, y⟩ := y
    subst e
    exact hs i x σ _ (y xs q) p
  · have e : i = xs.length := by (first | lia | omega)
    subst e
    exact .inl ⟨⟨xs, q, Nat.le_refl _⟩, hd σ H p⟩
theorem for_tup {K : PySem.W.Frag} {a : Addr} {xs : List V} {g : TG} {tb : TS} {D : Ends} {σ : St} {H : Hp} (Pv : Nat → St → Hp → Prop) (h0 : Pv 0 σ H) (hl : ∀ i σ H, i ≤ xs.length → Pv i σ H → SqT K H a xs)
    (hs : ∀ i x σ H, xs[i]? = some x → Pv i σ H → g x σ H fun σ2 H2 => tb { D with nx := Pv (i + 1), ct := Pv (i + 1), bk := D.nx } σ2 H2) (hd : ∀ σ H, Pv xs.length σ H → D.nx σ H) :
    ∃ W : Nat → Nat → St → Hp → Prop, (∃ m, W 0 m σ H) ∧ ∀ i m σ H, W i m σ H →
      ((Itt K a).stop i H ∧ D.nx σ H) ∨ ((Itt K a).go i H ∧ ∃ N : St → Hp → Prop, (∀ σ' H', N σ' H' → ∃ m', m' < m ∧ W (i + 1) m' σ' H') ∧ ∀ x H', (Itt K a).yld i H x H' → g x σ H' fun σ2 H2 => tb { D with nx := N, ct := N, bk := D.nx } σ2 H2) := by
  refine ⟨fun i m σ H => m = xs.length - i ∧ i ≤ xs.length ∧ Pv i σ H, ⟨xs.length, by simp, Nat.zero_le _, h0⟩, ?_⟩
  rintro i m σ H ⟨rfl, hi, p⟩
  have q := hl i σ H hi p
  by_cases hlt : i < xs.length
  · refine .inr ⟨⟨xs, xs[i], q, by simp [hlt]⟩, Pv (i + 1), fun σ' H' p' => ⟨xs.length - (i + 1), by (first | lia | omega), rfl, hlt, p'⟩, fun x H' y => ?_⟩
    obtain ⟨e, y⟩ := y
    subst e
    exact hs i x σ _ (y xs q) p
  · have e : i = xs.length := by (first | lia | omega)
    subst e
    exact .inl ⟨⟨xs, q, Nat.le_refl _⟩, hd σ H p⟩
theorem for_range {lo : Int} {n : Nat} {g : TG} {tb : TS} {D : Ends} {σ : St} {H : Hp} (Pv : Nat → St → Hp → Prop) (h0 : Pv 0 σ H)
    (hs : ∀ i σ H, i < n → Pv i σ H → g (.int (lo + i)) σ H fun σ2 H2 => tb { D with nx := Pv (i + 1), ct := Pv (i + 1), bk := D.nx } σ2 H2) (hd : ∀ σ H, Pv n σ H → D.nx σ H) :
    ∃ W : Nat → Nat → St → Hp → Prop, (∃ m, W 0 m σ H) ∧ ∀ i m σ H, W i m σ H →
      ((Itr lo n).stop i H ∧ D.nx σ H) ∨ ((Itr lo n).go i H ∧ ∃ N : St → Hp → Prop, (∀ σ' H', N σ' H' → ∃ m', m' < m ∧ W (i + 1) m' σ' H') ∧ ∀ x H', (Itr lo n).yld i H x H' → g x σ H' fun σ2 H2 => tb { D with nx := N, ct := N, bk := D.nx } σ2 H2) := by
  refine ⟨fun i m σ H => m = n - i ∧ i ≤ n ∧ Pv i σ H, ⟨n, by simp, Nat.zero_le _, h0⟩, ?_⟩
  rintro i m σ H ⟨rfl, hi, p⟩
  by_cases hlt : i < n
  · refine .inr ⟨hlt, Pv (i + 1), fun σ' H' p' => ⟨n - (i + 1), by (first | lia | omega), rfl, hlt, p'⟩, fun x H' y => ?_⟩
    obtain ⟨e, y⟩ := y
    subst e y
    exact hs i σ _ hlt p
  · have e : i = n := by (first | lia | omega)
    subst e
    exact .inl ⟨Nat.le_refl _, hd σ H p⟩
end L2

namespace L2
open PySem PySem.Spec PyProof.Rows

abbrev R2 := V → V → Hp → VK → Prop
/-- a two-place operation on values: f is binaryOp op, inplaceOp op or compareOp op -/
def OpR (X : Cx) (f : Value → Value → Sem Value) (r : R2) : Prop :=
  ∀ (pins : List (Addr × Obj)) (s : Shared) (σ : St) (H : Hp) (x y : V) (v u : Value) (Q : VK), Inv X pins σ H s → RelV x v → RelV y u → r x y H Q →
    wpAny (model X.prog X.w) X.A (f v u) (EP X pins σ Q) X.xe s
/-- a one-place operation -/
def UnR (X : Cx) (f : Value → Sem Value) (r : V → Hp → VK → Prop) : Prop :=
  ∀ (pins : List (Addr × Obj)) (s : Shared) (σ : St) (H : Hp) (x : V) (v : Value) (Q : VK), Inv X pins σ H s → RelV x v → r x H Q →
    wpAny (model X.prog X.w) X.A (f v) (EP X pins σ Q) X.xe s
/-- a call of a value that is known (a builtin, a type) with values -/
def CallR (X : Cx) (f : Value) (r : List V → Hp → VK → Prop) : Prop :=
  ∀ (pins : List (Addr × Obj)) (s : Shared) (σ : St) (H : Hp) (xs : List V) (us : List Value) (Q : VK), Inv X pins σ H s → Vals xs us → r xs H Q →
    wpAny (model X.prog X.w) X.A (call f us) (EP X pins σ Q) X.xe s
/-- a value's truth -/
def TruR (X : Cx) (r : V → Hp → (Bool → Hp → Prop) → Prop) : Prop :=
  ∀ (pins : List (Addr × Obj)) (s : Shared) (σ : St) (H : Hp) (x : V) (v : Value) (Q : Bool → Hp → Prop), Inv X pins σ H s → RelV x v → r x H Q →
    wpAny (model X.prog X.w) X.A (truthy v) (TP X pins σ Q) X.xe s

def tOp (r : R2) (ta tb : TE) : TE := fun σ H Q => ta σ H fun x H1 => tb σ H1 fun y H2 => r x y H2 Q
def tUn (r : V → Hp → VK → Prop) (ta : TE) : TE := fun σ H Q => ta σ H fun x H1 => r x H1 Q
/-- ints in, under C, and a value out -/
def rI (C : Int → Int → Prop) (g : Int → Int → V) : R2 := fun x y H Q => ∃ i j, x = .int i ∧ y = .int j ∧ C i j ∧ Q (g i j) H
def rI0 (g : Int → Int → V) : R2 := fun x y H Q => ∃ i j, x = .int i ∧ y = .int j ∧ Q (g i j) H
def rU (g : Int → V) : V → Hp → VK → Prop := fun x H Q => ∃ i, x = .int i ∧ Q (g i) H

section
variable {X : Cx} {a b c : Expr} {ta tb tc : TE} {pos : Pos}

theorem binT (ha : PE X a ta) (hb : PE X b tb) {pins : List (Addr × Obj)} {s : Shared} {σ : St} {H : Hp} {R : V → V → Hp → Prop} (I : Inv X pins σ H s)
    (h : ta σ H fun x H1 => tb σ H1 fun y H2 => R x y H2) {Q : Value → Shared → Prop} {f : Value → Value → Sem Value}
    (hf : ∀ v u s2 x y H2, Inv X pins σ H2 s2 → RelV x v → RelV y u → R x y H2 → wpAny (model X.prog X.w) X.A (f v u) Q X.xe s2) :
    wpAny (model X.prog X.w) X.A (eval a X.env) (fun v s₁ => wpAny (model X.prog X.w) X.A (eval b X.env) (fun u s₂ => wpAny (model X.prog X.w) X.A (f v u) Q X.xe s₂) X.xe s₁) X.xe s := by
  refine thn (ha pins s σ H _ I h) fun v s1 ⟨x, H1, I1, r1, q1⟩ => ?_
  refine thn (hb pins s1 σ H1 _ I1 q1) fun u s2 ⟨y, H2, I2, r2, q2⟩ => ?_
  exact hf v u s2 x y H2 I2 r1 r2 q2

theorem pe_op {op : Operator} {r : R2} (ho : OpR X (binaryOp op) r) (ha : PE X a ta) (hb : PE X b tb) : PE X (.BinOp a op b pos) (tOp r ta tb) := by
  intro pins s σ H Q I h
  exact wpAny_BinOp (binT ha hb I h fun v u s2 x y H2 I2 rx ry q => ho pins s2 σ H2 x y v u Q I2 rx ry q)
theorem pe_un {op : UnaryOp} {r : V → Hp → VK → Prop} (ho : UnR X (unaryOp op) r) (ha : PE X a ta) : PE X (.UnaryOp op a pos) (tUn r ta) := by
  intro pins s σ H Q I h
  exact UnaryOp_ (thn (ha pins s σ H _ I h) fun v s1 ⟨x, H1, I1, r1, q1⟩ => ho pins s1 σ H1 x v Q I1 r1 q1)
/-! ### ints -/
theorem opI {f : Value → Value → Sem Value} {C : Int → Int → Prop} {g : Int → Int → Int}
    (rule : ∀ (i j : Int) (t u : Tok) (s : Shared) (Q : Value → Shared → Prop) (E : Value → Shared → Prop), C i j → Q (.int (g i j) s.toks) { s with toks := s.toks + 1 } → wpAny (model X.prog X.w) X.A (f (.int i t) (.int j u)) Q E s) :
    OpR X f (rI C fun i j => .int (g i j)) := by
  intro pins s σ H x y v u Q I rx ry h
  obtain ⟨i, j, rfl, rfl, hc, q⟩ := h
  obtain ⟨t, rfl⟩ := rx
  obtain ⟨t', rfl⟩ := ry
  exact rule i j t t' s _ _ hc ⟨.int (g i j), H, I.tok _, ⟨_, rfl⟩, q⟩
theorem opI0 {f : Value → Value → Sem Value} {g : Int → Int → Int}
    (rule : ∀ (i j : Int) (t u : Tok) (s : Shared) (Q : Value → Shared → Prop) (E : Value → Shared → Prop), Q (.int (g i j) s.toks) { s with toks := s.toks + 1 } → wpAny (model X.prog X.w) X.A (f (.int i t) (.int j u)) Q E s) :
    OpR X f (rI0 fun i j => .int (g i j)) := by
  intro pins s σ H x y v u Q I rx ry h
  obtain ⟨i, j, rfl, rfl, q⟩ := h
  obtain ⟨t, rfl⟩ := rx
  obtain ⟨t', rfl⟩ := ry
  exact rule i j t t' s _ _ ⟨.int (g i j), H, I.tok _, ⟨_, rfl⟩, q⟩
theorem opB0 {f : Value → Value → Sem Value} {g : Int → Int → Bool}
    (rule : ∀ (i j : Int) (t u : Tok) (s : Shared) (Q : Value → Shared → Prop) (E : Value → Shared → Prop), Q (.bool (g i j)) s → wpAny (model X.prog X.w) X.A (f (.int i t) (.int j u)) Q E s) :
    OpR X f (rI0 fun i j => .bl (g i j)) := by
  intro pins s σ H x y v u Q I rx ry h
  obtain ⟨i, j, rfl, rfl, q⟩ := h
  obtain ⟨t, rfl⟩ := rx
  obtain ⟨t', rfl⟩ := ry
  exact rule i j t t' s _ _ ⟨.bl (g i j), H, I, rfl, q⟩

def CDiv (i j : Int) : Prop := 0 < j ∧ j < 1073741824
def CMul (i j : Int) : Prop := (-(2 ^ 64) < i ∧ i < 2 ^ 64) ∨ (-(2 ^ 64) < j ∧ j < 2 ^ 64)
theorem CMul.ok {i j : Int} (h : CMul i j) : IntMulOk i j := by
  rcases h with ⟨h1, h2⟩ | ⟨h1, h2⟩
  · exact .of_left (intBits_le_64 h1 h2)
  · exact .of_right (intBits_le_64 h1 h2)
theorem op_add : OpR X (binaryOp .Add) (rI0 fun i j => .int (i + j)) := opI0 fun _ _ _ _ _ _ _ q => add_int q
theorem op_sub : OpR X (binaryOp .Sub) (rI0 fun i j => .int (i - j)) := opI0 fun _ _ _ _ _ _ _ q => sub_int q
theorem op_mul : OpR X (binaryOp .Mult) (rI CMul fun i j => .int (i * j)) := opI fun _ _ _ _ _ _ _ hc q => mul_int q hc.ok
/-- // by a positive divisor -/
theorem op_fdiv : OpR X (binaryOp .FloorDiv) (rI CDiv fun i j => .int (i / j)) := opI fun i j _ _ _ _ _ hc q => by
  have h1 : (0 : Int) < j := hc.1
  have h2 : j < 1073741824 := hc.2
  exact floordiv_int (by (first | lia | omega)) (by rw [Int.fdiv_eq_ediv_of_nonneg i (by (first | lia | omega))]; exact q) (.inl (PyProof.noPylong_small (by (first | lia | omega))))
/-- % by a positive divisor of any size -/
theorem op_mod : OpR X (binaryOp .Mod) (rI (fun _ j => 0 < j) fun i j => .int (i % j)) := opI fun i j _ _ _ _ _ hc q => by
  have h1 : (0 : Int) < j := hc
  exact mod_int' (by (first | lia | omega)) (by rw [Int.fmod_eq_emod_of_nonneg i (by (first | lia | omega))]; exact q)
theorem unI {f : Value → Sem Value} {g : Int → Int}
    (rule : ∀ (i : Int) (t : Tok) (s : Shared) (Q : Value → Shared → Prop) (E : Value → Shared → Prop), Q (.int (g i) s.toks) { s with toks := s.toks + 1 } → wpAny (model X.prog X.w) X.A (f (.int i t)) Q E s) :
    UnR X f (rU fun i => .int (g i)) := by
  intro pins s σ H x v Q I rx h
  obtain ⟨i, rfl, q⟩ := h
  obtain ⟨t, rfl⟩ := rx
  exact rule i t s _ _ ⟨.int (g i), H, I.tok _, ⟨_, rfl⟩, q⟩
theorem un_neg : UnR X (unaryOp .USub) (rU fun i => .int (-i)) := unI fun _ _ _ _ _ q => neg_int q
/-! ### bools among ints: n += (a < b) -/
end

/-! ### comparisons -/
/-- the scalars that == tells apart as data does -/
def scal : V → V → Bool
  | .non, .non => true | .non, .int _ => true | .int _, .non => true | .non, .bl _ => true | .bl _, .non => true | .non, .str _ => true | .str _, .non => true
  | .int _, .int _ => true | .bl _, .bl _ => true | .str _, .str _ => true | .byt _, .byt _ => true
  | .int _, .str _ => true | .str _, .int _ => true | .bl _, .str _ => true | .str _, .bl _ => true
  | _, _ => false
def rEq : R2 := fun x y H Q => scal x y = true ∧ Q (.bl (decide (x = y))) H
def rNe : R2 := fun x y H Q => scal x y = true ∧ Q (.bl (!decide (x = y))) H

theorem dec_int {i j : Int} : decide (V.int i = V.int j) = (i == j) := by
  rw [Bool.eq_iff_iff]
  simp
theorem dec_bl {i j : Bool} : decide (V.bl i = V.bl j) = (i == j) := by
  rw [Bool.eq_iff_iff]
  simp
theorem dec_str {i j : Str} : decide (V.str i = V.str j) = (i == j) := by
  rw [Bool.eq_iff_iff]
  simp
theorem dec_byt {i j : Array UInt8} : decide (V.byt i = V.byt j) = (i.toList == j.toList) := by
  rw [Bool.eq_iff_iff]
  cases i
  cases j
  simp

section
variable {X : Cx} {a b c : Expr} {ta tb tc : TE} {pos : Pos}
theorem fin_bl {pins : List (Addr × Obj)} {σ : St} {H : Hp} {s : Shared} {Q : VK} {k k' : Bool} (I : Inv X pins σ H s) (q : Q (.bl k) H) (e : k = k') : EP X pins σ Q (.bool k') s := by
  subst e
  exact ⟨.bl k, H, I, rfl, q⟩
theorem op_eq : OpR X (compareOp .Eq) rEq := by
  intro pins s σ H x y v u Q I rx ry h
  obtain ⟨hs, q⟩ := h
  cases x with
  | non =>
    cases rx
    cases y with
    | non => cases ry; exact PySem.EqNone.eq_none_none (fin_bl I q (by simp))
    | bl j => cases ry; exact PySem.EqNone.eq_none_bool (fin_bl I q (by simp))
    | int j => obtain ⟨t', rfl⟩ := ry; exact PySem.EqNone.eq_none_int (fin_bl I q (by simp))
    | str j => obtain ⟨t', rfl⟩ := ry; exact PySem.EqNone.eq_none_str (fin_bl I q (by simp))
    | _ => exact absurd (show false = true from hs) Bool.false_ne_true
  | bl i =>
    cases rx
    cases y with
    | non => cases ry; exact PySem.EqNone.eq_bool_none (fin_bl I q (by simp))
    | bl j => cases ry; exact eq_bool (fin_bl I q dec_bl)
    | str j => obtain ⟨t', rfl⟩ := ry; exact PySem.EqMixed.eq_bool_str (fin_bl I q (by simp))
    | _ => exact absurd (show false = true from hs) Bool.false_ne_true
  | int i =>
    obtain ⟨t, rfl⟩ := rx
    cases y with
    | non => cases ry; exact PySem.EqNone.eq_int_none (fin_bl I q (by simp))
    | int j => obtain ⟨t', rfl⟩ := ry; exact eq_int (fin_bl I q dec_int)
    | str j => obtain ⟨t', rfl⟩ := ry; exact PySem.EqMixed.eq_int_str (fin_bl I q (by simp))
    | _ => exact absurd (show false = true from hs) Bool.false_ne_true
  | str i =>
    obtain ⟨t, rfl⟩ := rx
    cases y with
    | non => cases ry; exact PySem.EqNone.eq_str_none (fin_bl I q (by simp))
    | bl j => cases ry; exact PySem.EqMixed.eq_str_bool (fin_bl I q (by simp))
    | int j => obtain ⟨t', rfl⟩ := ry; exact PySem.EqMixed.eq_str_int (fin_bl I q (by simp))
    | str j => obtain ⟨t', rfl⟩ := ry; exact eq_str (fin_bl I q dec_str)
    | _ => exact absurd (show false = true from hs) Bool.false_ne_true
  | byt i =>
    obtain ⟨t, rfl⟩ := rx
    cases y with
    | byt j => obtain ⟨t', rfl⟩ := ry; exact PySem.W.eq_bytes (fin_bl I q dec_byt)
    | _ => exact absurd (show false = true from hs) Bool.false_ne_true
  | _ => cases y <;> exact absurd (show false = true from hs) Bool.false_ne_true
theorem op_ne : OpR X (compareOp .NotEq) rNe := by
  intro pins s σ H x y v u Q I rx ry h
  obtain ⟨hs, q⟩ := h
  cases x with
  | non =>
    cases rx
    cases y with
    | non => cases ry; exact PySem.EqNone.ne_none_none (fin_bl I q (by simp))
    | bl j => cases ry; exact PySem.EqNone.ne_none_bool (fin_bl I q (by simp))
    | int j => obtain ⟨t', rfl⟩ := ry; exact PySem.EqNone.ne_none_int (fin_bl I q (by simp))
    | str j => obtain ⟨t', rfl⟩ := ry; exact PySem.EqNone.ne_none_str (fin_bl I q (by simp))
    | _ => exact absurd (show false = true from hs) Bool.false_ne_true
  | bl i =>
    cases rx
    cases y with
    | non => cases ry; exact PySem.EqNone.ne_bool_none (fin_bl I q (by simp))
    | bl j => cases ry; exact ne_bool (fin_bl I q (congrArg not dec_bl))
    | str j => obtain ⟨t', rfl⟩ := ry; exact PySem.EqMixed.ne_bool_str (fin_bl I q (by simp))
    | _ => exact absurd (show false = true from hs) Bool.false_ne_true
  | int i =>
    obtain ⟨t, rfl⟩ := rx
    cases y with
    | non => cases ry; exact PySem.EqNone.ne_int_none (fin_bl I q (by simp))
    | int j => obtain ⟨t', rfl⟩ := ry; exact ne_int (fin_bl I q (congrArg not dec_int))
    | str j => obtain ⟨t', rfl⟩ := ry; exact PySem.EqMixed.ne_int_str (fin_bl I q (by simp))
    | _ => exact absurd (show false = true from hs) Bool.false_ne_true
  | str i =>
    obtain ⟨t, rfl⟩ := rx
    cases y with
    | non => cases ry; exact PySem.EqNone.ne_str_none (fin_bl I q (by simp))
    | bl j => cases ry; exact PySem.EqMixed.ne_str_bool (fin_bl I q (by simp))
    | int j => obtain ⟨t', rfl⟩ := ry; exact PySem.EqMixed.ne_str_int (fin_bl I q (by simp))
    | str j => obtain ⟨t', rfl⟩ := ry; exact ne_str (fin_bl I q (congrArg not dec_str))
    | _ => exact absurd (show false = true from hs) Bool.false_ne_true
  | byt i =>
    obtain ⟨t, rfl⟩ := rx
    cases y with
    | byt j => obtain ⟨t', rfl⟩ := ry; exact PySem.W.ne_bytes (fin_bl I q (congrArg not dec_byt))
    | _ => exact absurd (show false = true from hs) Bool.false_ne_true
  | _ => cases y <;> exact absurd (show false = true from hs) Bool.false_ne_true

theorem op_lt : OpR X (compareOp .Lt) (rI0 fun i j => .bl (decide (i < j))) := opB0 fun _ _ _ _ _ _ _ q => lt_int q
theorem op_le : OpR X (compareOp .LtE) (rI0 fun i j => .bl (decide (i ≤ j))) := opB0 fun _ _ _ _ _ _ _ q => le_int q
theorem op_gt : OpR X (compareOp .Gt) (rI0 fun i j => .bl (decide (j < i))) := opB0 fun _ _ _ _ _ _ _ q => gt_int q
/-- the one string within the other -/
theorem op_in_str : OpR X (compareOp .In) (fun x y H Q => ∃ i j, x = .str i ∧ y = .str j ∧ Q (.bl (!(Builtin.Str.occurrences j i 0 j.length 1).isEmpty)) H) := by
  intro pins s σ H x y v u Q I rx ry h
  obtain ⟨i, j, rfl, rfl, q⟩ := h
  obtain ⟨t, rfl⟩ := rx
  obtain ⟨t', rfl⟩ := ry
  exact in_str (fin_bl I q rfl)

/-- is None, is not None: the right side a value none -/
theorem op_isN : OpR X (compareOp .Is) (fun x y H Q => y = .non ∧ Q (.bl (decide (x = .non))) H) := by
  intro pins s σ H x y v u Q I rx ry h
  obtain ⟨rfl, q⟩ := h
  cases ry
  refine is_none_gen (fin_bl I q ?_)
  cases x <;> first
    | (cases rx; rfl)
    | (obtain ⟨t, rfl⟩ := rx; rfl)
theorem nomark (b : Expr) {op : CmpOp} (h : op ≠ .In := by decide) (h2 : op ≠ .NotIn := by decide) : behindInMarks op b = false := by
  have e1 : (op == CmpOp.In) = false := by cases op <;> first | rfl | exact absurd rfl h
  have e2 : (op == CmpOp.NotIn) = false := by cases op <;> first | rfl | exact absurd rfl h2
  cases b <;> simp [behindInMarks, e1, e2]
/-- a comparison as a value; hm: nomark b, or (for in, not in) by with_unfolding_all rfl -/
theorem pe_cmpR {op : CmpOp} {r : R2} (ho : OpR X (compareOp op) r) (ha : PE X a ta) (hb : PE X b tb) (hm : behindInMarks op b = false) : PE X (.Compare a [op] [b] pos) (tOp r ta tb) := by
  intro pins s σ H Q I h
  exact wpAny_Compare1 (binT ha hb I h fun v u s2 x y H2 I2 rx ry q => ho pins s2 σ H2 x y v u Q I2 rx ry q) hm
/-- a reading of a value as a test -/
def tTest (t : TE) : TT := fun σ H Q => t σ H fun x H' => ∃ k, x = .bl k ∧ Q k H'
theorem pt_cmpR {op : CmpOp} {r : R2} (ho : OpR X (compareOp op) r) (ha : PE X a ta) (hb : PE X b tb) (hm : behindInMarks op b = false) : PT X (.Compare a [op] [b] pos) (tTest (tOp r ta tb)) := by
  intro pins s σ H Q I h
  refine wpAny_isTrue_Compare1 (thn (ha pins s σ H _ I h) fun v s1 ⟨x, H1, I1, r1, q1⟩ => thn (hb pins s1 σ H1 _ I1 q1) fun u s2 ⟨y, H2, I2, r2, q2⟩ =>
    thn (ho pins s2 σ H2 x y v u _ I2 r1 r2 q2) fun c s3 ⟨z, H3, I3, r3, k, e, q3⟩ => ?_) hm
  subst e
  cases r3
  exact wpAny_truthy_bool ⟨H3, I3, q3⟩
/-- a op1 b op2 c -/
def tChain (r r' : R2) (ta tb tc : TE) : TE := fun σ H Q => ta σ H fun x H1 => tb σ H1 fun y H2 => r x y H2 fun z H3 => ∃ k, z = .bl k ∧
  (if k = true then tc σ H3 fun w' H4 => r' y w' H4 Q else Q (.bl false) H3)
theorem pe_chain {op op' : CmpOp} {r r' : R2} (ho : OpR X (compareOp op) r) (ho' : OpR X (compareOp op') r') (ha : PE X a ta) (hb : PE X b tb) (hc : PE X c tc)
    (hm : lastMarks [op, op'] [b, c] = false := by with_unfolding_all rfl) : PE X (.Compare a [op, op'] [b, c] pos) (tChain r r' ta tb tc) := by
  intro pins s σ H Q I h
  refine Compare_chain (thn (ha pins s σ H _ I h) fun v s1 ⟨x, H1, I1, r1, q1⟩ => chain_link (thn (hb pins s1 σ H1 _ I1 q1) fun u s2 ⟨y, H2, I2, r2, q2⟩ =>
    thn (ho pins s2 σ H2 x y v u _ I2 r1 r2 q2) fun d s3 ⟨z, H3, I3, r3, k, e, q3⟩ => ?_)) hm
  subst e
  cases r3
  refine wpAny_truthy_bool ?_
  cases k with
  | false => exact ite_ff ⟨.bl false, H3, I3, rfl, q3⟩
  | true => exact ite_tt (chain_last (thn (hc pins s3 σ H3 _ I3 q3) fun w' s4 ⟨z', H4, I4, r4, q4⟩ => ho' pins s4 σ H4 y z' u w' Q I4 r2 r4 q4))
/-! ### truth -/
/-- a value's truth by the abstract heap -/
def TruV (K : PySem.W.Frag) (x : V) (H : Hp) (k : Bool) : Prop :=
  match x with
  | .non => k = false
  | .bl b => k = b
  | .int i => k = (i != 0)
  | .str y => y.length ≤ sizeLine ∧ k = ((y.length : Int) != 0)
  | .byt y => y.size ≤ sizeLine ∧ k = ((y.size : Int) != 0)
  | .ref p => (∃ xs, SqL K H p xs ∧ k = !xs.isEmpty) ∨ (∃ xs, SqT K H p xs ∧ k = !xs.isEmpty) ∨ ∃ kvs, H p = some (.dK kvs) ∧ k = !kvs.isEmpty
  | _ => False
theorem isEmpty_kv {κ : Type} {kvs : List (κ × V)} {vs : List (κ × Value)} (r : KV kvs vs) : (!vs.isEmpty) = !kvs.isEmpty := by
  cases r <;> rfl
theorem isEmpty_of {xs : List V} {its : List Value} (r : Vals xs its) : (!its.toArray.isEmpty) = !xs.isEmpty := by
  cases r <;> simp
theorem line63 : (sizeLine : Nat) < 2 ^ 63 := by rw [sizeLine_eq]; decide
theorem tru_ok : TruR X (fun x H Q => ∃ k, TruV X.K x H k ∧ Q k H) := by
  intro pins s σ H x v Q I rx h
  obtain ⟨k, e, q⟩ := h
  have hl := line63
  have hs : sizeLine = 16777216 := sizeLine_eq
  cases x with
  | non =>
    cases rx
    have e' : k = false := e
    subst e'
    exact truthy_none ⟨H, I, q⟩
  | bl b =>
    cases rx
    have e' : k = b := e
    subst e'
    exact wpAny_truthy_bool ⟨H, I, q⟩
  | int i =>
    obtain ⟨t, rfl⟩ := rx
    have e' : k = (i != 0) := e
    subst e'
    exact PySem.P.truthy_int ⟨H, I, q⟩
  | str y =>
    obtain ⟨t, rfl⟩ := rx
    obtain ⟨hy, e'⟩ : y.length ≤ sizeLine ∧ k = ((y.length : Int) != 0) := e
    subst e'
    exact PySem.P.truthy_str (by (first | lia | omega)) ⟨H, I.tok _, q⟩
  | byt y =>
    obtain ⟨t, rfl⟩ := rx
    obtain ⟨hy, e'⟩ : y.size ≤ sizeLine ∧ k = ((y.size : Int) != 0) := e
    subst e'
    exact PySem.W.truthy_bytes (by (first | lia | omega)) ⟨H, I.tok _, q⟩
  | ref p =>
    cases rx
    have e' : (∃ xs, SqL X.K H p xs ∧ k = !xs.isEmpty) ∨ (∃ xs, SqT X.K H p xs ∧ k = !xs.isEmpty) ∨ ∃ kvs, H p = some (.dK kvs) ∧ k = !kvs.isEmpty := e
    rcases e' with ⟨xs, hx, e'⟩ | ⟨xs, hx, e'⟩ | ⟨kvs, hx, e'⟩
    · subst e'
      obtain ⟨its, r, pl, hz⟩ := I.list hx
      have hlen := r.length
      exact wpAny_truthy_list pl.isList (by simp only [List.size_toArray]; (first | lia | omega)) ⟨H, I.tok _, by rw [isEmpty_of r]; exact q⟩
    · subst e'
      obtain ⟨its, r, pl, hz⟩ := I.tuple hx
      have hlen := r.length
      exact truthy_tuple pl (by simp only [List.size_toArray]; (first | lia | omega)) ⟨H, I.tok _, by rw [isEmpty_of r]; exact q⟩
    · subst e'
      obtain ⟨hz, hS, vs, r, m⟩ : kvs.length ≤ sizeLine ∧ (p == sysModules) = false ∧ ∃ vs, KV kvs vs ∧ s.heap.DictOf (mixKind X.prog X.w) p vs := I.hok p _ hx
      have hlen : kvs.length = vs.length := Paired.length r
      exact wpAny_truthy_dict hS m (by (first | lia | omega)) ⟨H, I.tok _, by rw [isEmpty_kv r]; exact q⟩
  | _ => exact (show False from e).elim
/-- any expression whose test is its value's truth (a name, a call, a subscript, a field ..: he by fun _ => rfl) -/
theorem pt_truth (ha : PE X a ta) (he : ∀ whole, isTrue a X.env whole = (do let v ← whole; standAt a.pos; holding [v] (truthy v))) :
    PT X a (fun σ H Q => ta σ H fun x H' => ∃ k, TruV X.K x H' k ∧ Q k H') := by
  intro pins s σ H Q I h
  exact isTrue_plain (thn (ha pins s σ H _ I h) fun v s1 ⟨x, H1, I1, r1, q1⟩ => tru_ok pins s1 σ H1 x v Q I1 r1 q1) (he _)

/-! ### strs and bytes -/
theorem op_add_str : OpR X (binaryOp .Add) (fun x y H Q => ∃ i j, x = .str i ∧ y = .str j ∧ i.length + j.length ≤ sizeLine ∧ Q (.str (i ++ j)) H) := by
  intro pins s σ H x y v u Q I rx ry h
  obtain ⟨i, j, rfl, rfl, hz, q⟩ := h
  obtain ⟨t, rfl⟩ := rx
  obtain ⟨t', rfl⟩ := ry
  exact add_str (fun t' tk => ⟨.str (i ++ j), H, I.tok _, ⟨_, rfl⟩, q⟩) hz
/-! ### scalar builtins, by CallR -/
theorem vals1 {x : V} {us : List Value} (r : Vals [x] us) : ∃ u, us = [u] ∧ RelV x u := by
  cases r with
  | cons r1 r2 => cases r2; exact ⟨_, rfl, r1⟩
theorem vals2 {x y : V} {us : List Value} (r : Vals [x, y] us) : ∃ u w', us = [u, w'] ∧ RelV x u ∧ RelV y w' := by
  cases r with
  | cons r1 r2 =>
    cases r2 with
    | cons r3 r4 => cases r4; exact ⟨_, _, rfl, r1, r3⟩
theorem call_max2 (hc : X.calm = true) : CallR X (.builtin "max") (fun xs H Q => ∃ i j, xs = [.int i, .int j] ∧ Q (.int (if j > i then j else i)) H) := by
  intro pins s σ H xs us Q I r h
  obtain ⟨i, j, rfl, q⟩ := h
  obtain ⟨u, w', rfl, ⟨t, rfl⟩, ⟨t', rfl⟩⟩ := vals2 r
  refine max_two_ints (I.ok.hd hc) fun h' tk k => ⟨_, H, I.kept k, ?_, q⟩
  by_cases hj : j > i
  · rw [if_pos hj, if_pos hj]; exact ⟨_, rfl⟩
  · rw [if_neg hj, if_neg hj]; exact ⟨_, rfl⟩
theorem call_min2 (hc : X.calm = true) : CallR X (.builtin "min") (fun xs H Q => ∃ i j, xs = [.int i, .int j] ∧ Q (.int (if j < i then j else i)) H) := by
  intro pins s σ H xs us Q I r h
  obtain ⟨i, j, rfl, q⟩ := h
  obtain ⟨u, w', rfl, ⟨t, rfl⟩, ⟨t', rfl⟩⟩ := vals2 r
  refine min_two_ints (I.ok.hd hc) fun h' tk k => ⟨_, H, I.kept k, ?_, q⟩
  by_cases hj : j < i
  · rw [if_pos hj, if_pos hj]; exact ⟨_, rfl⟩
  · rw [if_neg hj, if_neg hj]; exact ⟨_, rfl⟩
end
end L2

namespace L2
open PySem PySem.Spec PyProof.Rows

/-! ### an instance, its attributes a map -/
structure ObjM (h : Heap) (x dx C : Addr) (mA : Str → Option Value) : Prop where
  obj : h.get? x = some (PySem.W.instObj C dx)
  ns : h.Ns1 dx mA
  ne : dx ≠ x

theorem lookIn_ns {h : Heap} {dx : Addr} {mA : Str → Option Value} (n : h.Ns1 dx mA) : ∃ od, h.get? dx = some od ∧ ∀ name, PySem.W.lookIn name od = some (mA name) := by
  obtain ⟨o, es, ep, ho, hd, hk, _, hm⟩ := n
  refine ⟨o, ho, fun name => ?_⟩
  have e := hm name
  unfold nsFind findBy at e
  rw [← Array.find?_toList] at e
  unfold PySem.W.lookIn
  rw [hd]
  dsimp only
  split
  · rename_i y q
    rw [q] at e
    exact congrArg some e
  · rename_i q
    rw [q] at e
    have a : es.toList.any (·.refKey) = false := by
      rw [List.any_eq_false]
      intro y hy
      obtain ⟨z, t, hkey⟩ := hk y (Array.mem_toList_iff.mp hy)
      simp [DictEntry.refKey, hkey]
    have a' : ¬ es.toList.any (·.refKey) = true := by rw [a]; exact Bool.false_ne_true
    rw [if_neg a']
    exact congrArg some e

theorem ObjM.look {h : Heap} {x dx C : Addr} {mA : Str → Option Value} (I : ObjM h x dx C mA) : ∃ od, PySem.W.InstAt h x (PySem.W.instObj C dx) C (some od) ∧ ∀ name, PySem.W.lookIn name od = some (mA name) :=
  let ⟨od, ho, hl⟩ := lookIn_ns I.ns
  ⟨od, ⟨I.obj, rfl, rfl, ho⟩, hl⟩

section
variable {prog : Program} {w : World} {A : Around} {E : Value → Shared → Prop} {s : Shared} {K : PySem.W.Frag} {x dx C f : Addr} {mA : Str → Option Value} {name : Str} {v : Value}

theorem get_map {expr : Bool} {Q : Value → Shared → Prop} (X : K.In s.heap) (I : ObjM s.heap x dx C mA) (hg : PySem.W.plainGet K C name = true) (hh : PySem.W.hasDictIn K C = true)
    (ha : PySem.W.findIn K (.ref C) name = some none) (hv : mA name = some v) (hv' : PySem.W.handedIn v = true) (h : Q v { s with toks := s.toks + 1 }) :
    wpAny (model prog w) A (getAttr (.ref x) name expr) Q E s := by
  obtain ⟨od, J, hl⟩ := I.look
  exact PySem.W.get_value X J (PySem.W.plainGet_of hg).1 (PySem.W.findObj_own hh ha rfl (by rw [hl, hv])) hv' h

theorem get_meth {pl : Sem Bool} {Q : Value × List Value → Shared → Prop} (X : K.In s.heap) (I : ObjM s.heap x dx C mA) (hg : PySem.W.plainGet K C name = true)
    (hf : PySem.W.findIn K (.ref C) name = some (some (.ref f))) (ht : PySem.W.isFn K (.ref f) = true) (hv : mA name = none) (h : Q (.ref f, [.ref x]) s) :
    wpAny (model prog w) A (getMethod (.ref x) name pl) Q E s := by
  obtain ⟨od, J, hl⟩ := I.look
  exact PySem.W.method_fn X J (PySem.W.plainGet_of hg).1 (PySem.W.plainGet_of hg).2 hf (beq_iff_eq.mp ht) (by show (PySem.W.lookIn name od).map (·.isSome) = some false; rw [hl, hv]; rfl) h

theorem set_map {ns : List Str} {Q : Unit → Shared → Prop} (X : K.In s.heap) (I : ObjM s.heap x dx C mA)
    (hs : PySem.W.findIn K (.ref C) "__setattr__" = some (some (.builtin "object.__setattr__"))) (hp : PySem.W.plainOver K C = true) (ht : PySem.W.takerIn K C name = some none) (hh : PySem.W.hasDictIn K C = true)
    (hw : PySem.Within mA ns) (hsz : ns.length ≤ sizeLine)
    (h : ∀ h', ObjM h' x dx C (fun y => if y = name then some v else mA y) → Heap.SameBut dx s.heap h' → Q () { s with heap := h', toks := s.toks + 2 }) :
    wpAny (model prog w) A (setAttr (.ref x) name v) Q E s := by
  obtain ⟨od, J, hl⟩ := I.look
  refine PySem.W.set_plain X J hs (PySem.W.osa_open (s := { s with toks := s.toks + 1 }) (r := none) X J hp ht fun b => ?_)
  obtain ⟨cd, hc, hd'⟩ := PySem.W.any_some hh
  have hx : s.heap.get? x = some ⟨.ref C, some dx, .plain, #[]⟩ := I.obj
  refine wpAny_bind (wpAny_pure (wpAny_bind (wpAny_bind (wpAny_loadPart hx (wpAny_bind (PySem.W.Looks.here (s := { s with toks := s.toks + 1 }) (PySem.W.looks_clsIn X hc) ?_))))))
  rw [hd']
  refine wpAny_pure (a := some dx) (wpAny_bind (wpAny_pure (wpAny_bind ?_)))
  refine wpAny_nsSet1 (s := { s with toks := s.toks + 1 }) I.ns fun h' hn2 hs2 => ?_
  obtain ⟨oD, esD, epD, hoD, hdD, hcD⟩ := hn2.count (PySem.Within.cons name v hw)
  refine wpAny_bind (wpAny_lookBehind hoD (by rw [hdD]; exact pastItsLine_dict (Nat.le_trans hcD (by rw [List.length_cons]; (first | lia | omega)))) ?_)
  exact wpAny_pure (h _ ⟨(hs2.2 _ (Ne.symm I.ne)).trans I.obj, hn2, I.ne⟩ hs2)

/-- C(..): the dict at the heap's end, the instance behind it; then its __init__ -/
theorem make_map {R : Result → Shared → Prop} {vs : List Value} {kw : List (Str × Value)} (X : K.In s.heap) (hm : PySem.W.makesIn K C = true)
    (hi : PySem.W.findIn K (.ref C) "__init__" = some (some (.ref f))) (hf : PySem.W.typeIn K (.ref f) = some (.type "function"))
    (h : codeAny (model prog w) (A.under (.builtin "type.__call__" ⟨.ref C :: vs, kw⟩)) (.call (.ref f) ⟨.ref (s.heap.objs.size + 1) :: vs, kw⟩) (PySem.W.InitBack (s.heap.objs.size + 1) R)
      { s with heap := (s.heap.push PySem.W.emptyDict).push (PySem.W.instObj C s.heap.objs.size) }) :
    codeAny (model prog w) A (.call (.ref C) ⟨vs, kw⟩) R s := by
  obtain ⟨hh, g, d, t, os⟩ := s
  exact PySem.W.make_core (PySem.W.makes_of X hm) (PySem.W.looks_findIn X hi) (fun self => PySem.W.bind_fn X self hf) (.inl rfl) h
end

/-! ### the attributes as a list of pairs -/
def putF (f : Str) (v : V) : List (Str × V) → List (Str × V)
  | [] => [(f, v)]
  | (g, x) :: r => if g = f then (g, v) :: r else (g, x) :: putF f v r
theorem lookup_putF (f g : Str) (v : V) : ∀ fs : List (Str × V), (putF f v fs).lookup g = if g = f then some v else fs.lookup g
  | [] => by
    show List.lookup g [(f, v)] = _
    by_cases h : g = f
    · have hb : (g == f) = true := beq_iff_eq.mpr h
      simp only [List.lookup, hb, if_pos h]
    · have hb : (g == f) = false := beq_eq_false_iff_ne.mpr h
      simp only [List.lookup, hb, if_neg h]
  | (k, x) :: r => by
    have ih := lookup_putF f g v r
    rw [show putF f v ((k, x) :: r) = (if k = f then (k, v) :: r else (k, x) :: putF f v r) from rfl]
    by_cases hk : k = f
    · rw [if_pos hk]
      by_cases h : g = k
      · have hb : (g == k) = true := beq_iff_eq.mpr h
        simp only [List.lookup, hb, if_pos (h.trans hk)]
      · have hb : (g == k) = false := beq_eq_false_iff_ne.mpr h
        simp only [List.lookup, hb, if_neg (fun e : g = f => h (e.trans hk.symm))]
    · rw [if_neg hk]
      by_cases h : g = k
      · have hb : (g == k) = true := beq_iff_eq.mpr h
        simp only [List.lookup, hb, if_neg (fun e : g = f => hk (h.symm.trans e))]
      · have hb : (g == k) = false := beq_eq_false_iff_ne.mpr h
        simp only [List.lookup, hb]
        exact ih
theorem keys_putF (f : Str) (v : V) : ∀ fs : List (Str × V), f ∈ (putF f v fs).map (·.1) ∧ ∀ g, g ∈ fs.map (·.1) → g ∈ (putF f v fs).map (·.1)
  | [] => ⟨by simp [putF], fun g h => by simp at h⟩
  | (k, x) :: r => by
    obtain ⟨i1, i2⟩ := keys_putF f v r
    rw [show putF f v ((k, x) :: r) = (if k = f then (k, v) :: r else (k, x) :: putF f v r) from rfl]
    by_cases hk : k = f
    · rw [if_pos hk]
      subst hk
      exact ⟨by simp, fun g h => by simpa using h⟩
    · rw [if_neg hk]
      refine ⟨?_, fun g h => ?_⟩
      · rw [List.map_cons]
        exact List.mem_cons_of_mem _ i1
      · rw [List.map_cons] at h ⊢
        rcases List.mem_cons.mp h with e | e
        · exact List.mem_cons.mpr (.inl e)
        · exact List.mem_cons_of_mem _ (i2 g e)
theorem length_putF (f : Str) (v : V) : ∀ fs : List (Str × V), (putF f v fs).length ≤ fs.length + 1
  | [] => by simp [putF]
  | (k, x) :: r => by
    have ih := length_putF f v r
    rw [show putF f v ((k, x) :: r) = (if k = f then (k, v) :: r else (k, x) :: putF f v r) from rfl]
    by_cases hk : k = f
    · rw [if_pos hk, List.length_cons, List.length_cons]; (first | lia | omega)
    · rw [if_neg hk, List.length_cons, List.length_cons]; (first | lia | omega)

theorem RelO.some_of {v : V} {o : Option Value} (r : RelO (some v) o) : ∃ u, o = some u ∧ RelV v u := by
  cases o with
  | none => exact (show False from r).elim
  | some u => exact ⟨u, rfl, r⟩
theorem RelO.none_of {o : Option Value} (r : RelO none o) : o = none := by
  cases o with
  | none => rfl
  | some u => exact (show False from r).elim
theorem handed_of {v : V} {u : Value} (r : RelV v u) : PySem.W.handedIn u = true := by
  cases v with
  | non => cases (show u = Value.none from r); rfl
  | bl b => cases (show u = Value.bool b from r); rfl
  | int i => obtain ⟨t, e⟩ := (show ∃ t, u = Value.int i t from r); cases e; rfl
  | str x => obtain ⟨t, e⟩ := (show ∃ t, u = Value.str x t from r); cases e; rfl
  | byt b => obtain ⟨t, e⟩ := (show ∃ t, u = Value.bytes b t from r); cases e; rfl
  | flt b => obtain ⟨t, e⟩ := (show ∃ t, u = Value.float b t from r); cases e; rfl
  | ref a => cases (show u = Value.ref a from r); rfl
  | ty n => cases (show u = Value.type n from r); rfl

section
variable {P : Program} {w : World} {H H' : Hp} {h h' : Heap} {a C dx : Addr} {fs fs' : List (Str × V)}
theorem ins_get (hok : HOk P w H h) (e : H a = some (.ins C dx fs)) : ∃ mA, ObjM h a dx C mA ∧ (∀ f, RelO (fs.lookup f) (mA f)) ∧ PySem.Within mA (fs.map (·.1)) ∧ fs.length ≤ 1000 ∧ H dx = some (.own a) := by
  obtain ⟨d, z, ne, ob, mA, n, r, q⟩ := (show ObjOk P w H h a (.ins C dx fs) from hok a _ e)
  exact ⟨mA, ⟨ob, n, ne⟩, r, q, z, d⟩
end

/-! ### what of the text a class must have -/
structure Cls (K : PySem.W.Frag) (C : Addr) : Prop where
  pg : PySem.W.plainGet K C Str.empty = true
  hd : PySem.W.hasDictIn K C = true
  po : PySem.W.plainOver K C = true
  sa : PySem.W.findIn K (.ref C) "__setattr__" = some (some (.builtin "object.__setattr__"))
theorem Cls.get {K : PySem.W.Frag} {C : Addr} (c : Cls K C) (f : Str) : PySem.W.plainGet K C f = true := c.pg
/-- no class of it has the name -/
def NoAttr (K : PySem.W.Frag) (C : Addr) (f : Str) : Prop := PySem.W.findIn K (.ref C) f = some none
theorem NoAttr.taker {K : PySem.W.Frag} {C : Addr} {f : Str} (n : NoAttr K C f) : PySem.W.takerIn K C f = some none := by
  unfold PySem.W.takerIn
  rw [show PySem.W.findIn K (.ref C) f = some none from n]
  rfl
/-- a method: a plain def of the class or of one above it -/
structure Meth (K : PySem.W.Frag) (C : Addr) (m : Str) (f : Addr) : Prop where
  at_ : PySem.W.findIn K (.ref C) m = some (some (.ref f))
  fn : PySem.W.isFn K (.ref f) = true
  kp : PySem.W.keepIn K (.ref f) = true

section
variable {X : Cx} {pins : List (Addr × Obj)} {σ : St} {H : Hp} {s : Shared} {a C dx : Addr} {fs : List (Str × V)} {f : Str} {v : V} {A : Around} {E : Value → Shared → Prop}

theorem getattr_ok {b : Bool} {Q : Value → Shared → Prop} (I : Inv X pins σ H s) (e : H a = some (.ins C dx fs)) (c : Cls X.K C) (n : NoAttr X.K C f) (l : fs.lookup f = some v)
    (h : ∀ u s', Inv X pins σ H s' → RelV v u → Q u s') : wpAny (model X.prog X.w) A (getAttr (.ref a) f b) Q E s := by
  obtain ⟨mA, O, r, _, _, _⟩ := ins_get I.hok e
  obtain ⟨u, hu, ru⟩ := RelO.some_of (v := v) (o := mA f) (by rw [← l]; exact r f)
  exact get_map I.kIn O (c.get f) c.hd n hu (handed_of ru) (h u _ (I.tok _) ru)

theorem getmeth_ok {m : Str} {g : Addr} {pl : Sem Bool} {Q : Value × List Value → Shared → Prop} (I : Inv X pins σ H s) (e : H a = some (.ins C dx fs)) (c : Cls X.K C) (k : Meth X.K C m g) (l : fs.lookup m = none)
    (h : Q (.ref g, [.ref a]) s) : wpAny (model X.prog X.w) A (getMethod (.ref a) m pl) Q E s := by
  obtain ⟨mA, O, r, _, _, _⟩ := ins_get I.hok e
  have hn : mA m = none := RelO.none_of (by rw [← l]; exact r m)
  exact get_meth I.kIn O (c.get m) k.at_ k.fn hn h

theorem setattr_ok {y : V} {u : Value} {Q : Unit → Shared → Prop} (I : Inv X pins σ H s) (e : H a = some (.ins C dx fs)) (c : Cls X.K C) (n : NoAttr X.K C f) (hl : fs.length < 1000) (ry : RelV y u)
    (h : ∀ s', Inv X pins σ (upd H a (.ins C dx (putF f y fs))) s' → Q () s') : wpAny (model X.prog X.w) A (setAttr (.ref a) f u) Q E s := by
  obtain ⟨mA, O, r, wi, _, ho⟩ := ins_get I.hok e
  have hz : (fs.map (·.1)).length ≤ sizeLine := by rw [List.length_map, sizeLine_eq]; (first | lia | omega)
  refine set_map I.kIn O c.sa c.po n.taker c.hd wi hz fun h' O' sb => h _ ?_
  have hd : ∃ o, h'.get? dx = some o := let ⟨o, _, _, e', _⟩ := O'.ns; ⟨o, e'⟩
  refine I.write (x := a) (e := dx) (by rw [e]; exact True.intro) (.inr ho) (fun b q hb z => (sb.2 b hb).trans z) hd ?_
  refine ⟨by rw [upd_ne O.ne]; exact ho, ?_, O.ne, O'.obj, _, O'.ns, fun g => ?_, fun g hg => ?_⟩
  · have := length_putF f y fs; (first | lia | omega)
  · show RelO ((putF f y fs).lookup g) (if g = f then some u else mA g)
    rw [lookup_putF]
    by_cases q : g = f
    · rw [if_pos q, if_pos q]; exact ry
    · rw [if_neg q, if_neg q]; exact r g
  · by_cases q : g = f
    · rw [q]; exact (keys_putF f y fs).1
    · refine (keys_putF f y fs).2 g (wi g fun z => hg ?_)
      show (if g = f then some u else mA g) = none
      rw [if_neg q]; exact z

/-- a new instance, tracked, without attributes -/
theorem Inv.made (I : Inv X pins σ H s) : Inv X pins σ (upd (upd H s.heap.objs.size (.own (s.heap.objs.size + 1))) (s.heap.objs.size + 1) (.ins C s.heap.objs.size []))
    { s with heap := (s.heap.push PySem.W.emptyDict).push (PySem.W.instObj C s.heap.objs.size) } := by
  have e1 : (s.heap.push PySem.W.emptyDict).get? s.heap.objs.size = some PySem.W.emptyDict := Heap.get?_push_size s.heap rfl
  have e2 : ((s.heap.push PySem.W.emptyDict).push (PySem.W.instObj C s.heap.objs.size)).get? (s.heap.objs.size + 1) = some (PySem.W.instObj C s.heap.objs.size) := by
    have := Heap.get?_push_size (s.heap.push PySem.W.emptyDict) (o := PySem.W.instObj C s.heap.objs.size) rfl
    rwa [Heap.size_push] at this
  have e3 : (s.heap.push PySem.W.emptyDict).Ns s.heap.objs.size (fun _ => none) := ⟨PySem.W.emptyDict, #[], _, e1, rfl, (fun e he => absurd he (by simp)), fun _ => rfl⟩
  have I1 := I.laid (a := s.heap.objs.size) (o := .own (s.heap.objs.size + 1)) (h' := s.heap.push PySem.W.emptyDict) (t' := s.toks) (fun b u q => Heap.get?_push_of_some _ q) (Nat.le_refl _) ⟨_, e1⟩
  refine I1.laid (a := s.heap.objs.size + 1) (o := .ins C s.heap.objs.size []) (t' := s.toks) (fun b u q => Heap.get?_push_of_some _ q) (Nat.le_of_eq (Heap.size_push _ _)) ?_
  have ne : s.heap.objs.size ≠ s.heap.objs.size + 1 := Nat.ne_of_lt (Nat.lt_succ_self _)
  refine ⟨by rw [upd_ne ne, upd_same], Nat.zero_le _, ne, e2, fun _ => none, (Heap.Ns1.of_empty e3).at fun o q => Heap.get?_push_of_some _ q, fun _ => True.intro, fun y hy => absurd rfl hy⟩

/-- e.f where nothing but the object is asked: through attributeBase (super) and the last hold -/
theorem attr_of {prog : Program} {w : World} {env : Env} {e : Expr} {f : Str} {pos : Pos} {s : Shared} {Q : Value → Shared → Prop} (hb : attributeBase e f env (eval e env) = eval e env)
    (h : wpAny (model prog w) A (eval e env) (fun o s₁ => wpAny (model prog w) A (getAttr o f true) Q E s₁) E s) : wpAny (model prog w) A (eval (.Attribute e f pos) env) Q E s :=
  Attribute_any_ h (by rw [arm_eval_Attribute, hb])
end

/-! ### readings and rules -/
/-- e.f, an attribute of the instance -/
def tFld (K : PySem.W.Frag) (ta : TE) (f : Str) : TE := fun σ H Q => ta σ H fun x H1 => ∃ a C dx fs v, x = .ref a ∧ H1 a = some (.ins C dx fs) ∧ Cls K C ∧ NoAttr K C f ∧ fs.lookup f = some v ∧ Q v H1
/-- e.f = value -/
def sFld (K : PySem.W.Frag) (ta tv : TE) (f : Str) : TS := fun D σ H => tv σ H fun y H1 => ta σ H1 fun x H2 => ∃ a C dx fs, x = .ref a ∧ H2 a = some (.ins C dx fs) ∧ Cls K C ∧ NoAttr K C f ∧ fs.length < 1000 ∧
  D.nx σ (upd H2 a (.ins C dx (putF f y fs)))
/-- an augmented operator on two values -/
def InOp (X : Cx) (op : Operator) (rd : V → V → Hp → VK → Prop) : Prop :=
  ∀ (pins : List (Addr × Obj)) (s : Shared) (σ : St) (H : Hp) (x y : V) (u v : Value) (Q : VK), Inv X pins σ H s → RelV x u → RelV y v → rd x y H Q → wpAny (model X.prog X.w) X.A (inplaceOp op u v) (EP X pins σ Q) X.xe s
/-- e.f op= value -/
def sFldAug (K : PySem.W.Frag) (ta tv : TE) (rd : V → V → Hp → VK → Prop) (f : Str) : TS := fun D σ H => ta σ H fun x H1 => ∃ a C dx fs v, x = .ref a ∧ H1 a = some (.ins C dx fs) ∧ Cls K C ∧ NoAttr K C f ∧ fs.lookup f = some v ∧
  tv σ H1 fun y H2 => rd v y H2 fun z H3 => ∃ dx' fs', H3 a = some (.ins C dx' fs') ∧ fs'.length < 1000 ∧ D.nx σ (upd H3 a (.ins C dx' (putF f z fs')))

section
variable {X : Cx} {o e value : Expr} {f : Str} {pos pos' tpos : Pos} {ta tv : TE}
theorem pe_fld (he : PE X e ta) (hb : attributeBase e f X.env (eval e X.env) = eval e X.env) : PE X (.Attribute e f pos) (tFld X.K ta f) := by
  intro pins s σ H Q I h
  refine attr_of hb (thn (he pins s σ H _ I h) fun u s1 ⟨x, H1, I1, rx, a, C, dx, fs, v, ex, ea, c, n, l, q⟩ => ?_)
  subst ex
  obtain rfl : u = Value.ref a := rx
  exact getattr_ok I1 ea c n l fun u' s2 I2 ru => ⟨v, H1, I2, ru, q⟩
theorem ps_fld (ha : PE X o ta) (hv : PE X value tv) (hs : swapsWith value (some (.Attribute o f pos')) pos.line X.env = pure false) : PS X (.Assign [.Attribute o f pos'] value pos) (sFld X.K ta tv f) := by
  intro pins s σ H D I h
  refine plainObj_wpAny_Assign_Attribute (thn (hv pins s σ H _ I h) fun u s1 ⟨y, H1, I1, ry, q⟩ => thn (ha pins s1 σ H1 _ I1 q) fun ov s2 ⟨x, H2, I2, rx, a, C, dx, fs, ex, ea, c, n, l, q2⟩ => ?_) hs
  subst ex
  obtain rfl : ov = Value.ref a := rx
  exact setattr_ok I2 ea c n l ry fun s3 I3 => ⟨σ, _, I3, q2⟩
theorem ps_fldaug {op : Operator} {rd : V → V → Hp → VK → Prop} (ha : PE X o ta) (hv : PE X value tv) (hop : InOp X op rd) : PS X (.AugAssign (.Attribute o f tpos) op value pos) (sFldAug X.K ta tv rd f) := by
  intro pins s σ H D I h
  refine wpAny_AugAssign_AttributeAny (thn (ha pins s σ H _ I h) fun ov s1 ⟨x, H1, I1, rx, a, C, dx, fs, v, ex, ea, c, n, l, q⟩ => ?_)
  subst ex
  obtain rfl : ov = Value.ref a := rx
  refine getattr_ok I1 ea c n l fun u s2 I2 ru => thn (hv pins s2 σ H1 _ I2 q) fun w3 s3 ⟨y, H2, I3, ry, q3⟩ => thn (hop pins s3 σ H2 v y u w3 _ I3 ru ry q3) fun w4 s4 ⟨z, H3, I4, rz, dx', fs', ea', l', q4⟩ => ?_
  exact setattr_ok I4 ea' c n l' rz fun s5 I5 => ⟨σ, _, I5, q4⟩
def rAdd : V → V → Hp → VK → Prop := fun x y H Q => ∃ i j, x = .int i ∧ y = .int j ∧ Q (.int (i + j)) H
def rSub : V → V → Hp → VK → Prop := fun x y H Q => ∃ i j, x = .int i ∧ y = .int j ∧ Q (.int (i - j)) H
theorem in_add : InOp X .Add rAdd := by
  rintro pins s σ H x y u v Q I rx ry ⟨i, j, rfl, rfl, q⟩
  obtain ⟨t, rfl⟩ := (show ∃ t, u = Value.int i t from rx)
  obtain ⟨t', rfl⟩ := (show ∃ t', v = Value.int j t' from ry)
  exact PyProof.Rows.iadd_int ⟨.int (i + j), H, I.tok _, ⟨_, rfl⟩, q⟩
theorem in_sub : InOp X .Sub rSub := by
  rintro pins s σ H x y u v Q I rx ry ⟨i, j, rfl, rfl, q⟩
  obtain ⟨t, rfl⟩ := (show ∃ t, u = Value.int i t from rx)
  obtain ⟨t', rfl⟩ := (show ∃ t', v = Value.int j t' from ry)
  exact PyProof.Rows.isub_int ⟨.int (i - j), H, I.tok _, ⟨_, rfl⟩, q⟩

end

/-! ### isinstance -/
section
variable {X : Cx} {pins : List (Addr × Obj)} {σ : St} {H : Hp} {s : Shared} {A : Around} {E : Value → Shared → Prop} {Q : Value → Shared → Prop} {c : Value} {b : Bool}
/-- the type of a value, as the fragment's deciders take it; for an instance its class -/
inductive TyOf (K : PySem.W.Frag) (H : Hp) : V → Value → Prop where
  | non : TyOf K H .non (.type "NoneType")
  | bl (x : Bool) : TyOf K H (.bl x) (.type "bool")
  | int (i : Int) : TyOf K H (.int i) (.type "int")
  | str (x : Str) : TyOf K H (.str x) (.type "str")
  | flt (x : UInt64) : TyOf K H (.flt x) (.type "float")
  | lst {a : Addr} {xs : List V} (e : H a = some (.lst xs)) : TyOf K H (.ref a) (.type "list")
  | frz {a : Addr} {o : Obj} {xs : List V} (e : H a = some (.frz o (.lst xs))) : TyOf K H (.ref a) (.type "list")
  | tup {a : Addr} {xs : List V} (e : H a = some (.tup xs)) : TyOf K H (.ref a) (.type "tuple")
  | dK {a : Addr} {kvs : List (Key × V)} (e : H a = some (.dK kvs)) : TyOf K H (.ref a) (.type "dict")
  | dT {a : Addr} {kvs : List (List Key × V)} (e : H a = some (.dT kvs)) : TyOf K H (.ref a) (.type "dict")
  | ins {a C dx : Addr} {fs : List (Str × V)} (e : H a = some (.ins C dx fs)) (cl : Cls K C) (ha : PySem.W.findIn K (.ref C) "__class__" = some (some (.builtin "object.__class__")))
      (hn : PySem.W.specialIn K (.builtin "object.__class__") "__get__" = some (some (.builtin "getset_descriptor.__get__"))) (htk : PySem.W.takesIn K (.builtin "object.__class__") = some true)
      (hm : PySem.W.mroIn K C (.type "object") = some true) : TyOf K H (.ref a) (.ref C)
/-- isinstance(x, c) for one class c, a built-in or an own one: kitOne's answer -/
theorem isinst_ok {x : V} {u t : Value} (I : Inv X pins σ H s) (rx : RelV x u) (ty : TyOf X.K H x t) (e : PySem.W.kitOne X.K t c = some b) (h : ∀ tk, Q (.bool b) { s with toks := tk }) :
    wpAny (model X.prog X.w) A (call (.builtin "isinstance") [u, c]) Q E s := by
  cases ty with
  | non => cases (show u = Value.none from rx); exact PySem.W.kia_one PySem.W.kitx_none I.kIn True.intro e (fun z => nomatch z) h
  | bl y => cases (show u = Value.bool y from rx); exact PySem.W.kia_one PySem.W.kitx_bool I.kIn True.intro e (fun z => nomatch z) h
  | int i => obtain ⟨t, q⟩ := (show ∃ t, u = Value.int i t from rx); cases q; exact PySem.W.kia_one PySem.W.kitx_int I.kIn True.intro e (fun z => nomatch z) h
  | str y => obtain ⟨t, q⟩ := (show ∃ t, u = Value.str y t from rx); cases q; exact PySem.W.kia_one PySem.W.kitx_str I.kIn True.intro e (fun z => nomatch z) h
  | flt y => obtain ⟨t, q⟩ := (show ∃ t, u = Value.float y t from rx); cases q; exact PySem.W.kia_one PySem.W.kitx_float I.kIn True.intro e (fun z => nomatch z) h
  | @lst a xs ea =>
    cases (show u = Value.ref a from rx)
    obtain ⟨_, _, n, _, h1⟩ := (show ObjOk X.prog X.w H s.heap a (.lst xs) from I.hok a _ ea)
    exact PySem.W.kia_one PySem.W.kitx_list I.kIn ⟨_, h1, rfl⟩ e (fun z => nomatch z) h
  | @frz a ob xs ea =>
    cases (show u = Value.ref a from rx)
    obtain ⟨_, _, _, n, _, h1⟩ := (show ObjOk X.prog X.w H s.heap a (.frz ob (.lst xs)) from I.hok a _ ea)
    exact PySem.W.kia_one PySem.W.kitx_list I.kIn ⟨_, h1, rfl⟩ e (fun z => nomatch z) h
  | @tup a xs ea =>
    cases (show u = Value.ref a from rx)
    obtain ⟨_, _, _, p⟩ := (show ObjOk X.prog X.w H s.heap a (.tup xs) from I.hok a _ ea)
    obtain ⟨o, h1, h2, _⟩ := p
    exact PySem.W.kia_one PySem.W.kitx_tuple I.kIn ⟨o, h1, h2⟩ e (fun z => nomatch z) h
  | @dK a kvs ea =>
    cases (show u = Value.ref a from rx)
    obtain ⟨_, _, vs, _, p⟩ := (show ObjOk X.prog X.w H s.heap a (.dK kvs) from I.hok a _ ea)
    obtain ⟨o, es, ep, h1, h2, _⟩ := p
    exact PySem.W.kia_one PySem.W.kitx_dict I.kIn ⟨o, h1, h2.1⟩ e (fun z => nomatch z) h
  | @dT a kvs ea =>
    cases (show u = Value.ref a from rx)
    obtain ⟨_, _, xs, _, o, es, ep, h1, h2, _⟩ := (show ObjOk X.prog X.w H s.heap a (.dT kvs) from I.hok a _ ea)
    exact PySem.W.kia_one PySem.W.kitx_dict I.kIn ⟨o, h1, h2.1⟩ e (fun z => nomatch z) h
  | @ins a C dx fs ea cl ha hn htk hm =>
    cases (show u = Value.ref a from rx)
    obtain ⟨mA, O, _⟩ := ins_get I.hok ea
    obtain ⟨od, J, _⟩ := O.look
    exact PySem.W.kia_one (PySem.W.kitx_own (cl.get _) cl.hd ha hn htk hm) I.kIn J e (fun z => nomatch z) h
end
end L2

namespace L2
open PySem PySem.Spec PyProof.Rows

/-! ### room -/
structure Room (k : Nat) (A : Around) : Prop where
  hd : A.handled = none
  dp : A.depth + 3 * k + 5 < recursionLimit
  un : A.units + 16 * k + 200 < cLine
theorem Room.mono {j k : Nat} {A : Around} (r : Room k A) (h : j ≤ k) : Room j A := ⟨r.hd, by have := r.dp; (first | lia | omega), by have := r.un; (first | lia | omega)⟩
theorem Room.deeper {k : Nat} {A : Around} (r : Room (k + 1) A) (env : Env) : Room k (A.deeper env) :=
  ⟨r.hd, by have := r.dp; show A.depth + 1 + 3 * k + 5 < _; (first | lia | omega), by have := r.un; show A.units + 3 + 16 * k + 200 < _; (first | lia | omega)⟩
theorem make_depth {A : Around} {C : Addr} {us : List Value} {kw : List (Str × Value)} : (A.under (.builtin "type.__call__" ⟨.ref C :: us, kw⟩)).depth = A.depth + 1 := by
  first | rfl | simp [Around.under, Code.weight, Code.isCreation, Code.isGuard, Code.isCaller, Code.frames, Code.isFrame, guardIds]
theorem make_units {A : Around} {C : Addr} {us : List Value} {kw : List (Str × Value)} : (A.under (.builtin "type.__call__" ⟨.ref C :: us, kw⟩)).units = A.units + 1 := by
  first | rfl | simp [Around.under, Code.cUnits, Code.frames, Code.isFrame]
theorem Room.make {k : Nat} {A : Around} (r : Room (k + 1) A) (C : Addr) (us : List Value) (kw : List (Str × Value)) : Room k (A.under (.builtin "type.__call__" ⟨.ref C :: us, kw⟩)) :=
  ⟨r.hd, by have := r.dp; rw [make_depth]; (first | lia | omega), by have := r.un; rw [make_units]; (first | lia | omega)⟩
theorem Room.depth {k : Nat} {A : Around} (r : Room k A) : A.depth < recursionLimit := by have := r.dp; (first | lia | omega)
/-! ### argument lists and displays -/
def tNil : TA := fun _ H Q => Q [] H
def tCons (ta : TE) (tr : TA) : TA := fun σ H Q => ta σ H fun x H1 => tr σ H1 fun xs H2 => Q (x :: xs) H2
section
variable {X : Cx} {e : Expr} {es : List Expr} {te : TE} {t : TA} {pos : Pos}
theorem pa_nil : PA X [] tNil := fun _ _ _ _ H Q I h => Calls.spliced_nil ⟨[], H, I, .nil, h⟩
theorem pa_cons (ha : PE X e te) (hr : PA X es t) (hs : starEach (e :: es) X.env = (false, eval e X.env) :: starEach es X.env := by rfl) : PA X (e :: es) (tCons te t) := by
  intro pos pins s σ H Q I h
  rw [hs]
  show wpAny _ _ (spliced ((false, eval e X.env) :: backTo pos (starEach es X.env))) _ _ s
  refine Calls.spliced_cons (thn (ha pins s σ H _ I h) fun u s1 ⟨x, H1, I1, r1, q1⟩ => ?_)
  exact thn (hr pos pins s1 σ H1 _ I1 q1) fun us s2 ⟨xs, H2, I2, r2, q2⟩ => ⟨x :: xs, H2, I2, .cons r1 r2, q2⟩

/-- a tuple, a list of written items -/
def tTup (t : TA) : TE := fun σ H Q => t σ H fun xs H1 => xs.length ≤ sizeLine ∧ ∀ p, H1 p = none → Q (.ref p) (upd H1 p (.tup xs))
def tLst (t : TA) : TE := fun σ H Q => t σ H fun xs H1 => xs.length ≤ sizeLine ∧ ∀ p, H1 p = none → Q (.ref p) (upd H1 p (.lst xs))
theorem pe_tup {x1} (h : PA X es t) : PE X (.Tuple es x1 pos) (tTup t) := by
  intro pins s σ H Q I hq
  refine wpAny_Tuple_spliced (thn (h pos pins s σ H _ I hq) fun us s1 ⟨xs, H1, I1, r, z, q⟩ => ⟨by rw [← r.length]; exact z, ?_⟩)
  have hf : H1 s1.heap.objs.size = none := I1.hok.fresh (Nat.le_refl _)
  refine ⟨.ref s1.heap.objs.size, upd H1 s1.heap.objs.size (.tup xs), I1.laid (t' := s1.toks) (fun b u e => Heap.get?_push_of_some _ e) (Nat.le_refl _) ?_, rfl, q _ hf⟩
  exact ⟨z, us, r, ⟨_, Heap.get?_push_size _ rfl, rfl, _, rfl⟩⟩
theorem pe_lst (h : PA X es t) : PE X (.List es pos) (tLst t) := by
  intro pins s σ H Q I hq
  refine wpAny_List_spliced (thn (h pos pins s σ H _ I hq) fun us s1 ⟨xs, H1, I1, r, z, q⟩ => ⟨by rw [← r.length]; exact z, ?_⟩)
  have hf : H1 s1.heap.objs.size = none := I1.hok.fresh (Nat.le_refl _)
  refine ⟨.ref s1.heap.objs.size, upd H1 s1.heap.objs.size (.lst xs), I1.laid (t' := s1.toks) (fun b u e => Heap.get?_push_of_some _ e) (Nat.le_refl _) ?_, rfl, q _ hf⟩
  exact ⟨z, us, 0, r, Heap.get?_push_size _ rfl⟩
end

/-! ### what a def promises -/
/-- a def's promise: the bound arguments in the parameters' order, the heap, the wanted end, the wanted exception -/
abbrev Sp := List V → Hp → VK → XK → Prop
/-- how an exception lies behind a call (file 08 gives it): the callers' frames, abstract heap and state ahead of the call, the wish, the exception, the state -/
abbrev CXT := List Env → Hp → Shared → XK → Value → Shared → Prop

/-- the state at a call -/
structure Env0 (P : Program) (w : World) (K : PySem.W.Frag) (mg : Str → Option Value) (base : Heap) (A : Around) (outer : List Env) (s : Shared) (H : Hp) : Prop where
  frames : A.frames = some outer
  mod : Mod K mg base
  bs : ∀ b o, base.get? b = some o → s.heap.get? b = some o ∧ H b = none
  bsz : base.objs.size ≤ s.heap.objs.size
  funs : s.heap.FunFrames base outer
  frf : ∀ b ∈ frs outer, H b = none
  hok : HOk P w H s.heap
  bare : AllBare s.gens
/-- a call's end -/
def CE (outer : List Env) (P : Program) (w : World) (H : Hp) (s : Shared) (Q : VK) (u : Value) (s' : Shared) : Prop :=
  ∃ v H', s'.os = s.os ∧ AllBare s'.gens ∧ Un (frs outer) [] H H' s.heap s'.heap ∧ HOk P w H' s'.heap ∧ RelV v u ∧ Q v H'
def CR (CX : CXT) (outer : List Env) (P : Program) (w : World) (H : Hp) (s : Shared) (Q : VK) (E : XK) (r : Result) (s' : Shared) : Prop :=
  match r with
  | .ok (.ret u) => CE outer P w H s Q u s'
  | .ok _ => False
  | .error e => CX outer H s E e s'
structure FnOk (P : Program) (w : World) (K : PySem.W.Frag) (mg : Str → Option Value) (base : Heap) (CX : CXT) (k : Nat) (f : Addr) (fd : FuncData) (ps : List Str) (sp : Sp) : Prop where
  len : ∀ vs H Q E, sp vs H Q E → vs.length = ps.length
  run : ∀ (A : Around) (outer : List Env) (s : Shared) (H : Hp) (args : Args) (us : List Value) (vs : List V) (Q : VK) (E : XK), Room k A → Env0 P w K mg base A outer s H → BindsTo s fd args (ps.zip us) → Vals vs us → sp vs H Q E →
    codeAny (model P w) A (.call (.ref f) args) (CR CX outer P w H s Q E) s
theorem Env0.make {P : Program} {w : World} {K : PySem.W.Frag} {mg : Str → Option Value} {base : Heap} {A : Around} {outer : List Env} {s : Shared} {H : Hp} (e : Env0 P w K mg base A outer s H) (C : Addr) (us : List Value) (kw : List (Str × Value)) :
    Env0 P w K mg base (A.under (.builtin "type.__call__" ⟨.ref C :: us, kw⟩)) outer s H := ⟨by first | exact e.frames | (simpa [Around.under, Code.envs, Code.isFrame, pushEnvs] using e.frames), e.mod, e.bs, e.bsz, e.funs, e.frf, e.hok, e.bare⟩
section
variable {X : Cx} {pins : List (Addr × Obj)} {σ : St} {H : Hp} {s s' : Shared}
/-- from a body: what a callee wants -/
theorem Inv.env0 (I : Inv X pins σ H s) : Env0 X.prog X.w X.K X.mg X.base X.A X.stack s H :=
  ⟨I.ok.frames, I.ok.mod, I.bs, Nat.le_trans I.ok.bsz I.sz, I.stack, I.stkFree, I.hok, I.bare⟩
/-- behind a call -/
theorem Inv.after {Q : VK} {u : Value} (I : Inv X pins σ H s) (h : CE X.stack X.prog X.w H s Q u s') : EP X pins σ Q u s' := by
  obtain ⟨v, H', os, bare, un, hok, r, q⟩ := h
  obtain ⟨hh, g, d, t, os'⟩ := s'
  obtain rfl : os' = s.os := os
  exact ⟨v, H', I.call (h' := hh) (g' := g) (d' := d) (t' := t) (ch := []) un hok bare (fun b z => absurd z (by simp)), r, q⟩
end

/-! ### calls -/
/-- f(..): the written arguments, then the defaults dvs; E: what is wanted of an exception -/
def tCall (sp : Sp) (dvs : List V) (E : XK) (t : TA) : TE := fun σ H Q => t σ H fun vs H1 => sp (vs ++ dvs) H1 Q E
/-- o.m(..) of an instance of the class at C -/
def tMeth (C : Addr) (m : Str) (sp : Sp) (dvs : List V) (E : XK) (ta : TE) (t : TA) : TE := fun σ H Q => ta σ H fun x H1 => ∃ a dx fs, x = .ref a ∧ H1 a = some (.ins C dx fs) ∧ fs.lookup m = none ∧
  t σ H1 fun vs H2 => sp (x :: (vs ++ dvs)) H2 Q E
/-- C(..): a new instance and its dict, then __init__ -/
def tMake (C : Addr) (sp : Sp) (dvs : List V) (E : XK) (t : TA) : TE := fun σ H Q => t σ H fun vs H1 => ∀ x dx, H1 x = none → H1 dx = none → dx ≠ x →
  sp (.ref x :: (vs ++ dvs)) (upd (upd H1 dx (.own x)) x (.ins C dx [])) (fun v H2 => v = .non ∧ Q (.ref x) H2) E

/-- how the parameters are bound: us the positional arguments, kw the keywords' values by name, ds the defaults that fill up -/
def Binds (K : PySem.W.Frag) (fd : FuncData) (ps : List Str) (ds : List Value) : Prop :=
  ∀ (s : Shared) (us : List Value), K.In s.heap → (us ++ ds).length = ps.length → BindsTo s fd ⟨us, []⟩ (ps.zip (us ++ ds))
/-- every parameter is given -/
theorem Binds.all {K : PySem.W.Frag} {fd : FuncData} {ps : List Str} (h : ∀ us : List Value, us.length = ps.length → bindArgs fd ⟨us, []⟩ = pure (ps.zip us)) : Binds K fd ps [] := fun s us _ hl => by
  rw [List.append_nil] at hl ⊢
  exact .of_eq (h us hl)

/-- an exception of a callee reaches what this body wants of exceptions -/
def Passes (CX : CXT) (X : Cx) (E : XK) : Prop := ∀ (pins : List (Addr × Obj)) (σ : St) (H : Hp) (s : Shared) (e : Value) (s' : Shared), Inv X pins σ H s → CX X.stack H s E e s' → X.xe e s'

section
variable {X : Cx} {CX : CXT} {k : Nat} {f C : Addr} {fd : FuncData} {ps : List Str} {sp : Sp} {dvs : List V} {ds : List Value} {E : XK} {x m : Str} {p pos apos : Pos} {e o : Expr} {es : List Expr} {ta : TE} {t : TA}

/-- the callee runs -/
theorem run_fn {pins : List (Addr × Obj)} {σ : St} {H : Hp} {s : Shared} {Q : VK} {us : List Value} {vs : List V} (F : FnOk X.prog X.w X.K X.mg X.base CX k f fd ps sp) (hr : Room k X.A) (hb : Binds X.K fd ps ds) (hd : Vals dvs ds) (hx : Passes CX X E)
    (I : Inv X pins σ H s) (r : Vals vs us) (h : sp (vs ++ dvs) H Q E) : wpAny (model X.prog X.w) X.A (call (.ref f) us) (EP X pins σ Q) X.xe s := by
  have r2 : Vals (vs ++ dvs) (us ++ ds) := r.append hd
  have hl : (us ++ ds).length = ps.length := by rw [← r2.length]; exact F.len _ _ _ _ h
  refine wpAny_call (codeAny_mono (F.run X.A X.stack s H ⟨us, []⟩ (us ++ ds) (vs ++ dvs) Q E hr I.env0 (hb s us I.kIn hl) r2 h) fun r s' hq => ?_)
  cases r with
  | error e => exact hx pins σ H s e s' I hq
  | ok fl =>
    cases fl with
    | ret u => exact I.after hq
    | next => exact False.elim hq
    | brk => exact False.elim hq
    | cont => exact False.elim hq

theorem pe_call (F : FnOk X.prog X.w X.K X.mg X.base CX k f fd ps sp) (hr : Room k X.A) (hg : Gl X x) (hm : X.mg x = some (.ref f)) (hk : PySem.W.keepIn X.K (.ref f) = true) (hb : Binds X.K fd ps ds) (hd : Vals dvs ds) (hx : Passes CX X E)
    (ha : PA X (e :: es) t) (hdb : (x == ("__debug__" : Str)) = false := by decide) (he : starEach (e :: es) X.env = (false, eval e X.env) :: starEach es X.env := by rfl) (hpl : (backTo pos (starEach es X.env)).any (·.1) = false := by rfl) :
    PE X (.Call (.Name x p) (e :: es) [] pos) (tCall sp dvs E t) := by
  intro pins s σ H Q I h
  refine wpAny_Call_Name_kw (ld_glob I hg hm ?_ hdb)
  refine PySem.W.callWith_K (h₀ := X.base) I.ok.mod.kin hk (thn (ha pos pins s σ H _ I h) fun us s1 ⟨vs, H1, I1, r, q⟩ => ⟨I1.kIn, ?_⟩) he hpl
  exact run_fn F hr hb hd hx I1 r q
/-- o.m(e, ..) -/
theorem pe_meth {pl : Sem Bool} (he : PE X o ta) (c : Cls X.K C) (hm : Meth X.K C m f) (F : FnOk X.prog X.w X.K X.mg X.base CX k f fd ps sp) (hr : Room k X.A) (hb : Binds X.K fd ps ds) (hd : Vals dvs ds) (hx : Passes CX X E) (ha : PA X (e :: es) t)
    (hst : starEach (e :: es) X.env = (false, eval e X.env) :: starEach es X.env := by rfl) (hpl : (backTo pos (starEach es X.env)).any (·.1) = false := by rfl)
    (ht : eval (.Call (.Attribute o m apos) (e :: es) [] pos) X.env = (do
      let ov ← eval o X.env
      standAt apos.atName
      let (f, first) ← holding [ov] (getMethod ov m pl)
      callWith pos f first (backTo pos (starEach (e :: es) X.env)) (backToKw pos (keywordEach [] X.env))) := by rfl) :
    PE X (.Call (.Attribute o m apos) (e :: es) [] pos) (tMeth C m sp dvs E ta t) := by
  intro pins s σ H Q I h
  refine PySem.W.methodCall_KW (pl := pl) (thn (he pins s σ H _ I h) fun u s1 ⟨x, H1, I1, rx, a, dx, fs, ex, ea, l, q⟩ => ?_) ht
  subst ex
  obtain rfl : u = Value.ref a := rx
  refine getmeth_ok I1 ea c hm l ?_
  refine PySem.W.callWith_K (first := [.ref a]) (h₀ := X.base) I.ok.mod.kin hm.kp (thn (ha pos pins s1 σ H1 _ I1 q) fun us s2 ⟨vs, H2, I2, r, q2⟩ => ⟨I2.kIn, ?_⟩) hst hpl
  exact run_fn (us := .ref a :: us) (vs := .ref a :: vs) F hr hb hd hx I2 (.cons rfl r) q2
/-- o.m() -/
theorem pe_meth0 {pl : Sem Bool} (he : PE X o ta) (c : Cls X.K C) (hm : Meth X.K C m f) (F : FnOk X.prog X.w X.K X.mg X.base CX k f fd ps sp) (hr : Room k X.A) (hb : Binds X.K fd ps ds) (hd : Vals dvs ds) (hx : Passes CX X E)
    (ht : eval (.Call (.Attribute o m apos) [] [] pos) X.env = (do
      let ov ← eval o X.env
      standAt apos.atName
      let (f, first) ← holding [ov] (getMethod ov m pl)
      callWith pos f first (backTo pos (starEach [] X.env)) (backToKw pos (keywordEach [] X.env))) := by rfl) :
    PE X (.Call (.Attribute o m apos) [] [] pos) (tMeth C m sp dvs E ta tNil) := by
  intro pins s σ H Q I h
  refine PySem.W.methodCall_KW (pl := pl) (thn (he pins s σ H _ I h) fun u s1 ⟨x, H1, I1, rx, a, dx, fs, ex, ea, l, q⟩ => ?_) ht
  subst ex
  obtain rfl : u = Value.ref a := rx
  refine getmeth_ok I1 ea c hm l ?_
  exact PySem.W.callWith_K0 (first := [.ref a]) I1.kIn hm.kp (run_fn (us := [.ref a]) (vs := [.ref a]) F hr hb hd hx I1 (.cons rfl .nil) q)

/-- what a class must have to be made -/
structure Mk (K : PySem.W.Frag) (C f : Addr) : Prop where
  makes : PySem.W.makesIn K C = true
  init : PySem.W.findIn K (.ref C) "__init__" = some (some (.ref f))
  fn : PySem.W.isFn K (.ref f) = true
  kp : PySem.W.keepIn K (.ref C) = true

theorem run_make {pins : List (Addr × Obj)} {σ : St} {H : Hp} {s : Shared} {Q : VK} {us : List Value} {vs : List V} (M : Mk X.K C f) (F : FnOk X.prog X.w X.K X.mg X.base CX k f fd ps sp) (hr : Room (k + 1) X.A) (hb : Binds X.K fd ps ds) (hd : Vals dvs ds)
    (hx : Passes CX X E) (I : Inv X pins σ H s) (r : Vals vs us)
    (h : ∀ x dx, H x = none → H dx = none → dx ≠ x → sp (.ref x :: (vs ++ dvs)) (upd (upd H dx (.own x)) x (.ins C dx [])) (fun v H2 => v = .non ∧ Q (.ref x) H2) E) :
    wpAny (model X.prog X.w) X.A (call (.ref C) us) (EP X pins σ Q) X.xe s := by
  have hq := h (s.heap.objs.size + 1) s.heap.objs.size (I.hok.fresh (Nat.le_succ _)) (I.hok.fresh (Nat.le_refl _)) (Nat.ne_of_lt (Nat.lt_succ_self _))
  have I2 := Inv.made (C := C) I
  have r2 : Vals (V.ref (s.heap.objs.size + 1) :: (vs ++ dvs)) (Value.ref (s.heap.objs.size + 1) :: (us ++ ds)) := .cons rfl (r.append hd)
  have hl : (Value.ref (s.heap.objs.size + 1) :: us ++ ds).length = ps.length := by
    have e := r2.length
    rw [F.len _ _ _ _ hq] at e
    exact e.symm
  refine wpAny_call (make_map (f := f) I.kIn M.makes M.init (beq_iff_eq.mp M.fn) (codeAny_mono (F.run _ X.stack _ _ ⟨Value.ref (s.heap.objs.size + 1) :: us, []⟩ (Value.ref (s.heap.objs.size + 1) :: (us ++ ds)) _ _ E (hr.make C us [])
    (I2.env0.make C us []) (hb _ (Value.ref (s.heap.objs.size + 1) :: us) I2.kIn hl) r2 hq) fun r s' hq' => ?_))
  cases r with
  | error e => exact hx pins σ _ _ e s' I2 hq'
  | ok fl =>
    cases fl with
    | ret u =>
      obtain ⟨v, H', I3, rv, ev, q3⟩ := I2.after hq'
      subst ev
      exact ⟨rv, ⟨V.ref (s.heap.objs.size + 1), H', I3, rfl, q3⟩⟩
    | next => exact False.elim hq'
    | brk => exact False.elim hq'
    | cont => exact False.elim hq'
theorem pe_make0 (M : Mk X.K C f) (F : FnOk X.prog X.w X.K X.mg X.base CX k f fd ps sp) (hr : Room (k + 1) X.A) (hg : Gl X x) (hm : X.mg x = some (.ref C)) (hb : Binds X.K fd ps ds) (hd : Vals dvs ds) (hx : Passes CX X E)
    (hdb : (x == ("__debug__" : Str)) = false := by decide) : PE X (.Call (.Name x p) [] [] pos) (tMake C sp dvs E tNil) := by
  intro pins s σ H Q I h
  refine wpAny_Call_Name_kw (ld_glob I hg hm ?_ hdb)
  exact PySem.W.callWith_K0 I.kIn M.kp (run_make (us := []) M F hr hb hd hx I .nil h)
end

/-! ### keywords -/
section
variable {X : Cx} {CX : CXT} {k : Nat} {f C : Addr} {fd : FuncData} {ps ks : List Str} {sp : Sp} {E : XK} {x m : Str} {p pos apos kpos : Pos} {e o : Expr} {es : List Expr} {kws : List Keyword} {te ta : TE} {t tk : TA} {nm : Option Str}
variable {g : List Value → List Value → List Value} {gV : List V → List V → List V}
end

/-! ### a def's body keeps its promise -/
/-- names: the parameters first -/
structure FnScope (N P : List Str) (sc : Scope) : Prop where
  kind : sc.kind = .function
  co : sc.isCoroutine = false
  gen : sc.isGenerator = false
  nd : N.Nodup
  pre : N.take P.length = P
  par : ∀ x ∈ P, sc.names.lookup x = some .local ∨ sc.names.lookup x = some .cell
  nofree : ∀ y ∈ sc.names, y.2 ≠ .free

theorem bindL_out {kindOf : Str → Option NameKind} {x : Str} : ∀ {binds : List (Str × Value)} {m : Str → Option Value}, (∀ v, (x, v) ∉ binds) → bindL kindOf binds m x = m x
  | [], _, _ => rfl
  | (n, v) :: r, m, h => by
    unfold bindL
    rw [bindL_out fun w hw => h w (List.mem_cons_of_mem _ hw)]
    split
    · have : x ≠ n := by rintro rfl; exact h v List.mem_cons_self
      simp [this]
    · rfl
theorem bindC_out {kindOf : Str → Option NameKind} {x : Str} : ∀ {binds : List (Str × Value)} {m : Str → Option Value}, (∀ v, (x, v) ∉ binds) → bindC kindOf binds m x = m x
  | [], _, _ => rfl
  | (n, v) :: r, m, h => by
    unfold bindC
    rw [bindC_out fun w hw => h w (List.mem_cons_of_mem _ hw)]
    split
    · rfl
    · have : x ≠ n := by rintro rfl; exact h v List.mem_cons_self
      simp [this]
theorem bindL_get {kindOf : Str → Option NameKind} {x : Str} {v : Value} : ∀ {P : List Str} {vs : List Value} {i : Nat} {m : Str → Option Value}, P.Nodup → P[i]? = some x → vs[i]? = some v → kindOf x = some .local →
    bindL kindOf (P.zip vs) m x = some v
  | [], _, _, _, _, h, _, _ => by simp at h
  | _ :: _, [], _, _, _, _, h, _ => by simp at h
  | p :: P, w :: vs, 0, m, nd, h1, h2, hk => by
    simp at h1 h2; subst h1; subst h2
    show bindL kindOf ((p, w) :: P.zip vs) m p = _
    unfold bindL
    rw [bindL_out fun v hv => (List.nodup_cons.mp nd).1 (List.of_mem_zip hv).1, if_pos hk]
    simp
  | p :: P, w :: vs, i + 1, m, nd, h1, h2, hk => by
    show bindL kindOf ((p, w) :: P.zip vs) m x = _
    unfold bindL
    exact bindL_get (i := i) (List.nodup_cons.mp nd).2 (by simpa using h1) (by simpa using h2) hk
theorem bindC_get {kindOf : Str → Option NameKind} {x : Str} {v : Value} : ∀ {P : List Str} {vs : List Value} {i : Nat} {m : Str → Option Value}, P.Nodup → P[i]? = some x → vs[i]? = some v → kindOf x ≠ some .local →
    bindC kindOf (P.zip vs) m x = some v
  | [], _, _, _, _, h, _, _ => by simp at h
  | _ :: _, [], _, _, _, _, h, _ => by simp at h
  | p :: P, w :: vs, 0, m, nd, h1, h2, hk => by
    simp at h1 h2; subst h1; subst h2
    show bindC kindOf ((p, w) :: P.zip vs) m p = _
    unfold bindC
    rw [bindC_out fun v hv => (List.nodup_cons.mp nd).1 (List.of_mem_zip hv).1, if_neg hk]
    simp
  | p :: P, w :: vs, i + 1, m, nd, h1, h2, hk => by
    show bindC kindOf ((p, w) :: P.zip vs) m x = _
    unfold bindC
    exact bindC_get (i := i) (List.nodup_cons.mp nd).2 (by simpa using h1) (by simpa using h2) hk

/-- the names' values at the entry -/
def start (N : List Str) (vs : List V) : St := vs.map some ++ List.replicate (N.length - vs.length) none

/-- the context of a def's body, at its entry; an exception leaves the frame, then lies as CX says -/
def cxOf (CX : CXT) (P : Program) (w : World) (K : PySem.W.Frag) (mg : Str → Option Value) (base : Heap) (N : List Str) (qual : Str) (scope : Scope) (f : Addr) (cd : Value) (A : Around) (outer : List Env) (s : Shared) (H : Hp) (E : XK) : Cx where
  prog := P
  w := w
  K := K
  mg := mg
  base := base
  A := A.deeper (envOfC qual scope s.heap.objs.size f cd)
  N := N
  s₀ := s
  H₀ := H
  env := envOfC qual scope s.heap.objs.size f cd
  outer := outer
  stack := envOfC qual scope s.heap.objs.size f cd :: outer
  ex := []
  calm := true
  fn := fun _ => true
  pn := []
  xe := fun e s' => wpAny (model P w) (A.deeper (envOfC qual scope s.heap.objs.size f cd)) (leaving (envOfC qual scope s.heap.objs.size f cd) e) (fun _ s'' => CX outer H s E e s'') (fun e' s'' => CX outer H s E e' s'') s'

theorem cell_has {sc : Scope} {n : Nat} {x : Str} (h : sc.names.lookup x = some .cell) : ∃ c, (cellsFrom n sc.names []).lookup x = some c := by
  have q := PySem.W.cellsFrom_some sc.names n [] (.inl h)
  exact Option.isSome_iff_exists.mp q

theorem inv_start {CX : CXT} {P : Program} {w : World} {K : PySem.W.Frag} {mg : Str → Option Value} {base : Heap} {N ps : List Str} {qual : Str} {scope : Scope} {f : Addr} {cd : Value} {A : Around} {outer : List Env} {s s1 : Shared} {H : Hp} {E : XK} {us : List Value} {vs : List V}
    (S : FnScope N ps scope) (hd : A.handled = none) (e0 : Env0 P w K mg base A outer s H) (hl : vs.length = ps.length) (r : Vals vs us)
    (x : InCallC s s.heap.objs.size (bindL (envOfC qual scope s.heap.objs.size f cd).kindOf (ps.zip us) fun _ => none) (cellsFrom (s.heap.objs.size + 1) scope.names []) (bindC (envOfC qual scope s.heap.objs.size f cd).kindOf (ps.zip us) fun _ => none) s1) :
    Inv (cxOf CX P w K mg base N qual scope f cd A outer s H E) [] (start N vs) H s1 := by
  have hpl : ps.length ≤ N.length := by have := congrArg List.length S.pre; rw [List.length_take] at this; (first | lia | omega)
  obtain ⟨h1, tk, rfl, hk⟩ := x.done
  have noA : ∀ b : Addr, b ∉ (cxOf CX P w K mg base N qual scope f cd A outer s H E).ex := fun b z => absurd (show b ∈ ([] : List Addr) from z) (by simp)
  refine ⟨⟨e0.mod, S.kind, rfl, rfl, Nat.le_refl _, fun y z c h1 h2 => ?_, fun y hy => ?_, fun y c _ h => ?_, fun _ => hd, Around.frames_deeper e0.frames, .inr ⟨rfl, rfl⟩, fun b z => absurd z (noA b), e0.bs, e0.bsz, fun b _ _ => noA b, fun b z => absurd z (noA b), e0.funs, e0.frf⟩,
    rfl, e0.bare, Un.kept hk, ⟨_, x.toInCall.ns, fun i y v h1 h2 h3 => ?_⟩, fun y c h => ⟨_, x.cell y c h⟩, e0.hok.fresh (Nat.le_refl _), fun y c h => ?_, fun p hp => absurd (show p ∈ ([] : List (Addr × Obj)) from hp) (by simp), e0.hok.kept hk, ?_⟩
  · exact name_of_addr x.apart (PySem.mem_of_lookup h1) (PySem.mem_of_lookup h2)
  · have hy : scope.names.lookup y = some .cell ∨ scope.names.lookup y = some .free := hy
    rcases hy with hy | hy
    · exact cell_has hy
    · exact absurd rfl (S.nofree _ (PySem.mem_of_lookup hy))
  · exact Nat.le_of_lt (x.above y c (PySem.mem_of_lookup h))
  · have hi : i < vs.length := by
      unfold start at h2
      by_cases hi : i < vs.length
      · exact hi
      · rw [List.getElem?_append_right (by simpa using hi)] at h2
        rw [List.getElem?_replicate] at h2
        split at h2 <;> cases h2
    have ha : vs[i]? = some v := by
      unfold start at h2
      rw [List.getElem?_append_left (by simpa using hi), List.getElem?_map] at h2
      cases e : vs[i]? with
      | none => rw [e] at h2; cases h2
      | some a => rw [e] at h2; cases h2; rfl
    obtain ⟨u, hu, rv⟩ := r.get ha
    have hp : ps[i]? = some y := by
      rw [← S.pre, List.getElem?_take_of_lt (by (first | lia | omega))]; exact h1
    have ndP : ps.Nodup := by rw [← S.pre]; exact S.nd.sublist (List.take_sublist _ _)
    refine ⟨u, rv, ?_⟩
    rcases S.par y (List.mem_of_getElem? hp) with k | k
    · exact .inl ⟨k, bindL_get ndP hp hu k⟩
    · obtain ⟨c, e⟩ := cell_has (n := s.heap.objs.size + 1) k
      refine .inr ⟨.inl k, c, e, ?_⟩
      have q := x.cell y c e
      rw [bindC_get ndP hp hu (by show scope.names.lookup y ≠ _; rw [k]; decide)] at q
      exact q
  · exact e0.hok.fresh (Nat.le_of_lt (x.above y c (PySem.mem_of_lookup h)))
  · unfold start
    show _ = N.length
    rw [List.length_append, List.length_map, List.length_replicate]
    (first | lia | omega)

/-- THE RULE: a def (or a method) of the text, by its body. The body's reading t is chosen for each entry; it is run at the parameters' values -/
theorem fn_of {CX : CXT} {P : Program} {w : World} {K : PySem.W.Frag} {mg : Str → Option Value} {base : Heap} {k : Nat} {f : Addr} {name qual : Str} {params : Arguments} {body : List Stmt} {scope : Scope} {dV kV doc pm cdv ct oc : Value} {an od : Option Addr}
    {osl : Array (Option Value)} {N ps : List Str} {sp : Sp} (lk : K.lookup f = some ⟨oc, od, .func (PySem.W.fnOf name qual params body scope dV kV doc pm an cdv ct), osl⟩) (hcd : PySem.W.codeIn K cdv qual = true) (S : FnScope N ps scope)
    (len : ∀ vs H Q E, sp vs H Q E → vs.length = ps.length)
    (hbody : ∀ (A : Around) (outer : List Env) (s : Shared) (H : Hp) (vs : List V) (Q : VK) (E : XK), Room k (A.deeper (envOfC qual scope s.heap.objs.size f cdv)) → sp vs H Q E →
      ∃ t, PSs (cxOf CX P w K mg base N qual scope f cdv A outer s H E) body t ∧ t { nx := fun _ H' => Q .non H', rt := Q } (start N vs) H) :
    FnOk P w K mg base CX (k + 1) f (PySem.W.fnOf name qual params body scope dV kV doc pm an cdv ct) ps sp := by
  refine ⟨len, fun A outer s H args us vs Q E hr e0 hb r hsp => ?_⟩
  have hl := len _ _ _ _ hsp
  have KX : K.In s.heap := e0.mod.kin.keeps fun b o e => (e0.bs b o e).1
  have lim : s.heap.NoLimit := e0.mod.nolimit.keeps fun b o e => (e0.bs b o e).1
  have hkind : ∀ y ∈ ps.zip us, scope.names.lookup y.1 = some .local ∨ (scope.names.lookup y.1 = some .cell ∧ ((cellsFrom (s.heap.objs.size + 1) scope.names []).lookup y.1).isSome = true) := fun ⟨n, v⟩ hy => by
    rcases S.par n (List.of_mem_zip hy).1 with q | q
    · exact .inl q
    · exact .inr ⟨q, PySem.W.cellsFrom_some _ _ _ (.inl q)⟩
  refine codeAny_call_function hr.depth (KX _ _ lk) rfl S.co S.gen rfl (PySem.W.codeRec_of KX hcd) (hb _ _ _ _ ?_)
  refine wpAny_newFunctionEnv_cells S.kind hkind fun env he s1 x => ?_
  subst he
  refine ⟨lim.keeps x.toInCall.keep, codeAny_func ?_⟩
  obtain ⟨t, ht, hq⟩ := hbody A outer s H vs Q E (hr.deeper _) hsp
  have I : Inv (cxOf CX P w K mg base N qual scope f cdv A outer s H E) [] (start N vs) H s1 := inv_start S hr.hd e0 hl r x
  refine wpAny_mono (ht [] s1 (start N vs) H _ I hq) (fun fl s' hs => ?_) fun e s' hs => hs
  have fin : ∀ {σ' : St} {H' : Hp} {v : V} {u : Value}, Inv (cxOf CX P w K mg base N qual scope f cdv A outer s H E) [] σ' H' s' → RelV v u → Q v H' → CE outer P w H s Q u s' :=
    fun {σ' H' v u} J rv q => ⟨v, H', J.os, J.bare, J.base, J.hok, rv, q⟩
  cases fl with
  | ret u =>
    obtain ⟨v, σ', H', J, rv, q⟩ := hs
    exact fin J rv q
  | next =>
    obtain ⟨σ', H', J, q⟩ := hs
    exact fin (v := V.non) (u := Value.none) J rfl q
  | brk =>
    obtain ⟨_, _, _, q⟩ := hs
    exact False.elim q
  | cont =>
    obtain ⟨_, _, _, q⟩ := hs
    exact False.elim q
end L2

namespace L2
open PySem PySem.Spec PyProof.Rows
section
variable {X : Cx} {x : Str} {p pos : Pos} {e : Expr} {es : List Expr} {t : TA} {id T : String} {r : List V → Hp → VK → Prop}

def tCB (r : List V → Hp → VK → Prop) (t : TA) : TE := fun σ H Q => t σ H fun vs H1 => r vs H1 Q
/-- f(e, ..), f a built-in function -/
theorem pe_callB (hc : CallR X (.builtin id) r) (hg : Gl X x) (hm : X.mg x = none) (hv : bootBuiltins x = some (.builtin id)) (ha : PA X (e :: es) t) (hn : x ≠ "__name__" := by decide) (hdb : (x == ("__debug__" : Str)) = false := by decide)
    (he : starEach (e :: es) X.env = (false, eval e X.env) :: starEach es X.env := by rfl) (hpl : (backTo pos (starEach es X.env)).any (·.1) = false := by rfl) : PE X (.Call (.Name x p) (e :: es) [] pos) (tCB r t) := by
  intro pins s σ H Q I h
  refine wpAny_Call_Name_kw (ld_blt I hg hm hv ?_ hn hdb)
  exact PyProof.Rows.callWith_builtin1 (thn (ha pos pins s σ H _ I h) fun us s1 ⟨vs, H1, I1, r1, q1⟩ => hc pins s1 σ H1 vs us Q I1 r1 q1) he hpl
/-- T(e, ..), T a built-in type -/
theorem pe_callTy (hc : CallR X (.type T) r) (hg : Gl X x) (hm : X.mg x = none) (hv : bootBuiltins x = some (.type T)) (ha : PA X (e :: es) t) (hn : x ≠ "__name__" := by decide) (hdb : (x == ("__debug__" : Str)) = false := by decide)
    (he : starEach (e :: es) X.env = (false, eval e X.env) :: starEach es X.env := by rfl) (hpl : (backTo pos (starEach es X.env)).any (·.1) = false := by rfl) : PE X (.Call (.Name x p) (e :: es) [] pos) (tCB r t) := by
  intro pins s σ H Q I h
  refine wpAny_Call_Name_kw (ld_blt I hg hm hv ?_ hn hdb)
  exact PyProof.Rows.callWith_type1 (thn (ha pos pins s σ H _ I h) fun us s1 ⟨vs, H1, I1, r1, q1⟩ => hc pins s1 σ H1 vs us Q I1 r1 q1) he hpl
end
end L2

namespace HT
open PySem PyProof.Rows

section
open PySem.SeqAt
open PySem.AutoSeq1 (wpAny_loadPart')
open PySem.MeetsSeq PySem.MeetsSeq2 PySem.MeetsSeq3

end

section
variable {prog : Program} {w : World} {A : Around} {E : Value → Shared → Prop} {s : Shared}

/-! ### t[a:b], not the whole -/
end
end HT

namespace L2
open PySem PySem.Spec PyProof.Rows

/-! ### the parts of a slice -/
abbrev TO := St → Hp → (Option Int → Hp → Prop) → Prop
/-- a slice's part (left out, or an int) -/
def PO (X : Cx) (e : Option Expr) (t : TO) : Prop :=
  ∀ (pins : List (Addr × Obj)) (s : Shared) (σ : St) (H : Hp) (Q : Option Int → Hp → Prop), Inv X pins σ H s → t σ H Q →
    wpAny (model X.prog X.w) X.A (evalPart e X.env) (fun u s' => ∃ o H', Inv X pins σ H' s' ∧ IsPart u o ∧ Q o H') X.xe s
def tNoPart : TO := fun _ H Q => Q none H
def tPart (t : TE) : TO := fun σ H Q => t σ H fun x H1 => ∃ i, x = .int i ∧ Q (some i) H1

section
variable {X : Cx} {e : Expr} {te : TE} {lo hi : Option Expr} {tl th : TO} {pos p2 : Pos}

theorem po_none : PO X none tNoPart := by
  intro pins s σ H Q I h
  rw [evalPart_none]
  exact wpAny_pure ⟨none, H, I, .none, h⟩
theorem po_some (h : PE X e te) : PO X (some e) (tPart te) := by
  intro pins s σ H Q I hw
  rw [evalPart_some]
  refine thn (h pins s σ H _ I hw) fun u s1 ⟨x, H1, I1, r1, q1⟩ => ?_
  obtain ⟨i, rfl, q⟩ := q1
  obtain ⟨t, rfl⟩ := r1
  exact ⟨some i, H1, I1, .int i t, q⟩

/-- what a slice of a value is, by values: the slice object stands at sl -/
def SlR (X : Cx) (r : V → Option Int → Option Int → Hp → VK → Prop) : Prop :=
  ∀ (pins : List (Addr × Obj)) (s : Shared) (σ : St) (H : Hp) (x : V) (v vl vu : Value) (lo hi : Option Int) (sl : Addr) (Q : VK), Inv X pins σ H s → RelV x v → s.heap.IsSliceOf sl vl vu .none → IsPart vl lo → IsPart vu hi → r x lo hi H Q →
    ∃ T id, typeLookup (.type T) "__getitem__" = pure (some (.builtin id)) ∧ s.TypeIs v T ∧ wpAny (model X.prog X.w) X.A (getItem v (.ref sl)) (EP X pins σ Q) X.xe s
def tSl (r : V → Option Int → Option Int → Hp → VK → Prop) (te : TE) (tl th : TO) : TE := fun σ H Q => te σ H fun x H1 => tl σ H1 fun l H2 => th σ H2 fun u H3 => r x l u H3 Q
/-- a[lo:hi], any a -/
theorem pe_slice {r : V → Option Int → Option Int → Hp → VK → Prop} (hr : SlR X r) (he : PE X e te) (hl : PO X lo tl) (hu : PO X hi th) : PE X (.Subscript e (.Slice lo hi none p2) pos) (tSl r te tl th) := by
  intro pins s σ H Q I h
  refine Subscript_ (thn (he pins s σ H _ I h) fun v s1 ⟨x, H1, I1, r1, q1⟩ => ?_)
  refine wpAny_Slice (thn (hl pins s1 σ H1 _ I1 q1) fun vl s2 ⟨l, H2, I2, pl, q2⟩ => thn (hu pins s2 σ H2 _ I2 q2) fun vu s3 ⟨u, H3, I3, pu, q3⟩ => ?_)
  rw [evalPart_none]
  refine wpAny_pure ?_
  have I4 : Inv X pins σ H3 { s3 with heap := s3.heap.push { cls := .type "slice", data := .fields #[vl, vu, .none] } } := I3.kept (t' := s3.toks) fun b ob q => Heap.get?_push_of_some _ q
  obtain ⟨T, id, hT, ht, hg⟩ := hr pins { s3 with heap := s3.heap.push { cls := .type "slice", data := .fields #[vl, vu, .none] } } σ H3 x v vl vu l u s3.heap.objs.size Q I4 r1 (Heap.IsSliceOf.new ..) pl pu q3
  show wpAny (model X.prog X.w) X.A (subscriptTail e (.Slice lo hi none p2) v (.ref s3.heap.objs.size)) (EP X pins σ Q) X.xe { s3 with heap := s3.heap.push { cls := .type "slice", data := .fields #[vl, vu, .none] } }
  exact tail_any (ops := [.ref s3.heap.objs.size, v]) ht hT hg (by with_unfolding_all rfl)

/-! ### t < u, t + u -/
end
end L2

namespace L2
open PySem PySem.Spec PyProof.Rows

/-! ### places -/
/-- the place that an index of any sign means -/
def ixN (n : Nat) (i : Int) : Option Nat := if 0 ≤ i then (if i < n then some i.toNat else none) else if -(n : Int) ≤ i then some (i + n).toNat else none
def atI {α : Type} (xs : List α) (i : Int) : Option α := (ixN xs.length i).bind fun j => xs[j]?
theorem ixN_seq {n : Nat} {i : Int} {j : Nat} (h : ixN n i = some j) : seqIndex? i n = some j ∧ j < n ∧ -(n : Int) ≤ i ∧ i < n := by
  unfold ixN at h
  by_cases h0 : 0 ≤ i
  · rw [if_pos h0] at h
    by_cases h1 : i < n
    · rw [if_pos h1] at h
      have e : i.toNat = j := Option.some.inj h
      exact ⟨by rw [seqIndex_of h0 h1, e], by (first | lia | omega), by (first | lia | omega), h1⟩
    · rw [if_neg h1] at h; cases h
  · rw [if_neg h0] at h
    by_cases h1 : -(n : Int) ≤ i
    · rw [if_pos h1] at h
      have e : (i + n).toNat = j := Option.some.inj h
      exact ⟨by rw [seqIndex_neg (by (first | lia | omega)) h1, e], by (first | lia | omega), h1, by (first | lia | omega)⟩
    · rw [if_neg h1] at h; cases h
theorem atI_get {α : Type} {xs : List α} {i : Int} {v : α} (h : atI xs i = some v) : ∃ j, seqIndex? i xs.length = some j ∧ xs[j]? = some v ∧ j < xs.length ∧ -(xs.length : Int) ≤ i ∧ i < xs.length := by
  unfold atI at h
  cases e : ixN xs.length i with
  | none => rw [e] at h; cases h
  | some j =>
    rw [e] at h
    obtain ⟨h1, h2, h3, h4⟩ := ixN_seq e
    exact ⟨j, h1, h, h2, h3, h4⟩
theorem atI_nat {α : Type} {xs : List α} {j : Nat} {v : α} (h : xs[j]? = some v) : atI xs (j : Int) = some v := by
  have hj : j < xs.length := (List.getElem?_eq_some_iff.mp h).1
  have e : ixN xs.length (j : Int) = some j := by
    unfold ixN
    rw [if_pos (by (first | lia | omega)), if_pos (by (first | lia | omega))]; simp
  unfold atI; rw [e]; exact h
theorem atI_last {α : Type} (xs : List α) (v : α) : atI (xs ++ [v]) (-1) = some v := by
  have hl : (xs ++ [v]).length = xs.length + 1 := by simp
  have e : ixN (xs ++ [v]).length (-1) = some xs.length := by
    unfold ixN
    rw [hl, if_neg (by decide), if_pos (by (first | lia | omega))]
    congr 1
    (first | lia | omega)
  unfold atI
  rw [e]
  show (xs ++ [v])[xs.length]? = some v
  simp

/-! ### what may be subscripted -/
/-- what stands as an index of a plain subscript -/
def PlainIx (b : Expr) : Prop := ∀ o i, subscripted b false o i = operate [o, i] (getItem o i)
/-- a subscript by values -/
def IxR (X : Cx) (r : R2) : Prop :=
  ∀ (value slice : Expr) (pins : List (Addr × Obj)) (s : Shared) (σ : St) (H : Hp) (x y : V) (v u : Value) (Q : VK), Inv X pins σ H s → RelV x v → RelV y u → r x y H Q →
    subscripted slice false v u = operate [v, u] (getItem v u) → wpAny (model X.prog X.w) X.A (subscriptTail value slice v u) (EP X pins σ Q) X.xe s
/-- a call of a builtin's method by values: the receiver, the arguments -/
def MtR (X : Cx) (id : String) (r : V → List V → Hp → VK → Prop) : Prop :=
  ∀ (pins : List (Addr × Obj)) (s : Shared) (σ : St) (H : Hp) (x : V) (xs : List V) (v : Value) (us : List Value) (Q : VK), Inv X pins σ H s → RelV x v → Vals xs us → r x xs H Q →
    wpAny (model X.prog X.w) X.A (call (.builtin id) (v :: us)) (EP X pins σ Q) X.xe s
section
variable {X : Cx} {a b : Expr} {ta tb : TE} {pos : Pos}
/-- a[b] -/
theorem pe_ix {r : R2} (hr : IxR X r) (ha : PE X a ta) (hb : PE X b tb) (hs : PlainIx b) : PE X (.Subscript a b pos) (tOp r ta tb) := by
  intro pins s σ H Q I h
  exact Subscript_ (binT ha hb I h fun v u s2 x y H2 I2 rx ry q => hr a b pins s2 σ H2 x y v u Q I2 rx ry q (hs _ _))

def rIxL (K : PySem.W.Frag) : R2 := fun x y H Q => ∃ p xs i v, x = .ref p ∧ y = .int i ∧ SqL K H p xs ∧ atI xs i = some v ∧ Q v H
def rIxT (K : PySem.W.Frag) : R2 := fun x y H Q => ∃ p xs i v, x = .ref p ∧ y = .int i ∧ SqT K H p xs ∧ atI xs i = some v ∧ Q v H
def rIxS : R2 := fun x y H Q => ∃ z i c, x = .str z ∧ y = .int i ∧ z.length ≤ sizeLine ∧ atI z.cps.toList i = some c ∧ Q (.str ⟨#[c]⟩) H
theorem ix_list : IxR X (rIxL X.K) := by
  intro value slice pins s σ H x y v u Q I rx ry h hs
  obtain ⟨p, xs, i, z, rfl, rfl, hq, he, q⟩ := h
  cases rx
  obtain ⟨t, rfl⟩ := ry
  obtain ⟨its, r, pl, hz⟩ := I.list hq
  obtain ⟨j, h1, h2, h3, h4, h5⟩ := atI_get he
  obtain ⟨w, ew, rw'⟩ := r.get h2
  have hl := r.length
  have hn := line63
  have fin : EP X pins σ Q w s := ⟨z, H, I, rw', q⟩
  by_cases h0 : 0 ≤ i
  · have hj : i.toNat = j := by
      rw [seqIndex_of h0 h5] at h1
      exact Option.some.inj h1
    exact item_listR pl.isList h0 (by (first | lia | omega)) (by rw [hj]; simpa using ew) fin hs
  · have hj : (i + (its.toArray.size : Int)).toNat = j := by
      rw [seqIndex_neg (by (first | lia | omega)) h4] at h1
      rw [List.size_toArray, ← hl]
      exact Option.some.inj h1
    exact subscriptTail_builtinR (x := w) pl.isList.typeIs slot_list_getitem.lookup
      (wpAny_getItem_list_neg (Q := fun r s' => r = w ∧ EP X pins σ Q r s') pl.isList (by (first | lia | omega)) (by rw [List.size_toArray] <;> (first | lia | omega)) (by (first | lia | omega)) (by rw [hj]; simpa using ew) ⟨rfl, fin⟩) hs
theorem ix_tup : IxR X (rIxT X.K) := by
  intro value slice pins s σ H x y v u Q I rx ry h hs
  obtain ⟨p, xs, i, z, rfl, rfl, hq, he, q⟩ := h
  cases rx
  obtain ⟨t, rfl⟩ := ry
  obtain ⟨its, r, pl, hz⟩ := I.tuple hq
  obtain ⟨j, h1, h2, h3, h4, h5⟩ := atI_get he
  obtain ⟨w, ew, rw'⟩ := r.get h2
  have hl := r.length
  have hn := line63
  have fin : EP X pins σ Q w s := ⟨z, H, I, rw', q⟩
  exact subscriptTail_builtinR (x := w) pl.typeIs slot_tuple_getitem.lookup
    (getItem_tuple (j := j) (Q := fun r s' => r = w ∧ EP X pins σ Q r s') pl (by (first | lia | omega)) (by (first | lia | omega)) (by rw [List.size_toArray, ← hl]; exact h1) (by simpa using ew) ⟨rfl, fin⟩) hs
theorem ix_str : IxR X rIxS := by
  intro value slice pins s σ H x y v u Q I rx ry h hs
  obtain ⟨z, i, c, rfl, rfl, hz, he, q⟩ := h
  obtain ⟨t, rfl⟩ := rx
  obtain ⟨t', rfl⟩ := ry
  obtain ⟨j, h1, h2, h3, h4, h5⟩ := atI_get he
  have hl : z.cps.toList.length = z.length := by simp [Str.length]
  rw [hl] at h1 h4 h5
  have hn := line63
  exact tail_any (typeIs_str s z t) slot_str_getitem.lookup (getItem_str (c := c) (by
    have e1 : decide (i < -(2 ^ 63 : Int)) = false := decide_eq_false (by (first | lia | omega))
    have e2 : decide (i ≥ 2 ^ 63) = false := decide_eq_false (by (first | lia | omega))
    rw [e1, e2, Bool.or_false]) (by rw [h1]; simpa using h2) ⟨.str ⟨#[c]⟩, H, I.tok _, ⟨_, rfl⟩, q⟩) hs
/-! ### xs[i] = v, any sign -/
/-! ### slices -/
/-! ### in, not in: flat items -/
theorem op_notIn_str : OpR X (compareOp .NotIn) (fun x y H Q => ∃ i j, x = .str i ∧ y = .str j ∧ Q (.bl (!(!(Builtin.Str.occurrences j i 0 j.length 1).isEmpty))) H) := by
  intro pins s σ H x y v u Q I rx ry h
  obtain ⟨i, j, rfl, rfl, q⟩ := h
  obtain ⟨t, rfl⟩ := rx
  obtain ⟨t', rfl⟩ := ry
  exact notIn_str ⟨.bl _, H, I, rfl, q⟩

/-! ### len, list(x), tuple(x) of any list or tuple that is read -/
theorem call_len_seq : CallR X (.builtin "len") (fun xs H Q => ∃ p ys, xs = [.ref p] ∧ (SqL X.K H p ys ∨ SqT X.K H p ys) ∧ Q (.int ys.length) H) := by
  intro pins s σ H xs us Q I r h
  obtain ⟨p, ys, rfl, hq, q⟩ := h
  obtain ⟨u, rfl, rx⟩ := vals1 r
  cases rx
  have hn := line63
  rcases hq with hq | hq
  · obtain ⟨its, r', pl, hz⟩ := I.list hq
    have hlen := r'.length
    exact Calls.call_len_list pl.isList (by simp only [List.size_toArray] <;> (first | lia | omega)) ⟨.int ys.length, H, I.tok _, ⟨s.toks + 1, by rw [List.size_toArray, hlen]⟩, q⟩
  · obtain ⟨its, r', pl, hz⟩ := I.tuple hq
    have hlen := r'.length
    exact len_tuple pl (by simp only [List.size_toArray] <;> (first | lia | omega)) ⟨.int ys.length, H, I.tok _, ⟨s.toks + 1, by rw [List.size_toArray, hlen]⟩, q⟩
theorem call_len_str : CallR X (.builtin "len") (fun xs H Q => ∃ z, xs = [.str z] ∧ z.length ≤ sizeLine ∧ Q (.int z.length) H) := by
  intro pins s σ H xs us Q I r h
  obtain ⟨z, rfl, hz, q⟩ := h
  obtain ⟨u, rfl, t, rfl⟩ := vals1 r
  have hn := line63
  exact len_str (by (first | lia | omega)) ⟨.int z.length, H, I.tok _, ⟨_, rfl⟩, q⟩
theorem call_tuple_of : CallR X (.type "tuple") (fun xs H Q => ∃ p ys, xs = [.ref p] ∧ ((SqL X.K H p ys ∧ ∀ l, H l = none → Q (.ref l) (upd H l (.tup ys))) ∨ (SqT X.K H p ys ∧ Q (.ref p) H))) := by
  intro pins s σ H xs us Q I r h
  obtain ⟨p, ys, rfl, h⟩ := h
  obtain ⟨u, rfl, rx⟩ := vals1 r
  cases rx
  rcases h with ⟨hq, q⟩ | ⟨hq, q⟩
  · obtain ⟨its, r', pl, hz⟩ := I.list hq
    have hlen := r'.length
    refine call_tuple_list pl.isList (fun h' kp => ?_) (by simp only [List.size_toArray] <;> (first | lia | omega))
    have I1 : Inv X pins σ H { s with heap := h' } := I.kept (t' := s.toks) kp
    have I2 : Inv X pins σ (upd H h'.objs.size (.tup ys)) { s with heap := h'.push { cls := .type "tuple", data := .seq its.toArray } } :=
      I1.laid (t' := s.toks) (fun b o e => Heap.get?_push_of_some _ e) (Nat.le_refl _) (show ObjOk X.prog X.w _ _ _ (.tup ys) from ⟨hz, its, r', IsTup.new _ _⟩)
    exact ⟨.ref h'.objs.size, _, I2, rfl, q _ (I1.hok.fresh (Nat.le_refl _))⟩
  · obtain ⟨its, r', pl, hz⟩ := I.tuple hq
    exact call_tuple_same pl ⟨.ref p, H, I, rfl, q⟩

/-! ### the call of a builtin's method: o.m(..) -/
/-- the value is of that builtin type -/
def tyV (K : PySem.W.Frag) (T : String) (x : V) (H : Hp) : Prop := match x with
  | .str _ => T = "str"
  | .int _ => T = "int"
  | .ref p => (T = "list" ∧ ∃ xs, SqL K H p xs) ∨ (T = "tuple" ∧ ∃ o, K.lookup p = some o ∧ o.cls = .type "tuple" ∧ o.dict = none) ∨
      (T = "dict" ∧ ((∃ kvs, H p = some (.dK kvs)) ∨ ∃ kvs, H p = some (.dT kvs))) ∨ (T = "set" ∧ ∃ S n, H p = some (.set S n))
  | _ => False
theorem tyV_is {pins : List (Addr × Obj)} {σ : St} {H : Hp} {s : Shared} {T : String} {x : V} {v : Value} (I : Inv X pins σ H s) (r : RelV x v) (ty : tyV X.K T x H) :
    s.TypeIs v T ∧ ∀ a, v = .ref a → ∃ ob, s.heap.get? a = some ob ∧ ob.dict = none := by
  cases x with
  | str z =>
    obtain ⟨t, rfl⟩ := r
    cases (show T = "str" from ty)
    exact ⟨typeIs_str s z t, fun _ e => nomatch e⟩
  | int i =>
    obtain ⟨t, rfl⟩ := r
    cases (show T = "int" from ty)
    exact ⟨typeIs_int s i t, fun _ e => nomatch e⟩
  | ref p =>
    cases r
    rcases ty with ⟨rfl, xs, hq⟩ | ⟨rfl, o, hk, hc, hd⟩ | ⟨rfl, hk⟩ | ⟨rfl, S, n, hk⟩
    · obtain ⟨its, _, pl, _⟩ := I.list hq
      refine ⟨pl.isList.typeIs, fun a e => ?_⟩
      cases e
      obtain ⟨o, n, e, c, hd, _⟩ := pl
      exact ⟨o, e, hd⟩
    · refine ⟨⟨o, I.kIn p o hk, hc⟩, fun a e => ?_⟩
      cases e
      exact ⟨o, I.kIn _ o hk, hd⟩
    · have z : ∃ o, s.heap.get? p = some o ∧ o.ExactDict := by
        rcases hk with ⟨kvs, hk⟩ | ⟨kvs, hk⟩
        · obtain ⟨_, _, _, _, o, _, _, e, ex, _⟩ := I.hok p _ hk
          exact ⟨o, e, ex⟩
        · obtain ⟨_, _, _, _, o, _, _, e, ex, _⟩ := I.hok p _ hk
          exact ⟨o, e, ex⟩
      obtain ⟨o, e, ex⟩ := z
      refine ⟨⟨o, e, ex.1⟩, fun a e2 => ?_⟩
      cases e2
      exact ⟨o, e, ex.2.1⟩
    · obtain ⟨o, _, _, _, e, ex, _⟩ := I.hok p _ hk
      refine ⟨⟨o, e, ex.1⟩, fun a e2 => ?_⟩
      cases e2
      exact ⟨o, e, ex.2.1⟩
  | _ => exact False.elim ty
def tBM0 (K : PySem.W.Frag) (T : String) (r : V → List V → Hp → VK → Prop) (to : TE) : TE := fun σ H Q => to σ H fun x H1 => tyV K T x H1 ∧ r x [] H1 Q
def tBM (K : PySem.W.Frag) (T : String) (r : V → List V → Hp → VK → Prop) (to : TE) (t : TA) : TE := fun σ H Q => to σ H fun x H1 => tyV K T x H1 ∧ t σ H1 fun xs H2 => r x xs H2 Q
variable {o e : Expr} {es : List Expr} {to : TE} {t : TA} {name : Str} {apos cpos : Pos} {T id : String} {r : V → List V → Hp → VK → Prop}
theorem pe_bm0 (pa : PlainAttrs T) (slot : Slot T name id) (hty : typeOf (.builtin id) = pure (.type "method_descriptor")) (hm : MtR X id r) (ho : PE X o to)
    (hbase : attributeBase o name X.env (eval o X.env) = eval o X.env := by rfl) (hline : (apos.endLine == cpos.line) = true := by rfl) : PE X (.Call (.Attribute o name apos) [] [] cpos) (tBM0 X.K T r to) := by
  intro pins s σ H Q I h
  refine wpAny_Call_method0_late hbase hline (thn (ho pins s σ H _ I h) fun v s1 ⟨x, H1, I1, r1, ty, q1⟩ => ?_)
  obtain ⟨h1, h2⟩ := tyV_is I1 r1 ty
  exact ⟨T, id, pa, slot, hty, h1, h2, Calls.callWith_builtin rfl (PySem.evalArgs_none (hm pins s1 σ H1 x [] v [] Q I1 r1 .nil q1))⟩
theorem pe_bm (pa : PlainAttrs T) (slot : Slot T name id) (hty : typeOf (.builtin id) = pure (.type "method_descriptor")) (hm : MtR X id r) (ho : PE X o to) (ha : PA X (e :: es) t)
    (hbase : attributeBase o name X.env (eval o X.env) = eval o X.env := by rfl)
    (hfew : ((backTo cpos (starEach (e :: es) X.env)).all (fun x => !x.1) && (backToKw cpos (keywordEach [] X.env)).all (fun x => x.1.isSome)
      && decide ((e :: es).length + ([] : List Keyword).length + (if ([] : List Keyword).isEmpty then 0 else 1) < 30)) = true := by rfl)
    (hline : (apos.endLine == cpos.line) = true := by rfl) (hs : starEach (e :: es) X.env = (false, eval e X.env) :: starEach es X.env := by rfl) (hplain : (backTo cpos (starEach es X.env)).any (·.1) = false := by rfl) :
    PE X (.Call (.Attribute o name apos) (e :: es) [] cpos) (tBM X.K T r to t) := by
  intro pins s σ H Q I h
  refine wpAny_Call_method_late hbase hfew hline rfl (thn (ho pins s σ H _ I h) fun v s1 ⟨x, H1, I1, r1, ty, q1⟩ => ?_)
  obtain ⟨h1, h2⟩ := tyV_is I1 r1 ty
  refine ⟨T, id, pa, slot, hty, h1, h2, ?_⟩
  have hA := ha cpos pins s1 σ H1 _ I1 q1
  rw [hs] at hA ⊢
  refine Calls.callWith_builtin (by show (false || (backTo cpos (starEach es X.env)).any (·.1)) = false; rw [hplain] <;> rfl) (Calls.evalArgs_plain ?_)
  exact thn hA fun us s2 ⟨vs, H2, I2, r2, q2⟩ => hm pins s2 σ H2 x vs v us Q I2 r1 r2 q2
/- xs.append(e), list.index on a module's tuple .. are MtR facts of 06m -/
end
end L2

namespace L2
open PySem PySem.Spec PyProof.Rows

def MtM (X : Cx) (id : String) (r : V → List V → Hp → VK → Prop) : Prop :=
  ∀ (pins : List (Addr × Obj)) (s : Shared) (σ : St) (H : Hp) (x : V) (xs : List V) (v : Value) (us : List Value) (Q : VK), Inv X pins σ H s → RelV x v → Vals xs us → r x xs H Q →
    wpAny (model X.prog X.w) X.A (call (.builtin id) (v :: us)) (EP X pins σ Q) X.xe s

/-! ### lists of values -/
theorem Vals.one : ∀ {x : V} {us : List Value}, Vals [x] us → ∃ u, us = [u] ∧ RelV x u
  | _, _, .cons r .nil => ⟨_, rfl, r⟩
theorem Vals.two : ∀ {x y : V} {us : List Value}, Vals [x, y] us → ∃ u v, us = [u, v] ∧ RelV x u ∧ RelV y v
  | _, _, _, .cons r (.cons q .nil) => ⟨_, _, rfl, r, q⟩
theorem Vals.zero : ∀ {us : List Value}, Vals [] us → us = []
  | _, .nil => rfl
theorem Vals.dropLast {xs : List V} {us : List Value} (h : Vals xs us) : Vals xs.dropLast us.dropLast := by
  induction h with
  | nil => exact .nil
  | cons r t ih =>
    cases t with
    | nil => exact .nil
    | cons q t' => exact .cons r ih
theorem Vals.rep {xs : List V} {us : List Value} (h : Vals xs us) : ∀ k : Nat, Vals (List.replicate k xs).flatten (List.replicate k us).flatten
  | 0 => .nil
  | k + 1 => by
    rw [List.replicate_succ, List.replicate_succ, List.flatten_cons, List.flatten_cons]
    exact Vals.append h (Vals.rep h k)
theorem erase_last {α : Type} (l : List α) : l.eraseIdx (l.length - 1) = l.dropLast := by
  induction l with
  | nil => rfl
  | cons a r ih =>
    cases r with
    | nil => rfl
    | cons b r =>
      have e : (a :: b :: r).length - 1 = ((b :: r).length - 1) + 1 := by
        have h1 : (a :: b :: r).length = r.length + 2 := rfl
        have h2 : (b :: r).length = r.length + 1 := rfl
        (first | lia | omega)
      rw [e, List.eraseIdx_cons_succ, ih]
      all_goals rfl
theorem foldl_rep (its : List Value) : ∀ (k : Nat) (acc : List Value),
    List.foldl (fun x1 x2 => x1 ++ x2) acc.toArray (List.replicate k its.toArray) = (acc ++ (List.replicate k its).flatten).toArray
  | 0, acc => by simp
  | k + 1, acc => by
    have e : acc.toArray ++ its.toArray = (acc ++ its).toArray := by simp
    have e2 : (acc ++ its) ++ (List.replicate k its).flatten = acc ++ (List.replicate (k + 1) its).flatten := by
      rw [List.replicate_succ, List.flatten_cons, List.append_assoc]
    rw [← e2, ← foldl_rep its k (acc ++ its), ← e, List.replicate_succ, List.foldl_cons]

section
variable {X : Cx} {pins : List (Addr × Obj)} {σ : St} {H : Hp} {s : Shared} {l b : Addr} {xs ys zs : List V}

/-! ### the two steps: a tracked list is rewritten, a new list is laid -/
theorem Inv.lset {its its' : List Value} {n : Nat} {f : Array Value → Array Value} {t' : Nat} (I : Inv X pins σ H s) (hH : H l = some (.lst xs))
    (e : s.heap.get? l = some { cls := .type "list", data := .seq its.toArray n }) (hf : f its.toArray = its'.toArray) (hv : Vals ys its') (hz : ys.length ≤ sizeLine) :
    Inv X pins σ (upd H l (.lst ys)) { s with heap := s.heap.update l (Obj.mapSeq f), toks := t' } := by
  have q := PySem.IsL.update e f
  rw [hf] at q
  refine I.write (x := l) (e := l) (by rw [hH]; exact trivial) (.inl rfl) (fun b' u hb hu => (Heap.get?_update_other s.heap (Obj.mapSeq f) (Ne.symm hb)).trans hu) ⟨_, q⟩ ?_
  exact ⟨hz, its', _, hv, q⟩
theorem Inv.lnew {its : List Value} {t' : Nat} (I : Inv X pins σ H s) (hv : Vals ys its) (hz : ys.length ≤ sizeLine) :
    Inv X pins σ (upd H s.heap.objs.size (.lst ys)) { s with heap := s.heap.push { cls := .type "list", data := .seq its.toArray }, toks := t' } :=
  I.laid (fun _ _ q => Heap.get?_push_of_some _ q) (Nat.le_refl _) ⟨hz, its, 0, hv, Heap.get?_push_size _ rfl⟩
theorem Inv.fresh (I : Inv X pins σ H s) : H s.heap.objs.size = none := I.hok.fresh (Nat.le_refl _)
theorem Inv.lstM (I : Inv X pins σ H s) (hH : H l = some (.lst xs)) : xs.length ≤ sizeLine ∧ ∃ (its : List Value) (n : Nat), Vals xs its ∧ xs.length = its.length ∧ s.heap.get? l = some { cls := .type "list", data := .seq its.toArray n } := by
  obtain ⟨z, its, n, r, e⟩ := I.hok l _ hH
  exact ⟨z, its, n, r, r.length, e⟩

theorem notLongL {n : Nat} (h : n ≤ sizeLine) : Builtin.List.listTooLong n = false := by
  unfold Builtin.List.listTooLong
  exact decide_eq_false (by (first | lia | omega))
end

section
variable {X : Cx}

/-! ### methods -/
def rAppend : V → List V → Hp → VK → Prop := fun x vs H Q => ∃ l xs y, x = .ref l ∧ vs = [y] ∧ H l = some (.lst xs) ∧ xs.length < sizeLine ∧ Q .non (upd H l (.lst (xs ++ [y])))
theorem mt_append : MtM X "list.append" rAppend := by
  intro pins s σ H x vs v us Q I rx rv h
  obtain ⟨l, xs, y, rfl, rfl, hH, hz, q⟩ := h
  cases rx
  obtain ⟨u, rfl, ru⟩ := rv.one
  obtain ⟨z, its, n, r, hl, e⟩ := I.lstM hH
  refine call_meets F.slot_list_append ⟨_, e, rfl⟩ F.entry_list_append (F.args_list_append_2 _ _) (PySem.list_append l its.toArray n u (by rw [List.size_toArray]; (first | lia | omega))) ⟨e, ?_⟩
  refine ⟨.non, _, I.lset (its' := its ++ [u]) hH e (by simp) (r.append (.cons ru .nil)) ?_, rfl, q⟩
  rw [List.length_append, List.length_singleton]
  (first | lia | omega)

def rExtend : V → List V → Hp → VK → Prop := fun x vs H Q => ∃ l b xs zs, x = .ref l ∧ vs = [.ref b] ∧ H l = some (.lst xs) ∧ H b = some (.lst zs) ∧ xs.length + zs.length ≤ sizeLine ∧ Q .non (upd H l (.lst (xs ++ zs)))
theorem mt_extend : MtM X "list.extend" rExtend := by
  intro pins s σ H x vs v us Q I rx rv h
  obtain ⟨l, b, xs, zs, rfl, rfl, hH, hB, hz, q⟩ := h
  cases rx
  obtain ⟨u, rfl, ru⟩ := rv.one
  cases ru
  obtain ⟨z, its, n, r, hl, e⟩ := I.lstM hH
  obtain ⟨z2, its2, n2, r2, hl2, e2⟩ := I.lstM hB
  have hsz : its.toArray.size + its2.toArray.size ≤ sizeLine := by rw [List.size_toArray, List.size_toArray]; (first | lia | omega)
  have hlong : ¬ (!its.toArray.isEmpty && Builtin.List.listTooLong (its.toArray.size + its2.toArray.size)) = true := by
    rw [notLongL hsz, Bool.and_false]
    exact Bool.false_ne_true
  refine call_meets F.slot_list_extend ⟨_, e, rfl⟩ F.entry_list_extend (F.args_list_extend_2 _ _)
    (AutoSeq1.list_extend_list_list_0 l its.toArray n b its2.toArray n2 hlong (by rw [List.size_toArray]; (first | lia | omega)) (by (first | lia | omega))) ⟨e, e2, ?_⟩
  refine ⟨.non, _, I.lset (its' := its ++ its2) hH e (by simp) (r.append r2) ?_, rfl, q⟩
  rw [List.length_append]
  (first | lia | omega)

def rPop : V → List V → Hp → VK → Prop := fun x vs H Q => ∃ l xs y, x = .ref l ∧ vs = [] ∧ H l = some (.lst xs) ∧ xs[xs.length - 1]? = some y ∧ Q y (upd H l (.lst xs.dropLast))
theorem mt_pop : MtM X "list.pop" rPop := by
  intro pins s σ H x vs v us Q I rx rv h
  obtain ⟨l, xs, y, rfl, rfl, hH, hy, q⟩ := h
  cases rx
  have hus := rv.zero
  subst hus
  obtain ⟨z, its, n, r, hl, e⟩ := I.lstM hH
  obtain ⟨u, hu, ru⟩ := r.get hy
  have hy' : its.toArray[its.toArray.size - 1]? = some u := by
    show its.toArray[its.length - 1]? = some u
    rw [← Array.getElem?_toList, ← hl]
    exact hu
  refine call_meets F.slot_list_pop ⟨_, e, rfl⟩ F.entry_list_pop (F.args_list_pop_1 _) (MeetsSeq.list_pop_last l its.toArray n u hy' (by rw [List.size_toArray]; (first | lia | omega))) ⟨e, ?_⟩
  refine ⟨y, _, I.lset (its' := its.dropLast) hH e ?_ r.dropLast ?_, ru, q⟩
  · show its.toArray.eraseIdxIfInBounds (its.toArray.size - 1) = its.dropLast.toArray
    rw [List.size_toArray, List.eraseIdxIfInBounds_toArray, erase_last]
  · rw [List.length_dropLast]
    (first | lia | omega)

/-! ### list + list, list += list, list * int -/
def rCat : R2 := fun x y H Q => ∃ l b xs zs, x = .ref l ∧ y = .ref b ∧ H l = some (.lst xs) ∧ H b = some (.lst zs) ∧ xs.length + zs.length ≤ sizeLine ∧ ∀ p, H p = none → Q (.ref p) (upd H p (.lst (xs ++ zs)))
theorem op_cat : OpR X (binaryOp .Add) rCat := by
  intro pins s σ H x y v u Q I rx ry h
  obtain ⟨l, b, xs, zs, rfl, rfl, hH, hB, hz, q⟩ := h
  cases rx
  cases ry
  obtain ⟨z, its, n, r, hl, e⟩ := I.lstM hH
  obtain ⟨z2, its2, n2, r2, hl2, e2⟩ := I.lstM hB
  refine PySem.P.add_list e e2 ?_ (by rw [List.size_toArray, List.size_toArray]; (first | lia | omega))
  have ea : its.toArray ++ its2.toArray = (its ++ its2).toArray := by simp
  rw [ea]
  exact ⟨.ref _, _, I.lnew (t' := s.toks) (r.append r2) (by rw [List.length_append]; (first | lia | omega)), rfl, q _ I.fresh⟩
/-- a list times an int (a negative one is nothing) -/
def rRep : R2 := fun x y H Q => ∃ l k xs, x = .ref l ∧ y = .int k ∧ H l = some (.lst xs) ∧ -(2 ^ 63) ≤ k ∧ k < 2 ^ 63 ∧ xs.length * k.toNat ≤ sizeLine ∧
  ∀ p, H p = none → Q (.ref p) (upd H p (.lst (List.replicate k.toNat xs).flatten))
theorem len_rep {α : Type} (xs : List α) (k : Nat) : (List.replicate k xs).flatten.length = k * xs.length := by
  induction k with
  | zero => simp
  | succ k ih => rw [List.replicate_succ, List.flatten_cons, List.length_append, ih, Nat.succ_mul, Nat.add_comm]
theorem op_rep : OpR X (binaryOp .Mult) rRep := by
  intro pins s σ H x y v u Q I rx ry h
  obtain ⟨l, k, xs, rfl, rfl, hH, h1, h2, hz, q⟩ := h
  cases rx
  obtain ⟨t, rfl⟩ := ry
  obtain ⟨z, its, n, r, hl, e⟩ := I.lstM hH
  have hlen : its.toArray.size * k.toNat ≤ sizeLine := by rw [List.size_toArray, ← hl]; exact hz
  have hcap : ¬ its.toArray.size * k.toNat > (2 ^ 63 - 1) / 8 := by
    have : (sizeLine : Nat) ≤ (2 ^ 63 - 1) / 8 := by decide
    (first | lia | omega)
  have hfit : ¬ (!Builtin.List.listFitsIndex k) = true := by
    rw [fitsIndex_both h1 h2]
    exact Bool.false_ne_true
  have hlong : ¬ Builtin.List.listTooLong (its.toArray.size * k.toNat) = true := by
    rw [notLongL hlen]
    exact Bool.false_ne_true
  have hnew : List.foldl (fun x1 x2 => x1 ++ x2) #[] (List.replicate (if its.toArray.isEmpty = true then 0 else k.toNat) its.toArray) = (List.replicate k.toNat its).flatten.toArray := by
    have f0 : ∀ m : Nat, List.foldl (fun x1 x2 => x1 ++ x2) #[] (List.replicate m its.toArray) = (List.replicate m its).flatten.toArray := fun m => by
      have := foldl_rep its m []
      rw [List.nil_append] at this
      exact this
    rw [f0]
    cases its with
    | nil => simp
    | cons a r' => rw [if_neg (by simp)]
  refine wpAny_binaryOp_repeat_ref (T := "list") (U := "int") (by decide) ⟨_, e, rfl⟩ (fun s' => typeIs_int s' k t) noFill_list_mul F.fills_int_mul F.slot_int_rmul repeat_list F.slot_int_index.lookup
    (call_meets F.slot_int_rmul (typeIs_int s k t) F.entry_int_rmul (F.args_int_rmul_2 _ _) (int___rmul___int_list k t l its.toArray n)
      ⟨e, rfl, ⟨_, e, rfl⟩, call_meets F.slot_list_mul ⟨_, e, rfl⟩ F.entry_list_mul (F.args_list_mul_2 _ _) (AutoListH.list___mul___list_int_3 l its.toArray n k t hfit hcap hlong) ⟨e, ?_⟩⟩)
  rw [hnew]
  exact ⟨.ref _, _, I.lnew (t' := s.toks) (r.rep k.toNat) (by rw [len_rep, Nat.mul_comm]; exact hz), rfl, q _ I.fresh⟩

/-! ### del xs[i] -/
end

/-! ### xs[a:b] = ys -/
section
variable {prog : Program} {w : World} {A : Around} {E : Value → Shared → Prop} {s : Shared}
end

section
variable {X : Cx}
end
end L2

namespace Att
open PySem PySem.W PySem.Calls PyProof.Rows

/-! ### the script -/
theorem ints_of_wellAll {P : Params} {h : Heap} : ∀ (ns : List Int) (vs : List Value), WellAll P h vs (ns.map WData.int) → IntsAre vs ns := by
  intro ns
  induction ns with
  | nil =>
    intro vs w
    rw [List.map_nil] at w
    cases w
    exact .nil
  | cons n ns ih =>
    intro vs w
    rw [List.map_cons] at w
    cases w with
    | cons a b =>
      cases a
      exact .cons _ _ (ih _ b)

theorem script_of {l : OpenLaw} {n : Nat} (hn : l.most = some n) {P : Params} {h : Heap} {args : List WData} {vals : List Value}
    (hpre : l.row.toRowW.claim.pre args = true) (hwl : WellAll P h vals args) :
    ∃ a vs ns, vals = [Value.ref a] ∧ args = [WData.list (ns.map WData.int)] ∧ h.get? a = some { cls := .type "list", data := .seq vs.toArray } ∧ IntsAre vs ns ∧ ns.length ≤ n := by
  have hsh : WShape.hasAll [] args [.list .int] = true := (pre_splitW hpre).1
  have hc : l.pre.holds [] { args := args } = true := (pre_splitW hpre).2
  obtain ⟨d, r, rfl, h1, h2⟩ := hasAllW_cons hsh
  obtain rfl := hasAllW_nil h2
  obtain ⟨xs, rfl, h3⟩ := hasW_list h1
  obtain ⟨ns, rfl⟩ := items_int h3
  have hlen : ns.length ≤ n := by
    unfold OpenLaw.pre at hc
    have h4 : (WTm.not (.lt (.lit (.int (n : Int))) (.len (.arg 0)))).holds [] { args := [.list (ns.map .int)] } = true := by
      have h4 := (holds_andW hc).1
      rw [hn] at h4
      exact h4
    have h5 := condW_of h4 (w_not (w_lt w_lit (w_len_list (w_arg rfl))))
    rw [List.length_map] at h5
    refine Nat.le_of_not_lt fun q => ?_
    have q' : (n : Int) < ((ns.length : Nat) : Int) := by (first | lia | omega)
    first
      | (rw [decide_eq_true q'] at h5; exact absurd h5 (by decide))
      | (simp at h5; (first | lia | omega))
  cases hwl with
  | cons w1 w2 =>
    cases w2
    cases w1 with
    | list ho hall => exact ⟨_, _, ns, rfl, rfl, ho, ints_of_wellAll ns _ hall, hlen⟩

theorem post_true (l : OpenLaw) (args : List WData) : l.row.toRowW.claim.post args (.bool true) args = true :=
  postW_of (r := l.row.toRowW) (X := (true == true))
    (show WShape.has [] (.bool true) .bool = true by first | rfl | decide | simp [WShape.has, WShape.arms, WShape.armsAll])
    (show (WTm.eq .res (.lit (.bool true))).value [] { args := args, res := some (.bool true), after := args } = some (.bool (true == true)) from w_eq_bool (w_res rfl) w_lit) rfl

/-! ### the attachment: holds_open's last premise (the goal 'hc' behind k_head) from a wpAny of the law's body -/
/-- the same from a codeAny of the CALL (for a layer whose function contracts speak of calls) -/
theorem attach_call {l : OpenLaw} {n : Nat} {q : Program} {loose : List Str} {XP : (Str → Option Value) → Heap → Prop} {YP : World → Heap → Prop} {d : DefRec}
    (hn : l.most = some n) (hdf : d.params.defaults = [])
    (call : ∀ (w : World) (s₀ s₁ : Shared) (mg mb : Str → Option Value) (fa : Addr) (o : Obj) (pm cd doc : Value) (a : Addr) (vs : List Value) (ns : List Int),
      Ground q loose [] XP w s₀ mg mb s₁.heap → YP w s₁.heap →
      s₁.heap.get? fa = some o → o.data = .func (docDef d.name d.params d.body d.scope pm cd doc) → s₁.heap.CodeRec cd d.name → mg d.name = some (.ref fa) →
      s₁.heap.get? a = some { cls := .type "list", data := .seq vs.toArray } → IntsAre vs ns → ns.length ≤ n → s₁.gens = #[] →
      codeAny (model l.prog w) callerA (.call (.ref fa) ⟨[.ref a], []⟩) (fun r s' => r = .ok (.ret (.bool true)) ∧ OldK s₁.heap s'.heap ∧ s'.os = s₁.os ∧ AllBare s'.gens) s₁) :
    WalkO q loose XP YP l.row.toRowW d [] (fun f vs => PySem.call f vs) := by
  intro w s₀ s₁ mg mb G Y fa o pm cd doc dV kV ho hd hcd hD hmg hg args vals as hpre hlay hrd hwl hlo
  obtain rfl : dV = .none := Dflts.none hD hdf
  obtain rfl : kV = .none := Dflts.noKw hD
  obtain ⟨a, vs, ns, rfl, rfl, hobj, hints, hlen⟩ := script_of hn hpre hwl
  refine enter_call (codeAny_mono (call w s₀ s₁ mg mb fa o pm cd doc a vs ns G Y ho (fd_plain hd) hcd hmg hobj hints hlen hg) fun r s' hq => ?_)
  obtain ⟨rfl, h2, h3, h4⟩ := hq
  exact ⟨.inl ⟨.bool true, .bool true, [], rfl, fun _ => rfl, .bool true, post_true l _, fun _ => ⟨List.Pairwise.nil, fun _ hm => (nomatch hm)⟩⟩, h2, h3, h4⟩

/-! ### rules over ANY heap (no ledger) from facts about the written part K: the library's own take a ledger (News) for what they write -/
section
variable {prog : Program} {w : World} {A : Around} {E : Value → Shared → Prop} {s : Shared} {K : Frag}

/-! the whole heap as the ledger: makes every rule that writes through a ledger a rule over any heap -/
end
end Att

namespace L2
open PySem PySem.Spec PyProof.Rows

theorem vals_ints : ∀ {vs : List Value} {ns : List Int}, IntsAre vs ns → Vals (ns.map V.int) vs
  | _, _, .nil => .nil
  | _, _, .cons n t h => .cons ⟨t, rfl⟩ (vals_ints h)

/-- nothing is tracked but the script, known to the object (or it is an object of the module) -/
def Only (H : Hp) : Prop := ∀ b, H b = none ∨ ∃ o xs, H b = some (.frz o (.lst xs))

/-- THE HEAD: the law's promise, at the heap behind the top. F, the promise of the law's def, may use that base is part of the heap (so K.In base, base.Ns mainGlobals mg stand in Mod) -/
theorem law_call {P : Program} {w : World} {K : PySem.W.Frag} {mg mb : Str → Option Value} {CX : CXT} {k : Nat} {fa a : Addr} {fd : FuncData} {x : Str} {sp : Sp} {s₁ : Shared} {vs : List Value} {ns : List Int}
    (KX : K.In s₁.heap) (hns : s₁.heap.Ns mainGlobals mg) (hb : s₁.heap.Ns builtinsNs mb) (hbb : ∀ x : Str, x ≠ "__name__" → mb x = bootBuiltins x) (hlim : s₁.heap.NoLimit) (hg : s₁.gens = #[])
    (ha : s₁.heap.get? a = some { cls := .type "list", data := .seq vs.toArray }) (hi : IntsAre vs ns) (hl : ns.length ≤ sizeLine) (hr : Room k callerA)
    (F : ∀ base : Heap, K.In base → base.Ns mainGlobals mg → FnOk P w K mg base CX k fa fd [x] sp) (hbind : ∀ (s : Shared) (u : Value), BindsTo s fd ⟨[u], []⟩ [(x, u)])
    (hsp : ∀ H : Hp, Only H → SqL K H a (ns.map V.int) → sp [.ref a] H (fun v _ => v = .bl true) fun _ _ _ => False)
    (hCX : ∀ H e s', CX [] H s₁ (fun _ _ _ => False) e s' → False) :
    codeAny (model P w) callerA (.call (.ref fa) ⟨[.ref a], []⟩) (fun r s' => r = .ok (.ret (.bool true)) ∧ OldK s₁.heap s'.heap ∧ s'.os = s₁.os ∧ AllBare s'.gens) s₁ := by
  have rv := vals_ints hi
  have lenV := hi.length
  -- from an abstract heap in which nothing but the script may be tracked
  have core : ∀ H : Hp, Only H → SqL K H a (ns.map V.int) → HOk P w H s₁.heap → (∀ b, H b ≠ none → b = a) → (H a ≠ none → K.lookup a = none) →
      codeAny (model P w) callerA (.call (.ref fa) ⟨[.ref a], []⟩) (fun r s' => r = .ok (.ret (.bool true)) ∧ OldK s₁.heap s'.heap ∧ s'.os = s₁.os ∧ AllBare s'.gens) s₁ := by
    intro H hO hS hok hA hK
    have base_of : ∀ {b : Addr} {o : Obj}, s₁.heap.get? b = some o → H b = none → (hidT s₁.heap H).get? b = some o := fun e n => hidT_get e n
    have noA : ∀ {b : Addr} {o : Obj} {es : Array DictEntry} {ep : Nat}, s₁.heap.get? b = some o → o.data = .dict es ep → H b = none := fun {b o es ep} e d => by
      cases q : H b with
      | none => rfl
      | some u =>
        have e' : b = a := hA b (by rw [q]; simp)
        subst e'
        rw [ha] at e; cases e
        have d' : Data.seq vs.toArray _ = Data.dict es ep := d
        cases d'
    have nsK : ∀ {b : Addr} {m : Str → Option Value}, s₁.heap.Ns b m → (hidT s₁.heap H).Ns b m := fun {b m} ⟨o, es, ep, e, d, r⟩ => ⟨o, es, ep, base_of e (noA e d), d, r⟩
    have hKb : K.In (hidT s₁.heap H) := fun b o e => base_of (KX b o e) (by
      cases q : H b with
      | none => rfl
      | some u =>
        have e' : b = a := hA b (by rw [q]; simp)
        subst e'
        rw [hK (by rw [q]; simp)] at e; cases e)
    have hM : Mod K mg (hidT s₁.heap H) := ⟨hKb, nsK hns, ⟨mb, nsK hb, hbb⟩, let ⟨mc, h1, h2⟩ := hlim; ⟨mc, nsK h1, h2⟩⟩
    have e0 : Env0 P w K mg (hidT s₁.heap H) callerA [] s₁ H := ⟨rfl, hM, fun b o e => of_hidT e, Nat.le_of_eq (hidT_size _ _), trivial, fun b hb => absurd (show b ∈ ([] : List Addr) from hb) (by simp), hok, .of_eq hg⟩
    refine codeAny_mono ((F _ hKb (nsK hns)).run callerA [] s₁ H ⟨[.ref a], []⟩ [.ref a] [.ref a] _ _ hr e0 (hbind s₁ (.ref a)) (.cons rfl .nil) (hsp H hO hS)) fun r s' h => ?_
    cases r with
    | error e => exact (hCX H e s' h).elim
    | ok fl =>
      cases fl with
      | next => exact False.elim h
      | brk => exact False.elim h
      | cont => exact False.elim h
      | ret u =>
        obtain ⟨v, H', os, bare, un, hok', r', q⟩ := h
        have q' : v = .bl true := q
        subst q'
        obtain rfl : u = Value.bool true := r'
        refine ⟨rfl, OldK.of_keep fun b o e => ?_, os, bare⟩
        cases q : H b with
        | none => exact un.keep b o e q (by intro z; exact absurd (show b ∈ ([] : List Addr) from z) (by simp)) (by simp)
        | some u =>
          rcases hO b with z | ⟨ob, xs, z⟩
          · rw [q] at z; cases z
          · have z2 := un.frzs b ob _ z
            obtain ⟨e1, _⟩ := hok b _ z
            obtain ⟨e2, _⟩ := hok' b _ z2
            rw [e] at e1; cases e1
            exact e2
  cases hk : K.lookup a with
  | some o =>
    -- the script is one of the module's own objects
    have e := KX a o hk
    rw [ha] at e
    cases e
    refine core (fun _ => none) (fun _ => .inl rfl) (.inr ⟨_, vs.toArray, _, hk, rfl, rfl, rfl, by rw [List.size_toArray, lenV]; exact hl, by simpa using rv⟩) (fun b u z => by have z' : (none : Option HO) = some u := z; cases z') (fun b z => absurd rfl z) fun z => absurd rfl z
  | none =>
    refine core (fun b => if b = a then some (.frz { cls := .type "list", data := .seq vs.toArray } (.lst (ns.map V.int))) else none) (fun b => ?_) (.inl (.inr ⟨{ cls := .type "list", data := .seq vs.toArray }, if_pos rfl⟩)) (fun b u z => ?_) (fun b z => ?_) fun _ => hk
    · by_cases hb : b = a
      · exact .inr ⟨_, _, if_pos hb⟩
      · exact .inl (if_neg hb)
    · by_cases hb : b = a
      · have z' := (if_pos hb).symm.trans z
        cases z'
        subst hb
        exact ⟨ha, by rw [List.length_map]; exact hl, vs, _, rv, ha⟩
      · have z' := (if_neg hb).symm.trans z
        cases z'
    · by_cases hb : b = a
      · exact hb
      · exact absurd (if_neg hb) z
end L2

namespace L2
open PySem PySem.Spec PyProof.Rows

/-- the goal that k_head leaves (case hc), from the law's promise. F gives the function object fd (K's own) once, then the promise over every base -/
theorem walk_of {l : PySem.W.OpenLaw} {n k : Nat} {q : Program} {loose : List Str} {XP : (Str → Option Value) → Heap → Prop} {YP : World → Heap → Prop} {d : DefRec} {K : Params → PySem.W.Frag} {CX : World → CXT} {sp : World → Sp} {x : Str}
    (hn : l.most = some n) (hn2 : n ≤ sizeLine) (hdf : d.params.defaults = []) (hr : Room k callerA)
    (hY : ∀ (w : World) (h : Heap), YP w h → (K w.params).In h)
    (F : ∀ (w : World) (mg : Str → Option Value) (fa : Addr) (h : Heap), (K w.params).In h → h.Ns mainGlobals mg → mg d.name = some (.ref fa) →
      ∃ fd : FuncData, (∀ (s : Shared) (u : Value), BindsTo s fd ⟨[u], []⟩ [(x, u)]) ∧
        ∀ base : Heap, (K w.params).In base → base.Ns mainGlobals mg → FnOk l.prog w (K w.params) mg base (CX w) k fa fd [x] (sp w))
    (hsp : ∀ (w : World) (H : Hp) (a : Addr) (ns : List Int), ns.length ≤ n → Only H → SqL (K w.params) H a (ns.map V.int) → sp w [.ref a] H (fun v _ => v = .bl true) fun _ _ _ => False)
    (hCX : ∀ (w : World) (H : Hp) (s : Shared) (e : Value) (s' : Shared), CX w [] H s (fun _ _ _ => False) e s' → False) :
    PySem.W.WalkO q loose XP YP l.row.toRowW d [] (fun f vs => PySem.call f vs) := by
  refine Att.attach_call hn hdf fun w s₀ s₁ mg mb fa o pm cd doc a vs ns G Y ho hd hcd hmg hobj hints hlen hg => ?_
  have KX := hY w _ Y
  obtain ⟨fd, hb, hF⟩ := F w mg fa _ KX G.T.g hmg
  exact law_call KX G.T.g G.T.b G.T.builtins G.T.nolimit hg hobj hints (Nat.le_trans hlen hn2) hr hF hb (fun H hO hS => hsp w H a ns hlen hO hS) fun H e s' => hCX w H s₁ e s'
end L2

/- THE LAST THEOREM (shape; LID, My.* are yours):
   My.Adr: a structure of the addresses that your layer names (classes, functions); My.Txt K t: a structure (Prop) of the equations over K;
   My.txt_mk : {K} {implicit addresses ..} (e1 : nsIn K mainGlobals "law" = some (some (.ref f))) (e2 : K.lookup f = some ⟨oc, od, .func (fnOf "law" "law" params body scope dV kV doc pm an cdv ct), sl⟩) (e3 : codeIn K cdv "law" = true) .. : ∃ t, My.Txt K t

set_option maxRecDepth 100000 in
set_option maxHeartbeats 0 in
theorem PySem.Challenge.cw_LID_holds : PySem.Challenge.rw_LID.Holds := by
  w_on; o_law; k_head; (case hw => w_witness2)
  k_fill
  refine L2.walk_of (l := PySem.Challenge.rw_LID) (n := 63) (k := 40) (x := "script") (CX := fun w => ..) (sp := fun _ => My.sp_law) rfl (by decide) rfl ⟨rfl, by decide, by decide⟩ (fun w h Y => PySem.W.kIn_of Y) ?F ?S ?C
  case F =>
    intro w mg fa h KX G hmg
    have T : ∃ t, My.Txt (L2.KOf KX) t := by
      dsimp only [L2.KOf]                          -- K must stand as «<heap const> w.params» for k_is
      refine' My.txt_mk ?e1 ?e2 ?e3 ..
      (case e1 => PySem.W.k_is)                    -- in the order: a name -> its address -> its object -> its parts
      (case e2 => PySem.W.k_is)
      ..
    obtain ⟨t, T⟩ := T
    have e0 := hmg.symm.trans (PySem.W.mg_of KX G T.law)
    cases e0                                       -- fa is the law's own address
    exact ⟨_, fun s u => .of_eq rfl, fun base kb nb => My.law_fn T kb nb⟩     -- if «.of_eq rfl» comes too early: refine' ⟨_, ?b, fun base kb nb => My.law_fn T kb nb⟩; exact fun s u => .of_eq rfl
  case S => exact fun w H a ns hl hO hS => ..
  case C => exact ..
(the tactic k_is has no namespace: write k_is) -/

/-! SHORT WORDS over the layer: a def of the text, its body, what a loop and a test want. -/
namespace L2
open PySem PySem.Spec PyProof.Rows

/-! ### the text by places -/
/-- the j-th statement of a class's body -/
def inClass (s : Stmt) (j : Nat) : Stmt := match s with
  | .ClassDef _ _ _ body _ _ _ _ _ _ _ => body.getD j (.Pass ⟨0, 0, 0, 0⟩)
  | _ => .Pass ⟨0, 0, 0, 0⟩
def defArgs (s : Stmt) : Arguments := match s with
  | .FunctionDef _ a _ _ _ _ _ _ _ _ => a
  | _ => { posonlyargs := [], args := [], vararg := none, kwonlyargs := [], kw_defaults := [], kwarg := none, defaults := [] }
def defBody (s : Stmt) : List Stmt := match s with
  | .FunctionDef _ _ b _ _ _ _ _ _ _ => b
  | _ => []
def defScope (s : Stmt) : Scope := match s with
  | .FunctionDef _ _ _ _ _ _ sc _ _ _ => sc
  | _ => { kind := .function, names := [], isGenerator := false, isCoroutine := false }

/-! ### no exception leaves a def -/
abbrev CX0 : CXT := fun _ _ _ _ _ _ => False
abbrev E0 : XK := fun _ _ _ => False
theorem pass0 {X : Cx} : Passes CX0 X E0 := fun _ _ _ _ _ _ _ h => h.elim

/-! ### a def (or method) of the text as it stands behind the top -/
structure Fun (K : PySem.W.Frag) (x qual : Str) (st : Stmt) (f : Addr) (fd : FuncData) : Prop where
  ex : ∃ (oc : Value) (od : Option Addr) (kV doc pm : Value) (an : Option Addr) (cdv ct : Value) (osl : Array (Option Value)),
    fd = PySem.W.fnOf x qual (defArgs st) (defBody st) (defScope st) .none kV doc pm an cdv ct ∧ K.lookup f = some ⟨oc, od, .func fd, osl⟩ ∧ PySem.W.codeIn K cdv qual = true
  kp : PySem.W.keepIn K (.ref f) = true
section
variable {P : Program} {w : World} {K : PySem.W.Frag} {mg : Str → Option Value} {base : Heap}
/-- THE RULE for a def: its body as a term of rules, and the reading of that term -/
theorem Fun.ok {x qual : Str} {st : Stmt} {f : Addr} {fd : FuncData} {N ps : List Str} {k : Nat} {sp : Sp} (F : Fun K x qual st f fd) (S : FnScope N ps (defScope st)) (len : ∀ vs H Q E, sp vs H Q E → vs.length = ps.length)
    (hbody : ∀ (cdv : Value) (A : Around) (outer : List Env) (s : Shared) (H : Hp) (vs : List V) (Q : VK) (E : XK), Room k (A.deeper (envOfC qual (defScope st) s.heap.objs.size f cdv)) → sp vs H Q E →
      ∃ t, PSs (cxOf CX0 P w K mg base N qual (defScope st) f cdv A outer s H E).nox (defBody st) t ∧ t { nx := fun _ H' => Q .non H', rt := Q } (start N vs) H) : FnOk P w K mg base CX0 (k + 1) f fd ps sp := by
  obtain ⟨oc, od, kV, doc, pm, an, cdv, ct, osl, rfl, lk, hcd⟩ := F.ex
  refine fn_of lk hcd S len fun A outer s H vs Q E hr hsp => ?_
  obtain ⟨t, h, q⟩ := hbody cdv A outer s H vs Q E hr hsp
  exact ⟨t, h.nox, q⟩
/-- how its arguments bind (no defaults): h is «fun _ _ _ _ _ _ us hl => match us, hl with | [_, _], _ => rfl», one _ a parameter -/
theorem Fun.binds {x qual : Str} {st : Stmt} {f : Addr} {fd : FuncData} {ps : List Str} (F : Fun K x qual st f fd)
    (h : ∀ (kV doc pm : Value) (an : Option Addr) (cdv ct : Value) (us : List Value), us.length = ps.length → bindArgs (PySem.W.fnOf x qual (defArgs st) (defBody st) (defScope st) .none kV doc pm an cdv ct) ⟨us, []⟩ = pure (ps.zip us)) : Binds K fd ps [] := by
  obtain ⟨oc, od, kV, doc, pm, an, cdv, ct, osl, rfl, lk, hcd⟩ := F.ex
  exact .all (h kV doc pm an cdv ct)
theorem fun_mk {x qual : Str} {st : Stmt} {f : Addr} {oc : Value} {od an : Option Addr} {osl : Array (Option Value)} {kV doc pm cdv ct : Value} (l : K.lookup f = some ⟨oc, od, .func (PySem.W.fnOf x qual (defArgs st) (defBody st) (defScope st) .none kV doc pm an cdv ct), osl⟩)
    (c : PySem.W.codeIn K cdv qual = true) (k : PySem.W.keepIn K (.ref f) = true) : Fun K x qual st f (PySem.W.fnOf x qual (defArgs st) (defBody st) (defScope st) .none kV doc pm an cdv ct) := ⟨⟨oc, od, kV, doc, pm, an, cdv, ct, osl, rfl, l, c⟩, k⟩
end
/-! ### expressions in short: the name that stands in the i-th slot -/
section
variable {X : Cx}
theorem pv (i : Nat) {x : Str} {pos : Pos} (hN : X.N[i]? = some x := by rfl) (hv : Vis X.env.scope x := by first | exact Or.inl rfl | exact Or.inr (Or.inl rfl) | exact Or.inr (Or.inr rfl)) (hd : (x == ("__debug__" : Str)) = false := by decide)
    (hcd : (x == ("__classdict__" : Str)) = false := by decide) : PE X (.Name x pos) (tVar i) := pe_var hN hv hd hcd
end

/-! ### tests -/
theorem iteF {A B : Prop} (h : B) : if false = true then A else B := by
  rw [if_neg Bool.false_ne_true]
  exact h
theorem iteT {A B : Prop} (h : A) : if true = true then A else B := by
  rw [if_pos rfl]
  exact h
theorem ite2 {c A B : Prop} [Decidable c] (h1 : c → A) (h2 : ¬ c → B) : if c then A else B := by
  by_cases h : c
  · rw [if_pos h]
    exact h1 h
  · rw [if_neg h]
    exact h2 h
theorem iteNS {c A B : Prop} [Decidable c] (hc : c) (h : B) : if (!decide c) = true then A else B := by
  rw [decide_eq_true hc]
  exact iteF h

/-! ### heaps -/
/-- all that was tracked is as it was -/
def Same (H H' : Hp) : Prop := ∀ b o, H b = some o → H' b = some o
theorem Same.refl (H : Hp) : Same H H := fun _ _ h => h
theorem Same.trans {H H1 H2 : Hp} (a : Same H H1) (b : Same H1 H2) : Same H H2 := fun c o h => b c o (a c o h)
theorem Same.free {H H' : Hp} (e : Same H H') {l : Addr} (h : H' l = Option.none) : H l = Option.none := by
  cases q : H l with
  | none => rfl
  | some o =>
    rw [e l o q] at h
    cases h
theorem Same.seq {K : PySem.W.Frag} {H H' : Hp} {a : Addr} {xs : List V} (e : Same H H') (h : SqL K H a xs) : SqL K H' a xs := by
  rcases h with (h | ⟨o, h⟩) | h
  · exact .inl (.inl (e _ _ h))
  · exact .inl (.inr ⟨o, e _ _ h⟩)
  · exact .inr h

end L2

/-! Groves as data: a grove is nil, or a first tree (tag, what is within) and the others. Words with an end sl. -/
namespace FgM
inductive Gr (A : Type) where
  | nil
  | cons (t : A) (w o : Gr A)
section
variable {A : Type}
def words (sl : A) : Gr A → List A
  | .nil => []
  | .cons t w o => t :: (words sl w ++ sl :: words sl o)
def snoc : Gr A → A → Gr A → Gr A
  | .nil, t, w => .cons t w .nil
  | .cons t' w' o, t, w => .cons t' w' (snoc o t w)
theorem words_snoc (sl : A) (t : A) (w : Gr A) : ∀ g : Gr A, words sl (snoc g t w) = words sl g ++ t :: (words sl w ++ [sl])
  | .nil => by simp [snoc, words]
  | .cons t' w' o => by simp [snoc, words, words_snoc sl t w o]
/-- rows (the innermost first) with the open tags (the innermost first): the words so far -/
def flatR (sl : A) : List (Gr A) → List A → List A
  | [r], [] => words sl r
  | r :: rs, t :: ts => flatR sl rs ts ++ t :: words sl r
  | _, _ => []
theorem flatR_open (sl : A) (t : A) {rs : List (Gr A)} {ts : List A} : flatR sl (.nil :: rs) (t :: ts) = flatR sl rs ts ++ [t] := by
  cases rs <;> simp [flatR, words]
theorem flatR_grow (sl : A) (t : A) (w : Gr A) {r : Gr A} {rs : List (Gr A)} {ts : List A} (h : rs.length = ts.length) :
    flatR sl (snoc r t w :: rs) ts = flatR sl (r :: rs) ts ++ t :: (words sl w ++ [sl]) := by
  cases ts with
  | nil =>
    have : rs = [] := List.eq_nil_of_length_eq_zero (by simpa using h)
    subst this
    simp [flatR, words_snoc]
  | cons t' ts =>
    cases rs with
    | nil => simp at h
    | cons r' rs => simp [flatR, words_snoc]
theorem flatR_close (sl : A) (t : A) {w r : Gr A} {rs : List (Gr A)} {ts : List A} (h : rs.length = ts.length) :
    flatR sl (snoc r t w :: rs) ts = flatR sl (w :: r :: rs) (t :: ts) ++ [sl] := by
  rw [flatR_grow sl t w h]
  simp [flatR]
theorem flatR_ge (sl : A) {r : Gr A} {rs : List (Gr A)} {ts : List A} (h : rs.length = ts.length) : (words sl r).length ≤ (flatR sl (r :: rs) ts).length := by
  cases ts with
  | nil =>
    have : rs = [] := List.eq_nil_of_length_eq_zero (by simpa using h)
    subst this
    simp [flatR]
  | cons t' ts =>
    cases rs with
    | nil => simp at h
    | cons r' rs => simp [flatR]; (first | lia | omega)
theorem flatR_len (sl : A) : ∀ {ts : List A} {rs : List (Gr A)}, rs.length = ts.length + 1 → ts.length ≤ (flatR sl rs ts).length
  | [], _, _ => Nat.zero_le _
  | t :: ts, [], h => by simp at h
  | t :: ts, [r], h => by simp at h
  | t :: ts, r :: r' :: rs, h => by
    have := flatR_len sl (ts := ts) (rs := r' :: rs) (by simpa using h)
    simp only [flatR, List.length_append, List.length_cons]
    (first | lia | omega)
section
variable [DecidableEq A]
/-- from h open tags on these words end all tags and no more -/
def Can (sl : A) : Nat → List A → Prop
  | h, [] => h = 0
  | h, w :: ws => if w = sl then 1 ≤ h ∧ Can sl (h - 1) ws else Can sl (h + 1) ws
theorem can_tag {sl w : A} (hw : w ≠ sl) {h : Nat} {ws : List A} : Can sl h (w :: ws) ↔ Can sl (h + 1) ws := by
  simp [Can, hw]
theorem can_end {sl : A} {h : Nat} {ws : List A} : Can sl h (sl :: ws) ↔ 1 ≤ h ∧ Can sl (h - 1) ws := by
  simp [Can]
theorem can_ends {sl : A} : ∀ (c : Nat) {h : Nat} {ws : List A}, c ≤ h → Can sl (h - c) ws → Can sl h (List.replicate c sl ++ ws)
  | 0, h, ws, _, k => by simpa using k
  | c + 1, h, ws, hc, k => by
    rw [List.replicate_succ, List.cons_append, can_end]
    refine ⟨by (first | lia | omega), can_ends c (by (first | lia | omega)) ?_⟩
    have : h - 1 - c = h - (c + 1) := by (first | lia | omega)
    rw [this]; exact k
theorem can_all {sl : A} (h : Nat) : Can sl h (List.replicate h sl) := by
  have := can_ends (sl := sl) h (h := h) (ws := []) (Nat.le_refl h) (by simp [Can])
  simpa using this
/-- the words of a grove leave the open tags as they were -/
def Clean (sl : A) : Gr A → Prop
  | .nil => True
  | .cons t w o => t ≠ sl ∧ Clean sl w ∧ Clean sl o
theorem clean_snoc {sl t : A} {w : Gr A} (ht : t ≠ sl) (hw : Clean sl w) : ∀ {g : Gr A}, Clean sl g → Clean sl (snoc g t w)
  | .nil, _ => ⟨ht, hw, trivial⟩
  | .cons _ _ _, ⟨a, b, c⟩ => ⟨a, b, clean_snoc ht hw c⟩
/-- one more open by a tag, one fewer by an end -/
def hgt (sl : A) : List A → Int
  | [] => 0
  | w :: ws => (if w = sl then -1 else 1) + hgt sl ws
theorem hgt_append (sl : A) : ∀ xs ys : List A, hgt sl (xs ++ ys) = hgt sl xs + hgt sl ys
  | [], ys => by simp [hgt]
  | x :: xs, ys => by simp only [List.cons_append, hgt, hgt_append sl xs ys]; (first | lia | omega)
theorem hgt_words {sl : A} : ∀ {g : Gr A}, Clean sl g → hgt sl (words sl g) = 0
  | .nil, _ => rfl
  | .cons t w o, ⟨h1, h2, h3⟩ => by
    simp only [words, hgt, hgt_append, hgt_words h2, hgt_words h3, if_neg h1, if_true]
    (first | lia | omega)
end
/-- how many tags -/
def tagsN [DecidableEq A] (sl : A) : List A → Nat
  | [] => 0
  | w :: ws => (if w = sl then 0 else 1) + tagsN sl ws
theorem tagsN_hgt [DecidableEq A] (sl : A) : ∀ ws : List A, (ws.length : Int) = 2 * (tagsN sl ws : Int) - hgt sl ws
  | [] => rfl
  | w :: ws => by
    have := tagsN_hgt sl ws
    simp only [List.length_cons, tagsN, hgt]
    split <;> (first | lia | omega)
theorem tagsN_words [DecidableEq A] {sl : A} {g : Gr A} (h : Clean sl g) : (words sl g).length = 2 * tagsN sl (words sl g) := by
  have := tagsN_hgt sl (words sl g)
  rw [hgt_words h] at this
  (first | lia | omega)
end
end FgM

/-! RULES OF OUR OWN over the layer: isinstance, t[::-1], whole slices of tuples, extend by a tuple, text * int, == of data at any depth, calls of own defs in short. -/
namespace L2
open PySem PySem.Spec PyProof.Rows
theorem bt_tuple : bootBuiltins "tuple" = some (.type "tuple") := by decide +kernel
theorem bt_str : bootBuiltins "str" = some (.type "str") := by decide +kernel
theorem bt_int : bootBuiltins "int" = some (.type "int") := by decide +kernel
theorem bt_bool : bootBuiltins "bool" = some (.type "bool") := by decide +kernel
theorem bt_max : bootBuiltins "max" = some (.builtin "max") := by decide +kernel
theorem bt_min : bootBuiltins "min" = some (.builtin "min") := by decide +kernel
theorem bt_isinstance : bootBuiltins "isinstance" = some (.builtin "isinstance") := by decide +kernel
section
variable {X : Cx}
/-- the name of a built-in type -/
theorem pe_ty {x : Str} {n : String} {pos : Pos} (hg : Gl X x) (hm : X.mg x = none) (hv : bootBuiltins x = some (.type n)) (hn : x ≠ "__name__" := by decide) (hd : (x == ("__debug__" : Str)) = false := by decide) : PE X (.Name x pos) (tC (.ty n)) :=
  pe_bltn (v := .ty n) hg hm hv rfl hn hd
/-- isinstance(x, T), T a built-in type -/
theorem call_isinst : CallR X (.builtin "isinstance") (fun xs H Q => ∃ x n t b, xs = [x, .ty n] ∧ TyOf X.K H x t ∧ PySem.W.kitOne X.K t (.type n) = some b ∧ Q (.bl b) H) := by
  intro pins s σ H xs us Q I r h
  obtain ⟨x, n, t, b, rfl, ty, e, q⟩ := h
  obtain ⟨u, v, rfl, rx, ry⟩ := Vals.two r
  obtain rfl : v = Value.type n := ry
  exact isinst_ok I rx ty e fun tk => ⟨.bl b, H, I.tok tk, rfl, q⟩
end
/-! ### calls of own defs -/
structure Has (P : Program) (w : World) (K : PySem.W.Frag) (mg : Str → Option Value) (base : Heap) (x : Str) (ps : List Str) (k : Nat) (sp : Sp) : Prop where
  ex : ∃ (f : Addr) (fd : FuncData), FnOk P w K mg base CX0 k f fd ps sp ∧ Binds K fd ps [] ∧ PySem.W.keepIn K (.ref f) = true ∧ mg x = some (.ref f)
section
variable {X : Cx} {x : Str} {ps : List Str} {j k : Nat} {sp : Sp} {e : Expr} {es : List Expr} {t : TA} {p pos : Pos}
theorem FnOk.room {P : Program} {w : World} {K : PySem.W.Frag} {mg : Str → Option Value} {base : Heap} {CX : CXT} {f : Addr} {fd : FuncData} (F : FnOk P w K mg base CX j f fd ps sp) (h : j ≤ k) : FnOk P w K mg base CX k f fd ps sp :=
  ⟨F.len, fun A outer s H args us vs Q E hr => F.run A outer s H args us vs Q E (hr.mono h)⟩
theorem pe_has (G : Has X.prog X.w X.K X.mg X.base x ps j sp) (hr : Room k X.A) (hg : Gl X x) (ha : PA X (e :: es) t) (hk : j ≤ k := by decide) (hdb : (x == ("__debug__" : Str)) = false := by decide)
    (he : starEach (e :: es) X.env = (false, eval e X.env) :: starEach es X.env := by rfl) (hpl : (backTo pos (starEach es X.env)).any (·.1) = false := by rfl) :
    PE X (.Call (.Name x p) (e :: es) [] pos) (tCall sp [] E0 t) := by
  obtain ⟨f, fd, F, b, kp, m⟩ := G.ex
  exact pe_call (F.room hk) hr hg m kp b .nil pass0 ha hdb he hpl
end
/-! ### extend by a tuple -/
section
variable {X : Cx}
end
/-! ### text * int -/
section
variable {X : Cx}
def repS (z : Str) (n : Nat) : Str := ⟨(List.replicate n z.cps).foldl (· ++ ·) #[]⟩
theorem repS_zero (z : Str) : repS z 0 = Str.empty := rfl
theorem foldl_app {α : Type} : ∀ (l : List (Array α)) (a : Array α), (l.foldl (· ++ ·) a).toList = a.toList ++ l.flatMap (·.toList)
  | [], a => by simp
  | x :: l, a => by rw [List.foldl_cons, foldl_app l]; simp
theorem repS_cps (z : Str) (n : Nat) : (repS z n).cps.toList = (List.replicate n z.cps.toList).flatten := by
  unfold repS
  rw [foldl_app]
  induction n with
  | zero => rfl
  | succ n ih =>
    rw [List.replicate_succ, List.replicate_succ, List.flatMap_cons, List.flatten_cons]
    simp at ih ⊢
    exact ih
theorem repS_one (z : Str) : repS z 1 = z := by
  cases z with
  | mk c => unfold repS; simp
theorem repS_len (z : Str) (n : Nat) : (repS z n).length = n * z.length := by
  show (repS z n).cps.size = n * z.cps.size
  rw [← Array.length_toList, repS_cps]
  simp
theorem op_mul_str : OpR X (binaryOp .Mult) (fun x y H Q => ∃ z k, x = .str z ∧ y = .int k ∧ -(2 ^ 63) ≤ k ∧ k < 2 ^ 63 ∧ k.toNat * z.length ≤ sizeLine ∧ Q (.str (repS z k.toNat)) H) := by
  intro pins s σ H x y v u Q I rx ry h
  obtain ⟨z, k, rfl, rfl, h1, h2, hz, q⟩ := h
  obtain ⟨t, rfl⟩ := rx
  obtain ⟨t', rfl⟩ := ry
  have hline := sizeLine_eq
  refine PySem.P.mul_str ?_ (fun hk hc => ?_) (fun hk hc => ?_) ?_
  · rw [decide_eq_false (by (first | lia | omega)), decide_eq_false (by (first | lia | omega))]
    rfl
  · intro hgt
    have hzk : (z.length : Int) * k ≤ (2 ^ 63 - 1) := by
      have : ((k.toNat * z.length : Nat) : Int) ≤ sizeLine := by exact_mod_cast hz
      rw [Int.natCast_mul, show ((k.toNat : Nat) : Int) = k by (first | lia | omega), Int.mul_comm] at this
      (first | lia | omega)
    have := (Int.le_ediv_iff_mul_le (by (first | lia | omega) : 0 < k)).mpr hzk
    (first | lia | omega)
  · unfold Builtin.Str.tooLong
    refine decide_eq_false ?_
    rw [Nat.mul_comm]
    (first | lia | omega)
  · by_cases c1 : k < 1
    · rw [if_pos c1]
      have e : k.toNat = 0 := by (first | lia | omega)
      rw [e, repS_zero] at q
      exact ⟨by decide, .str Str.empty, H, I.tok _, ⟨_, rfl⟩, q⟩
    · rw [if_neg c1]
      by_cases c2 : (k == 1 || z.length == 0) = true
      · rw [if_pos c2]
        have e : repS z k.toNat = z := by
          rw [Bool.or_eq_true] at c2
          rcases c2 with c2 | c2
          · have : k = 1 := eq_of_beq c2
            subst this
            exact repS_one z
          · have hz0 : z.length = 0 := eq_of_beq c2
            have a : (repS z k.toNat).cps.toList = z.cps.toList := by
              have l1 : (repS z k.toNat).cps.toList.length = 0 := by
                rw [Array.length_toList]
                have := repS_len z k.toNat
                rw [hz0, Nat.mul_zero] at this
                exact this
              have l2 : z.cps.toList.length = 0 := by
                rw [Array.length_toList]
                exact hz0
              rw [List.eq_nil_of_length_eq_zero l1, List.eq_nil_of_length_eq_zero l2]
            cases z with
            | mk c =>
              have b : (repS ⟨c⟩ k.toNat).cps = c := Array.toList_inj.mp a
              cases hr : repS ⟨c⟩ k.toNat with
              | mk d => rw [hr] at b; exact congrArg Str.mk b
        rw [e] at q
        exact ⟨.str z, H, I, ⟨_, rfl⟩, q⟩
      · rw [if_neg c2]
        refine ⟨?_, .str (repS z k.toNat), H, I.tok _, ⟨_, rfl⟩, q⟩
        have := repS_len z k.toNat
        show (repS z k.toNat).length ≤ sizeLine
        rw [this]
        exact hz
end
end L2
namespace HT
open PySem PyProof.Rows
section
variable {prog : Program} {w : World} {A : Around} {E : Value → Shared → Prop} {s : Shared}
end
end HT

namespace L2
open PySem PySem.Spec PyProof.Rows
/-! ### == and != of data at any depth -/
mutual
inductive Dp (K : PySem.W.Frag) (H : Hp) : V → PyData → Prop
  | non : Dp K H .non .none
  | bl (b : Bool) : Dp K H (.bl b) (.bool b)
  | int (i : Int) : Dp K H (.int i) (.int i)
  | str (x : Str) : Dp K H (.str x) (.str x)
  | lst {a : Addr} {xs : List V} {ds : List PyData} : SqL K H a xs → DpAll K H xs ds → Dp K H (.ref a) (.list ds)
  | tup {a : Addr} {xs : List V} {ds : List PyData} : SqT K H a xs → DpAll K H xs ds → Dp K H (.ref a) (.tuple ds)
inductive DpAll (K : PySem.W.Frag) (H : Hp) : List V → List PyData → Prop
  | nil : DpAll K H [] []
  | cons {v : V} {vs : List V} {d : PyData} {ds : List PyData} : Dp K H v d → DpAll K H vs ds → DpAll K H (v :: vs) (d :: ds)
end
section
variable {X : Cx} {pins : List (Addr × Obj)} {σ : St} {H : Hp} {s : Shared}
mutual
theorem Dp.reads (I : Inv X pins σ H s) : ∀ {v : V} {d : PyData} {u : Value}, Dp X.K H v d → RelV v u → ∃ as, Reads s.heap u d as
  | _, _, u, .non, r => by
    obtain rfl : u = Value.none := r
    exact ⟨_, .none⟩
  | _, _, u, .bl b, r => by
    obtain rfl : u = Value.bool b := r
    exact ⟨_, .bool b⟩
  | _, _, _, .int i, ⟨t, e⟩ => by
    subst e
    exact ⟨_, .int i t⟩
  | _, _, _, .str x, ⟨t, e⟩ => by
    subst e
    exact ⟨_, .str x t⟩
  | _, _, u, @Dp.lst _ _ a xs ds hq hall, r => by
    obtain rfl : u = Value.ref a := r
    obtain ⟨its, rv, ⟨o, n, e, hc, _, hd⟩, _⟩ := I.list hq
    obtain ⟨as, ha⟩ := DpAll.reads I hall rv
    exact ⟨_, .list e hc hd (by simpa using ha)⟩
  | _, _, u, @Dp.tup _ _ a xs ds hq hall, r => by
    obtain rfl : u = Value.ref a := r
    obtain ⟨its, rv, ⟨o, e, hc, n, hd⟩, _⟩ := I.tuple hq
    obtain ⟨as, ha⟩ := DpAll.reads I hall rv
    exact ⟨_, .tuple e hc hd (by simpa using ha)⟩
theorem DpAll.reads (I : Inv X pins σ H s) : ∀ {vs : List V} {ds : List PyData} {us : List Value}, DpAll X.K H vs ds → Vals vs us → ∃ as, ReadsAll s.heap us ds as
  | _, _, _, .nil, .nil => ⟨_, .nil⟩
  | _, _, _, .cons h t, .cons r rs => by
    obtain ⟨as, ha⟩ := Dp.reads I h r
    obtain ⟨bs, hb⟩ := DpAll.reads I t rs
    exact ⟨_, .cons ha hb⟩
end
end
section
variable {X : Cx}
def rEqD (K : PySem.W.Frag) (neg : Bool) : R2 := fun x y H Q => ∃ d e, Dp K H x d ∧ Dp K H y e ∧ d.canLay0 = true ∧ e.canLay0 = true ∧ min d.depth e.depth ≤ 200 ∧ Q (.bl (if neg then !PyData.eqv d e else PyData.eqv d e)) H
theorem op_neD (hu : X.A.units + 200 < cLine) : OpR X (compareOp .NotEq) (rEqD X.K true) := by
  intro pins s σ H x y v u Q I rx ry h
  obtain ⟨d, e, hx, hy, h1, h2, hd, q⟩ := h
  obtain ⟨as, ra⟩ := hx.reads I rx
  obtain ⟨bs, rb⟩ := hy.reads I ry
  exact PySem.SeqAt.compareNe_reads ra rb h1 h2 (by (first | lia | omega)) ⟨.bl _, H, I, rfl, q⟩
theorem hu_room {A : Around} {k : Nat} (hr : Room k A) : A.units + 200 < cLine := by
  have := hr.un
  (first | lia | omega)
end
/-! ### t[::-1], slices of tuples whole or not -/
section
variable {X : Cx} {e : Expr} {te : TE} {pos p2 p3 p4 : Pos} {j : Nat}
end
/-! ### heaps: tuples are kept -/
/-- what is no list that may change: the tuples stay -/
def TK (H H' : Hp) : Prop := ∀ b xs, H b = some (.tup xs) → H' b = some (.tup xs)
theorem TK.trans {H H1 H2 : Hp} (a : TK H H1) (b : TK H1 H2) : TK H H2 := fun c xs h => b c xs (a c xs h)
theorem TK.new {H : Hp} {p : Addr} {o : HO} (h : H p = none) : TK H (upd H p o) := fun b xs q => by
  rw [upd_ne (ne_of_none q h)]
  exact q
theorem TK.lst {H : Hp} {p : Addr} {xs : List V} {o : HO} (h : H p = some (.lst xs)) : TK H (upd H p o) := fun b ys q => by
  by_cases e : b = p
  · subst e
    rw [h] at q
    cases q
  · rw [upd_ne e]
    exact q
theorem Same.tk {H H' : Hp} (h : Same H H') : TK H H' := fun b xs q => h b _ q
theorem Same.new {H : Hp} {p : Addr} {o : HO} (h : H p = none) : Same H (upd H p o) := fun b u q => by
  rw [upd_ne (ne_of_none q h)]
  exact q
theorem Same.upd_new {H H' : Hp} {p : Addr} {o : HO} (h : Same H H') (hp : H p = none) : Same H (upd H' p o) := fun b u q => by
  rw [upd_ne (ne_of_none q hp)]
  exact h b u q
end L2
namespace L2
open PySem PySem.Spec PyProof.Rows
theorem upd_none {H : Hp} {p b : Addr} {o : HO} (h : upd H p o b = none) : b ≠ p ∧ H b = none := by
  by_cases e : b = p
  · subst e
    rw [upd_same] at h
    cases h
  · rw [upd_ne e] at h
    exact ⟨e, h⟩
end L2
namespace L2
open PySem PySem.Spec PyProof.Rows
/-- a body cut behind its n-th statement: R holds there -/
theorem cut {X : Cx} {body : List Stmt} {D : Ends} {σ : St} {H : Hp} (n : Nat) (R : St → Hp → Prop) (h2 : ∃ u, PSs X (body.drop n) u ∧ ∀ σ' H', R σ' H' → u D σ' H')
    (h1 : ∀ u, PSs X (body.drop n) u → (∀ σ' H', R σ' H' → u D σ' H') → ∃ t, PSs X body t ∧ t D σ H) : ∃ t, PSs X body t ∧ t D σ H :=
  let ⟨u, a, b⟩ := h2
  h1 u a b
end L2
namespace L2
open PySem PySem.Spec PyProof.Rows
section
variable {X : Cx}
end
end L2
namespace L2
end L2

namespace L2
open PySem PySem.Spec PyProof.Rows
section
variable {X : Cx}
end
theorem Paired.unsnoc {α β : Type} {F : α → β → Prop} : ∀ {l : List α} {a : α} {l₂ : List β}, Paired F (l ++ [a]) l₂ → ∃ k b, l₂ = k ++ [b] ∧ Paired F l k ∧ F a b
  | [], _, _, .cons r .nil => ⟨[], _, rfl, .nil, r⟩
  | x :: l, a, _, .cons r t => by
    obtain ⟨k, b, e, p, f⟩ := Paired.unsnoc (l := l) t
    exact ⟨_ :: k, b, by rw [e]; rfl, .cons r p, f⟩
theorem snoc_of {α : Type} {l : List α} (h : l ≠ []) : ∃ k a, l = k ++ [a] := ⟨l.dropLast, l.getLast h, (List.dropLast_concat_getLast h).symm⟩
theorem snoc_last {α : Type} (l : List α) (a : α) : (l ++ [a])[(l ++ [a]).length - 1]? = some a := by
  simp
theorem snoc_drop {α : Type} (l : List α) (a : α) : (l ++ [a]).dropLast = l := by
  simp
end L2
namespace Fg
open PySem L2 FgM
abbrev SL : Str := "/"
/-- the tuples bear a grove -/
inductive RepG (H : Hp) : List V → Gr Str → Prop
  | nil : RepG H [] .nil
  | cons {p q : Addr} {t : Str} {ys vs : List V} {w o : Gr Str} : H p = some (.tup [.str t, .ref q]) → H q = some (.tup ys) → RepG H ys w → RepG H vs o → RepG H (.ref p :: vs) (.cons t w o)
theorem RepG.mono {H H' : Hp} (k : TK H H') : ∀ {vs : List V} {g : Gr Str}, RepG H vs g → RepG H' vs g
  | _, _, .nil => .nil
  | _, _, .cons h1 h2 h3 h4 => .cons (k _ _ h1) (k _ _ h2) (h3.mono k) (h4.mono k)
theorem RepG.snoc {H : Hp} {p q : Addr} {t : Str} {ys : List V} {w : Gr Str} (h1 : H p = some (.tup [.str t, .ref q])) (h2 : H q = some (.tup ys)) (h3 : RepG H ys w) :
    ∀ {vs : List V} {g : Gr Str}, RepG H vs g → RepG H (vs ++ [.ref p]) (snoc g t w)
  | _, _, .nil => .cons h1 h2 h3 .nil
  | _, _, .cons a b c d => .cons a b c (RepG.snoc h1 h2 h3 d)
theorem RepG.length {H : Hp} : ∀ {vs : List V} {g : Gr Str}, RepG H vs g → vs.length ≤ (words SL g).length
  | _, _, .nil => Nat.le_refl _
  | _, _, .cons _ _ _ d => by
    have := d.length
    simp only [List.length_cons, words, List.length_append]
    (first | lia | omega)
/-- rows under way, the innermost first -/
abbrev RowsR (H : Hp) : List Addr → List (Gr Str) → Prop := Paired fun a g => ∃ vs, H a = some (.lst vs) ∧ RepG H vs g
theorem rows_mono {H H' : Hp} (k : TK H H') : ∀ {as : List Addr} {gs : List (Gr Str)}, RowsR H as gs → (∀ b ∈ as, ∀ o, H b = some o → H' b = some o) → RowsR H' as gs
  | _, _, .nil, _ => .nil
  | _, _, .cons ⟨vs, h1, h2⟩ t, hk => .cons ⟨vs, hk _ (List.mem_cons_self ..) _ h1, h2.mono k⟩ (rows_mono k t fun b hb => hk b (List.mem_cons_of_mem _ hb))
theorem rows_there {H : Hp} : ∀ {as : List Addr} {gs : List (Gr Str)}, RowsR H as gs → ∀ b ∈ as, ∃ o, H b = some o
  | _, _, .nil, _, hb => nomatch hb
  | _, _, .cons ⟨vs, h1, _⟩ t, b, hb => by
    rcases List.mem_cons.mp hb with rfl | hb
    · exact ⟨_, h1⟩
    · exact rows_there t b hb
/-- small letters, one or more -/
def Lets (t : Str) : Prop := t.cps.toList ≠ [] ∧ ∀ c ∈ t.cps.toList, 97 ≤ c ∧ c ≤ 122
def Let0 (t : Str) : Prop := ∀ c ∈ t.cps.toList, 97 ≤ c ∧ c ≤ 122
theorem app_cps (x y : Str) : (x ++ y).cps.toList = x.cps.toList ++ y.cps.toList := by
  show (x.cps ++ y.cps).toList = _
  simp
theorem let0_app {x y : Str} (hx : Let0 x) (hy : Let0 y) : Let0 (x ++ y) := fun c hc => by
  rw [app_cps] at hc
  exact (List.mem_append.mp hc).elim (hx c) (hy c)
theorem let0_rep {x : Str} (hx : Let0 x) (n : Nat) : Let0 (repS x n) := fun c hc => by
  rw [repS_cps] at hc
  obtain ⟨l, hl, hc⟩ := List.mem_flatten.mp hc
  rw [(List.mem_replicate.mp hl).2] at hc
  exact hx c hc
theorem Lets.let0 {t : Str} (h : Lets t) : Let0 t := h.2
theorem lets_l {x y : Str} (hx : Lets x) (hy : Let0 y) : Lets (x ++ y) := ⟨by rw [app_cps]; intro z; exact hx.1 (List.append_eq_nil_iff.mp z).1, let0_app hx.2 hy⟩
theorem lets_one {c : Nat} (h1 : 97 ≤ c) (h2 : c ≤ 122) : Lets ⟨#[c]⟩ := ⟨by simp, fun d hd => by simp at hd; (first | lia | omega)⟩
theorem Lets.ne {t : Str} (h : Lets t) : t ≠ SL := fun e => by
  subst e
  have := h.2 47 (by decide)
  (first | lia | omega)
theorem Let0.ok {t : Str} (h : Let0 t) : PyData.strOk t = true := by
  unfold PyData.strOk
  rw [Array.all_eq_true_iff_forall_mem]
  intro c hc
  have := h c (by simpa using hc)
  exact decide_eq_true (by (first | lia | omega))
theorem sl_ok : PyData.strOk SL = true := by decide +kernel
def ABC : Str := "abcdefghijklmnopqrstuvwxyz"
theorem abc_all : ∀ n : _root_.Fin 26, 97 ≤ ABC.cps.toList.getD n.val 0 ∧ ABC.cps.toList.getD n.val 0 ≤ 122 ∧ n.val < ABC.cps.toList.length := by decide
theorem abc_at {i : Int} (h0 : 0 ≤ i) (h1 : i < 26) : ∃ c, atI ABC.cps.toList i = some c ∧ 97 ≤ c ∧ c ≤ 122 := by
  obtain ⟨n, rfl⟩ := Int.eq_ofNat_of_zero_le h0
  obtain ⟨a, b, c⟩ := abc_all ⟨n, by (first | lia | omega)⟩
  refine ⟨_, atI_nat (List.getElem?_eq_getElem c), ?_, ?_⟩
  · rw [List.getD_eq_getElem?_getD, List.getElem?_eq_getElem c] at a
    exact a
  · rw [List.getD_eq_getElem?_getD, List.getElem?_eq_getElem c] at b
    exact b
theorem ints_at {ns : List Int} {k : Int} (h0 : 0 ≤ k) (h : k < (ns.length : Int)) : ∃ v : Int, atI (ns.map V.int) k = some (.int v) := by
  obtain ⟨n, rfl⟩ := Int.eq_ofNat_of_zero_le h0
  have hn : n < ns.length := by (first | lia | omega)
  exact ⟨ns[n], atI_nat (by rw [List.getElem?_map, List.getElem?_eq_getElem hn]; rfl)⟩
end Fg

namespace Fg
open PySem L2 FgM
/-! ### what the laws' own helpers promise -/
/-- script[k], or 0: some int -/
def spCell (K : PySem.W.Frag) : Sp := fun vs H Q _ => ∃ (a : Addr) (ns : List Int) (k : Int), vs = [.ref a, .int k] ∧ SqL K H a (ns.map V.int) ∧ ns.length ≤ 63 ∧ 0 ≤ k ∧ ∀ v : Int, Q (.int v) H
/-- as many ints below 2^31 as asked -/
def spNums (K : PySem.W.Frag) : Sp := fun vs H Q _ => ∃ (a : Addr) (ns : List Int) (m : Int), vs = [.ref a, .int m] ∧ SqL K H a (ns.map V.int) ∧ ns.length ≤ 63 ∧ 0 ≤ m ∧ m ≤ 400 ∧
  ∀ (r : Addr) (xs : List Int) (H' : Hp), Same H H' → H r = none → H' r = some (.lst (xs.map V.int)) → xs.length = m.toNat → (∀ x ∈ xs, 0 ≤ x ∧ x < 2147483647) → Q (.ref r) H'
/-- a tag of small letters -/
def spTag : Sp := fun vs H Q _ => ∃ n : Int, vs = [.int n] ∧ 0 ≤ n ∧ n < 2147483647 ∧ ∀ t : Str, Lets t → t.length ≤ 8 → Q (.str t) H
/-- words of a grove -/
def spLWords (K : PySem.W.Frag) : Sp := fun vs H Q _ => ∃ (a : Addr) (ns : List Int), vs = [.ref a] ∧ SqL K H a (ns.map V.int) ∧ ns.length ≤ 63 ∧
  ∀ (r : Addr) (ws : List Str) (H' : Hp), Same H H' → H r = none → H' r = some (.lst (ws.map V.str)) → ws.length ≤ 700 → Can SL 0 ws → (∀ w ∈ ws, w = SL ∨ (Lets w ∧ w.length ≤ 8)) → Q (.ref r) H'
def spLaw (K : PySem.W.Frag) : Sp := fun vs H Q _ => ∃ (a : Addr) (ns : List Int), vs = [.ref a] ∧ SqL K H a (ns.map V.int) ∧ ns.length ≤ 63 ∧ ∀ H', Q (.bl true) H'
theorem len1000 {n : Nat} (h : n ≤ 100000) : n ≤ sizeLine := Nat.le_trans h (by decide)
theorem len1000' {n : Nat} (h : n ≤ 100000) : n < sizeLine := Nat.lt_of_le_of_lt h (by decide)
end Fg
namespace Fg
open PySem L2 FgM
theorem app_len (x y : Str) : (x ++ y).length = x.length + y.length := by
  show (x.cps ++ y.cps).size = _
  rw [Array.size_append]
  rfl
end Fg
namespace Fg
open PySem L2 FgM
theorem max_pos (j : Int) : (0 : Int) < if j > 1 then j else 1 := by
  split
  · rename_i h
    exact Int.lt_trans (by decide) h
  · decide
end Fg
namespace Fg
open PySem L2 FgM
end Fg
namespace Fg
open PySem L2 FgM
theorem rep_map : ∀ n : Nat, (List.replicate n [V.str SL]).flatten = (List.replicate n SL).map V.str
  | 0 => rfl
  | n + 1 => by
    rw [List.replicate_succ, List.flatten_cons, rep_map n, List.replicate_succ]
    rfl
/-- the turn's last three statements -/
theorem tailW {ta : TA} {K : PySem.W.Frag} {H H2 : Hp} {D : Ends} {a p r : Addr} {fst many ln num cv : Int} {op i : Nat} {ws : List Str} {xs : List Int}
    (sm : Same H H2) (hr2 : H2 r = some (.lst (xs.map V.int))) (hp2 : H2 p = some (.lst (ws.map V.str))) (nrp : r ≠ p) (hlen : ws.length + op = 2 * i) (hi : i ≤ 300)
    (hcan : ∀ tl, Can SL op tl → Can SL 0 (ws ++ tl)) (hws : ∀ w ∈ ws, w = SL ∨ (Lets w ∧ w.length ≤ 8)) (hp0 : H p = none) (hr0 : H r = none) (b0 : 0 ≤ num) (b1 : num < 2147483647)
    (hcl : ∃ cl : Nat, cv = (cl : Int) ∧ cl ≤ op)
    (hta : ∀ (H3 : Hp) (Qa : List V → Hp → Prop), (∀ t : Str, Lets t → t.length ≤ 8 → Qa [.str t] H3) → ta [some (.ref a), some (.int fst), some (.int many), some (.int ln), some (.ref p), some (.int (op : Int)), some (.int num), some (.int cv)] H3 Qa)
    (hN : ∀ (ws' : List Str) (op' : Nat) (H3 : Hp), Same H H3 → H3 r = some (.lst (xs.map V.int)) → H3 p = some (.lst (ws'.map V.str)) → ws'.length + op' = 2 * (i + 1) → (∀ tl, Can SL op' tl → Can SL 0 (ws' ++ tl)) →
      (∀ w ∈ ws', w = SL ∨ (Lets w ∧ w.length ≤ 8)) → D.nx [some (.ref a), some (.int fst), some (.int many), some (.int ln), some (.ref p), some (.int op'), some (.int num), some (.int cv)] H3) :
    tSeq (tDrop (tBM K "list" rExtend (tVar 4) (tCons (tOp rRep (tLst (tCons (tC (.str SL)) tNil)) (tVar 7)) tNil)))
      (tSeq (tDrop (tBM K "list" rAppend (tVar 4) ta))
        (tAsg (tOp (rI0 fun i j => .int (i - j)) (tOp (rI0 fun i j => .int (i + j)) (tVar 5) (tC (.int 1))) (tVar 7)) (gName 5)))
      D [some (.ref a), some (.int fst), some (.int many), some (.int ln), some (.ref p), some (.int (op : Int)), some (.int num), some (.int cv)] H2 := by
  obtain ⟨cl, rfl, hcl⟩ := hcl
  refine ⟨_, rfl, .inl ⟨rfl, _, SqL.of hp2⟩, by decide, fun b hb => ⟨_, rfl, b, _, _, rfl, rfl, upd_same, by (first | lia | omega), by (first | lia | omega), len1000 (by show 1 * _ ≤ _; (first | lia | omega)), fun c hc => ?_⟩⟩
  obtain ⟨ncb, hc0⟩ := upd_none hc
  have npb : p ≠ b := ne_of_none hp2 hb
  have npc : p ≠ c := ne_of_none hp2 hc0
  have nrb : r ≠ b := ne_of_none hr2 hb
  have nrc : r ≠ c := ne_of_none hr2 hc0
  refine ⟨p, c, ws.map V.str, (List.replicate cl SL).map V.str, rfl, rfl, ?_, ?_, len1000 (by rw [List.length_map, List.length_map, List.length_replicate]; (first | lia | omega)), ?_⟩
  · rw [upd_ne npc, upd_ne npb]
    exact hp2
  · rw [upd_same]
    congr 2
    rw [Int.toNat_natCast]
    exact rep_map cl
  refine ⟨_, rfl, .inl ⟨rfl, _, SqL.of upd_same⟩, hta _ _ fun t ht hl8 => ?_⟩
  refine ⟨p, _, _, rfl, rfl, upd_same, len1000' (by rw [List.length_append, List.length_map, List.length_map, List.length_replicate]; (first | lia | omega)), ?_⟩
  refine ⟨_, rfl, _, _, rfl, rfl, _, rfl, _, _, rfl, rfl, ?_⟩
  have eo : (op : Int) + 1 - (cl : Int) = ((op + 1 - cl : Nat) : Int) := by (first | lia | omega)
  show D.nx [_, _, _, _, _, some (.int ((op : Int) + 1 - (cl : Int))), _, _] _
  rw [eo]
  refine hN (ws ++ List.replicate cl SL ++ [t]) _ _ ((((sm.upd_new (sm.free hb)).upd_new (sm.free hc0)).upd_new hp0).upd_new hp0) ?_ ?_ ?_ ?_ ?_
  · rw [upd_ne nrp, upd_ne nrp, upd_ne nrc, upd_ne nrb]
    exact hr2
  · rw [upd_same, List.map_append, List.map_append]
    rfl
  · rw [List.length_append, List.length_append, List.length_replicate, List.length_singleton]
    (first | lia | omega)
  · intro tl htl
    rw [List.append_assoc, List.append_assoc]
    refine hcan _ (can_ends cl hcl ?_)
    rw [List.singleton_append, can_tag ht.ne]
    have : op - cl + 1 = op + 1 - cl := by (first | lia | omega)
    rw [this]
    exact htl
  · intro w hw
    rcases List.mem_append.mp hw with hw | hw
    · rcases List.mem_append.mp hw with hw | hw
      · exact hws w hw
      · exact .inl (List.mem_replicate.mp hw).2
    · obtain rfl := List.mem_singleton.mp hw
      exact .inr ⟨ht, hl8⟩
end Fg

namespace L2
open PySem PySem.Spec PyProof.Rows
theorem strsAre_of : ∀ {ys : List Str} {us : List Value}, Vals (ys.map V.str) us → StrsAre us ys
  | [], _, .nil => .nil
  | y :: ys, _, .cons r t => by
    obtain ⟨tk, e⟩ := r
    subst e
    exact .cons y tk (strsAre_of t)
section
variable {X : Cx}
/-- sep.join(xs), a list of texts -/
def rJoin (K : PySem.W.Frag) : V → List V → Hp → VK → Prop := fun x vs H Q => ∃ z a ys, x = .str z ∧ vs = [.ref a] ∧ SqL K H a (ys.map V.str) ∧ (ys.map (·.length)).sum + ys.length * z.length ≤ 16777216 ∧ Q (.str (Txt.join z ys)) H
theorem mt_join : MtM X "str.join" (rJoin X.K) := by
  intro pins s σ H x vs v us Q I rx rv h
  obtain ⟨z, a, ys, rfl, rfl, hS, hz, q⟩ := h
  obtain ⟨t, rfl⟩ := rx
  obtain ⟨u, rfl, ru⟩ := rv.one
  cases ru
  obtain ⟨its, r, pl, _⟩ := I.list hS
  exact join_list pl.isList (by simpa using strsAre_of r) hz fun t' k => ⟨.str _, H, I.tok _, ⟨_, rfl⟩, q⟩
/-- xs != [] -/
theorem op_ne_nil (hu : X.A.units + 200 < cLine) : OpR X (compareOp .NotEq) (fun x y H Q => ∃ a b xs, x = .ref a ∧ y = .ref b ∧ SqL X.K H a xs ∧ SqL X.K H b [] ∧ Q (.bl (!xs.isEmpty)) H) := by
  intro pins s σ H x y v u Q I rx ry h
  obtain ⟨a, b, xs, rfl, rfl, ha, hb, q⟩ := h
  cases xs with
  | nil => exact op_neD hu pins s σ H _ _ v u Q I rx ry ⟨.list [], .list [], .lst ha .nil, .lst hb .nil, rfl, rfl, by decide, q⟩
  | cons x xs =>
    cases rx
    cases ry
    obtain ⟨its, r, pl, _⟩ := I.list ha
    obtain ⟨its2, r2, pl2, _⟩ := I.list hb
    have l1 := r.length
    have l2 := r2.length
    refine PySem.SeqAt.RcNeAt.lists_lengths pl.isList pl2.isList ?_ (by (first | lia | omega)) X.prog X.w X.xe _ ⟨.bl _, H, I, rfl, q⟩
    rw [List.size_toArray, List.size_toArray, ← l1, ← l2]
    rfl
end
end L2
namespace Fg
open PySem L2 FgM
/-! ### groves as texts -/
def cs (x : Str) : List Nat := x.cps.toList
theorem cs_inj {x y : Str} (h : cs x = cs y) : x = y := by
  cases x with
  | mk a =>
    cases y with
    | mk b => exact congrArg Str.mk (Array.toList_inj.mp h)
theorem cs_app (x y : Str) : cs (x ++ y) = cs x ++ cs y := app_cps x y
def jn (sep : Str) : List Str → List Nat
  | [] => []
  | [x] => cs x
  | x :: y :: r => cs x ++ (cs sep ++ jn sep (y :: r))
theorem cs_strJoin (sep : Str) : ∀ ys : List Str, cs (Str.join sep ys) = jn sep ys
  | [] => rfl
  | [x] => rfl
  | x :: y :: r => by
    show cs (x ++ sep ++ Str.join sep (y :: r)) = _
    rw [cs_app, cs_app, cs_strJoin sep (y :: r), List.append_assoc]
    rfl
theorem cs_join (sep : Str) (ys : List Str) : cs (Txt.join sep ys) = jn sep ys := by
  have e : Txt.join sep ys = Str.join sep ys := PySem.StrLaws.glued_eq_join sep ys
  rw [e, cs_strJoin]
def treeT (t : Str) (ks : List Str) : Str := if ks = [] then t else t ++ "(" ++ Txt.join " " ks ++ ")"
def rowT : Gr Str → List Str
  | .nil => []
  | .cons t w o => treeT t (rowT w) :: rowT o
theorem rowT_snoc (t : Str) (w : Gr Str) : ∀ g : Gr Str, rowT (snoc g t w) = rowT g ++ [treeT t (rowT w)]
  | .nil => rfl
  | .cons t' w' o => by
    show treeT t' (rowT w') :: rowT (snoc o t w) = _
    rw [rowT_snoc t w o]
    rfl
theorem rowT_nil {g : Gr Str} : rowT g = [] ↔ g = .nil := by
  cases g with
  | nil => exact ⟨fun _ => rfl, fun _ => rfl⟩
  | cons t w o => exact ⟨(fun h => nomatch h), (fun h => nomatch h)⟩
/-- tags of letters all through -/
def GoodT : Gr Str → Prop
  | .nil => True
  | .cons t w o => (Lets t ∧ t.length ≤ 8) ∧ GoodT w ∧ GoodT o
theorem good_of : ∀ {g : Gr Str}, Clean SL g → (∀ w ∈ words SL g, w = SL ∨ (Lets w ∧ w.length ≤ 8)) → GoodT g
  | .nil, _, _ => trivial
  | .cons t w o, ⟨c1, c2, c3⟩, h => by
    refine ⟨(h t (List.mem_cons_self ..)).resolve_left c1, good_of c2 fun x hx => h x ?_, good_of c3 fun x hx => h x ?_⟩
    · exact List.mem_cons_of_mem _ (List.mem_append_left _ hx)
    · exact List.mem_cons_of_mem _ (List.mem_append_right _ (List.mem_cons_of_mem _ hx))
theorem len_le_sum (sep : Str) (ys : List Str) : (Txt.join sep ys).length ≤ (ys.map (·.length)).sum + ys.length * sep.length := by
  have e : Txt.join sep ys = Str.join sep ys := PySem.StrLaws.glued_eq_join sep ys
  rw [e]
  exact PySem.StrLaws.join_length_le sep ys
theorem treeT_len (t : Str) (ks : List Str) : (treeT t ks).length ≤ t.length + 2 + ((ks.map (·.length)).sum + ks.length) := by
  unfold treeT
  by_cases h : ks = []
  · rw [if_pos h]
    (first | lia | omega)
  · rw [if_neg h, app_len, app_len, app_len]
    have := len_le_sum " " ks
    have e1 : ("(" : Str).length = 1 := rfl
    have e2 : (")" : Str).length = 1 := rfl
    have e3 : (" " : Str).length = 1 := rfl
    rw [e3] at this
    rw [e1, e2]
    (first | lia | omega)
theorem rowT_len : ∀ {g : Gr Str}, GoodT g → ((rowT g).map (·.length)).sum + (rowT g).length ≤ 11 * (words SL g).length
  | .nil, _ => Nat.le_refl _
  | .cons t w o, ⟨h1, h2, h3⟩ => by
    have a := rowT_len h2
    have b := rowT_len h3
    have c := treeT_len t (rowT w)
    have d := h1.2
    show ((treeT t (rowT w)).length + ((rowT o).map (·.length)).sum) + ((rowT o).length + 1) ≤ 11 * (t :: (words SL w ++ SL :: words SL o)).length
    simp only [List.length_cons, List.length_append]
    (first | lia | omega)
/-- the signs that a word shows by -/
def pc (ah w : Str) : Str := if w = SL then (if ah = SL then ")" else "") else if ah = "" then w else if ah = SL then " " ++ w else "(" ++ w
def pcs : Str → List Str → List Str
  | _, [] => []
  | ah, w :: ws => pc ah w :: pcs w ws
def pcc (ah : Str) (ws : List Str) : List Nat := (pcs ah ws).flatMap cs
theorem jn_empty : ∀ ys : List Str, jn "" ys = ys.flatMap cs
  | [] => rfl
  | [x] => by simp [jn]
  | x :: y :: r => by
    show cs x ++ (cs "" ++ jn "" (y :: r)) = _
    rw [jn_empty (y :: r)]
    rfl
theorem pcc_cons (ah w : Str) (ws : List Str) : pcc ah (w :: ws) = cs (pc ah w) ++ pcc w ws := rfl
def sepOf (ah : Str) : Str := if ah = "" then "" else if ah = SL then " " else "("
theorem lets_ne_empty {t : Str} (h : Lets t) : t ≠ "" := fun e => h.1 (by rw [e]; rfl)
theorem pc_tag (ah : Str) {t : Str} (h : Lets t) : cs (pc ah t) = cs (sepOf ah) ++ cs t := by
  unfold pc sepOf
  rw [if_neg h.ne]
  by_cases h1 : ah = ""
  · rw [if_pos h1, if_pos h1]
    rfl
  · rw [if_neg h1, if_neg h1]
    by_cases h2 : ah = SL
    · rw [if_pos h2, if_pos h2, cs_app]
    · rw [if_neg h2, if_neg h2, cs_app]
theorem pcc_words : ∀ {g : Gr Str}, GoodT g → g ≠ .nil → ∀ (ah : Str) (r : List Str), pcc ah (words SL g ++ r) = cs (sepOf ah) ++ jn " " (rowT g) ++ pcc SL r
  | .nil, _, h, _, _ => absurd rfl h
  | .cons t w o, ⟨h1, h2, h3⟩, _, ah, r => by
    have ht := h1.1
    have e0 : words SL (.cons t w o) ++ r = t :: (words SL w ++ (SL :: (words SL o ++ r))) := by
      simp [words]
    have sep_t : sepOf t = "(" := by
      unfold sepOf
      rw [if_neg (lets_ne_empty ht), if_neg ht.ne]
    -- what is within
    have inner : pcc t (words SL w ++ (SL :: (words SL o ++ r))) = (cs (treeT t (rowT w))).drop (cs t).length ++ pcc SL (words SL o ++ r) := by
      by_cases hw : w = .nil
      · subst hw
        show pcc t (SL :: (words SL o ++ r)) = _
        rw [pcc_cons]
        have e1 : pc t SL = "" := by
          unfold pc
          rw [if_pos rfl, if_neg ht.ne]
        rw [e1]
        show [] ++ _ = (cs (treeT t [])).drop (cs t).length ++ _
        unfold treeT
        rw [if_pos rfl, List.drop_length]
      · rw [pcc_words h2 hw t, sep_t, pcc_cons]
        have e1 : pc SL SL = ")" := by
          unfold pc
          rw [if_pos rfl, if_pos rfl]
        rw [e1]
        unfold treeT
        rw [if_neg fun z => hw (rowT_nil.mp z), cs_app, cs_app, cs_app, cs_join]
        simp only [List.append_assoc, List.drop_left]
    have tree : cs t ++ (cs (treeT t (rowT w))).drop (cs t).length = cs (treeT t (rowT w)) := by
      unfold treeT
      by_cases hk : rowT w = []
      · rw [if_pos hk, List.drop_length, List.append_nil]
      · rw [if_neg hk, cs_app, cs_app, cs_app]
        simp only [List.append_assoc, List.drop_left]
    rw [e0, pcc_cons, pc_tag ah ht, inner]
    have outer : pcc SL (words SL o ++ r) = (if rowT o = [] then [] else cs " " ++ jn " " (rowT o)) ++ pcc SL r := by
      by_cases ho : o = .nil
      · subst ho
        rfl
      · have : sepOf SL = " " := by
          unfold sepOf
          rw [if_neg (by decide), if_pos rfl]
        rw [if_neg fun z => ho (rowT_nil.mp z), pcc_words h3 ho SL, this]
    rw [outer]
    have jr : jn " " (rowT (.cons t w o)) = cs (treeT t (rowT w)) ++ (if rowT o = [] then [] else cs " " ++ jn " " (rowT o)) := by
      show jn " " (treeT t (rowT w) :: rowT o) = _
      by_cases ho : o = .nil
      · subst ho
        rw [if_pos (show rowT Gr.nil = [] from rfl), List.append_nil]
        rfl
      · rw [if_neg fun z => ho (rowT_nil.mp z)]
        cases hr : rowT o with
        | nil => exact absurd (rowT_nil.mp hr) ho
        | cons y ys => rfl
    rw [jr]
    generalize (cs (treeT t (rowT w))).drop (cs t).length = d at tree
    rw [← tree]
    simp only [List.append_assoc]
theorem shown_eq {g : Gr Str} (h : GoodT g) : Txt.join "" (pcs "" (words SL g)) = Txt.join " " (rowT g) := by
  apply cs_inj
  rw [cs_join, cs_join, jn_empty]
  by_cases hg : g = .nil
  · subst hg
    rfl
  · have := pcc_words h hg "" []
    rw [List.append_nil] at this
    show pcc "" (words SL g) = _
    rw [this]
    have e : sepOf "" = "" := by
      unfold sepOf
      rw [if_pos rfl]
    rw [e]
    show [] ++ jn " " (rowT g) ++ [] = _
    rw [List.append_nil]
    rfl
theorem pc_len (ah : Str) {w : Str} (h : w.length ≤ 8) : (pc ah w).length ≤ 9 := by
  have e1 : (")" : Str).length = 1 := rfl
  have e2 : ("" : Str).length = 0 := rfl
  have e3 : (" " : Str).length = 1 := rfl
  have e4 : ("(" : Str).length = 1 := rfl
  unfold pc
  by_cases c1 : w = SL
  · rw [if_pos c1]
    by_cases c2 : ah = SL
    · rw [if_pos c2, e1]
      (first | lia | omega)
    · rw [if_neg c2, e2]
      (first | lia | omega)
  · rw [if_neg c1]
    by_cases c2 : ah = ""
    · rw [if_pos c2]
      (first | lia | omega)
    · rw [if_neg c2]
      by_cases c3 : ah = SL
      · rw [if_pos c3, app_len, e3]
        (first | lia | omega)
      · rw [if_neg c3, app_len, e4]
        (first | lia | omega)
theorem pcs_sum : ∀ (ah : Str) {ws : List Str}, (∀ w ∈ ws, w.length ≤ 8) → ((pcs ah ws).map (·.length)).sum ≤ 9 * ws.length
  | _, [], _ => Nat.le_refl _
  | ah, w :: ws, h => by
    have a := pcs_sum w (ws := ws) fun x hx => h x (List.mem_cons_of_mem _ hx)
    have b := pc_len ah (h w (List.mem_cons_self ..))
    show (pc ah w).length + ((pcs w ws).map (·.length)).sum ≤ 9 * (ws.length + 1)
    (first | lia | omega)
/-! ### what the laws want of texts -/
def spText (K : PySem.W.Frag) : Sp := fun vs H Q _ => ∃ (a : Addr) (g : Gr Str), vs = [.ref a] ∧ SqL K H a ((words SL g).map V.str) ∧ (words SL g).length ≤ 1000 ∧ Clean SL g ∧ Can SL 0 (words SL g) ∧ (∀ w ∈ words SL g, w = SL ∨ (Lets w ∧ w.length ≤ 8)) ∧
  ∀ H', Same H H' → Q (.str (Txt.join " " (rowT g))) H'
/-- rows of texts under way, the innermost first -/
abbrev RowsT (H : Hp) : List Addr → List (Gr Str) → Prop := Paired fun a g => H a = some (.lst ((rowT g).map V.str))
theorem rowsT_mono {H H' : Hp} : ∀ {as : List Addr} {gs : List (Gr Str)}, RowsT H as gs → (∀ b ∈ as, ∀ o, H b = some o → H' b = some o) → RowsT H' as gs
  | _, _, .nil, _ => .nil
  | _, _, .cons h1 t, hk => .cons (hk _ (List.mem_cons_self ..) _ h1) (rowsT_mono t fun b hb => hk b (List.mem_cons_of_mem _ hb))
theorem rowsT_there {H : Hp} : ∀ {as : List Addr} {gs : List (Gr Str)}, RowsT H as gs → ∀ b ∈ as, ∃ o, H b = some o
  | _, _, .nil, _, hb => nomatch hb
  | _, _, .cons h1 t, b, hb => by
    rcases List.mem_cons.mp hb with rfl | hb
    · exact ⟨_, h1⟩
    · exact rowsT_there t b hb
theorem appLast {K : PySem.W.Frag} {H : Hp} {D : Ends} {σ : St} {R b1 : Addr} {l vs : List V} {tx : Str} (h2 : σ[2]? = some (some (.ref R))) (h4 : σ[4]? = some (some (.str tx))) (hR : H R = some (.lst (l ++ [.ref b1]))) (hb : H b1 = some (.lst vs))
    (hl : vs.length < sizeLine) (q : D.nx σ (upd H b1 (.lst (vs ++ [.str tx])))) :
    tDrop (tBM K "list" rAppend (tOp (rIxL K) (tVar 2) (tUn (rU fun i => .int (-i)) (tC (.int 1)))) (tCons (tVar 4) tNil)) D σ H :=
  ⟨_, h2, 1, rfl, R, _, -1, .ref b1, rfl, rfl, SqL.of hR, atI_last _ _, .inl ⟨rfl, _, SqL.of hb⟩, _, h4, b1, _, _, rfl, rfl, hb, hl, q⟩
theorem good_snoc {t : Str} {w : Gr Str} (ht : Lets t ∧ t.length ≤ 8) (hw : GoodT w) : ∀ {g : Gr Str}, GoodT g → GoodT (snoc g t w)
  | .nil, _ => ⟨ht, hw, trivial⟩
  | .cons _ _ _, ⟨a, b, c⟩ => ⟨a, b, good_snoc ht hw c⟩
/-- words tell their grove -/
theorem words_inj_aux {sl : Str} : ∀ {g h : Gr Str} {r s : List Str}, Clean sl g → Clean sl h → (r = [] ∨ ∃ r', r = sl :: r') → (s = [] ∨ ∃ s', s = sl :: s') → words sl g ++ r = words sl h ++ s → g = h ∧ r = s
  | .nil, .nil, _, _, _, _, _, _, e => ⟨rfl, e⟩
  | .nil, .cons t w o, r, s, _, hh, hr, _, e => by
    rcases hr with rfl | ⟨r', rfl⟩
    · exact nomatch e
    · have e' : sl :: r' = t :: (words sl w ++ sl :: words sl o ++ s) := by simpa [words] using e
      exact absurd (List.cons.inj e').1.symm hh.1
  | .cons t w o, .nil, r, s, hg, _, _, hs, e => by
    rcases hs with rfl | ⟨s', rfl⟩
    · exact nomatch e
    · have e' : t :: (words sl w ++ sl :: words sl o ++ r) = sl :: s' := by simpa [words] using e
      exact absurd (List.cons.inj e').1 hg.1
  | .cons t w o, .cons t' w' o', r, s, hg, hh, hr, hs, e => by
    have e' : t :: (words sl w ++ (sl :: (words sl o ++ r))) = t' :: (words sl w' ++ (sl :: (words sl o' ++ s))) := by simpa [words] using e
    obtain ⟨e1, e2⟩ := List.cons.inj e'
    obtain ⟨e3, e4⟩ := words_inj_aux hg.2.1 hh.2.1 (.inr ⟨_, rfl⟩) (.inr ⟨_, rfl⟩) e2
    obtain ⟨_, e5⟩ := List.cons.inj e4
    obtain ⟨e6, e7⟩ := words_inj_aux hg.2.2 hh.2.2 hr hs e5
    exact ⟨by rw [e1, e3, e6], e7⟩
theorem words_inj {sl : Str} {g h : Gr Str} (hg : Clean sl g) (hh : Clean sl h) (e : words sl g = words sl h) : g = h :=
  (words_inj_aux (r := []) (s := []) hg hh (.inl rfl) (.inl rfl) (by simpa using e)).1
end Fg

/-! Texts: their signs walked, cut and compared; all(..) of truths; the comprehension of a tag's test. -/
namespace L2
open PySem PySem.Spec PyProof.Rows
section
variable {P : Program} {w : World} {H : Hp} {h h' : Heap} {a : Addr} {o : HO}
theorem ObjOk.there (x : ObjOk P w H h a o) : ∃ ob, h.get? a = some ob := by
  cases o with
  | lst xs => obtain ⟨_, _, _, _, e⟩ := x; exact ⟨_, e⟩
  | tup xs => obtain ⟨_, _, _, ob, e, _⟩ := x; exact ⟨_, e⟩
  | dK kvs => obtain ⟨_, _, _, _, ob, _, _, e, _⟩ := x; exact ⟨_, e⟩
  | dT kvs => obtain ⟨_, _, _, _, ob, _, _, e, _⟩ := x; exact ⟨_, e⟩
  | set S n => obtain ⟨ob, _, _, _, e, _⟩ := x; exact ⟨_, e⟩
  | ins C dx fs => obtain ⟨_, _, _, e, _⟩ := x; exact ⟨_, e⟩
  | own y => obtain ⟨_, e⟩ := x; exact ⟨_, e⟩
  | xd fs => obtain ⟨_, ⟨_, _, _, e, _⟩, _⟩ := x; exact ⟨_, e⟩
  | rng lo hi => obtain ⟨_, _, _, e⟩ := x; exact ⟨_, e⟩
  | frz ob u => obtain ⟨e, _⟩ := x; exact ⟨_, e⟩
  | tbl ps => exact ⟨_, (show h.get? a = some _ from x)⟩
  | met f y => exact ⟨_, (show h.get? a = some _ from x)⟩
  | ext φ => obtain ⟨_, ⟨_, e⟩, _⟩ := x; exact ⟨_, e⟩
theorem HOk.freshN (x : HOk P w H h) (e : h.get? a = none) : H a = none := by
  cases q : H a with
  | none => rfl
  | some u =>
    obtain ⟨ob, e'⟩ := (x a u q).there
    rw [e] at e'
    cases e'
end
section
variable {X : Cx} {pins : List (Addr × Obj)} {σ : St} {H : Hp} {s : Shared} {h' : Heap}
/-- a new object laid at an address where none stood -/
theorem Inv.laidN {a : Addr} {o : HO} {t' : Nat} (I : Inv X pins σ H s) (k : ∀ b u, s.heap.get? b = some u → h'.get? b = some u) (hp : s.heap.get? a = none) (new : ObjOk X.prog X.w (upd H a o) h' a o) :
    Inv X pins σ (upd H a o) { s with heap := h', toks := t' } := by
  have hn := I.hok.freshN hp
  have ne : ∀ b u, s.heap.get? b = some u → b ≠ a := fun b u e z => by
    rw [z, hp] at e
    cases e
  refine I.un ⟨fun b u q _ _ _ => k b u q, fun b u q _ _ _ => ⟨u.slots, k b u q⟩, fun b u q n _ => by rw [upd_ne (ne b u q)]; exact n, fun b u q _ => ⟨u, k b u q⟩,
    fun b xs q => by rw [upd_ne (ne_of_none q hn)]; exact q, fun b u xs q => by rw [upd_ne (ne_of_none q hn)]; exact q, fun b ps q => ⟨#[], by rw [upd_ne (ne_of_none q hn), q]; simp⟩⟩ fun b u e => ?_
  by_cases hb : b = a
  · subst hb
    rw [upd_same] at e
    cases e
    exact new
  · rw [upd_ne hb] at e
    exact (I.hok b u e).stay (fun c v _ q => k c v q) (fun c q => by rw [upd_ne (ne_of_none q hn)]; exact q) fun c xs q => by rw [upd_ne (ne_of_none q hn)]; exact q
end
/-! ### for x in text -/
def Its (z : Str) : It := ⟨fun i _ => i < z.cps.size, fun i H x H' => H' = H ∧ ∃ c, z.cps[i]? = some c ∧ x = .str ⟨#[c]⟩, fun i _ => z.cps.size ≤ i⟩
def Asc (z : Str) : Prop := z.cps.all (· < 128) = true
theorem turn_str {P : Program} {w : World} {K : PySem.W.Frag} {tg : Expr} (z : Str) (t : Tok) (it : Addr) : Turn P w K tg (Its z) [it] it (fun i h => h.IsStrIter it "str_ascii_iterator" z t i) where
  mem := by simp
  obj := fun i h st b hb => by
    have e : b = it := by simpa using hb
    subst e
    obtain ⟨o, e, c, d⟩ := st
    exact ⟨o, e, fun v y => by rw [d] at y; cases y⟩
  keep := fun i h h' st k => by
    obtain ⟨o, e, r⟩ := st
    exact ⟨o, k it (by simp) o e, r⟩
  item := by
    intro X hP hw hK hc i pins s σ H E I hf st hg
    subst hP hw hK
    have hg' : i < z.cps.size := hg
    obtain ⟨f0, f1, f2, f3, f4, f5⟩ := hf it (by simp)
    have hx : z.cps[i]? = some z.cps[i] := Array.getElem?_eq_getElem hg'
    refine wpAny_pyNext_ascii_item st hx fun h' st' sb => ?_
    have I1 : Inv X pins σ H { s with heap := h', toks := s.toks + 1 } := I.turned (t' := s.toks + 1) (fun b o hb e => (sb.2 b hb).trans e) f0 f1 f3 f4 f5
    obtain ⟨o, e, c, d⟩ := id st'
    exact ⟨_, rfl, go_of (s := { s with heap := h', toks := s.toks + 1 }) e c d (by decide) ⟨.str _, H, I1, ⟨_, rfl⟩, ⟨rfl, _, hx, rfl⟩, st', fun b hb => (hf b hb).1⟩⟩
  done := by
    intro X hP hw hK hc i pins s σ H E I hf st hg
    subst hP hw hK
    have hg' : z.cps.size ≤ i := hg
    obtain ⟨f0, f1, f2, f3, f4, f5⟩ := hf it (by simp)
    exact wpAny_pyNext_ascii_end (I.ok.hd hc) st (Array.getElem?_eq_none hg') fun h' eb => ⟨rfl, I.turned (t' := s.toks) (fun b o hb e => eb b o hb e) f0 f1 f3 f4 f5⟩
  self := fun _ _ _ _ _ st h => wpAny_pyIter_striter_ascii st h
section
variable {X : Cx} {tg : Expr}
def iStr (tl : TE) : TI := fun σ H R => tl σ H fun x H1 => ∃ z, x = .str z ∧ Asc z ∧ R (Its z) H1
theorem pi_str {l : Expr} {tl : TE} (hl : PE X l tl) : PI X tg l (iStr tl) := by
  intro pins s σ H R I h
  refine thn (hl pins s σ H _ I h) fun v s1 ⟨x, H1, I1, r1, q1⟩ => ?_
  obtain ⟨z, e, ha, q⟩ := q1
  subst e
  obtain ⟨t, rfl⟩ := r1
  refine wpAny_pyIter_ascii ha ⟨s1.heap.objs.size, [s1.heap.objs.size], _, _, H1, rfl, I1.kept (t' := s1.toks) fun b o e => Heap.get?_push_of_some _ e, turn_str z t _, ⟨_, Heap.get?_push_size _ rfl, rfl, rfl⟩, fun b hb => ?_, q⟩
  have e : b = s1.heap.objs.size := by simpa using hb
  subst e
  exact I1.fpOk (Nat.le_refl _) (I1.hok.fresh (Nat.le_refl _))
end
theorem for_str {z : Str} {g : TG} {tb : TS} {D : Ends} {σ : St} {H : Hp} (Pv : Nat → St → Hp → Prop) (h0 : Pv 0 σ H)
    (hs : ∀ i c σ H, z.cps.toList[i]? = some c → Pv i σ H → g (.str ⟨#[c]⟩) σ H fun σ2 H2 => tb { D with nx := Pv (i + 1), ct := Pv (i + 1), bk := D.nx } σ2 H2) (hd : ∀ σ H, Pv z.cps.toList.length σ H → D.nx σ H) :
    ∃ W : Nat → Nat → St → Hp → Prop, (∃ m, W 0 m σ H) ∧ ∀ i m σ H, W i m σ H →
      ((Its z).stop i H ∧ D.nx σ H) ∨ ((Its z).go i H ∧ ∃ N : St → Hp → Prop, (∀ σ' H', N σ' H' → ∃ m', m' < m ∧ W (i + 1) m' σ' H') ∧ ∀ x H', (Its z).yld i H x H' → g x σ H' fun σ2 H2 => tb { D with nx := N, ct := N, bk := D.nx } σ2 H2) := by
  have hlen : z.cps.toList.length = z.cps.size := Array.length_toList
  refine ⟨fun i m σ H => m = z.cps.size - i ∧ i ≤ z.cps.size ∧ Pv i σ H, ⟨z.cps.size, by simp, Nat.zero_le _, h0⟩, ?_⟩
  rintro i m σ H ⟨rfl, hi, p⟩
  by_cases hlt : i < z.cps.size
  · refine .inr ⟨hlt, Pv (i + 1), fun σ' H' p' => ⟨z.cps.size - (i + 1), by (first | lia | omega), rfl, hlt, p'⟩, fun x H' y => ?_⟩
    obtain ⟨e, c, hc, hx⟩ := y
    subst e hx
    exact hs i c σ _ (by rw [Array.getElem?_toList]; exact hc) p
  · have e : i = z.cps.size := by (first | lia | omega)
    subst e
    refine .inl ⟨Nat.le_refl _, hd σ H ?_⟩
    rw [hlen]
    exact p
/-! ### all(..), texts compared and cut -/
section
variable {X : Cx}
theorem boolsGet : ∀ {bs : List Bool} {us : List Value}, Vals (bs.map V.bl) us → ∀ (i : Nat) (v : Value), us[i]? = some v → ∃ b, bs[i]? = some b ∧ v = .bool b
  | [], _, .nil, i, v, e => by simp at e
  | b :: bs, _, .cons r t, 0, v, e => by
    obtain rfl : _ = Value.bool b := r
    simp at e
    exact ⟨b, rfl, e.symm⟩
  | b :: bs, _, .cons r t, i + 1, v, e => by
    obtain ⟨c, h1, h2⟩ := boolsGet t i v (by simpa using e)
    exact ⟨c, by simpa using h1, h2⟩
theorem all_range : ∀ (bs : List Bool), ((List.range bs.length).all fun i => (bs[i]?).getD true) = bs.all id := by
  intro bs
  rw [Bool.eq_iff_iff, List.all_eq_true, List.all_eq_true]
  constructor
  · intro h b hb
    obtain ⟨i, hi, rfl⟩ := List.getElem_of_mem hb
    have := h i (List.mem_range.mpr hi)
    rw [List.getElem?_eq_getElem hi] at this
    exact this
  · intro h i hi
    have hi' := List.mem_range.mp hi
    rw [List.getElem?_eq_getElem hi']
    exact h _ (List.getElem_mem hi')
theorem call_all (hc : X.calm = true) : CallR X (.builtin "all") (fun xs H Q => ∃ (p : Addr) (bs : List Bool), xs = [.ref p] ∧ SqL X.K H p (bs.map V.bl) ∧ Q (.bl (bs.all id)) H) := by
  intro pins s σ H xs us Q I r h
  obtain ⟨p, bs, rfl, hS, q⟩ := h
  obtain ⟨u, rfl, ru⟩ := Vals.one r
  cases ru
  obtain ⟨its, rv, pl, hz⟩ := I.list hS
  have hl := pl.isList
  have hlen : bs.length = its.length := by
    have := rv.length
    rw [List.length_map] at this
    exact this
  refine call_all_walk (wpAny_pyIter_list hl ⟨s.heap.objs.size, [s.heap.objs.size, p], [s.heap.objs.size], its.toArray.size, _, _, fun i => (bs[i]?).getD true, rfl,
    Walks.list (A := X.A.in1) (I.ok.hd hc) _ p (Nat.ne_of_lt pl.lt) its.toArray, ⟨⟨_, Heap.get?_push_size _ rfl, rfl, rfl⟩, hl.push _⟩, fun i v s' Q' E' hP hQ => ?_, fun h' tk hk => ?_⟩)
  · obtain ⟨b, e, e2⟩ := boolsGet rv i v (by simpa using hP)
    subst e2
    simp only [e, Option.getD_some] at hQ
    exact wpAny_truthy_bool hQ
  · rw [List.size_toArray, ← hlen, all_range]
    refine ⟨.bl _, H, I.kept (t' := tk) fun b o e => hk b o (fun hm => ?_) (Heap.get?_push_of_some _ e), rfl, q⟩
    rw [List.mem_singleton.mp hm] at e
    exact Nat.lt_irrefl _ (Heap.lt_size e)
theorem sl_str : SlR X (fun x lo hi H Q => ∃ z, x = .str z ∧ z.length ≤ sizeLine ∧ Q (.str (PySem.StrLaws.sliceText z lo hi)) H) := by
  intro pins s σ H x v vl vu lo hi sl Q I rx hs pl pu h
  obtain ⟨z, rfl, hz, q⟩ := h
  obtain ⟨t, rfl⟩ := rx
  refine ⟨"str", _, F.slot_str_getitem.lookup, typeIs_str s z t, ?_⟩
  have key : ∀ l u : Option (Int × Tok), s.heap.IsSlice sl l u none → l.map (·.1) = lo → u.map (·.1) = hi → wpAny (model X.prog X.w) X.A (getItem (.str z t) (.ref sl)) (EP X pins σ Q) X.xe s := by
    intro l u hsl el eu
    refine wpAny_getItem_str_slice hsl rfl ?_
    unfold sliceMade slicePicked
    rw [el, eu]
    unfold PySem.StrLaws.sliceText at q
    by_cases c : ((1 : Int) == 1 && (Builtin.Str.strSliceIndices lo hi 1 z.length).length == z.length) = true
    · rw [if_pos c] at q
      rw [if_pos (show ((((none : Option (Int × Tok)).map (·.1)).getD 1 == 1) && (Builtin.Str.strSliceIndices lo hi (((none : Option (Int × Tok)).map (·.1)).getD 1) z.length).length == z.length) = true from c)]
      exact ⟨.str z, H, I, ⟨_, rfl⟩, q⟩
    · rw [if_neg c] at q
      rw [if_neg (show ¬ ((((none : Option (Int × Tok)).map (·.1)).getD 1 == 1) && (Builtin.Str.strSliceIndices lo hi (((none : Option (Int × Tok)).map (·.1)).getD 1) z.length).length == z.length) = true from c)]
      refine ⟨?_, .str _, H, I.tok _, ⟨_, rfl⟩, q⟩
      show (((Builtin.Str.strSliceIndices lo hi 1 z.length).filterMap (z.cps[·]?)).toArray).size ≤ sizeLine
      rw [List.size_toArray]
      refine Nat.le_trans (List.length_filterMap_le _ _) (Nat.le_trans ?_ hz)
      refine sliceRange_length_le _ _ _ _ (fun _ => ?_) (fun z => absurd (by decide) z)
      cases lo with
      | none =>
        cases hi with
        | none => exact ⟨Int.le_refl 0, Int.le_refl _⟩
        | some j => exact ⟨Int.le_refl 0, by simp only [show (1 : Int) > 0 by decide, if_true]; (first | lia | omega)⟩
      | some i =>
        cases hi with
        | none => exact ⟨by simp only [show (1 : Int) > 0 by decide, if_true]; (first | lia | omega), Int.le_refl _⟩
        | some j => exact ⟨by simp only [show (1 : Int) > 0 by decide, if_true]; (first | lia | omega), by simp only [show (1 : Int) > 0 by decide, if_true]; (first | lia | omega)⟩
  cases pl with
  | none =>
    cases pu with
    | none => exact key none none hs rfl rfl
    | int j tj => exact key none (some (j, tj)) hs rfl rfl
  | int i ti =>
    cases pu with
    | none => exact key (some (i, ti)) none hs rfl rfl
    | int j tj => exact key (some (i, ti)) (some (j, tj)) hs rfl rfl
end
/-! ### ['a' <= x <= 'z' for x in text] -/
def azB (c : Nat) : Bool := decide (97 ≤ c) && decide (c ≤ 122)
theorem lt_one (a b : Nat) : decide (([a] : List Nat) < [b]) = decide (a < b) := by
  have h : (([a] : List Nat) < [b]) ↔ a < b := by
    constructor
    · intro h
      cases h with
      | rel h => exact h
      | cons h => cases h
    · intro h
      exact List.Lex.rel h
  exact decide_eq_decide.mpr h
section
variable {prog : Program} {w : World} {A : Around} {E : Value → Shared → Prop} {s : Shared}
theorem le_az {x y : Str} {t u : Tok} {Q : Value → Shared → Prop} (h : Q (.bool (!decide (y.cps.toList < x.cps.toList))) s) : wpAny (model prog w) A (compareOp .LtE (.str x t) (.str y u)) Q E s := PySem.P.le_str h
theorem ld_az {s₂ : Shared} {C : Addr} {m : Str → Option Value} {sc : Scope} {env : Env} {n : Str} {pos : Pos} {v : Value} {Q : Value → Shared → Prop} (x : InComp s₂ C m s) (hk : sc.kind = .function) (hl : sc.names.lookup n = some .local)
    (hv : m n = some v) (hd : (n == ("__debug__" : Str)) = false) (h : Q v s) : wpAny (model prog w) A (eval (.Name n pos) (compEnv sc C env)) Q E s := PySem.ldK x hk hl hv h hd
theorem elt_az {scope : Scope} {C : Addr} {env : Env} {m : Str → Option Value} {x : Str} {c : Nat} {u : Tok} {j j2 : Nat} {p1 p2 p3 pos : Pos} (hk : scope.kind = .function) (hx : scope.names.lookup x = some .local) (hd : (x == ("__debug__" : Str)) = false)
    (hn : s.heap.Ns C m) (hm : m x = some (.str ⟨#[c]⟩ u)) :
    wpAny (model prog w) A (eval (.Compare (.Constant (.str "a") j p1) [.LtE, .LtE] [.Name x p2, .Constant (.str "z") j2 p3] pos) (compEnv scope C env)) (fun r s' => r = .bool (azB c) ∧ Keeps s s') E s := by
  have I0 := (InComp.start hn).tok (s.toks + 1)
  have ea : ("a" : Str).cps.toList = [97] := by decide +kernel
  have ez : ("z" : Str).cps.toList = [122] := by decide +kernel
  have e1 : decide (([c] : List Nat) < [97]) = decide (c < 97) := lt_one c 97
  have e2 : decide (([122] : List Nat) < [c]) = decide (122 < c) := lt_one 122 c
  refine Compare_chain (Calls.Constant_str ?_)
  refine chain_link ?_
  refine ld_az I0 hk hx hm hd ?_
  refine le_az ?_
  rw [ea]
  show wpAny (model prog w) A (truthy (.bool (!decide (([c] : List Nat) < [97])))) _ _ _
  rw [e1]
  refine wpAny_truthy_bool ?_
  by_cases h1 : c < 97
  · rw [decide_eq_true h1]
    refine ite_ff ⟨?_, I0.done⟩
    unfold azB
    rw [decide_eq_false (by (first | lia | omega) : ¬ 97 ≤ c)]
    rfl
  · rw [decide_eq_false h1]
    refine ite_tt ?_
    refine chain_last ?_
    refine Calls.Constant_str ?_
    refine le_az ?_
    rw [ez]
    refine ⟨?_, (I0.tok _).done⟩
    show Value.bool (!decide (([122] : List Nat) < [c])) = _
    rw [e2]
    unfold azB
    rw [decide_eq_true (by (first | lia | omega) : 97 ≤ c)]
    by_cases h2 : c ≤ 122
    · rw [decide_eq_true h2, decide_eq_false (by (first | lia | omega))]
      rfl
    · rw [decide_eq_false h2, decide_eq_true (by (first | lia | omega))]
      rfl
end
theorem azVals : ∀ {cs : List Nat} {vs us : List Value}, (∀ (j : Nat) (v : Value), vs[j]? = some v → ∃ (c : Nat) (u : Tok), cs[j]? = some c ∧ v = Value.str ⟨#[c]⟩ u) → vs.length = cs.length → Paired (fun v r => ∃ c u, v = Value.str ⟨#[c]⟩ u ∧ r = Value.bool (azB c)) vs us →
    Vals (cs.map fun c => .bl (azB c)) us
  | [], [], _, _, _, .nil => .nil
  | [], v :: vs, _, _, h, _ => by simp at h
  | c :: cs, [], _, _, h, _ => by simp at h
  | c :: cs, v :: vs, _, hP, hl, .cons hr t => by
    obtain ⟨c', u', e1, e2⟩ := hP 0 v rfl
    obtain ⟨c2, u2, e3, e4⟩ := hr
    simp at e1
    subst e1
    rw [e2] at e3
    injection e3 with e5 _
    injection e5 with e6
    simp at e6
    subst e6
    refine .cons e4 (azVals (fun j v hv => ?_) (by simpa using hl) t)
    obtain ⟨c3, u3, f1, f2⟩ := hP (j + 1) v (by simpa using hv)
    exact ⟨c3, u3, by simpa using f1, f2⟩
section
variable {X : Cx} {iter : Expr} {te : TE} {scope : Scope} {x : Str} {px p1 p2 p3 p4 pos : Pos} {j j2 : Nat}
theorem pe_comp_az (hi : PE X iter te) (hc : X.calm = true) (hfree : ∀ y ∈ scope.names, y.2 ≠ .free) (hcell : ∀ y ∈ scope.names, y.2 ≠ .cell) (hk : scope.kind = .function)
    (hnames : ∀ y ∈ scope.names, y.2 = .local → scope.names.lookup y.1 = some .local) (hx : scope.names.lookup x = some .local) (hd : (x == ("__debug__" : Str)) = false) (hs : ∀ v, foldedSetIterable iter X.env v = pure v) :
    PE X (.ListComp (.Compare (.Constant (.str "a") j p1) [.LtE, .LtE] [.Name x p2, .Constant (.str "z") j2 p3] p4) [⟨.Name x px, iter, [], 0⟩] scope pos)
      (fun σ H Q => te σ H fun v H1 => ∃ z, v = .str z ∧ z.length ≤ sizeLine ∧ ∀ p, H1 p = none → Q (.ref p) (upd H1 p (.lst (z.cps.toList.map fun c => .bl (azB c))))) := by
  intro pins s σ H Q I h
  refine wpAny_ListComp_walk (fun _ => true) (fun v r => ∃ c u, v = Value.str ⟨#[c]⟩ u ∧ r = Value.bool (azB c)) hfree hcell hk hnames hx (thn (hi pins s σ H _ I h) fun v s1 ⟨xv, H1, I1, r1, q1⟩ => ?_) hs
  obtain ⟨z, rfl, hz, q⟩ := q1
  obtain ⟨t, rfl⟩ := r1
  refine wpAny_pyIter_str fun o St W hst => ⟨s1.heap.objs.size, [s1.heap.objs.size], [s1.heap.objs.size], z.cps.size, SignAt z, St, rfl, W X.A (I1.ok.hd hc), hz, hst, fun b hb => ?_, ⟨?_, ?_⟩, ?_⟩
  · show b < (s1.heap.push o).objs.size
    rw [Heap.size_push, List.mem_singleton.mp hb]
    exact Nat.lt_succ_self _
  · intro C i v s3 m3 E' hP hn hm _ _
    exact wpAny_pure ⟨rfl, (InComp.start hn).done⟩
  · intro C i v s3 m3 E' hP hp hn hm _ _
    obtain ⟨c, u, _, e⟩ := hP
    subst e
    exact wpAny_mono (elt_az hk hx hd hn hm) (fun r s4 h4 => ⟨⟨c, u, rfl, h4.1⟩, h4.2⟩) fun _ _ e => e
  · intro D h' tk ys vs hnew hlD hplD hlen hP hF hkp
    have hF' : Paired (fun v r => ∃ c u, v = Value.str ⟨#[c]⟩ u ∧ r = Value.bool (azB c)) vs ys.toList := by
      rw [List.filter_eq_self.mpr (fun _ _ => rfl)] at hF
      exact hF
    have hV := azVals (cs := z.cps.toList) (fun j v hv => by
      obtain ⟨c, u, e1, e2⟩ := hP j v hv
      exact ⟨c, u, by rw [Array.getElem?_toList]; exact e1, e2⟩) (by rw [hlen, Array.length_toList]) hF'
    have up : ∀ b ob, s1.heap.get? b = some ob → h'.get? b = some ob := fun b ob e => hkp b ob (fun hm => by
      rw [List.mem_singleton.mp hm] at e
      exact Nat.lt_irrefl _ (Heap.lt_size e)) (Heap.get?_push_of_some _ e)
    have hD : s1.heap.get? D = none := by
      cases e : s1.heap.get? D with
      | none => rfl
      | some ob =>
        rw [Heap.get?_push_of_some _ e] at hnew
        cases hnew
    obtain ⟨nD, eD⟩ := hplD
    refine ⟨.ref D, _, I1.laidN (a := D) (o := .lst (z.cps.toList.map fun c => .bl (azB c))) (t' := tk) up hD ⟨?_, ys.toList, nD, hV, by rw [Array.toArray_toList]; exact eD⟩, rfl, q D (I1.hok.freshN hD)⟩
    rw [List.length_map, Array.length_toList]
    exact hz
end
end L2

namespace L2
open PySem
theorem bt_all : bootBuiltins "all" = some (.builtin "all") := by decide +kernel
end L2
namespace Fg
open PySem L2 FgM
def tagB (z : Str) : Bool := decide (1 ≤ z.length) && decide (z.length ≤ 8) && z.cps.toList.all azB
def spIsTag : Sp := fun vs H Q _ => ∃ z : Str, vs = [.str z] ∧ z.length ≤ 100000 ∧ ∀ H', Same H H' → Q (.bl (tagB z)) H'
def AscL (z : Str) : Prop := ∀ c ∈ z.cps.toList, c < 128
theorem AscL.asc {z : Str} (h : AscL z) : Asc z := by
  unfold Asc
  rw [Array.all_eq_true_iff_forall_mem]
  intro c hc
  exact decide_eq_true (h c (by simpa using hc))
theorem Let0.ascL {z : Str} (h : Let0 z) : AscL z := fun c hc => by
  have := h c hc
  (first | lia | omega)
theorem ascL_app {x y : Str} (hx : AscL x) (hy : AscL y) : AscL (x ++ y) := fun c hc => by
  rw [app_cps] at hc
  exact (List.mem_append.mp hc).elim (hx c) (hy c)
theorem notin_all : ∀ c : _root_.Fin 128, (Builtin.Str.occurrences ABC ⟨#[c.val]⟩ 0 ABC.length 1).isEmpty = !azB c.val := by decide +kernel
theorem notin_az {c : Nat} (h : c < 128) : (Builtin.Str.occurrences ABC ⟨#[c]⟩ 0 ABC.length 1).isEmpty = !azB c := notin_all ⟨c, h⟩
def SIG : Str := (" !\"#$&'()*+,-./0123456789:;<=>?@ABCDEFGHIJKLMNOPQRSTUVWXYZ[\\]^_`" : Str) ++ ("abcdefghijklmnopqrstuvwxyz{|}~" : Str)
theorem sig_all : ∀ n : _root_.Fin 94, SIG.cps.toList.getD n.val 0 < 128 ∧ n.val < SIG.cps.toList.length := by decide +kernel
theorem sig_at {i : Int} (h0 : 0 ≤ i) (h1 : i < 94) : ∃ c, atI SIG.cps.toList i = some c ∧ c < 128 := by
  obtain ⟨n, rfl⟩ := Int.eq_ofNat_of_zero_le h0
  obtain ⟨a, c⟩ := sig_all ⟨n, by (first | lia | omega)⟩
  refine ⟨_, atI_nat (List.getElem?_eq_getElem c), ?_⟩
  rw [List.getD_eq_getElem?_getD, List.getElem?_eq_getElem c] at a
  exact a
end Fg

/-! for i, x in enumerate(xs) -/
namespace L2
open PySem PySem.Spec PyProof.Rows
theorem bt_enumerate : bootBuiltins "enumerate" = some (.type "enumerate") := by decide +kernel
def Ite (K : PySem.W.Frag) (l : Addr) : It :=
  ⟨fun i H => ∃ xs x, SqL K H l xs ∧ xs[i]? = some x, fun i H x H' => ∃ p, H p = none ∧ x = .ref p ∧ ∀ xs, SqL K H l xs → ∃ y, xs[i]? = some y ∧ H' = upd H p (.tup [.int i, y]), fun i H => ∃ xs, SqL K H l xs ∧ xs.length ≤ i⟩
theorem turn_enum {P : Program} {w : World} {K : PySem.W.Frag} {elts : List Expr} {x1} {tp : Pos} (l e it : Addr) (hne : e ≠ it) :
    Turn P w K (.Tuple elts x1 tp) (Ite K l) [e, it] e (fun i h => (∃ old, IsEnum h e it (i : Int) old) ∧ h.IsListIter it l i) where
  mem := by simp
  obj := fun i h st b hb => by
    obtain ⟨⟨old, he⟩, o, ho, hc, hd⟩ := st
    rcases List.mem_cons.mp hb with rfl | hb
    · exact ⟨_, he, fun v z => by cases z⟩
    · obtain rfl := List.mem_singleton.mp hb
      exact ⟨o, ho, fun v z => by rw [hd] at z; cases z⟩
  keep := fun i h h' st k => by
    obtain ⟨⟨old, he⟩, o, ho, r⟩ := st
    exact ⟨⟨old, k e (by simp) _ he⟩, o, k it (by simp) o ho, r⟩
  item := by
    intro X hP hw hK hc i pins s σ H E I hf st hg
    subst hP hw hK
    obtain ⟨⟨old, he⟩, hit⟩ := st
    obtain ⟨xs, x, hq, hx⟩ := hg
    obtain ⟨its, rv, pl, hz⟩ := I.list hq
    obtain ⟨u, hu, ru⟩ := rv.get hx
    have fe := hf e (by simp)
    have fi := hf it (by simp)
    refine wpAny_pyNext_enum_item he hit pl.isList (x := u) (by simpa using hu) hne fun h1 he1 hit1 ht1 hz1 hk1 => ⟨_, rfl, wpAny_letOwnedTupleGo_enum he1 fun h2 he2 hs2 => ?_⟩
    have hfresh : H s.heap.objs.size = none := I.hok.fresh (Nat.le_refl _)
    have nee : s.heap.objs.size ≠ e := Nat.ne_of_gt (Heap.lt_size he)
    obtain ⟨oi, hoi, _⟩ := id hit
    have nei : s.heap.objs.size ≠ it := Nat.ne_of_gt (Heap.lt_size hoi)
    have kp : ∀ b o, b ∉ [e, it] → s.heap.get? b = some o → h2.get? b = some o := fun b o hb q => by
      have b1 : b ≠ e := fun z => hb (by rw [z]; simp)
      have b2 : b ≠ it := fun z => hb (by rw [z]; simp)
      exact (hs2.2 b b1).trans (hk1 b o b1 b2 q)
    have hp2 : h2.get? s.heap.objs.size = some { cls := .type "tuple", data := .seq #[.int i s.toks, u] } := (hs2.2 _ nee).trans ht1
    have nb : ∀ b o, s.heap.get? b = some o → b ≠ s.heap.objs.size := fun b o q => Nat.ne_of_lt (Heap.lt_size q)
    have tracked : ∀ b o, H b = some o → b ∉ [e, it] := fun b o q hb => by
      rcases List.mem_cons.mp hb with rfl | hb
      · rw [fe.1] at q
        cases q
      · obtain rfl := List.mem_singleton.mp hb
        rw [fi.1] at q
        cases q
    have it2 : h2.IsListIter it l (i + 1) := by
      obtain ⟨o, ho, r⟩ := hit1
      exact ⟨o, (hs2.2 it hne.symm).trans ho, r⟩
    have hok2 : HOk X.prog X.w (upd H s.heap.objs.size (.tup [.int i, x])) h2 := fun b o q => by
      by_cases hb : b = s.heap.objs.size
      · subst hb
        rw [upd_same] at q
        cases q
        exact ⟨by show 2 ≤ sizeLine; decide, [.int i s.toks, u], .cons ⟨_, rfl⟩ (.cons ru .nil), _, hp2, rfl, _, rfl⟩
      · rw [upd_ne hb] at q
        refine (I.hok b o q).stay (fun c v hcv r => kp c v ?_ r) (fun c r => by rw [upd_ne (ne_of_none r hfresh)]; exact r) fun c ys r => by rw [upd_ne (ne_of_none r hfresh)]; exact r
        rcases hcv with rfl | hcv
        · exact tracked _ _ q
        · exact tracked _ _ hcv
    have I2 : Inv X pins σ (upd H s.heap.objs.size (.tup [.int i, x])) { s with heap := h2, gens := s.gens, drawn := s.drawn, toks := s.toks + 1 } := by
      refine I.step (ch := [e, it]) (fun b hb => ?_) (fun b o _ _ hb q _ => kp b o hb q) (fun b o _ _ hb q _ => ⟨o.slots, kp b o hb q⟩) (fun b o _ q n => by rw [upd_ne (nb b o q)]; exact n) (fun b o hb q => ⟨o, kp b o hb q⟩)
        (fun b ys q => by rw [upd_ne (ne_of_none q hfresh)]; exact q) (fun b o ys q => by rw [upd_ne (ne_of_none q hfresh)]; exact q) (fun b ps q => ⟨#[], by rw [upd_ne (ne_of_none q hfresh), q]; simp⟩) (fun m hm => ?_) hok2 I.bare
      · have f : FpOk X pins H b := hf b hb
        exact ⟨f.2.2.2.1, f.2.1, f.2.2.2.2.1, f.2.2.2.2.2⟩
      · obtain ⟨o, es, ep, ho, r⟩ := hm
        refine ⟨o, es, ep, kp _ o (fun hb => ?_) ho, r⟩
        exact (hf _ hb).2.1 rfl
    refine ⟨.ref s.heap.objs.size, _, I2, rfl, ⟨_, hfresh, rfl, fun ys hy => ⟨x, by rw [I.list_inj hy hq]; exact hx, rfl⟩⟩, ⟨⟨_, he2⟩, it2⟩, fun b hb => ?_⟩
    rcases List.mem_cons.mp hb with rfl | hb
    · rw [upd_ne nee.symm]
      exact fe.1
    · obtain rfl := List.mem_singleton.mp hb
      rw [upd_ne nei.symm]
      exact fi.1
  done := by
    intro X hP hw hK hc i pins s σ H E I hf st hg
    subst hP hw hK
    obtain ⟨⟨old, he⟩, hit⟩ := st
    obtain ⟨xs, hq, hx⟩ := hg
    obtain ⟨its, rv, pl, hz⟩ := I.list hq
    obtain ⟨f0, f1, f2, f3, f4, f5⟩ := hf it (by simp)
    have hlen := rv.length
    exact wpAny_pyNext_enum_end (I.ok.hd hc) he hit pl.isList (by simp; (first | lia | omega)) fun h' eb => ⟨rfl, I.turned (t' := s.toks) (fun b o hb q => eb b o hb q) f0 f1 f3 f4 f5⟩
  self := fun _ _ _ _ _ st h => by
    obtain ⟨⟨old, he⟩, _⟩ := st
    exact wpAny_pyIter_enum he h
section
variable {X : Cx} {elts : List Expr} {x1 : Nat} {tp : Pos}
def iEnum (K : PySem.W.Frag) (tl : TA) : TI := fun σ H R => tl σ H fun vs H1 => ∃ a xs, vs = [.ref a] ∧ SqL K H1 a xs ∧ R (Ite K a) H1
theorem pi_enum {l : Expr} {ta : TA} {p pos : Pos} (hg : Gl X "enumerate") (hm : X.mg "enumerate" = none) (ha : PA X [l] ta) (hs : starEach [l] X.env = [(false, eval l X.env)] := by rfl) :
    PI X (.Tuple elts x1 tp) (.Call (.Name "enumerate" p) [l] [] pos) (iEnum X.K ta) := by
  intro pins s σ H R I h
  refine Call_ (ld_blt I hg hm bt_enumerate (PyProof.Rows.callWith_type1 (thn (ha pos pins s σ H _ I h) fun us s1 ⟨vs, H1, I1, r1, q1⟩ => ?_) hs rfl))
  obtain ⟨a, xs, e, hq, q⟩ := q1
  subst e
  obtain ⟨u, rfl, ru⟩ := Vals.one r1
  cases ru
  obtain ⟨its, rv, pl, hz⟩ := I1.list hq
  refine call_enumerate_list pl.isList fun h' he hit hz' hk => wpAny_pyIter_enum he ?_
  refine ⟨s1.heap.objs.size + 1, [s1.heap.objs.size + 1, s1.heap.objs.size], _, _, H1, rfl, I1.kept (t' := s1.toks) hk, turn_enum a _ _ (Nat.succ_ne_self _), ⟨⟨_, he⟩, hit⟩, fun b hb => ?_, q⟩
  have hb' : s1.heap.objs.size ≤ b := by
    rcases List.mem_cons.mp hb with rfl | hb
    · exact Nat.le_succ _
    · rw [List.mem_singleton.mp hb]
      exact Nat.le_refl _
  exact I1.fpOk hb' (I1.hok.fresh hb')
end
theorem for_enum {K : PySem.W.Frag} {a : Addr} {xs : List V} {g : TG} {tb : TS} {D : Ends} {σ : St} {H : Hp} (Pv : Nat → St → Hp → Prop) (h0 : Pv 0 σ H) (hl : ∀ i σ H, i ≤ xs.length → Pv i σ H → SqL K H a xs)
    (hs : ∀ i y p σ H, xs[i]? = some y → Pv i σ H → H p = none → g (.ref p) σ (upd H p (.tup [.int i, y])) fun σ2 H2 => tb { D with nx := Pv (i + 1), ct := Pv (i + 1), bk := D.nx } σ2 H2) (hd : ∀ σ H, Pv xs.length σ H → D.nx σ H) :
    ∃ W : Nat → Nat → St → Hp → Prop, (∃ m, W 0 m σ H) ∧ ∀ i m σ H, W i m σ H →
      ((Ite K a).stop i H ∧ D.nx σ H) ∨ ((Ite K a).go i H ∧ ∃ N : St → Hp → Prop, (∀ σ' H', N σ' H' → ∃ m', m' < m ∧ W (i + 1) m' σ' H') ∧ ∀ x H', (Ite K a).yld i H x H' → g x σ H' fun σ2 H2 => tb { D with nx := N, ct := N, bk := D.nx } σ2 H2) := by
  refine ⟨fun i m σ H => m = xs.length - i ∧ i ≤ xs.length ∧ Pv i σ H, ⟨xs.length, by simp, Nat.zero_le _, h0⟩, ?_⟩
  rintro i m σ H ⟨rfl, hi, p⟩
  have q := hl i σ H hi p
  by_cases hlt : i < xs.length
  · refine .inr ⟨⟨xs, xs[i], q, by simp [hlt]⟩, Pv (i + 1), fun σ' H' p' => ⟨xs.length - (i + 1), by (first | lia | omega), rfl, hlt, p'⟩, fun x H' y => ?_⟩
    obtain ⟨b, hb, hx, hy⟩ := y
    obtain ⟨z, hz, hH⟩ := hy xs q
    subst hx hH
    exact hs i z b σ H hz p hb
  · have e : i = xs.length := by (first | lia | omega)
    subst e
    exact .inl ⟨⟨xs, q, Nat.le_refl _⟩, hd σ H p⟩
end L2

/-! [elt for tg in iter]: the block as a context of its own -/
namespace L2
open PySem PySem.Spec PyProof.Rows
section
variable {prog : Program} {w : World} {A : Around} {s : Shared} {R : Result → Shared → Prop}
end
section
variable {X : Cx} {pins : List (Addr × Obj)} {σ : St} {H : Hp} {s : Shared}
end
end L2

namespace L2
open PySem PySem.Spec PyProof.Rows
section
variable {X : Cx} {elt iter tg : Expr} {scope : Scope} {pos : Pos} {wi : TI} {g : TG} {te : TE} {cl : List (Str × Addr)}
end
end L2

/-! [elt for tg in iter if ct] -/
namespace L2
open PySem PySem.Spec PyProof.Rows
section
variable {prog : Program} {w : World} {A : Around} {s : Shared} {R : Result → Shared → Prop}
end
section
variable {X : Cx} {elt ct iter tg : Expr} {scope : Scope} {pos : Pos} {wi : TI} {g : TG} {tt : TT} {te : TE} {cl : List (Str × Addr)}
end
end L2

/-! < of lists and of tuples, place by place, of data at any depth -/
namespace PySem.SeqAt
open AutoSeq1 (wpAny_loadPart')
open MeetsSeq MeetsSeq2 MeetsSeq3 SeqRoads2
section
variable {A : Around} {s : Shared}
end
end PySem.SeqAt

/-! < of data: one relation for ints, texts, lists and tuples of them -/
namespace L2
open PySem PySem.Spec PyProof.Rows PySem.SeqAt
section
variable {X : Cx}
end
end L2

/-! min(l, key=f, default=d) over a list, the key a def of the text -/
namespace L2
open PySem PySem.Spec PyProof.Rows PySem.SeqAt
section
variable {X : Cx} {pins : List (Addr × Obj)} {σ : St} {H : Hp} {s : Shared}
end
section
variable {X : Cx} {pins : List (Addr × Obj)} {σ : St} {H : Hp} {s : Shared} {k : Nat} {f : Addr} {fd : FuncData} {ps : List Str} {sp : Sp} {Q : VK} {l p it : Addr} {xs : List V} {W : Nat → V → V → Hp → Prop}
end
end L2
namespace L2
open PySem PySem.Spec PyProof.Rows PySem.SeqAt
section
variable {X : Cx} {pins : List (Addr × Obj)} {σ : St} {H : Hp} {s : Shared} {k : Nat} {f : Addr} {fd : FuncData} {ps : List Str} {sp : Sp} {Q : VK} {l p it : Addr} {xs : List V} {W : Nat → V → V → Hp → Prop} {ud : Value}
end
end L2
namespace L2
open PySem PySem.Spec PyProof.Rows PySem.SeqAt
section
variable {X : Cx} {pins : List (Addr × Obj)} {σ : St} {H : Hp} {s : Shared} {k : Nat} {f : Addr} {fd : FuncData} {ps : List Str} {sp : Sp} {Q : VK}
end
end L2
namespace L2
open PySem PySem.Spec PyProof.Rows PySem.SeqAt
section
variable {X : Cx} {x : Str} {ps : List Str} {j k : Nat} {sp : Sp} {e dx : Expr} {te td : TE} {p p2 pos kp kp2 : Pos}
end
end L2

/-! the order of groves: the promises of rank, before, least_among -/
namespace Fg
open PySem L2 FgM PySem.SeqAt
def OkW (ws : List Str) : Prop := ∀ x ∈ ws, PyData.strOk x = true
end Fg

/-! == of groves, whatever their depth: the data of a grove -/
namespace L2
open PySem PySem.Spec PyProof.Rows
section
variable {X : Cx}
def rEqDn (K : PySem.W.Frag) (n : Nat) (neg : Bool) : R2 := fun x y H Q => ∃ d e, Dp K H x d ∧ Dp K H y e ∧ d.canLay0 = true ∧ e.canLay0 = true ∧ min d.depth e.depth ≤ n ∧ Q (.bl (if neg then !PyData.eqv d e else PyData.eqv d e)) H
theorem op_eqDn {n : Nat} (hu : X.A.units + n < cLine) : OpR X (compareOp .Eq) (rEqDn X.K n false) := by
  intro pins s σ H x y v u Q I rx ry h
  obtain ⟨d, e, hx, hy, h1, h2, hd, q⟩ := h
  obtain ⟨as, ra⟩ := hx.reads I rx
  obtain ⟨bs, rb⟩ := hy.reads I ry
  exact PySem.SeqAt.compareEq_reads ra rb h1 h2 (by (first | lia | omega)) ⟨.bl _, H, I, rfl, q⟩
end
end L2
namespace Fg
open PySem L2 FgM
def dataG : Gr Str → List PyData
  | .nil => []
  | .cons t w o => .tuple [.str t, .tuple (dataG w)] :: dataG o
theorem dpG {K : PySem.W.Frag} {H : Hp} : ∀ {xs : List V} {g : Gr Str}, RepG H xs g → DpAll K H xs (dataG g)
  | _, _, .nil => .nil
  | _, _, .cons a b c d => .cons (.tup (SqT.of a) (.cons (.str _) (.cons (.tup (SqT.of b) (dpG c)) .nil))) (dpG d)
theorem depthG : ∀ g : Gr Str, PyData.depthAll (dataG g) ≤ (words SL g).length
  | .nil => Nat.zero_le _
  | .cons t w o => by
    have h1 := depthG w
    have h2 := depthG o
    show max (max 0 (max (PyData.depthAll (dataG w) + 1) 0) + 1) (PyData.depthAll (dataG o)) ≤ (words SL (.cons t w o)).length
    simp only [words, List.length_cons, List.length_append]
    (first | lia | omega)
theorem layG : ∀ g : Gr Str, OkW (words SL g) → PyData.canLayAll0 (dataG g) = true
  | .nil, _ => rfl
  | .cons t w o, h => by
    have ht : PyData.strOk t = true := h t (by simp [words])
    have hw : OkW (words SL w) := fun x hx => h x (by simp [words, hx])
    have ho : OkW (words SL o) := fun x hx => h x (by simp [words, hx])
    show ((PyData.strOk t && ((PyData.canLayAll0 (dataG w)) && true)) && PyData.canLayAll0 (dataG o)) = true
    rw [ht, layG w hw, layG o ho]
    rfl
/-- two groves of the same shape are equal -/
theorem eq_grove {K : PySem.W.Frag} {H : Hp} {a b : Addr} {xs ys : List V} {g : Gr Str} {Q : VK} (hA : SqT K H a xs) (hB : SqT K H b ys) (hG : RepG H xs g) (hG' : RepG H ys g) (ok : OkW (words SL g)) (hl : (words SL g).length ≤ 1000) (q : Q (.bl true) H) : rEqDn K 1001 false (.ref a) (.ref b) H Q := by
  have hy : (PyData.tuple (dataG g)).canLay0 = true := layG g ok
  have hd := depthG g
  refine ⟨.tuple (dataG g), .tuple (dataG g), .tup hA (dpG hG), .tup hB (dpG hG'), hy, hy, ?_, ?_⟩
  · show min (PyData.depthAll (dataG g) + 1) (PyData.depthAll (dataG g) + 1) ≤ 1001
    (first | lia | omega)
  · show Q (.bl (PyData.eqv _ _)) H
    rw [PySem.SeqAt.eqv_refl _ hy]
    exact q
end Fg

namespace L2
open PySem PySem.Spec PyProof.Rows PySem.SeqAt
/-! list(reversed(l)) -/
section
variable {prog : Program} {w : World} {A : Around} {E : Value → Shared → Prop} {s : Shared}
end
section
variable {X : Cx} {e : Expr} {te : TE} {p p' pos pos' : Pos}
end
end L2

/-! the reading of [e for x in l], and what a block without captured names is -/
namespace L2
open PySem PySem.Spec PyProof.Rows
end L2
namespace FgM
end FgM

/-! x = [elt for tg in iter], x = [elt for tg in iter if ct]: the name is bound ahead of the block's end -/
namespace L2
open PySem PySem.Spec PyProof.Rows
section
variable {X : Cx} {elt iter tg : Expr} {scope : Scope} {pos : Pos} {wi : TI} {g : TG} {te : TE} {cl : List (Str × Addr)}
end
end L2
namespace L2
open PySem PySem.Spec PyProof.Rows
section
variable {X : Cx} {elt ct iter tg : Expr} {scope : Scope} {pos : Pos} {wi : TI} {g : TG} {tt : TT} {te : TE} {cl : List (Str × Addr)}
end
end L2

namespace L2
open PySem PySem.Spec PyProof.Rows

/-! ### lists of pairs as tables -/
section
variable {κ : Type} [DecidableEq κ]
end


/-! ### a tracked dict, its keys ints and texts or tuples of these -/
section
variable {P : Program} {w : World} {H : Hp} {h : Heap} {a : Addr}
end

section
variable {X : Cx} {pins : List (Addr × Obj)} {σ : St} {H : Hp} {s : Shared} {a : Addr} {y v : V} {u r : Value} {o : Option V} {A : Around} {E : Value → Shared → Prop}

end

section
variable {X : Cx} {pins : List (Addr × Obj)} {σ : St} {H : Hp} {s : Shared} {a : Addr} {kvs : List (Key × V)} {k : Key} {u : Value} {A : Around} {E : Value → Shared → Prop}
end


/-! ### readings and rules -/
section
variable {X : Cx} {o i e value : Expr} {pos pos' tpos : Pos} {td ty tv : TE}
end


/-! ### displays -/
section
variable {X : Cx} {pos : Pos}
end

/-! ### methods -/
section
variable {X : Cx} {pins : List (Addr × Obj)} {σ : St} {H : Hp} {s : Shared} {a : Addr} {y d : V} {u r : Value} {o : Option V} {A : Around} {E : Value → Shared → Prop}
end

section
variable {X : Cx} {o e f : Expr} {apos cpos : Pos} {td ty tx : TE}
end

/-! ### dict(d): a copy -/
section
variable {X : Cx} {pins : List (Addr × Obj)} {σ : St} {H : Hp} {s : Shared} {a : Addr} {kvs : List (Key × V)} {A : Around} {E : Value → Shared → Prop}
end


section
variable {X : Cx} {pins : List (Addr × Obj)} {σ : St} {H : Hp} {s : Shared} {a : Addr} {y : V} {u : Value} {A : Around} {E : Value → Shared → Prop}
end
end L2
namespace L2
open PySem PySem.Spec PyProof.Rows
/-! ### a dict's pairs: keys that differ -/
section
variable {κ : Type} [DecidableEq κ]
end
end L2
/-! own classes: their methods and their making, as Has; a statement that is never come to; int(truth) -/
namespace L2
open PySem PySem.Spec PyProof.Rows
structure HasM (P : Program) (w : World) (K : PySem.W.Frag) (mg : Str → Option Value) (base : Heap) (C : Addr) (m : Str) (ps : List Str) (j : Nat) (sp : Sp) : Prop where
  ex : ∃ f fd, FnOk P w K mg base CX0 j f fd ps sp ∧ Binds K fd ps [] ∧ Meth K C m f
structure HasC (P : Program) (w : World) (K : PySem.W.Frag) (mg : Str → Option Value) (base : Heap) (C : Addr) (x : Str) (ps : List Str) (j : Nat) (sp : Sp) : Prop where
  ex : ∃ f fd, FnOk P w K mg base CX0 j f fd ps sp ∧ Binds K fd ps [] ∧ Mk K C f ∧ mg x = some (.ref C)
section
variable {X : Cx} {C : Addr} {m x : Str} {ps : List Str} {j k : Nat} {sp : Sp} {o e : Expr} {es : List Expr} {ta : TE} {t : TA} {p pos apos : Pos}
theorem pe_hasm {pl : Sem Bool} (G : HasM X.prog X.w X.K X.mg X.base C m ps j sp) (hr : Room k X.A) (he : PE X o ta) (c : Cls X.K C) (ha : PA X (e :: es) t) (hk : j ≤ k := by decide)
    (hst : starEach (e :: es) X.env = (false, eval e X.env) :: starEach es X.env := by rfl) (hpl : (backTo pos (starEach es X.env)).any (·.1) = false := by rfl)
    (ht : eval (.Call (.Attribute o m apos) (e :: es) [] pos) X.env = (do
      let ov ← eval o X.env
      standAt apos.atName
      let (f, first) ← holding [ov] (getMethod ov m pl)
      callWith pos f first (backTo pos (starEach (e :: es) X.env)) (backToKw pos (keywordEach [] X.env))) := by rfl) : PE X (.Call (.Attribute o m apos) (e :: es) [] pos) (tMeth C m sp [] E0 ta t) := by
  obtain ⟨f, fd, F, b, hm⟩ := G.ex
  exact pe_meth (pl := pl) he c hm (F.room hk) hr b .nil pass0 ha hst hpl ht
theorem pe_hasm0 {pl : Sem Bool} (G : HasM X.prog X.w X.K X.mg X.base C m ps j sp) (hr : Room k X.A) (he : PE X o ta) (c : Cls X.K C) (hk : j ≤ k := by decide)
    (ht : eval (.Call (.Attribute o m apos) [] [] pos) X.env = (do
      let ov ← eval o X.env
      standAt apos.atName
      let (f, first) ← holding [ov] (getMethod ov m pl)
      callWith pos f first (backTo pos (starEach [] X.env)) (backToKw pos (keywordEach [] X.env))) := by rfl) : PE X (.Call (.Attribute o m apos) [] [] pos) (tMeth C m sp [] E0 ta tNil) := by
  obtain ⟨f, fd, F, b, hm⟩ := G.ex
  exact pe_meth0 (pl := pl) he c hm (F.room hk) hr b .nil pass0 ht
theorem pe_hasc0 (G : HasC X.prog X.w X.K X.mg X.base C x ps j sp) (hr : Room k X.A) (hg : Gl X x) (hk : j + 1 ≤ k := by decide) (hdb : (x == ("__debug__" : Str)) = false := by decide) : PE X (.Call (.Name x p) [] [] pos) (tMake C sp [] E0 tNil) := by
  obtain ⟨f, fd, F, b, M, hm⟩ := G.ex
  exact pe_make0 M F (hr.mono hk) hg hm b .nil pass0 hdb
end
end L2
namespace L2
open PySem PySem.Spec PyProof.Rows
theorem call_intB {X : Cx} : CallR X (.type "int") (fun xs H Q => ∃ b, xs = [.bl b] ∧ Q (.int (if b = true then 1 else 0)) H) := by
  intro pins s σ H xs us Q I r h
  obtain ⟨b, rfl, q⟩ := h
  obtain ⟨u, rfl, ru⟩ := vals1 r
  cases ru
  exact call_int_bool ⟨.int (if b = true then 1 else 0), H, I.tok _, ⟨_, rfl⟩, q⟩
end L2

/-! for i, c in enumerate(text) -/
namespace L2
open PySem PySem.Spec PyProof.Rows
def Ites (z : Str) : It := ⟨fun i _ => i < z.cps.size, fun i H x H' => ∃ p c, H p = none ∧ x = .ref p ∧ z.cps[i]? = some c ∧ H' = upd H p (.tup [.int i, .str ⟨#[c]⟩]), fun i _ => z.cps.size = i⟩
theorem turn_enumS {P : Program} {w : World} {K : PySem.W.Frag} {elts : List Expr} {x1} {tp : Pos} (z : Str) (t : Tok) (e it : Addr) (hne : e ≠ it) :
    Turn P w K (.Tuple elts x1 tp) (Ites z) [e, it] e (fun i h => (∃ old, IsEnum h e it (i : Int) old) ∧ h.IsStrIter it "str_ascii_iterator" z t i) where
  mem := by simp
  obj := fun i h st b hb => by
    obtain ⟨⟨old, he⟩, o, ho, hc, hd⟩ := st
    rcases List.mem_cons.mp hb with rfl | hb
    · exact ⟨_, he, fun v z => by cases z⟩
    · obtain rfl := List.mem_singleton.mp hb
      exact ⟨o, ho, fun v z => by rw [hd] at z; cases z⟩
  keep := fun i h h' st k => by
    obtain ⟨⟨old, he⟩, o, ho, r⟩ := st
    exact ⟨⟨old, k e (by simp) _ he⟩, o, k it (by simp) o ho, r⟩
  item := by
    intro X hP hw hK hc i pins s σ H E I hf st hg
    subst hP hw hK
    obtain ⟨⟨old, he⟩, hit⟩ := st
    have hg' : i < z.cps.size := hg
    have hh : X.A.in1.handled = none := I.ok.hd hc
    have fe := hf e (by simp)
    have fi := hf it (by simp)
    refine wpAny_pyNext_enum_itemD (Draws.strAscii hh it z t) he hit hg' hne (by simpa using hne) fun u h1 tk hP1 he1 hit1 ht1 hz1 hk1 => ⟨_, rfl, wpAny_letOwnedTupleGo_enum he1 fun h2 he2 hs2 => ?_⟩
    obtain ⟨c, ut, hcz, rfl⟩ := hP1
    have hfresh : H s.heap.objs.size = none := I.hok.fresh (Nat.le_refl _)
    have nee : s.heap.objs.size ≠ e := Nat.ne_of_gt (Heap.lt_size he)
    obtain ⟨oi, hoi, _⟩ := id hit
    have nei : s.heap.objs.size ≠ it := Nat.ne_of_gt (Heap.lt_size hoi)
    have kp : ∀ b o, b ∉ [e, it] → s.heap.get? b = some o → h2.get? b = some o := fun b o hb q => by
      have b1 : b ≠ e := fun z => hb (by rw [z]; simp)
      have b2 : b ≠ it := fun z => hb (by rw [z]; simp)
      exact (hs2.2 b b1).trans (hk1 b o b1 b2 q)
    have hp2 : h2.get? s.heap.objs.size = some { cls := .type "tuple", data := .seq #[.int i tk, .str ⟨#[c]⟩ ut] } := (hs2.2 _ nee).trans ht1
    have nb : ∀ b o, s.heap.get? b = some o → b ≠ s.heap.objs.size := fun b o q => Nat.ne_of_lt (Heap.lt_size q)
    have tracked : ∀ b o, H b = some o → b ∉ [e, it] := fun b o q hb => by
      rcases List.mem_cons.mp hb with rfl | hb
      · rw [fe.1] at q
        cases q
      · obtain rfl := List.mem_singleton.mp hb
        rw [fi.1] at q
        cases q
    have it2 : h2.IsStrIter it "str_ascii_iterator" z t (i + 1) := by
      obtain ⟨o, ho, r⟩ := hit1
      exact ⟨o, (hs2.2 it hne.symm).trans ho, r⟩
    have hok2 : HOk X.prog X.w (upd H s.heap.objs.size (.tup [.int i, .str ⟨#[c]⟩])) h2 := fun b o q => by
      by_cases hb : b = s.heap.objs.size
      · subst hb
        rw [upd_same] at q
        cases q
        exact ⟨by show 2 ≤ sizeLine; decide, [.int i tk, .str ⟨#[c]⟩ ut], .cons ⟨_, rfl⟩ (.cons ⟨_, rfl⟩ .nil), _, hp2, rfl, _, rfl⟩
      · rw [upd_ne hb] at q
        refine (I.hok b o q).stay (fun c v hcv r => kp c v ?_ r) (fun c r => by rw [upd_ne (ne_of_none r hfresh)]; exact r) fun c ys r => by rw [upd_ne (ne_of_none r hfresh)]; exact r
        rcases hcv with rfl | hcv
        · exact tracked _ _ q
        · exact tracked _ _ hcv
    have I2 : Inv X pins σ (upd H s.heap.objs.size (.tup [.int i, .str ⟨#[c]⟩])) { s with heap := h2, gens := s.gens, drawn := s.drawn, toks := tk + 1 } := by
      refine I.step (ch := [e, it]) (fun b hb => ?_) (fun b o _ _ hb q _ => kp b o hb q) (fun b o _ _ hb q _ => ⟨o.slots, kp b o hb q⟩) (fun b o _ q n => by rw [upd_ne (nb b o q)]; exact n) (fun b o hb q => ⟨o, kp b o hb q⟩)
        (fun b ys q => by rw [upd_ne (ne_of_none q hfresh)]; exact q) (fun b o ys q => by rw [upd_ne (ne_of_none q hfresh)]; exact q) (fun b ps q => ⟨#[], by rw [upd_ne (ne_of_none q hfresh), q]; simp⟩) (fun m hm => ?_) hok2 I.bare
      · have f : FpOk X pins H b := hf b hb
        exact ⟨f.2.2.2.1, f.2.1, f.2.2.2.2.1, f.2.2.2.2.2⟩
      · obtain ⟨o, es, ep, ho, r⟩ := hm
        refine ⟨o, es, ep, kp _ o (fun hb => ?_) ho, r⟩
        exact (hf _ hb).2.1 rfl
    refine ⟨.ref s.heap.objs.size, _, I2, rfl, ⟨_, c, hfresh, rfl, hcz, rfl⟩, ⟨⟨_, he2⟩, it2⟩, fun b hb => ?_⟩
    rcases List.mem_cons.mp hb with rfl | hb
    · rw [upd_ne nee.symm]
      exact fe.1
    · obtain rfl := List.mem_singleton.mp hb
      rw [upd_ne nei.symm]
      exact fi.1
  done := by
    intro X hP hw hK hc i pins s σ H E I hf st hg
    subst hP hw hK
    obtain ⟨⟨old, he⟩, hit⟩ := st
    have hg' : z.cps.size = i := hg
    subst hg'
    have hh : X.A.in1.handled = none := I.ok.hd hc
    obtain ⟨f0, f1, f2, f3, f4, f5⟩ := hf it (by simp)
    exact wpAny_pyNext_enum_endD (Draws.strAscii hh it z t) he hit fun h' eb => ⟨rfl, I.turned (t' := s.toks) (fun b o hb q => eb b o hb q) f0 f1 f3 f4 f5⟩
  self := fun _ _ _ _ _ st h => by
    obtain ⟨⟨old, he⟩, _⟩ := st
    exact wpAny_pyIter_enum he h
section
variable {X : Cx} {elts : List Expr} {x1 : Nat} {tp : Pos}
def iEnumS (tl : TA) : TI := fun σ H R => tl σ H fun vs H1 => ∃ z, vs = [.str z] ∧ Asc z ∧ R (Ites z) H1
theorem pi_enumS {l : Expr} {ta : TA} {p pos : Pos} (hg : Gl X "enumerate") (hm : X.mg "enumerate" = none) (ha : PA X [l] ta) (hs : starEach [l] X.env = [(false, eval l X.env)] := by rfl) :
    PI X (.Tuple elts x1 tp) (.Call (.Name "enumerate" p) [l] [] pos) (iEnumS ta) := by
  intro pins s σ H R I h
  refine Call_ (ld_blt I hg hm bt_enumerate (PyProof.Rows.callWith_type1 (thn (ha pos pins s σ H _ I h) fun us s1 ⟨vs, H1, I1, r1, q1⟩ => ?_) hs rfl))
  obtain ⟨z, e, hasc, q⟩ := q1
  subst e
  obtain ⟨u, rfl, ru⟩ := Vals.one r1
  obtain ⟨t, rfl⟩ := (show ∃ t, u = Value.str z t from ru)
  have et : strIterType z = "str_ascii_iterator" := by
    have ha : z.cps.all (· < 128) = true := hasc
    unfold strIterType
    rw [if_pos ha]
  refine call_enumerate_str fun h' he hit hz' hk => wpAny_pyIter_enum he ?_
  rw [et] at hit
  refine ⟨s1.heap.objs.size + 1, [s1.heap.objs.size + 1, s1.heap.objs.size], _, _, H1, rfl, I1.kept (t' := s1.toks) hk, turn_enumS z t _ _ (Nat.succ_ne_self _), ⟨⟨_, he⟩, hit⟩, fun b hb => ?_, q⟩
  have hb' : s1.heap.objs.size ≤ b := by
    rcases List.mem_cons.mp hb with rfl | hb
    · exact Nat.le_succ _
    · rw [List.mem_singleton.mp hb]
      exact Nat.le_refl _
  exact I1.fpOk hb' (I1.hok.fresh hb')
end
theorem for_enumS {z : Str} {g : TG} {tb : TS} {D : Ends} {σ : St} {H : Hp} (Pv : Nat → St → Hp → Prop) (h0 : Pv 0 σ H)
    (hs : ∀ i c p σ H, z.cps.toList[i]? = some c → Pv i σ H → H p = none → g (.ref p) σ (upd H p (.tup [.int i, .str ⟨#[c]⟩])) fun σ2 H2 => tb { D with nx := Pv (i + 1), ct := Pv (i + 1), bk := D.nx } σ2 H2) (hd : ∀ σ H, Pv z.cps.toList.length σ H → D.nx σ H) :
    ∃ W : Nat → Nat → St → Hp → Prop, (∃ m, W 0 m σ H) ∧ ∀ i m σ H, W i m σ H →
      ((Ites z).stop i H ∧ D.nx σ H) ∨ ((Ites z).go i H ∧ ∃ N : St → Hp → Prop, (∀ σ' H', N σ' H' → ∃ m', m' < m ∧ W (i + 1) m' σ' H') ∧ ∀ x H', (Ites z).yld i H x H' → g x σ H' fun σ2 H2 => tb { D with nx := N, ct := N, bk := D.nx } σ2 H2) := by
  have hl : z.cps.toList.length = z.cps.size := Array.length_toList
  refine ⟨fun i m σ H => m = z.cps.size - i ∧ i ≤ z.cps.size ∧ Pv i σ H, ⟨z.cps.size, by simp, Nat.zero_le _, h0⟩, ?_⟩
  rintro i m σ H ⟨rfl, hi, p⟩
  by_cases hlt : i < z.cps.size
  · refine .inr ⟨hlt, Pv (i + 1), fun σ' H' h => ⟨_, by (first | lia | omega), rfl, hlt, h⟩, ?_⟩
    rintro x H' ⟨q, c, hq, rfl, hc, rfl⟩
    exact hs i c q σ H (by rw [Array.getElem?_toList]; exact hc) p hq
  · have e : z.cps.size = i := by (first | lia | omega)
    refine .inl ⟨e, hd σ H ?_⟩
    rw [hl, e]
    exact p
end L2

/-! t + u of tuples, == of lists of texts, groves behind one another -/
namespace L2
open PySem PySem.Spec PyProof.Rows
section
variable {X : Cx}
end
end L2
namespace Fg
open PySem L2 FgM
end Fg
namespace FgM
section
variable {A : Type}
variable [DecidableEq A]
end
end FgM
namespace Fg
open PySem L2 FgM
end Fg

/-! recursion's ground, constants of the module, == of tuples by their lengths, blocks with captured names -/
namespace L2
open PySem PySem.Spec PyProof.Rows
/-! captured names -/
end L2
namespace L2
open PySem PySem.Spec PyProof.Rows
end L2

/-! a block's parts by names of their own (what comes behind a statement is then one word in a proof) -/
namespace L2
open PySem PySem.Spec PyProof.Rows
theorem len1 {α : Type} : ∀ {us : List α}, us.length = 1 → ∃ a, us = [a]
  | [a], _ => ⟨a, rfl⟩
theorem lenS {α : Type} {n : Nat} : ∀ {us : List α}, us.length = n + 1 → ∃ a vs, us = a :: vs ∧ vs.length = n
  | a :: vs, h => ⟨a, vs, rfl, Nat.succ.inj h⟩
theorem len2 {α : Type} {us : List α} (h : us.length = 2) : ∃ a b, us = [a, b] := by
  obtain ⟨a, vs, rfl, h2⟩ := lenS h
  obtain ⟨b, rfl⟩ := len1 h2
  exact ⟨a, b, rfl⟩
end L2

/-! exceptions of own classes: raised, passed on, caught -/
namespace L2
open PySem PySem.Spec PyProof.Rows
/-- the exception at e: its class, its own dict -/
def XO (e : Addr) (C : Value) (d : Option Addr) : Heap → Prop := fun h => ∃ oe vs, h.get? e = some oe ∧ oe.cls = C ∧ oe.dict = d ∧ oe.data = .fields vs ∧ 4 < vs.size
theorem XO.ext_ok {P : Program} {w : World} {H : Hp} {h : Heap} {e : Addr} {C : Value} {d : Option Addr} (x : XO e C d h) : ObjOk P w H h e (.ext (XO e C d)) := by
  refine ⟨x, ?_, fun h1 h2 p k => ?_⟩
  · obtain ⟨oe, _, ho, _⟩ := x
    exact ⟨oe, ho⟩
  · obtain ⟨oe, vs, ho, r⟩ := p
    exact ⟨oe, vs, k oe ho, r⟩
theorem upd_self {H : Hp} {a : Addr} {o : HO} (h : H a = some o) : upd H a o = H := by
  funext b
  unfold upd
  by_cases e : b = a
  · subst e; rw [if_pos rfl, h]
  · rw [if_neg e]
section
variable {X : Cx} {pins : List (Addr × Obj)} {σ : St} {H : Hp} {s : Shared} {e T : Addr} {C : Value} {d : Option Addr} {M : Model} {A : Around} {E : Value → Shared → Prop} {Q : Unit → Shared → Prop}
theorem Inv.xo (I : Inv X pins σ H s) (he : H e = some (.ext (XO e C d))) : XO e C d s.heap := (I.hok e _ he).1
/-- the exception's own object is changed -/
theorem Inv.poke {h' : Heap} {t' : Nat} (I : Inv X pins σ H s) (he : H e = some (.ext (XO e C d))) (k : ∀ b u, b ≠ e → s.heap.get? b = some u → h'.get? b = some u) (x : XO e C d h') : Inv X pins σ H { s with heap := h', toks := t' } := by
  have := I.write (x := e) (e := e) (o := .ext (XO e C d)) (h' := h') (t' := t') (by rw [he]; trivial) (.inl rfl) k (by obtain ⟨oe, _, ho, _⟩ := x; exact ⟨oe, ho⟩) x.ext_ok
  rwa [upd_self he] at this
/-- the head of the traceback -/
def XHead (X : Cx) (pins : List (Addr × Obj)) (H : Hp) (h : Heap) (e : Addr) (fl : Value) : Prop :=
  ∃ T oT ts oe vs, h.get? e = some oe ∧ oe.data = .fields vs ∧ vs[1]? = some (.ref T) ∧ FpOk X pins H T ∧ h.get? T = some oT ∧ oT.data = .fields ts ∧ ts[3]? = some fl
def XSt (X : Cx) (pins : List (Addr × Obj)) (H : Hp) (h : Heap) (e : Addr) : Prop := (∃ oe vs, h.get? e = some oe ∧ oe.data = .fields vs ∧ vs[1]? = some .none) ∨ XHead X pins H h e .none
theorem fld_up {h : Heap} {a : Addr} {o : Obj} {vs : Array Value} (i : Nat) (x : Value) (ho : h.get? a = some o) (hd : o.data = .fields vs) :
    (h.update a (Obj.mapFields (·.setIfInBounds i x))).get? a = some (o.mapFields (·.setIfInBounds i x)) := Heap.get?_update_self _ ho (Obj.isFreed_of_fields (Obj.data_mapFields hd _))
theorem dict_map (o : Obj) (f : Array Value → Array Value) : (o.mapFields f).dict = o.dict := by
  obtain ⟨c, d, dt, sl⟩ := o
  cases dt <;> rfl
theorem XO.put {h : Heap} (x : XO e C d h) (i : Nat) (v : Value) : XO e C d (h.update e (Obj.mapFields (·.setIfInBounds i v))) := by
  obtain ⟨oe, vs, ho, hc, hdd, hd, hz⟩ := x
  exact ⟨_, _, fld_up i v ho hd, (Obj.cls_mapFields ..).trans hc, (dict_map ..).trans hdd, Obj.data_mapFields hd _, by simpa using hz⟩
/-- the slots of the frames that run have changed -/
theorem Inv.slots {h' : Heap} (I : Inv X pins σ H s) (hs : Heap.SlotsOnly (frs X.stack) s.heap h') : Inv X pins σ H { s with heap := h' } := by
  refine I.call' (s' := { s with heap := h' }) (ch := []) rfl ⟨fun b o q n hb _ => (hs.2.1 b hb).trans q, fun b o q _ _ _ => hs.2.2 b o q, fun _ _ _ n _ => n, fun b o q _ => let ⟨sl, e⟩ := hs.2.2 b o q; ⟨_, e⟩, fun _ _ q => q, fun _ _ _ q => q, fun _ ps q => ⟨#[], by rw [q]; simp⟩⟩ ?_ I.bare (fun b z => absurd z (by simp))
  intro b o q
  have hfr := I.stkFree
  refine (I.hok b o q).stay (fun c u hc z => ?_) (fun _ z => z) (fun _ _ z => z)
  have hn : c ∉ frs X.stack := by
    intro hm
    rcases hc with rfl | hc
    · rw [hfr _ hm] at q; cases q
    · rw [hfr _ hm] at hc; cases hc
  exact (hs.2.1 c hn).trans z
theorem entry_ok {head : Value} {hadNext : Bool} (hA : A.frames = some (X.env :: X.outer)) (hstk : X.stack = X.env :: X.outer) (hf : X.env.frame = some X.env.locals) (I : Inv X pins σ H s) (he : H e = some (.ext (XO e C d)))
    (h : ∀ h', Inv X pins σ H { s with heap := h' } → XHead X pins H h' e (rawInt X.env.locals) → Q () { s with heap := h' }) :
    wpAny M A (frameOf X.env >>= fun a => entryPlaceOf X.env.locals hadNext >>= fun pl => EntryCells.newEntry head a .none (rawInt X.env.locals) .none pl >>= fun b => setField (.ref e) 1 b) Q E s := by
  have hl : s.heap.FunFrames X.base (X.env :: X.outer) := hstk ▸ I.stack
  refine wpAny_bind (wpAny_frameOf_fun hA hl hf fun h1 hs1 => ?_)
  have I1 : Inv X pins σ H { s with heap := h1 } := I.slots (by rw [hstk]; exact hs1)
  refine wpAny_bind (wpAny_entryPlaceOf fun pl hpl => ?_)
  unfold EntryCells.newEntry newFields
  refine wpAny_bind (wpAny_newObj_type ?_ (hpl.sizeOk5 _ _ _ _ _))
  generalize hob : ({ cls := Value.type "traceback", dict := none, data := Data.fields ([head, Value.ref X.env.locals, Value.none, rawInt X.env.locals, Value.none] ++ (if pl.isEmpty then List.replicate 6 Value.none else pl)).toArray } : Obj) = ob
  have I2 : Inv X pins σ H { s with heap := h1.push ob } := I1.kept (h' := h1.push ob) (t' := s.toks) fun b u q => Heap.get?_push_of_some _ q
  obtain ⟨oe, vs, ho, hc, hdd, hd, hz⟩ := I2.xo he
  refine wpAny_setField ho hd (by (first | lia | omega)) (h _ (I2.poke (t' := s.toks) he (fun b u hb q => (Heap.get?_update_other _ _ (Ne.symm hb)).trans q) ((I2.xo he).put 1 _)) ?_)
  have hT : (h1.push ob).get? h1.objs.size = some ob := Heap.get?_push_size _ (by rw [← hob]; rfl)
  have hne : e ≠ h1.objs.size := fun z => by
    have := I1.hok.lt he
    rw [z] at this
    exact absurd this (Nat.lt_irrefl _)
  refine ⟨h1.objs.size, ob, ([head, Value.ref X.env.locals, Value.none, rawInt X.env.locals, Value.none] ++ (if pl.isEmpty then List.replicate 6 Value.none else pl)).toArray, _, _, fld_up 1 _ ho hd, Obj.data_mapFields hd _, ?_, I1.fpOk (Nat.le_refl _) (I1.hok.fresh (Nat.le_refl _)), (Heap.get?_update_other _ _ hne).trans hT, ?_, ?_⟩
  · rw [Array.getElem?_setIfInBounds_self_of_lt (by (first | lia | omega))]
  · rw [← hob]
  · simp
theorem note_ok (hA : A.frames = some (X.env :: X.outer)) (hstk : X.stack = X.env :: X.outer) (hf : X.env.frame = some X.env.locals) (I : Inv X pins σ H s) (he : H e = some (.ext (XO e C d))) (x : XSt X pins H s.heap e)
    (h : ∀ h', Inv X pins σ H { s with heap := h' } → XHead X pins H h' e (rawInt X.env.locals) → Q () { s with heap := h' }) : wpAny M A (noteFrame (.ref e) X.env) Q E s := by
  unfold noteFrame
  simp only [hf]
  rcases x with ⟨oe, vs, ho, hd, h1⟩ | ⟨T, oT, ts, oe, vs, ho, hd, h1, fT, hT, hdT, h3⟩
  · refine wpAny_bind (wpAny_field ho hd h1 ?_)
    rw [if_neg (by decide)]
    exact entry_ok hA hstk hf I he h
  · refine wpAny_bind (wpAny_field ho hd h1 ?_)
    rw [if_pos (show (Value.ref T != Value.none) = true by simp)]
    refine wpAny_bind (wpAny_field hT hdT h3 ?_)
    rw [if_neg (show ¬ ((Value.none == rawInt X.env.locals) = true) by simp [rawInt])]
    refine wpAny_bind (wpAny_setField hT hdT (Array.getElem?_eq_some_iff.mp h3).1 ?_)
    obtain ⟨f0, f1, f2, f3, f4, f5⟩ := fT
    have I1 := I.turned (t' := s.toks) (h' := s.heap.update T (Obj.mapFields (·.setIfInBounds 3 Value.none))) (fun b u hb q => (Heap.get?_update_other _ _ (Ne.symm hb)).trans q) f0 f1 f3 f4 f5
    exact entry_ok hA hstk hf I1 he h
theorem land_ok {fl : Value} (I : Inv X pins σ H s) (he : H e = some (.ext (XO e C d))) (x : XHead X pins H s.heap e fl)
    (h : ∀ h', Inv X pins σ H { s with heap := h' } → XHead X pins H h' e .none → Q () { s with heap := h' }) : wpAny M A (setFlight (.ref e) none) Q E s := by
  obtain ⟨T, oT, ts, oe, vs, ho, hd, h1, fT, hT, hdT, h3⟩ := x
  unfold setFlight
  refine wpAny_bind (wpAny_field ho hd h1 ?_)
  rw [if_pos (show (Value.ref T != Value.none) = true by simp)]
  refine wpAny_setField hT hdT (Array.getElem?_eq_some_iff.mp h3).1 ?_
  obtain ⟨f0, f1, f2, f3, f4, f5⟩ := id fT
  have hne : T ≠ e := fun z => by subst z; rw [f0] at he; cases he
  refine h _ (I.turned (t' := s.toks) (fun b u hb q => (Heap.get?_update_other _ _ (Ne.symm hb)).trans q) f0 f1 f3 f4 f5) ⟨T, _, _, oe, vs, (Heap.get?_update_other _ _ hne).trans ho, hd, h1, fT, fld_up 3 _ hT hdT, Obj.data_mapFields hdT _, ?_⟩
  rw [Array.getElem?_setIfInBounds_self_of_lt (Array.getElem?_eq_some_iff.mp h3).1]
  rfl
end
/-- what a body wants of an exception, by its names' values -/
abbrev XKS := St → XK
/-- how an exception lies behind a call -/
def CXE (P : Program) (w : World) : CXT := fun outer H s E ev s' => ∃ (e : Addr) (C : Value) (d : Option Addr) (H' : Hp), ev = .ref e ∧ s'.os = s.os ∧ AllBare s'.gens ∧ Un (frs outer) [] H H' s.heap s'.heap ∧ HOk P w H' s'.heap ∧
  H' e = some (.ext (XO e C d)) ∧ s.heap.objs.size ≤ e ∧ (∃ T oT ts oe vs, s'.heap.get? e = some oe ∧ oe.data = .fields vs ∧ vs[1]? = some (.ref T) ∧ H' T = none ∧ s.heap.objs.size ≤ T ∧ s'.heap.get? T = some oT ∧ oT.data = .fields ts ∧ ts[3]? = some .none) ∧ E C d H'
def Takes (X : Cx) (E : XKS) : Prop := ∀ (pins : List (Addr × Obj)) (σ : St) (H : Hp) (s : Shared) (e : Addr) (C : Value) (d : Option Addr), Inv X pins σ H s → H e = some (.ext (XO e C d)) → (X.ex = [] → X.s₀.heap.objs.size ≤ e) → XSt X pins H s.heap e → E σ C d H → X.xe (.ref e) s
theorem takes_def {P : Program} {w : World} {K : PySem.W.Frag} {mg : Str → Option Value} {base : Heap} {N : List Str} {qual : Str} {scope : Scope} {f : Addr} {cd : Value} {A : Around} {outer : List Env} {s : Shared} {H : Hp} {E : XK} :
    Takes (cxOf (CXE P w) P w K mg base N qual scope f cd A outer s H E) (fun _ => E) := by
  intro pins σ H1 s1 e C d I he hy x hE
  show wpAny _ _ (leaving _ _) _ _ s1
  unfold leaving
  refine wpAny_bind (note_ok (X := cxOf (CXE P w) P w K mg base N qual scope f cd A outer s H E) I.ok.frames rfl rfl I he x fun h2 I2 x2 => land_ok I2 he x2 fun h3 I3 x3 => ?_)
  obtain ⟨T, oT, ts, oe, vs, ho, hd, h1, fT, hT, hdT, h3'⟩ := x3
  refine ⟨e, C, d, H1, rfl, I3.os, I3.bare, I3.base, I3.hok, he, hy rfl, ⟨T, oT, ts, oe, vs, ho, hd, h1, fT.1, ?_, hT, hdT, h3'⟩, hE⟩
  rcases fT.2.2.2.1 with z | z
  · exact absurd z (by show T ∉ ([] : List Addr); simp)
  · exact z
/-- a callee's exception comes to a body that takes it -/
theorem takes_pass {X : Cx} {E : XKS} (hT : Takes X E) {pins : List (Addr × Obj)} {σ : St} {H : Hp} {s s' : Shared} {ev : Value} (I : Inv X pins σ H s) (h : CXE X.prog X.w X.stack H s (E σ) ev s') : X.xe ev s' := by
  obtain ⟨e, C, d, H', rfl, os, bare, un, hok, he, hes, ⟨T, oT, ts, oe, vs, ho, hd, h1, hTn, hTs, hT', hdT, h3⟩, hE⟩ := h
  have I1 := I.call' (ch := []) os un hok bare (fun b z => absurd z (by simp))
  exact hT pins σ H' s' e C d I1 he (fun _ => Nat.le_trans I.sz hes) (.inr ⟨T, oT, ts, oe, vs, ho, hd, h1, I.fpOk hTs hTn, hT', hdT, h3⟩) hE
end L2

namespace L2
open PySem PySem.Spec PyProof.Rows
/-! ### callees that may raise -/
structure HasX (P : Program) (w : World) (K : PySem.W.Frag) (mg : Str → Option Value) (base : Heap) (x : Str) (ps : List Str) (k : Nat) (sp : Sp) : Prop where
  ex : ∃ (f : Addr) (fd : FuncData), FnOk P w K mg base (CXE P w) k f fd ps sp ∧ Binds K fd ps [] ∧ PySem.W.keepIn K (.ref f) = true ∧ mg x = some (.ref f)
def tCallS (sp : Sp) (E : XKS) (t : TA) : TE := fun σ H Q => t σ H fun vs H1 => sp vs H1 Q (E σ)
section
variable {X : Cx} {j k : Nat} {f : Addr} {fd : FuncData} {ps : List Str} {sp : Sp} {E : XKS} {x : Str} {p pos : Pos} {e : Expr} {es : List Expr} {t : TA}
theorem run_fnX {pins : List (Addr × Obj)} {σ : St} {H : Hp} {s : Shared} {Q : VK} {us : List Value} {vs : List V} (F : FnOk X.prog X.w X.K X.mg X.base (CXE X.prog X.w) k f fd ps sp) (hr : Room k X.A) (hb : Binds X.K fd ps []) (hT : Takes X E)
    (I : Inv X pins σ H s) (r : Vals vs us) (h : sp vs H Q (E σ)) : wpAny (model X.prog X.w) X.A (call (.ref f) us) (EP X pins σ Q) X.xe s := by
  have hl : us.length = ps.length := by rw [← r.length]; exact F.len _ _ _ _ h
  have hbb := hb s us I.kIn (by rw [List.append_nil]; exact hl)
  rw [List.append_nil] at hbb
  refine wpAny_call (codeAny_mono (F.run X.A X.stack s H ⟨us, []⟩ us vs Q (E σ) hr I.env0 hbb r h) fun r s' hq => ?_)
  cases r with
  | error e => exact takes_pass hT I hq
  | ok fl =>
    cases fl with
    | ret u => exact I.after hq
    | next => exact False.elim hq
    | brk => exact False.elim hq
    | cont => exact False.elim hq
theorem pe_hasX (G : HasX X.prog X.w X.K X.mg X.base x ps j sp) (hT : Takes X E) (hr : Room k X.A) (hg : Gl X x) (ha : PA X (e :: es) t) (hk : j ≤ k := by decide) (hdb : (x == ("__debug__" : Str)) = false := by decide)
    (he : starEach (e :: es) X.env = (false, eval e X.env) :: starEach es X.env := by rfl) (hpl : (backTo pos (starEach es X.env)).any (·.1) = false := by rfl) :
    PE X (.Call (.Name x p) (e :: es) [] pos) (tCallS sp E t) := by
  obtain ⟨f, fd, F, b, kp, m⟩ := G.ex
  intro pins s σ H Q I h
  refine wpAny_Call_Name_kw (ld_glob I hg m ?_ hdb)
  refine PySem.W.callWith_K (h₀ := X.base) I.ok.mod.kin kp (thn (ha pos pins s σ H _ I h) fun us s1 ⟨vs, H1, I1, r, q⟩ => ⟨I1.kIn, ?_⟩) he hpl
  exact run_fnX (F.room hk) hr b hT I1 r q
end
/-- a def of the text that may raise -/
theorem Fun.okX {P : Program} {w : World} {K : PySem.W.Frag} {mg : Str → Option Value} {base : Heap} {x qual : Str} {st : Stmt} {f : Addr} {fd : FuncData} {N ps : List Str} {k : Nat} {sp : Sp} (F : Fun K x qual st f fd) (S : FnScope N ps (defScope st)) (len : ∀ vs H Q E, sp vs H Q E → vs.length = ps.length)
    (hbody : ∀ (cdv : Value) (A : Around) (outer : List Env) (s : Shared) (H : Hp) (vs : List V) (Q : VK) (E : XK), Room k (A.deeper (envOfC qual (defScope st) s.heap.objs.size f cdv)) → sp vs H Q E →
      ∃ t, PSs (cxOf (CXE P w) P w K mg base N qual (defScope st) f cdv A outer s H E) (defBody st) t ∧ t { nx := fun _ H' => Q .non H', rt := Q } (start N vs) H) : FnOk P w K mg base (CXE P w) (k + 1) f fd ps sp := by
  obtain ⟨oc, od, kV, doc, pm, an, cdv, ct, osl, rfl, lk, hcd⟩ := F.ex
  exact fn_of lk hcd S len fun A outer s H vs Q E hr hsp => hbody cdv A outer s H vs Q E hr hsp
/-! ### which classes an except names -/
structure XCl (K : PySem.W.Frag) (D : Addr) : Prop where
  cl : PySem.W.isClsIn K D = true
  exc : PySem.W.mroIn K D (.type "BaseException") = some true
  nt : PySem.W.instIn K (.ref D) (.type "tuple") = some false
inductive Spec (K : PySem.W.Frag) (H : Hp) : V → List Addr → Prop
  | one {D : Addr} : XCl K D → Spec K H (.ref D) [D]
  | many {p : Addr} {Ds : List Addr} : SqT K H p (Ds.map V.ref) → (∀ D ∈ Ds, XCl K D) → Spec K H (.ref p) Ds
theorem vals_refs : ∀ {Ds : List Addr} {us : List Value}, Vals (Ds.map V.ref) us → us = Ds.map Value.ref
  | [], _, .nil => rfl
  | D :: Ds, _, .cons r t => by
    rw [vals_refs t]
    obtain rfl : _ = Value.ref D := r
    rfl
section
variable {M : Model} {A : Around} {E : Value → Shared → Prop} {s : Shared} {K : PySem.W.Frag} {D : Addr}
theorem XCl.isExc (x : XCl K D) (X : K.In s.heap) {Q : Bool → Shared → Prop} (h : Q true s) : wpAny M A (isExcClass (.ref D)) Q E s := by
  have hc := x.cl
  unfold PySem.W.isClsIn PySem.W.clsIn at hc
  split at hc
  · rename_i ho
    unfold isExcClass
    refine wpAny_bind ?_
    show wpAny M A (loadHead D >>= _) _ _ s
    refine wpAny_bind (wpAny_loadPart (X _ _ ho) (wpAny_pure ?_))
    dsimp only
    rw [if_pos rfl]
    exact (PySem.W.looks_mroIn X x.exc).here h
  · cases hc
theorem each_ok {g : Value → PUnit → Sem (ForInStep PUnit)} : ∀ (Ls : List Addr), (∀ D ∈ Ls, ∀ {Q : ForInStep PUnit → Shared → Prop}, Q (.yield PUnit.unit) s → wpAny M A (g (.ref D) PUnit.unit) Q E s) → ∀ {Q : PUnit → Shared → Prop}, Q PUnit.unit s → wpAny M A (forIn (Ls.map Value.ref) PUnit.unit g) Q E s
  | [], _, _, h => wpAny_pure h
  | D :: Ls, hg, _, h => by
    rw [List.map_cons, List.forIn_cons]
    exact wpAny_bind (hg D (List.mem_cons_self ..) (each_ok Ls (fun y hy => hg y (List.mem_cons_of_mem _ hy)) h))
theorem any_ok {f : Addr → Bool} {g : Value → Option Bool × Unit → Sem (ForInStep (Option Bool × Unit))} : ∀ (Ls : List Addr), (∀ D ∈ Ls, ∀ {Q : ForInStep (Option Bool × Unit) → Shared → Prop}, Q (if f D = true then .done (some true, ()) else .yield (none, ())) s → wpAny M A (g (.ref D) (none, ())) Q E s) →
    ∀ {Q : Option Bool × Unit → Shared → Prop}, Q (if Ls.any f = true then some true else none, ()) s → wpAny M A (forIn (Ls.map Value.ref) ((none, ()) : Option Bool × Unit) g) Q E s
  | [], _, _, h => wpAny_pure h
  | D :: Ls, hg, _, h => by
    rw [List.map_cons, List.forIn_cons]
    rw [List.any_cons] at h
    refine wpAny_bind (hg D (List.mem_cons_self ..) ?_)
    cases hf : f D with
    | true =>
      rw [hf] at h
      exact wpAny_pure h
    | false =>
      rw [hf] at h
      exact any_ok Ls (fun y hy => hg y (List.mem_cons_of_mem _ hy)) h
theorem em_ok {X : Cx} {pins : List (Addr × Obj)} {σ : St} {H : Hp} {f : Addr → Bool} {C e : Addr} {oe : Obj} {Q : Bool → Shared → Prop} {v : V} {u : Value} {Ds : List Addr} (I : Inv X pins σ H s) (hv : Spec X.K H v Ds) (r : RelV v u) (he : s.heap.get? e = some oe) (hc : oe.cls = .ref C)
    (hb : ∀ D ∈ Ds, PySem.W.mroIn X.K C (.ref D) = some (f D)) (h : Q (Ds.any f) s) : wpAny M A (excMatches (.ref e) u) Q E s := by
  cases hv with
  | @one D hD =>
    obtain rfl : u = Value.ref D := r
    unfold excMatches
    refine wpAny_bind ((PySem.W.looks_instIn I.kIn hD.nt).here ?_)
    dsimp only
    rw [if_neg Bool.false_ne_true]
    refine wpAny_bind (wpAny_pure ?_)
    refine wpAny_bind (each_ok [D] (fun y hy {Q} q => ?_) (wpAny_bind (wpAny_typeOf_ref he (wpAny_bind (any_ok (f := f) [D] (fun y hy {Q} q => ?_) ?_)))))
    · obtain rfl := List.mem_singleton.mp hy
      exact wpAny_bind (hD.isExc I.kIn (wpAny_pure q))
    · rw [hc]
      refine wpAny_bind ((PySem.W.looks_mroIn I.kIn (hb y hy)).here ?_)
      cases hf : f y with
      | true => rw [hf] at q; exact wpAny_pure q
      | false => rw [hf] at q; exact wpAny_pure q
    · cases hf : [D].any f with
      | true => rw [hf] at h; exact wpAny_pure h
      | false => rw [hf] at h; exact wpAny_pure h
  | @many p _ hp hD =>
    obtain rfl : u = Value.ref p := r
    obtain ⟨its, rv, ⟨o, ho, hcl, n, hd⟩, _⟩ := I.tuple hp
    unfold excMatches
    refine wpAny_bind (wpAny_isInstance (T := "tuple") ⟨o, ho, hcl⟩ (show isSubtype (.type "tuple") (.type "tuple") = pure true by rw [isSubtype_type]; kernel_rfl) ?_)
    dsimp only
    rw [if_pos rfl]
    refine wpAny_bind (wpAny_seqItems ho hd (wpAny_bind (wpAny_pure ?_)))
    have e1 : ((some its.toArray).getD #[]).toList = Ds.map Value.ref := by
      rw [← vals_refs rv]; rfl
    rw [e1]
    refine wpAny_bind (each_ok Ds (fun y hy {Q} q => ?_) (wpAny_bind (wpAny_typeOf_ref he (wpAny_bind (any_ok (f := f) Ds (fun y hy {Q} q => ?_) ?_)))))
    · exact wpAny_bind ((hD y hy).isExc I.kIn (wpAny_pure q))
    · rw [hc]
      refine wpAny_bind ((PySem.W.looks_mroIn I.kIn (hb y hy)).here ?_)
      cases hf : f y with
      | true => rw [hf] at q; exact wpAny_pure q
      | false => rw [hf] at q; exact wpAny_pure q
    · cases hf : Ds.any f with
      | true => rw [hf] at h; exact wpAny_pure h
      | false => rw [hf] at h; exact wpAny_pure h
end
end L2

namespace L2
open PySem PySem.Spec PyProof.Rows
/-! ### try -/
/-- the body of a try: the pins are borne by every state -/
abbrev Cx.tr (X : Cx) (pins : List (Addr × Obj)) (E : Value → Shared → Prop) : Cx := { X with pn := X.pn ++ pins, xe := E }
/-- an except's test or suite -/
abbrev Cx.hd (X : Cx) (e : Addr) : Cx := { X with A := X.A.mark (some (.ref e)), calm := false, xe := fun _ _ => False }
section
variable {X : Cx} {pins pins' : List (Addr × Obj)} {σ : St} {H : Hp} {s : Shared} {e : Addr} {E : Value → Shared → Prop}
theorem Inv.tr (I : Inv X pins σ H s) (E : Value → Shared → Prop) : Inv (X.tr pins E) [] σ H s :=
  ⟨⟨I.ok.mod, I.ok.kind, I.ok.glob, I.ok.blt, I.ok.above, I.ok.inj, I.ok.has, I.ok.cab, I.ok.hd, I.ok.frames, I.ok.stk, I.ok.exf, I.ok.bs, I.ok.bsz, I.ok.noex, I.ok.exfs, I.ok.funs, I.ok.frf⟩, I.os, I.bare, I.base, I.loc, I.cell, I.free, I.freeC, fun p hp => I.pin p (by simpa using hp), I.hok, I.len⟩
theorem Inv.untr (I : Inv (X.tr pins E) pins' σ H s) : Inv X pins σ H s :=
  ⟨⟨I.ok.mod, I.ok.kind, I.ok.glob, I.ok.blt, I.ok.above, I.ok.inj, I.ok.has, I.ok.cab, I.ok.hd, I.ok.frames, I.ok.stk, I.ok.exf, I.ok.bs, I.ok.bsz, I.ok.noex, I.ok.exfs, I.ok.funs, I.ok.frf⟩, I.os, I.bare, I.base, I.loc, I.cell, I.free, I.freeC, fun p hp => I.pin p (List.mem_append_left _ hp), I.hok, I.len⟩
theorem FpOk.untr {T : Addr} (f : FpOk (X.tr pins E) pins' H T) : FpOk X pins H T := ⟨f.1, f.2.1, f.2.2.1, f.2.2.2.1, f.2.2.2.2.1, fun p hp => f.2.2.2.2.2 p (List.mem_append_left _ hp)⟩
theorem Inv.hd (I : Inv X pins σ H s) (e : Addr) : Inv (X.hd e) pins σ H s :=
  ⟨⟨I.ok.mod, I.ok.kind, I.ok.glob, I.ok.blt, I.ok.above, I.ok.inj, I.ok.has, I.ok.cab, (fun z => nomatch z), I.ok.frames, I.ok.stk, I.ok.exf, I.ok.bs, I.ok.bsz, I.ok.noex, I.ok.exfs, I.ok.funs, I.ok.frf⟩, I.os, I.bare, I.base, I.loc, I.cell, I.free, I.freeC, I.pin, I.hok, I.len⟩
theorem Inv.unhd (I : Inv (X.hd e) pins σ H s) (ok : X.Ok) : Inv X pins σ H s := ⟨ok, I.os, I.bare, I.base, I.loc, I.cell, I.free, I.freeC, I.pin, I.hok, I.len⟩
theorem Inv.drop1 {p : Addr × Obj} (I : Inv X (p :: pins) σ H s) : Inv X pins σ H s := I.pins_of fun q hq => I.pin q (List.mem_append_right _ (List.mem_cons_of_mem _ hq))
theorem SP.untr {D : Ends} {f : Flow} {s' : Shared} (h : SP (X.tr pins E) pins' D f s') : SP X pins D f s' := by
  cases f with
  | next => obtain ⟨σ', H', I, q⟩ := h; exact ⟨σ', H', I.untr, q⟩
  | brk => obtain ⟨σ', H', I, q⟩ := h; exact ⟨σ', H', I.untr, q⟩
  | cont => obtain ⟨σ', H', I, q⟩ := h; exact ⟨σ', H', I.untr, q⟩
  | ret u => obtain ⟨v, σ', H', I, r, q⟩ := h; exact ⟨v, σ', H', I.untr, r, q⟩
end
/-- an object that is known -/
def Known (e : Addr) (oe : Obj) : HO := .ext fun h => h.get? e = some oe
theorem known_ok {P : Program} {w : World} {H : Hp} {h : Heap} {e : Addr} {oe : Obj} (x : h.get? e = some oe) : ObjOk P w H h e (Known e oe) := ⟨x, ⟨oe, x⟩, fun _ _ p k => k _ p⟩
abbrev THS := Ends → St → Hp → Addr → Obj → Prop
def PH (X : Cx) (hs : List ExceptHandler) (t : THS) : Prop := ∀ (pins : List (Addr × Obj)) (s : Shared) (σ : St) (H : Hp) (D : Ends) (e : Addr) (oe : Obj) (T : Addr) (oT : Obj) (ts vs : Array Value),
  Inv X ((T, oT) :: pins) σ H s → FpOk X pins H T → oe.data = .fields vs → vs[1]? = some (.ref T) → oT.data = .fields ts → ts[3]? = some .none → H e = some (Known e oe) → t D σ H e oe →
  wpAny (model X.prog X.w) X.A (handleBy (.ref e) X.env hs) (SP X pins D) X.xe s
def tTry (tb : XKS → TS) (th : THS) : TS := fun D σ H => ∃ E : XKS, tb E D σ H ∧ ∀ (σ' : St) (C : Value) (d : Option Addr) (H' : Hp) (e : Addr) (oe : Obj), E σ' C d H' → H' e = some (.ext (XO e C d)) → oe.cls = C → oe.dict = d → (∃ vs, oe.data = .fields vs) → th D σ' (upd H' e (Known e oe)) e oe
section
variable {X : Cx} {body : List Stmt} {h₀ : ExceptHandler} {hs rest : List ExceptHandler} {tb : XKS → TS} {th tr : THS} {pos : Pos}
theorem ps_try (hstk : X.stack = X.env :: X.outer) (hf : X.env.frame = some X.env.locals)
    (hb : ∀ (E : XKS) (pins : List (Addr × Obj)) (E₁ : Value → Shared → Prop), Takes (X.tr pins E₁) E → PassesOwn (model X.prog X.w) X.A X.env E₁ → PSs (X.tr pins E₁) body (tb E)) (hh : PH X (h₀ :: hs) th) : PS X (.Try body (h₀ :: hs) [] [] pos) (tTry tb th) := by
  intro pins s σ H D I h
  obtain ⟨E, h1, h2⟩ := h
  refine wpAny_Try_except ?_
  refine wpAny_mono (hb E pins _ ?_ PassesOwn.looking [] s σ H D (I.tr _) h1) (fun f s1 q => ?_) fun e s1 q => q
  · intro pins' σ' H' s1 e C d I1 he hy x hE
    refine note_ok (X := X.tr pins _) (by rw [I.ok.frames, hstk]) hstk hf I1 he x fun h2' I2 x2 => land_ok I2 he x2 fun h3 I3 x3 => ?_
    obtain ⟨T, oT, ts, oe, vs, ho, hd, hv1, fT, hT, hdT, h3'⟩ := x3
    obtain ⟨oe', vs', ho', hc, hdd, _⟩ := I3.xo he
    rw [ho] at ho'
    cases ho'
    have I4 := I3.untr
    have I5 := I4.write (x := e) (e := e) (o := Known e oe) (t' := s1.toks) (h' := h3) (by rw [he]; trivial) (.inl rfl) (fun b u _ z => z) ⟨oe, ho⟩ (known_ok ho)
    have fT' := fT.untr
    have hne : T ≠ e := fun z => by subst z; rw [fT'.1] at he; cases he
    have fT2 : FpOk X pins (upd H' e (Known e oe)) T := ⟨by rw [upd_ne hne]; exact fT'.1, fT'.2⟩
    have I6 : Inv X ((T, oT) :: pins) σ' (upd H' e (Known e oe)) { s1 with heap := h3 } := I5.pins_of fun p hp => by
      rcases List.mem_cons.mp hp with rfl | hp
      · exact ⟨hT, fT2.1, fT2.2.1, fT2.2.2.1, fun v z => by rw [hdT] at z; cases z⟩
      · exact I5.pin p (List.mem_append_right _ hp)
    exact hh pins _ σ' _ D e oe T oT ts vs I6 fT2 hd hv1 hdT h3' upd_same (h2 σ' C d H' e oe hE he hc hdd ⟨vs, hd⟩)
  · cases f with
    | next =>
      obtain ⟨σ', H', I', q⟩ := q
      exact wpAny_execs_nil ⟨σ', H', I'.untr, q⟩
    | brk => exact SP.untr q
    | cont => exact SP.untr q
    | ret u => exact SP.untr q
theorem ph_skip {t : Expr} {name : Option Str} {sb : List Stmt} {tt : TE} (ht : ∀ e, PE (X.hd e) t tt) (hr : PH X rest tr) : PH X (.ExceptHandler (some t) name sb pos :: rest)
    (fun D σ H e oe => tt σ H fun v H1 => ∃ Ds C, Spec X.K H1 v Ds ∧ oe.cls = .ref C ∧ (∀ D ∈ Ds, PySem.W.mroIn X.K C (.ref D) = some false) ∧ H1 e = some (Known e oe) ∧ tr D σ H1 e oe) := by
  intro pins s σ H D e oe T oT ts vs I fT hd h1 hdT h3 he h
  refine wpAny_handleBy_cons (codeAny_handlers_test (wpAny_mono ((ht e) ((T, oT) :: pins) s σ H _ (I.hd e) h) (fun u s1 q => ?_) fun _ _ z => z.elim)) (by intro z; cases z)
  obtain ⟨v, H1, I1, r, Ds, C, hs, hc, hb, hk, q⟩ := q
  have I1' := I1.unhd I.ok
  refine em_ok (f := fun _ => false) I1' hs r (I1'.hok e _ hk).1 hc hb ?_
  have e0 : Ds.any (fun _ => false) = false := by simp
  rw [e0]
  have hTn := (I1'.pin (T, oT) (List.mem_append_right _ (List.mem_cons_self ..))).2.1
  exact hr pins s1 σ H1 D e oe T oT ts vs I1' ⟨hTn, fT.2⟩ hd h1 hdT h3 hk q
/-- a name goes -/
theorem unbind_ok {M : Model} {A : Around} {E : Value → Shared → Prop} {pins : List (Addr × Obj)} {σ : St} {H : Hp} {s : Shared} {i : Nat} {n : Str} {Q : Unit → Shared → Prop} (I : Inv X pins σ H s) (hN : X.N.Nodup) (hi : X.N[i]? = some n) (hk : X.env.scope.names.lookup n = some .local)
    (h : ∀ s', Inv X pins (σ.set i none) H s' → Q () s') : wpAny M A (bindName X.env n .none >>= fun _ => unbindBehindTheSuite X.env n pos) Q E s := by
  obtain ⟨m, hn, hl⟩ := id I.loc
  have hcls : (X.env.scope.kind == .class || (X.env.scope.kind == .module && X.env.locals != X.env.globals)) = false := by rw [I.ok.kind]; rfl
  have hl0 : X.env.kindOf n = some .local := hk
  refine wpAny_bind (wpAny_bindName (wpAny_storeName_local hl0 hn (fun ha hna hsa => ?_) hcls))
  unfold unbindBehindTheSuite
  refine wpAny_onRaise ?_
  unfold unbindName deleteName
  refine wpAny_bind (wpAny_point (wpAny_bind ?_)); simp only [hl0, hcls]
  rw [if_neg (by decide)]
  refine wpAny_bind (wpAny_nsDel_keeps hna fun hb v hnb hsb => ?_)
  simp only [if_true, Option.isSome_some, Bool.not_true, Bool.false_eq_true, if_false]
  refine wpAny_pure (wpAny_point (h _ ?_))
  have hs := hsa.trans hsb
  obtain ⟨oL, _, _, hoL, _⟩ := id hn
  have cne := I.cne
  refine ⟨I.ok, I.os, I.bare, ⟨fun b o e n hb hx => ?_, fun b o e n hb hx => ?_, I.base.free, fun b o e hx => ?_, I.base.tups, I.base.frzs, I.base.tbls⟩, ⟨_, hnb, fun j y v' e1 e2 e3 => ?_⟩, fun y c e => ?_, I.free, I.freeC, fun p hp => ?_, fun b ob e => ?_, by simpa using I.len⟩
  · exact (hs.2 b (Nat.ne_of_lt (Nat.lt_of_lt_of_le (Heap.lt_size e) I.ok.above))).trans (I.base.keep b o e n hb hx)
  · obtain ⟨sl, e1⟩ := I.base.slot b o e n hb hx
    exact ⟨sl, (hs.2 b (Nat.ne_of_lt (Nat.lt_of_lt_of_le (Heap.lt_size e) I.ok.above))).trans e1⟩
  · obtain ⟨o', e1⟩ := I.base.there b o e hx
    exact ⟨o', (hs.2 b (Nat.ne_of_lt (Nat.lt_of_lt_of_le (Heap.lt_size e) I.ok.above))).trans e1⟩
  · by_cases hj : j = i
    · subst hj
      by_cases hlt : j < σ.length
      · rw [List.getElem?_set_self hlt] at e2; cases e2
      · rw [List.getElem?_eq_none (by rw [List.length_set]; (first | lia | omega))] at e2; cases e2
    · rw [List.getElem?_set_ne (Ne.symm hj)] at e2
      obtain ⟨u', r', q⟩ := hl j y v' e1 e2 e3
      refine ⟨u', r', ?_⟩
      rcases q with ⟨k, e⟩ | ⟨k, c, e, z⟩
      · refine .inl ⟨k, ?_⟩
        have : y ≠ n := fun e => hj (nodup_ix hN e1 (e ▸ hi))
        simp [this, e]
      · exact .inr ⟨k, c, e, z.sameBut hs (cne y c e)⟩
  · obtain ⟨w', z⟩ := I.cell y c e
    exact ⟨w', z.sameBut hs (cne y c e)⟩
  · obtain ⟨e, n, ne, nf, d⟩ := I.pin p hp
    exact ⟨(hs.2 p.1 ne).trans e, n, ne, nf, d⟩
  · refine (I.hok b ob e).stay (fun c w' hc q => (hs.2 c ?_).trans q) (fun _ q => q) fun _ _ q => q
    rintro rfl
    rcases hc with rfl | hc
    · rw [I.free] at e; cases e
    · rw [I.free] at hc; cases hc
def unb (D : Ends) (i : Nat) : Ends := { nx := fun σ H => D.nx (σ.set i none) H, rt := D.rt, bk := fun σ H => D.bk (σ.set i none) H, ct := fun σ H => D.ct (σ.set i none) H }
theorem flight_same {M : Model} {A : Around} {E : Value → Shared → Prop} {s : Shared} {e T : Addr} {oe oT : Obj} {vs ts : Array Value} {Q : Unit → Shared → Prop} (ho : s.heap.get? e = some oe) (hd : oe.data = .fields vs) (h1 : vs[1]? = some (.ref T)) (hT : s.heap.get? T = some oT) (hdT : oT.data = .fields ts) (h3 : ts[3]? = some .none) (h : Q () s) :
    wpAny M A (setFlight (.ref e) none) Q E s := by
  unfold setFlight
  refine wpAny_bind (wpAny_field ho hd h1 ?_)
  rw [if_pos (show (Value.ref T != Value.none) = true by simp)]
  refine wpAny_setField hT hdT (Array.getElem?_eq_some_iff.mp h3).1 ?_
  show Q () { s with heap := s.heap.update T (Obj.mapFields (·.setIfInBounds 3 Value.none)) }
  rw [Heap.update_setField_same s.heap T oT ts 3 .none hT hdT h3]
  exact h
theorem ph_as {t : Expr} {n : Str} {b₀ : Stmt} {sb : List Stmt} {tt : TE} {tu : TS} {i : Nat} (ht : ∀ e, PE (X.hd e) t tt) (hN : X.N.Nodup) (hi : X.N[i]? = some n) (hk : X.env.scope.names.lookup n = some .local) (hs : ∀ e, PSs (X.hd e) (b₀ :: sb) tu) : PH X (.ExceptHandler (some t) (some n) (b₀ :: sb) pos :: rest)
    (fun D σ H e oe => tt σ H fun v H1 => ∃ Ds C f, Spec X.K H1 v Ds ∧ oe.cls = .ref C ∧ (∀ D ∈ Ds, PySem.W.mroIn X.K C (.ref D) = some (f D)) ∧ Ds.any f = true ∧ H1 e = some (Known e oe) ∧ tu (unb D i) (σ.set i (some (.ref e))) H1) := by
  intro pins s σ H D e oe T oT ts vs I fT hd h1 hdT h3 he h
  refine wpAny_handleBy_cons (codeAny_handlers_test (wpAny_mono ((ht e) ((T, oT) :: pins) s σ H _ (I.hd e) h) (fun u s1 q => ?_) fun _ _ z => z.elim)) (by intro z; cases z)
  obtain ⟨v, H1, I1, r, Ds, C, f, hsp, hc, hb, hany, hkn, q⟩ := q
  have I1' := I1.unhd I.ok
  have hoe := (I1'.hok e _ hkn).1
  refine em_ok (f := f) I1' hsp r hoe hc hb ?_
  rw [hany]
  refine codeAny_handlers_suite_as ?_
  have hTo := (I1'.pin (T, oT) (List.mem_append_right _ (List.mem_cons_self ..))).1
  refine flight_same hoe hd h1 hTo hdT h3 ?_
  refine store_ok I1'.drop1 hN hi (.inl hk) (show RelV (.ref e) (.ref e) from rfl) (fun s2 I2 => ?_) (.inr hk)
  refine wpAny_mono ((hs e) pins s2 _ H1 (unb D i) (I2.hd e) q) (fun fl s3 q3 => ?_) fun _ _ z => z.elim
  show wpAny _ X.A (bindName X.env n .none >>= fun _ => unbindBehindTheSuite X.env n pos) _ _ s3
  cases fl with
  | next =>
    obtain ⟨σ', H', I3, q3⟩ := q3
    exact unbind_ok (I3.unhd I.ok) hN hi hk fun s' I' => ⟨_, _, I', q3⟩
  | brk =>
    obtain ⟨σ', H', I3, q3⟩ := q3
    exact unbind_ok (I3.unhd I.ok) hN hi hk fun s' I' => ⟨_, _, I', q3⟩
  | cont =>
    obtain ⟨σ', H', I3, q3⟩ := q3
    exact unbind_ok (I3.unhd I.ok) hN hi hk fun s' I' => ⟨_, _, I', q3⟩
  | ret u =>
    obtain ⟨v3, σ', H', I3, r3, q3⟩ := q3
    exact unbind_ok (I3.unhd I.ok) hN hi hk fun s' I' => ⟨v3, _, _, I', r3, q3⟩
end
end L2

namespace L2
open PySem PySem.Spec PyProof.Rows PySem.W
/-! ### an own class of errors, under ValueError by one class more -/
abbrev bmV : List Value := [.type "ValueError", .type "Exception", .type "BaseException", .type "object"]
def keysOk (es : Array DictEntry) : Bool := es.toList.all fun e => match e.key with | .str _ _ => true | _ => false
/-- the class in the middle: it has no __init__ of its own -/
structure XMid (K : Frag) (G : Addr) : Prop where
  ob : ∃ c0 dd cd sl oc od es ep sl', K.lookup G = some ⟨c0, dd, .cls cd, sl⟩ ∧ K.lookup cd.ns = some ⟨oc, od, .dict es ep, sl'⟩ ∧ keysOk es = true ∧ nsIn K cd.ns "__init__" = some none
structure XTop (K : Frag) (C G : Addr) : Prop where
  ob : ∃ nm q N bs hdct sn sub ab col dd k0 k1 k2 k3 k5, K.lookup C = some (excClassObj nm q C N bs (.ref G :: bmV) hdct sn sub ab col dd k0 k1 k2 k3 k5 "ValueError.__new__")
  mid : XMid K G
  call : specialIn K (.ref C) "__call__" = some (some (.builtin "type.__call__"))
  typ : instIn K (.ref C) (.type "type") = some true
  kp : keepIn K (.ref C) = true
theorem XMid.tail {K : Frag} {G : Addr} {h : Heap} (x : XMid K G) (X : K.In h) : OwnTail h bmV (.ref G :: bmV) := by
  obtain ⟨c0, dd, cd, sl, oc, od, es, ep, sl', h1, h2, h3, h4⟩ := x.ob
  have hns : h.isNs cd.ns = true := by
    unfold Heap.isNs
    rw [X _ _ h2]
    have h5 := h3
    unfold keysOk at h5
    rw [Array.all_toList] at h5
    exact h5
  have hN := Heap.Ns.of_isNs hns
  exact .own (X _ _ h1) hN (ns_none_of X hN h4) .base
theorem XTop.mro {K : Frag} {C G : Addr} (x : XTop K C G) : ∃ cd, clsIn K C = some cd ∧ cd.mro = .ref C :: .ref G :: bmV := by
  obtain ⟨nm, q, N, bs, hdct, sn, sub, ab, col, dd, k0, k1, k2, k3, k5, h1⟩ := x.ob
  have e : clsIn K C = some { name := nm, bases := bs, mro := .ref C :: .ref G :: bmV, ns := N, qualname := q, hasDict := hdct, slotNames := sn, subclasses := sub, abstract := ab, collection := col, hasDel := false } := by
    unfold clsIn
    rw [h1]
  exact ⟨_, e, rfl⟩
/-- the new exception -/
abbrev excObj (C t : Addr) : Obj := { cls := .ref C, data := .fields #[.ref t, .none, .none, .none, .bool false, .none] }
abbrev tupObj (vs : List Value) : Obj := { cls := .type "tuple", data := .seq vs.toArray }
section
variable {prog : Program} {w : World} {A : Around} {K : Frag} {C G f : Addr} {R : Result → Shared → Prop} {s : Shared}
/-- C(..) where C has an __init__ of its own -/
theorem xmake_core {us : List Value} {init : Value} (x : XTop K C G) (X : K.In s.heap) (hi : findIn K (.ref C) "__init__" = some (some init)) (b0 : ∀ self, Looks (model prog w) s.heap (bindSpecial init self) (init, [self])) (hl : us.length ≤ sizeLine)
    (hq : codeAny (model prog w) (A.under (.builtin "type.__call__" ⟨.ref C :: us, []⟩)) (.call init ⟨.ref (s.heap.objs.size + 1) :: us, []⟩) (InitBack (s.heap.objs.size + 1) R)
      { s with heap := (s.heap.push (tupObj us)).push (excObj C s.heap.objs.size) }) :
    codeAny (model prog w) A (.call (.ref C) ⟨us, []⟩) R s := by
  obtain ⟨hh, g, d, t, os⟩ := s
  obtain ⟨nm, q, N, bs, hdct, sn, sub, ab, col, dd, k0, k1, k2, k3, k5, hK⟩ := x.ob
  have hC := X _ _ hK
  have T := x.mid.tail X
  have call := looks_specialIn (M := model prog w) X x.call
  have typ := looks_instIn (M := model prog w) X x.typ
  have i0 := looks_findIn (M := model prog w) X hi
  refine codeAny_of_tree ?_
  show wpAny _ _ (callAny (.ref C) _) _ _ _
  refine nd_load hC ?_
  show wpAny _ _ (callAny.viaDunder (.ref C) _) _ _ _
  unfold callAny.viaDunder
  refine wpAny_bind (call.at ?_)
  dsimp only
  rw [tc_bind]
  refine wpAny_bind (wpAny_pure (wpAny_bind (wpAny_pure ?_)))
  refine wpAny_pure (a := Fin.again (.call (.builtin "type.__call__") ⟨.ref C :: us, []⟩)) ⟨rfl, ?_⟩
  refine codeAny_call_builtin_at (Code.quiet_builtin _ (by decide +kernel)) entry_typeCall (check_slot tc_kind tc_split typ (tc_args _ _ _) ?_)
  repeat (first | with_reducible refine wpAny_loadPart_at hC ?_ | with_reducible refine wpAny_madeBy_exc hC ?_ | wp_step)
  refine codeAny_call_builtin_code (Code.quiet_builtin _ F.excBase_ValueError.quiet) (wpAny_check_new_subT F.excBase_ValueError T hC (codeAny_exc_new_subT F.excBase_ValueError T hC ?_ hl))
  show wpAny _ _ _ _ _ _
  have k : ∀ b o, hh.get? b = some o → ((hh.push (tupObj us)).push (excObj C hh.objs.size)).get? b = some o := fun b o e => Heap.get?_push_of_some _ (Heap.get?_push_of_some _ e)
  have hx : ((hh.push (tupObj us)).push (excObj C hh.objs.size)).get? (hh.objs.size + 1) = some (excObj C hh.objs.size) := by heap_get
  have t1 : Looks (model prog w) ((hh.push (tupObj us)).push (excObj C hh.objs.size)) (typeOf (.ref (hh.objs.size + 1))) (.ref C) := (Looks.ld hx).andThen .now
  have s1 : Looks (model prog w) ((hh.push (tupObj us)).push (excObj C hh.objs.size)) (isSubtype (.ref C) (.ref C)) true := by
    obtain ⟨cd, hc, hm⟩ := x.mro
    refine (looks_mroIn X ?_).keeps k
    unfold mroIn
    rw [hc, Option.bind_some, hm]
    simp
  have i1 := i0.keeps k
  have b1 := (b0 (.ref (hh.objs.size + 1))).keeps k
  unfold isInstance callSpecial? specialOf
  repeat (first | with_reducible refine wpAny_call ?_ | lk)
  refine codeAny_mono hq fun r s' z => ?_
  rcases r with e | (v | _ | _ | _) <;> first | exact z | exact z.elim | skip
  obtain ⟨rfl, z⟩ := z
  exact wpAny_pure (wpAny_pure z)
theorem xmake {us : List Value} (x : XTop K C G) (X : K.In s.heap) (hi : findIn K (.ref C) "__init__" = some (some (.ref f))) (hf : isFn K (.ref f) = true) (hl : us.length ≤ sizeLine)
    (hq : codeAny (model prog w) (A.under (.builtin "type.__call__" ⟨.ref C :: us, []⟩)) (.call (.ref f) ⟨.ref (s.heap.objs.size + 1) :: us, []⟩) (InitBack (s.heap.objs.size + 1) R)
      { s with heap := (s.heap.push (tupObj us)).push (excObj C s.heap.objs.size) }) :
    codeAny (model prog w) A (.call (.ref C) ⟨us, []⟩) R s := xmake_core x X hi (fun self => bind_fn X self (beq_iff_eq.mp hf)) hl hq
end
end L2

namespace L2
open PySem PySem.Spec PyProof.Rows PySem.W Builtin Builtin.ObjectAttr
section
variable {prog : Program} {w : World} {A : Around} {E : Value → Shared → Prop} {K : Frag} {C G x : Addr} {s : Shared}
/-- ValueError.__init__(x, v) -/
theorem xinit {ox : Obj} {vs : Array Value} {t : Addr} {v : Value} {Q : Value → Shared → Prop} (y : XTop K C G) (X : K.In s.heap) (hx : s.heap.get? x = some ox) (hc : ox.cls = .ref C) (hd : ox.data = .fields vs) (h0 : vs[0]? = some (.ref t))
    (h : Q .none { s with heap := (s.heap.push (tupObj [v])).update x (Obj.mapFields (·.setIfInBounds 0 (.ref s.heap.objs.size))) }) : wpAny (model prog w) A (call (.builtin "ValueError.__init__") [.ref x, v]) Q E s := by
  obtain ⟨hh, g, d, tk, os⟩ := s
  obtain ⟨nm, q, N, bs, hdct, sn, sub, ab, col, dd, k0, k1, k2, k3, k5, hK⟩ := y.ob
  have F0 := F.excBase_ValueError
  have hx2 : (hh.push (tupObj [v])).get? x = some ox := Heap.get?_push_of_some _ hx
  refine wpAny_call (codeAny_call_builtin F0.init.plain F0.initEntry (wpAny_check_init_subT F0 (y.mid.tail X) (X _ _ hK) hx hc ?_))
  unfold Builtin.«BaseException.__init__»
  refine wpAny_bind (wpAny_newTuple ?_)
  unfold Builtin.BaseException.bexcPut
  refine wpAny_bind (wpAny_bind (wpAny_field (s := ⟨hh.push (tupObj [v]), g, d, tk, os⟩) hx2 hd h0 (wpAny_bind (wpAny_setField (s := ⟨hh.push (tupObj [v]), g, d, tk, os⟩) hx2 hd (Array.getElem?_eq_some_iff.mp h0).1 ?_))))
  wp_walk
  exact h
theorem bga_args (a b : Value) : argsOk "BaseException.__getattribute__" ⟨[a, b], []⟩ := F.args_bexc_ga a b
/-- x.name, from the exception's own dict -/
theorem xget {ox od : Obj} {name : Str} {v : Value} {expr : Bool} {Q : Value → Shared → Prop} (X : K.In s.heap) (I : InstAt s.heap x ox C (some od)) (hga : findIn K (.ref C) "__getattribute__" = some (some (.builtin "BaseException.__getattribute__")))
    (hgt : findIn K (.ref C) "__getattr__" = some none) (hm : mroIn K C (.type "BaseException") = some true) (hf : findObj K C (some od) name = some (.value v)) (hh : handedIn v = true) (h : Q v { s with toks := s.toks + 1 }) : wpAny (model prog w) A (getAttr (.ref x) name expr) Q E s := by
  obtain ⟨hp, g, d, t, os⟩ := s
  have L0 := I.type (M := model prog w)
  have L1 := looks_findIn (M := model prog w) X hga
  have L2 := looks_find (M := model prog w) X I hf
  have L3 : Looks (model prog w) hp (hookBefore (.ref C)) none := looks_hook X ((if_pos (show onTheHeap (Value.ref C) = true from rfl)).trans hgt)
  have L4 : Looks (model prog w) hp (isInstance (.ref x) (.type "BaseException")) true := L0.andThen (looks_mroIn X hm)
  have F0 := F.excAttr_ValueError
  unfold getAttr getAttrBy
  refine wpAny_bind (wpAny_mkText (wpAny_holding (wpAny_bind (L0.at (wpAny_bind (L1.at ?_))))))
  have hne : (onTheHeap (Value.ref C) && Value.builtin "BaseException.__getattribute__" == Value.builtin "object.__getattribute__") = false := by
    rw [show (Value.builtin "BaseException.__getattribute__" == Value.builtin "object.__getattribute__") = false by decide +kernel, Bool.and_false]
  dsimp only
  rw [hne, if_neg Bool.false_ne_true]
  unfold getAttrByItsOwn
  refine wpAny_bind (L3.at (wpAny_bind (wpAny_attempt (wpAny_holding ?_))))
  unfold callGetattribute boundAndCalled
  rw [show (expr && onTheHeap (Value.builtin "BaseException.__getattribute__")) = false from Bool.and_false _, if_neg Bool.false_ne_true, F0.ga.bind]
  refine wpAny_bind (wpAny_pure ?_)
  show wpAny _ _ (call (.builtin "BaseException.__getattribute__") [.ref x, .str name t]) _ _ _
  refine wpAny_call (codeAny_call_builtin F0.ga.plain F.entry_bexc_ga ?_)
  refine @check_slot (model prog w) _ _ ⟨hp, g, d, t + 1, os⟩ "BaseException.__getattribute__" "BaseException" "__getattribute__" (.ref x) [.str name t] [] _ (by decide +kernel) (by decide +kernel) L4 (bga_args _ _) ?_
  show wpAny _ _ (Builtin.«object.__getattribute__» _) _ _ _
  unfold Builtin.«object.__getattribute__»
  refine wpAny_bind (wpAny_pure (wpAny_bind (wpAny_pure (wpAny_bind (L0.at (wpAny_bind (L2.at (wpAny_pure ?_))))))))
  show wpAny _ _ (handedOut v) _ _ _
  rw [handedOut_of hh]
  exact wpAny_pure h
end
end L2

namespace L2
open PySem PySem.Spec PyProof.Rows PySem.W Builtin Builtin.ObjectAttr
section
variable {prog : Program} {w : World} {A : Around} {E : Value → Shared → Prop} {K : Frag} {C G x : Addr} {s : Shared}
/-- x.name = v for an exception that has no dict yet -/
theorem xset {ox : Obj} {vs : Array Value} {name : Str} {v : Value} {Q : Unit → Shared → Prop} (y : XTop K C G) (X : K.In s.heap) (hx : s.heap.get? x = some ox) (hc : ox.cls = .ref C) (hd : ox.data = .fields vs) (hdn : ox.dict = none)
    (hs : findIn K (.ref C) "__setattr__" = some (some (.builtin "object.__setattr__"))) (ht : findIn K (.ref C) name = some none) (hh : hasDictIn K C = true)
    (h : ∀ h', h'.get? x = some { ox with dict := some s.heap.objs.size } → h'.Ns1 s.heap.objs.size (fun z => if z = name then some v else none) → (∀ b o, b ≠ x → s.heap.get? b = some o → h'.get? b = some o) → Q () { s with heap := h', toks := s.toks + 2 }) :
    wpAny (model prog w) A (setAttr (.ref x) name v) Q E s := by
  have SF := PySem.F.store_ValueError
  have I : InstAt s.heap x ox C none := ⟨hx, hc, by unfold notCls; rw [hd], by rw [hdn]; trivial⟩
  obtain ⟨cd, hcd, hmro⟩ := y.mro
  have ne : cd.mro.isEmpty = false := by rw [hmro]; rfl
  have sub : Looks (model prog w) s.heap (isInstance (.ref x) (.type "object")) true := I.type.andThen (looks_mroIn X (by unfold mroIn; rw [hcd, Option.bind_some, if_neg (by rw [ne]; decide), hmro]; rfl))
  have hm : Looks (model prog w) s.heap (mroOf (.ref C)) cd.mro := (looks_clsIn X hcd).andThen .now
  refine set_plain X I hs ?_
  have X1 : K.In ({ s with toks := s.toks + 1 } : Shared).heap := X
  refine codeAny_call_builtin SF.slot.plain SF.entry (@check_slot (model prog w) _ _ { s with toks := s.toks + 1 } "object.__setattr__" "object" "__setattr__" (.ref x) [.str name s.toks, v] [] _ SF.kind SF.split sub (SF.args (.ref x) (.str name s.toks) v) ?_)
  rw [osa_eq, refuse_eq]
  have I1 : InstAt ({ s with toks := s.toks + 1 } : Shared).heap x ox C none := I
  refine wpAny_bind (wpAny_bind (I1.type.here (wpAny_bind (Looks.here (s := { s with toks := s.toks + 1 }) hm ?_))))
  rw [hmro, refuseLoop_ref, refuseLoop_ref, SF.passes]
  refine wpAny_pure (wpAny_bind (I1.type.here (wpAny_bind (Looks.here (s := { s with toks := s.toks + 1 }) (looks_findIn X ht) (wpAny_bind (wpAny_pure ?_))))))
  obtain ⟨cd', hcd', hdict⟩ := any_some hh
  rw [hcd] at hcd'
  cases hcd'
  obtain ⟨oc, odi, oda, osl⟩ := ox
  dsimp only at hc hd hdn
  subst hc hd hdn
  dsimp only
  unfold storeInOwnDict ownDictForStores instanceDict
  refine wpAny_bind (wpAny_pure (wpAny_bind (wpAny_bind (wpAny_loadPart (s := { s with toks := s.toks + 1 }) hx (wpAny_bind (Looks.here (s := { s with toks := s.toks + 1 }) (looks_clsIn X hcd) ?_))))))
  rw [hdict]
  refine wpAny_bind (wpAny_alloc ?_)
  have hx1 : (s.heap.push emptyDict).get? x = some ⟨.ref C, none, .fields vs, osl⟩ := Heap.get?_push_of_some _ hx
  refine wpAny_bind (wpAny_update (s := { s with heap := s.heap.push emptyDict, toks := s.toks + 1 }) hx1 ?_)
  refine wpAny_pure (a := some s.heap.objs.size) ?_
  have hxD : x ≠ s.heap.objs.size := Nat.ne_of_lt (Heap.lt_size hx)
  have hD0 : (s.heap.push emptyDict).get? s.heap.objs.size = some emptyDict := Heap.get?_push_size _ rfl
  generalize hg2 : (s.heap.push emptyDict).update x (fun o => { o with dict := some s.heap.objs.size }) = g2
  have hx2 : g2.get? x = some ⟨.ref C, some s.heap.objs.size, .fields vs, osl⟩ := by
    rw [← hg2]
    exact Heap.get?_update_self _ hx1 rfl
  have hD2 : g2.get? s.heap.objs.size = some emptyDict := by
    rw [← hg2, Heap.get?_update_other _ _ hxD]
    exact hD0
  have hk2 : ∀ b o, b ≠ x → s.heap.get? b = some o → g2.get? b = some o := fun b o hb e => by
    rw [← hg2, Heap.get?_update_other _ _ (Ne.symm hb)]
    exact Heap.get?_push_of_some _ e
  have hN : g2.Ns s.heap.objs.size (fun _ => none) := ⟨emptyDict, #[], _, hD2, rfl, (fun e he => absurd he (by simp)), fun _ => rfl⟩
  unfold storeInDict
  refine wpAny_bind (wpAny_pure (wpAny_bind (wpAny_nsSet1 (s := { s with heap := g2, toks := s.toks + 1 }) (Heap.Ns1.of_empty hN) fun h' hn2 hs2 => ?_)))
  obtain ⟨oD, esD, epD, hoD, hdD, hcD⟩ := hn2.count (PySem.Within.cons name v PySem.Within.nil)
  refine wpAny_bind (wpAny_lookBehind hoD (by rw [hdD]; exact pastItsLine_dict (Nat.le_trans hcD (by show 1 ≤ sizeLine + 1; decide))) (wpAny_pure ?_))
  exact h h' ((hs2.2 x hxD).trans hx2) hn2 fun b o hb e => (hs2.2 b (Nat.ne_of_lt (Heap.lt_size e))).trans (hk2 b o hb e)
end
end L2

namespace L2
open PySem PySem.Spec PyProof.Rows PySem.W
/-- an exception that is being made -/
def XNew (x : Addr) (C : Value) (d : Option Addr) : Heap → Prop := fun h => ∃ ox vs t, h.get? x = some ox ∧ ox.cls = C ∧ ox.dict = d ∧ ox.data = .fields vs ∧ 4 < vs.size ∧ vs[0]? = some (.ref t) ∧ vs[1]? = some .none
theorem XNew.ok {P : Program} {w : World} {H : Hp} {h : Heap} {x : Addr} {C : Value} {d : Option Addr} (z : XNew x C d h) : ObjOk P w H h x (.ext (XNew x C d)) := by
  refine ⟨z, ?_, fun h1 h2 p k => ?_⟩
  · obtain ⟨ox, _, _, ho, _⟩ := z
    exact ⟨ox, ho⟩
  · obtain ⟨ox, vs, t, ho, r⟩ := p
    exact ⟨ox, vs, t, k ox ho, r⟩
theorem XNew.xo {h : Heap} {x : Addr} {C : Value} {d : Option Addr} (z : XNew x C d h) : XO x C d h := by
  obtain ⟨ox, vs, t, ho, hc, hd, hf, hz, _⟩ := z
  exact ⟨ox, vs, ho, hc, hd, hf, hz⟩
/-- what is raised -/
theorem raise_ok {M : Model} {A : Around} {E : Value → Shared → Prop} {s : Shared} {env : Env} {K : Frag} {C G : Addr} {x0 : Sem Value} {Q : Flow → Shared → Prop} (hh : A.handled = none) (y : XTop K C G)
    (h : wpAny M A x0 (fun v s1 => ∃ x d, v = .ref x ∧ K.In s1.heap ∧ XNew x (.ref C) d s1.heap ∧ E (.ref x) s1) E s) : wpAny M A (raiseStmt env (some x0) none) Q E s := by
  unfold raiseStmt
  refine wpAny_bind (wpAny_mono h (fun v s1 q => ?_) fun _ _ z => z)
  obtain ⟨x, d, rfl, X, ⟨ox, vs, t, ho, hc, hd, hf, hz, h0, h1⟩, hE⟩ := q
  obtain ⟨cd, hcd, hmro⟩ := y.mro
  have ty : Looks M s1.heap (typeOf (.ref x)) (.ref C) := hc ▸ (Looks.ld ho).andThen .now
  have isb : Looks M s1.heap (isInstance (.ref x) (.type "BaseException")) true := ty.andThen (looks_mroIn X (by unfold mroIn; rw [hcd, Option.bind_some, hmro]; rfl))
  have nt : Looks M s1.heap (isType (.ref x)) false := by
    intro A' Q' E' s' k q
    unfold isType loadHead
    refine wpAny_bind (wpAny_loadPart (k _ _ ho) ?_)
    rw [hf]
    exact wpAny_pure q
  obtain ⟨nm, q, N, bs, hdct, sn, sub, ab, col, dd, k0, k1, k2, k3, k5, hK⟩ := y.ob
  have tt : Looks M s1.heap (typeOf (.ref C)) (.type "type") := (Looks.ld (X _ _ hK)).andThen .now
  refine wpAny_bind (wpAny_pure (wpAny_bind (wpAny_holding ?_)))
  unfold excFromValue isExcClass
  refine wpAny_bind (wpAny_bind (nt.here ?_))
  rw [if_neg Bool.false_ne_true]
  refine wpAny_pure ?_
  rw [if_neg Bool.false_ne_true]
  refine wpAny_bind (isb.here ?_)
  rw [if_pos rfl]
  refine wpAny_pure ?_
  refine wpAny_bind (nt.here ?_)
  rw [if_neg Bool.false_ne_true]
  unfold raisedInstance
  refine wpAny_bind (wpAny_bind (ty.here (wpAny_bind (tt.here ?_))))
  rw [if_pos (by decide)]
  refine wpAny_pure ?_
  unfold setFlight
  refine wpAny_bind (wpAny_bind (wpAny_field ho hf h1 ?_))
  rw [if_neg (by decide)]
  exact wpAny_pure (wpAny_raiseNew_none hh hE)
/-- a class of errors with its own __init__ -/
structure XMk (P : Program) (w : World) (K : Frag) (mg : Str → Option Value) (base : Heap) (C G : Addr) (x : Str) (ps : List Str) (j : Nat) (sp : Sp) : Prop where
  ex : ∃ f fd, FnOk P w K mg base CX0 j f fd ps sp ∧ Binds K fd ps [] ∧ findIn K (.ref C) "__init__" = some (some (.ref f)) ∧ isFn K (.ref f) = true
  top : XTop K C G
  nm : mg x = some (.ref C)
def tRaiseI (C : Addr) (sp : Sp) (E : XKS) (t : TA) : TS := fun _ σ H => t σ H fun vs H1 => vs.length ≤ 1000 ∧ ∀ y, H1 y = none → sp (.ref y :: vs) (upd H1 y (.ext (XNew y (.ref C) none)))
  (fun v H2 => v = .non ∧ ∃ d, H2 y = some (.ext (XNew y (.ref C) d)) ∧ E σ (.ref C) d (upd H2 y (.ext (XO y (.ref C) d)))) E0
section
variable {X : Cx} {j k : Nat} {C G : Addr} {ps : List Str} {sp : Sp} {E : XKS} {x : Str} {p pos cpos : Pos} {e : Expr} {es : List Expr} {t : TA}
theorem ps_raiseI (Z : XMk X.prog X.w X.K X.mg X.base C G x ps j sp) (hT : Takes X E) (hr : Room k X.A) (hg : Gl X x) (ha : PA X (e :: es) t) (hk : j + 1 ≤ k := by decide) (hdb : (x == ("__debug__" : Str)) = false := by decide)
    (he : starEach (e :: es) X.env = (false, eval e X.env) :: starEach es X.env := by rfl) (hpl : (backTo cpos (starEach es X.env)).any (·.1) = false := by rfl) :
    PS X (.Raise (some (.Call (.Name x p) (e :: es) [] cpos)) none pos) (tRaiseI C sp E t) := by
  intro pins s σ H D I h
  obtain ⟨f, fd, F, b, hi, hfn⟩ := Z.ex
  show wpAny _ _ (standAt pos >>= fun _ => raiseStmt X.env (some (eval (.Call (.Name x p) (e :: es) [] cpos) X.env >>= fun v => standAt pos >>= fun _ => pure v)) none) _ _ s
  refine wpAny_bind (wpAny_standAt (raise_ok (hr.hd) Z.top (wpAny_bind ?_)))
  refine wpAny_Call_Name_kw (ld_glob I hg Z.nm ?_ hdb)
  refine PySem.W.callWith_K (h₀ := X.base) I.ok.mod.kin Z.top.kp (thn (ha cpos pins s σ H _ I h) fun us s1 ⟨vs, H1, I1, r, hl, q⟩ => ⟨I1.kIn, ?_⟩) he hpl
  have hlu : us.length ≤ sizeLine := by rw [← r.length]; exact Nat.le_trans hl (by decide)
  have hy : H1 (s1.heap.objs.size + 1) = none := I1.hok.fresh (Nat.le_succ _)
  have hsp := q (s1.heap.objs.size + 1) hy
  have hx : ((s1.heap.push (tupObj us)).push (excObj C s1.heap.objs.size)).get? (s1.heap.objs.size + 1) = some (excObj C s1.heap.objs.size) := by heap_get
  have I2 : Inv X pins σ (upd H1 (s1.heap.objs.size + 1) (.ext (XNew (s1.heap.objs.size + 1) (.ref C) none))) { s1 with heap := (s1.heap.push (tupObj us)).push (excObj C s1.heap.objs.size) } := by
    have a := I1.kept (t' := s1.toks) (h' := s1.heap.push (tupObj us)) fun b u q => Heap.get?_push_of_some _ q
    exact a.laid (t' := s1.toks) (fun b u q => Heap.get?_push_of_some _ q) (by show (s1.heap.push (tupObj us)).objs.size ≤ _; rw [Heap.size_push]; exact Nat.le_refl _) (XNew.ok ⟨_, _, _, hx, rfl, rfl, rfl, by simp, rfl, rfl⟩)
  have r2 : Vals (V.ref (s1.heap.objs.size + 1) :: vs) (Value.ref (s1.heap.objs.size + 1) :: us) := .cons rfl r
  have hlen : (Value.ref (s1.heap.objs.size + 1) :: us).length = ps.length := by rw [← r2.length]; exact F.len _ _ _ _ hsp
  have hbb := b ({ s1 with heap := (s1.heap.push (tupObj us)).push (excObj C s1.heap.objs.size) }) (Value.ref (s1.heap.objs.size + 1) :: us) I2.kIn (by rw [List.append_nil]; exact hlen)
  rw [List.append_nil] at hbb
  have hroom : Room (j + 1) X.A := hr.mono hk
  refine wpAny_call (xmake Z.top I1.kIn hi hfn hlu (codeAny_mono (F.run _ X.stack _ _ ⟨Value.ref (s1.heap.objs.size + 1) :: us, []⟩ (Value.ref (s1.heap.objs.size + 1) :: us) _ _ E0 (hroom.make C us []) (I2.env0.make C us []) hbb r2 hsp) fun r s' hq' => ?_))
  cases r with
  | error e => exact False.elim hq'
  | ok fl =>
    cases fl with
    | ret u =>
      obtain ⟨v, H3, I3, rv, ev, d, hd, hE⟩ := I2.after hq'
      subst ev
      refine ⟨rv, wpAny_bind (wpAny_standAt (wpAny_pure ⟨_, d, rfl, I3.kIn, (I3.hok _ _ hd).1, ?_⟩))⟩
      have xn := (I3.hok _ _ hd).1
      have I4 := I3.write (x := s1.heap.objs.size + 1) (e := s1.heap.objs.size + 1) (o := .ext (XO (s1.heap.objs.size + 1) (.ref C) d)) (t' := s'.toks) (h' := s'.heap) (by rw [hd]; trivial) (.inl rfl) (fun b u _ z => z) (by obtain ⟨ox, _, _, ho, _⟩ := xn; exact ⟨ox, ho⟩) (XNew.xo xn).ext_ok
      refine hT pins σ _ s' _ (.ref C) d I4 upd_same (fun _ => Nat.le_trans I1.sz (Nat.le_succ _)) (.inl ?_) hE
      obtain ⟨ox, vs', t', ho, _, _, hf, _, _, h1⟩ := xn
      exact ⟨ox, vs', ho, hf, h1⟩
    | next => exact False.elim hq'
    | brk => exact False.elim hq'
    | cont => exact False.elim hq'
end
end L2

namespace L2
open PySem PySem.Spec PyProof.Rows PySem.W
section
variable {X : Cx} {pins : List (Addr × Obj)} {σ : St} {H : Hp} {s : Shared} {x : Addr} {C : Value} {d : Option Addr}
theorem Inv.pokeN {h' : Heap} {t' : Nat} (I : Inv X pins σ H s) (he : H x = some (.ext (XNew x C d))) (k : ∀ b u, b ≠ x → s.heap.get? b = some u → h'.get? b = some u) (z : XNew x C d h') : Inv X pins σ H { s with heap := h', toks := t' } := by
  have := I.write (x := x) (e := x) (o := .ext (XNew x C d)) (h' := h') (t' := t') (by rw [he]; trivial) (.inl rfl) k (by obtain ⟨ox, _, _, ho, _⟩ := z; exact ⟨ox, ho⟩) z.ok
  rwa [upd_self he] at this
end
/-- the class G that is named in G.__init__(..) -/
structure XBas (K : Frag) (G : Addr) : Prop where
  ga : specialIn K (.ref G) "__getattribute__" = some (some (.builtin "type.__getattribute__"))
  rd : readsIn K G (.type "type") = true
  fi : findCls K (.ref G) (.type "type") "__init__" = some (.val (.builtin "ValueError.__init__"))
def tXInit (K : Frag) (t : TA) : TE := fun σ H Q => t σ H fun vs H1 => ∃ y C G d v, vs = [.ref y, v] ∧ H1 y = some (.ext (XNew y (.ref C) d)) ∧ XTop K C G ∧ Q .non H1
section
variable {X : Cx} {C G : Addr} {g : Str} {p pos apos : Pos} {e : Expr} {es : List Expr} {t : TA}
theorem pe_xinit {pl : Sem Bool} (B : XBas X.K G) (hg : Gl X g) (hm : X.mg g = some (.ref G)) (ha : PA X (e :: es) t) (hdb : (g == ("__debug__" : Str)) = false := by decide)
    (he : starEach (e :: es) X.env = (false, eval e X.env) :: starEach es X.env := by rfl) (hpl : (backTo pos (starEach es X.env)).any (·.1) = false := by rfl)
    (ht : eval (.Call (.Attribute (.Name g p) "__init__" apos) (e :: es) [] pos) X.env = (do
      let ov ← eval (.Name g p) X.env
      standAt apos.atName
      let (f, first) ← holding [ov] (getMethod ov "__init__" pl)
      callWith pos f first (backTo pos (starEach (e :: es) X.env)) (backToKw pos (keywordEach [] X.env))) := by rfl) :
    PE X (.Call (.Attribute (.Name g p) "__init__" apos) (e :: es) [] pos) (tXInit X.K t) := by
  intro pins s σ H Q I h
  refine PySem.W.methodCall_KW (pl := pl) (ld_glob I hg hm ?_ hdb) ht
  refine method_cls I.kIn B.ga (cls_value I.kIn B.rd B.fi rfl ?_)
  refine PyProof.Rows.callWith_builtin1 (thn (ha pos pins _ σ H _ (I.tok _) h) fun us s1 ⟨vs, H1, I1, r, y, C, G', d, v, ev, hy, T, q⟩ => ?_) he hpl
  subst ev
  obtain ⟨u1, u2, rfl, r1, r2⟩ := Vals.two r
  obtain rfl : u1 = Value.ref y := r1
  have xn := (I1.hok _ _ hy).1
  obtain ⟨ox, vs', t', ho, hc, hd, hf, hz, h0, h1⟩ := id xn
  refine xinit T I1.kIn ho hc hf h0 ?_
  have ho2 : (s1.heap.push (tupObj [u2])).get? y = some ox := Heap.get?_push_of_some _ ho
  have Ia := I1.kept (t' := s1.toks) (h' := s1.heap.push (tupObj [u2])) fun b u q => Heap.get?_push_of_some _ q
  refine ⟨.non, H1, Ia.pokeN (t' := s1.toks) hy (fun b u hb z => (Heap.get?_update_other _ _ (Ne.symm hb)).trans z) ⟨_, _, s1.heap.objs.size, fld_up 0 _ ho2 hf, (Obj.cls_mapFields ..).trans hc, (dict_map ..).trans hd, Obj.data_mapFields hf _, by simpa using hz, ?_, ?_⟩, rfl, q⟩
  · rw [Array.getElem?_setIfInBounds_self_of_lt (by (first | lia | omega))]
  · rw [Array.getElem?_setIfInBounds_ne (by decide)]
    exact h1
/-- a field of an exception -/
structure XFld (K : Frag) (C : Addr) (f : Str) : Prop where
  sa : findIn K (.ref C) "__setattr__" = some (some (.builtin "object.__setattr__"))
  no : findIn K (.ref C) f = some none
  hd : hasDictIn K C = true
  ga : findIn K (.ref C) "__getattribute__" = some (some (.builtin "BaseException.__getattribute__"))
  gt : findIn K (.ref C) "__getattr__" = some none
  mb : mroIn K C (.type "BaseException") = some true
end
def sXFld (K : Frag) (ta tv : TE) (f : Str) : TS := fun D σ H => tv σ H fun y H1 => ta σ H1 fun x H2 => ∃ a C G, x = .ref a ∧ H2 a = some (.ext (XNew a (.ref C) none)) ∧ XTop K C G ∧ XFld K C f ∧
  ∀ dx, H2 dx = none → dx ≠ a → D.nx σ (upd (upd H2 dx (.xd [(f, y)])) a (.ext (XNew a (.ref C) (some dx))))
section
variable {X : Cx} {o e value : Expr} {f : Str} {pos pos' : Pos} {ta tv : TE}
theorem ps_xfld (ha : PE X o ta) (hv : PE X value tv) (hs : swapsWith value (some (.Attribute o f pos')) pos.line X.env = pure false) : PS X (.Assign [.Attribute o f pos'] value pos) (sXFld X.K ta tv f) := by
  intro pins s σ H D I h
  refine plainObj_wpAny_Assign_Attribute (thn (hv pins s σ H _ I h) fun u s1 ⟨y, H1, I1, ry, q⟩ => thn (ha pins s1 σ H1 _ I1 q) fun ov s2 ⟨x, H2, I2, rx, a, C, G, ex, hy, T, F, q2⟩ => ?_) hs
  subst ex
  obtain rfl : ov = Value.ref a := rx
  obtain ⟨ox, vs, t, ho, hc, hd, hf, hz, h0, h1⟩ := (I2.hok _ _ hy).1
  have hlt : a < s2.heap.objs.size := I2.hok.lt hy
  refine xset T I2.kIn ho hc hf hd F.sa F.no F.hd fun h' e1 e2 e3 => ?_
  have hdn : H2 s2.heap.objs.size = none := I2.hok.fresh (Nat.le_refl _)
  have hne : s2.heap.objs.size ≠ a := Nat.ne_of_gt hlt
  refine ⟨σ, _, ?_, q2 _ hdn hne⟩
  have hob : ObjOk X.prog X.w (upd H2 s2.heap.objs.size (.xd [(f, y)])) h' s2.heap.objs.size (.xd [(f, y)]) := by
    refine ⟨_, e2, fun z => ?_⟩
    show RelO (List.lookup z [(f, y)]) (if z = f then some u else none)
    by_cases hz' : z = f
    · subst hz'
      simp only [List.lookup, beq_self_eq_true, if_true]
      exact ry
    · rw [if_neg hz']
      have : (z == f) = false := beq_eq_false_iff_ne.mpr hz'
      simp only [List.lookup, this]
      trivial
  -- first the exception's object is changed, then the dict is laid
  have un1 : Un X.fs [] H2 (upd (upd H2 s2.heap.objs.size (.xd [(f, y)])) a (.ext (XNew a (.ref C) (some s2.heap.objs.size)))) s2.heap h' := by
    have hna : ∀ b, H2 b = none → b ≠ a := fun b n z => by rw [z, hy] at n; cases n
    have hnd : ∀ b ob, s2.heap.get? b = some ob → b ≠ s2.heap.objs.size := fun b ob e => Nat.ne_of_lt (Heap.lt_size e)
    refine ⟨fun b ob e n _ _ => e3 b ob (hna b n) e, fun b ob e n _ _ => ⟨ob.slots, e3 b ob (hna b n) e⟩, fun b ob e n _ => by rw [upd_ne (hna b n), upd_ne (hnd b ob e)]; exact n, fun b ob e _ => ?_, fun b xs e => ?_, fun b ob u' e => ?_, fun b ps e => ?_⟩
    · by_cases hb : b = a
      · subst hb; exact ⟨_, e1⟩
      · exact ⟨ob, e3 b ob hb e⟩
    · have h1' : b ≠ a := fun z => by rw [z, hy] at e; cases e
      have h2' : b ≠ s2.heap.objs.size := fun z => by rw [z, hdn] at e; cases e
      rw [upd_ne h1', upd_ne h2']; exact e
    · have h1' : b ≠ a := fun z => by rw [z, hy] at e; cases e
      have h2' : b ≠ s2.heap.objs.size := fun z => by rw [z, hdn] at e; cases e
      rw [upd_ne h1', upd_ne h2']; exact e
    · have h1' : b ≠ a := fun z => by rw [z, hy] at e; cases e
      have h2' : b ≠ s2.heap.objs.size := fun z => by rw [z, hdn] at e; cases e
      exact ⟨#[], by rw [upd_ne h1', upd_ne h2', e]; simp⟩
  refine I2.un (t' := s2.toks + 2) un1 fun b u' hb => ?_
  by_cases hba : b = a
  · subst hba
    rw [upd_same] at hb
    cases hb
    exact XNew.ok ⟨_, vs, t, e1, hc, rfl, hf, hz, h0, h1⟩
  · rw [upd_ne hba] at hb
    by_cases hbd : b = s2.heap.objs.size
    · subst hbd
      rw [upd_same] at hb
      cases hb
      exact hob.stay (fun c v _ q => q) (fun c q => by
        have : c ≠ a := fun z => by
          subst z
          rw [upd_ne hne.symm, hy] at q
          cases q
        rw [upd_ne this]; exact q) (fun c xs q => by
        have : c ≠ a := fun z => by
          subst z
          rw [upd_ne hne.symm, hy] at q
          cases q
        rw [upd_ne this]; exact q)
    · rw [upd_ne hbd] at hb
      have keepH : ∀ c z, H2 c = some z → c ≠ a → upd (upd H2 s2.heap.objs.size (.xd [(f, y)])) a (.ext (XNew a (.ref C) (some s2.heap.objs.size))) c = some z := fun c z hc' hca => by
        have : c ≠ s2.heap.objs.size := fun w => by rw [w, hdn] at hc'; cases hc'
        rw [upd_ne hca, upd_ne this]; exact hc'
      refine (I2.hok b u' hb).stay (fun c v hcc q => e3 c v ?_ q) (fun c q => keepH c _ q ?_) (fun c xs q => keepH c _ q ?_)
      · rintro rfl
        rcases hcc with z | z
        · exact hba z.symm
        · rw [hy] at z; cases z
      · rintro rfl
        rw [hy] at q; cases q
      · rintro rfl
        rw [hy] at q; cases q
end
/-- e.f of an exception that was caught -/
def tXGet (K : Frag) (ta : TE) (f : Str) : TE := fun σ H Q => ta σ H fun x H1 => ∃ a oe C dx fs v, x = .ref a ∧ H1 a = some (Known a oe) ∧ oe.cls = .ref C ∧ oe.dict = some dx ∧ (∃ vs, oe.data = .fields vs) ∧ H1 dx = some (.xd fs) ∧ XFld K C f ∧ fs.lookup f = some v ∧ Q v H1
section
variable {X : Cx} {e : Expr} {f : Str} {pos : Pos} {ta : TE}
theorem pe_xget (he : PE X e ta) (hb : attributeBase e f X.env (eval e X.env) = eval e X.env) : PE X (.Attribute e f pos) (tXGet X.K ta f) := by
  intro pins s σ H Q I h
  refine attr_of hb (thn (he pins s σ H _ I h) fun u s1 ⟨x, H1, I1, rx, a, oe, C, dx, fs, v, ex, hk, hc, hd, ⟨vs, hf⟩, hx, F, hl, q⟩ => ?_)
  subst ex
  obtain rfl : u = Value.ref a := rx
  have ho : s1.heap.get? a = some oe := (I1.hok a _ hk).1
  obtain ⟨mA, n, hr⟩ := (show ObjOk X.prog X.w H1 s1.heap dx (.xd fs) from I1.hok dx _ hx)
  obtain ⟨od, hod, hlk⟩ := lookIn_ns n
  obtain ⟨u', hu, ru⟩ := RelO.some_of (v := v) (o := mA f) (by rw [← hl]; exact hr f)
  have J : InstAt s1.heap a oe C (some od) := ⟨ho, hc, by unfold notCls; rw [hf], by rw [hd]; exact hod⟩
  exact xget I1.kIn J F.ga F.gt F.mb (findObj_own F.hd F.no rfl (by rw [hlk, hu])) (handed_of ru) ⟨v, H1, I1.tok _, ru, q⟩
end
/-- isinstance of an exception that was caught: of a class that it has -/
theorem xis_true {prog : Program} {w : World} {A : Around} {E : Value → Shared → Prop} {s : Shared} {K : Frag} {x : Addr} {C c : Value} {Q : Value → Shared → Prop} (X : K.In s.heap) (ty : ∀ M, Looks M s.heap (typeOf (.ref x)) C) (hne : (C == c) = false) (e : kitCls K C c = some true)
    (h : Q (.bool true) s) : wpAny (model prog w) A (call (.builtin "isinstance") [.ref x, c]) Q E s := by
  refine call_isinstance (S := fun _ R s => (K.In s.heap ∧ ∀ M, Looks M s.heap (typeOf (.ref x)) C) ∧ R (.ok (.ret (.bool true))) s) (fun prog w A R s hs => isinstance_outer ?_ (fun z => nomatch z)) ⟨⟨X, ty⟩, h⟩
  · obtain ⟨⟨X, LT⟩, hq⟩ := hs
    obtain ⟨h0, g, d, tt, os⟩ := s
    unfold Builtin.«isinstance.nested»
    refine wpAny_bind ((LT _).at ?_)
    rw [if_neg (by rw [hne]; decide)]
    obtain ⟨hty, his, hsub⟩ := kit_cls (M := model prog w) X e
    refine wpAny_bind (hty.at ?_)
    rw [if_pos (by decide)]
    k_delta "plainIsInstance"
    refine wpAny_bind (wpAny_bind (his.at ?_))
    simp only [Bool.not_true, Bool.false_eq_true, if_false]
    refine wpAny_bind (((LT _).andThen hsub).at ?_)
    first | exact wpAny_pure (wpAny_pure hq) | (simp only [if_true]; first | exact wpAny_pure (wpAny_pure hq) | exact wpAny_pure hq)
end L2

namespace L2
open PySem PySem.Spec PyProof.Rows PySem.W
section
variable {prog : Program} {w : World} {A : Around} {K : Frag} {C G : Addr} {R : Result → Shared → Prop} {s : Shared}
end
section
variable {X : Cx} {j k : Nat} {C G : Addr} {E : XKS} {x : Str} {p pos cpos : Pos} {e : Expr} {es : List Expr} {t : TA}
end
section
variable {X : Cx}
/-- isinstance(e, D) of an exception that was caught, D one of its classes -/
theorem call_xisR : CallR X (.builtin "isinstance") (fun xs H Q => ∃ a oe C D, xs = [.ref a, .ref D] ∧ H a = some (Known a oe) ∧ oe.cls = .ref C ∧ C ≠ D ∧ isClsIn X.K D = true ∧ typeIn X.K (.ref D) = some (.type "type") ∧ mroIn X.K C (.ref D) = some true ∧ Q (.bl true) H) := by
  intro pins s σ H xs us Q I r h
  obtain ⟨a, oe, C, D, rfl, hk, hc, hne, h1, h2, h3, q⟩ := h
  obtain ⟨u, v, rfl, rx, ry⟩ := Vals.two r
  obtain rfl : u = Value.ref a := rx
  obtain rfl : v = Value.ref D := ry
  have ho : s.heap.get? a = some oe := (I.hok a _ hk).1
  refine xis_true I.kIn (C := .ref C) (fun M => hc ▸ (Looks.ld ho).andThen .now) (by simpa using hne) ?_ ⟨.bl true, H, I, rfl, q⟩
  unfold kitCls
  dsimp only
  unfold isClsIn at h1
  rw [h1, h2, if_pos (by decide)]
  exact h3
theorem call_xisT : CallR X (.builtin "isinstance") (fun xs H Q => ∃ a oe C n, xs = [.ref a, .ty n] ∧ H a = some (Known a oe) ∧ oe.cls = .ref C ∧ kitMeta n = true ∧ mroIn X.K C (.type n) = some true ∧ Q (.bl true) H) := by
  intro pins s σ H xs us Q I r h
  obtain ⟨a, oe, C, n, rfl, hk, hc, h1, h3, q⟩ := h
  obtain ⟨u, v, rfl, rx, ry⟩ := Vals.two r
  obtain rfl : u = Value.ref a := rx
  obtain rfl : v = Value.type n := ry
  have ho : s.heap.get? a = some oe := (I.hok a _ hk).1
  refine xis_true I.kIn (C := .ref C) (fun M => hc ▸ (Looks.ld ho).andThen .now) rfl ?_ ⟨.bl true, H, I, rfl, q⟩
  unfold kitCls
  dsimp only
  rw [if_pos h1]
  exact h3
end
end L2

/-! texts with values put in -/
namespace L2
open PySem PySem.Spec PyProof.Rows
abbrev TJ := St → Hp → Str → (Str → Hp → Prop) → Prop
def PJ (X : Cx) (es : List Expr) (t : TJ) : Prop := ∀ (pins : List (Addr × Obj)) (s : Shared) (σ : St) (H : Hp) (acc : Str) (Q : Str → Hp → Prop), Inv X pins σ H s → t σ H acc Q →
  wpAny (model X.prog X.w) X.A (joinParts acc (evalEach es X.env)) (EP X pins σ fun v H' => ∃ z, v = .str z ∧ Q z H') X.xe s
def tJNil : TJ := fun _ H acc Q => acc.length ≤ sizeLine ∧ Q acc H
def tJCons (te : TE) (t : TJ) : TJ := fun σ H acc Q => te σ H fun v H1 => ∃ y, v = .str y ∧ (acc ++ y).length ≤ sizeLine ∧ t σ H1 (acc ++ y) Q
def tFv (tv : TE) : TE := fun σ H Q => tv σ H fun v H1 => (∃ z, v = .str z ∧ z.length ≤ sizeLine ∧ Q (.str z) H1) ∨ ∃ i : Int, v = .int i ∧ i.natAbs.log2 < 1920 ∧ Q (.str (Str.ofString (toString i))) H1
def tJoined (t : TJ) : TE := fun σ H Q => t σ H Str.empty fun z H' => Q (.str z) H'
section
variable {X : Cx} {e : Expr} {es : List Expr} {te : TE} {t : TJ} {pos : Pos}
theorem pj_nil : PJ X [] tJNil := fun _ _ _ H acc _ I h => joinParts_nil ⟨.str acc, H, I.tok _, ⟨_, rfl⟩, acc, rfl, h.2⟩ h.1
theorem pj_cons (he : PE X e te) (hr : PJ X es t) (hs : evalEach (e :: es) X.env = eval e X.env :: evalEach es X.env := by rfl) : PJ X (e :: es) (tJCons te t) := by
  intro pins s σ H acc Q I h
  rw [hs]
  refine joinParts_cons (thn (he pins s σ H _ I h) fun u s1 ⟨v, H1, I1, r, y, ev, hz, q⟩ => ?_)
  subst ev
  obtain ⟨tk, rfl⟩ := r
  exact ⟨hz, hr pins s1 σ H1 _ Q I1 q⟩
theorem pe_fv (he : PE X e te) : PE X (.FormattedValue e (-1) none pos) (tFv te) := by
  intro pins s σ H Q I h
  refine FormattedValue_plain (thn (he pins s σ H _ I h) fun u s1 ⟨v, H1, I1, r, q⟩ => ?_)
  rcases q with ⟨z, rfl, hz, q⟩ | ⟨i, rfl, hi, q⟩
  · obtain ⟨tk, rfl⟩ := r
    exact formatField_str (fun t' tk => ⟨.str z, H1, I1.tok _, ⟨_, rfl⟩, q⟩) hz
  · obtain ⟨tk, rfl⟩ := r
    exact formatField_int_small hi ⟨.str _, H1, I1.tok _, ⟨_, rfl⟩, q⟩
theorem pe_joined {e2 : Expr} (h : PJ X (e :: e2 :: es) t) : PE X (.JoinedStr (e :: e2 :: es) pos) (tJoined t) := by
  intro pins s σ H Q I hw
  refine JoinedStr_many (thn (h pins s σ H _ _ I hw) fun u s1 ⟨v, H1, I1, r, z, ev, q⟩ => ⟨v, H1, I1, r, by rw [ev]; exact q⟩)
end
end L2

/-! a display of many written texts -/
namespace L2
open PySem PySem.Spec PyProof.Rows
end L2
namespace L2
open PySem PySem.Spec PyProof.Rows
end L2
namespace L2
open PySem PySem.Spec PyProof.Rows PySem.W
variable {X : Cx}
theorem call_xisRK {K : Frag} (hK : X.K = K) : CallR X (.builtin "isinstance") (fun xs H Q => ∃ a oe C D, xs = [.ref a, .ref D] ∧ H a = some (Known a oe) ∧ oe.cls = .ref C ∧ C ≠ D ∧ isClsIn K D = true ∧ typeIn K (.ref D) = some (.type "type") ∧ mroIn K C (.ref D) = some true ∧ Q (.bl true) H) := by
  subst hK
  exact call_xisR
theorem call_xisTK {K : Frag} (hK : X.K = K) : CallR X (.builtin "isinstance") (fun xs H Q => ∃ a oe C n, xs = [.ref a, .ty n] ∧ H a = some (Known a oe) ∧ oe.cls = .ref C ∧ kitMeta n = true ∧ mroIn K C (.type n) = some true ∧ Q (.bl true) H) := by
  subst hK
  exact call_xisT
theorem pe_xgetK {K : Frag} {e : Expr} {f : Str} {pos : Pos} {ta : TE} (hK : X.K = K) (he : PE X e ta) (hb : attributeBase e f X.env (eval e X.env) = eval e X.env) : PE X (.Attribute e f pos) (tXGet K ta f) := by
  subst hK
  exact pe_xget he hb
end L2

namespace K08
open PySem L2 FgM Fg
def top (i : Nat) : Stmt := PySem.Challenge.pw_formgrove_k08_groves_read.main.body.getD i (.Pass ⟨0, 0, 0, 0⟩)
abbrev s_NoGrove___init__ : Stmt := inClass (top 2) 0
abbrev s_is_tag : Stmt := top 18
abbrev s_grove_of : Stmt := top 19
abbrev s_read : Stmt := top 21
abbrev s_Reading___init__ : Stmt := inClass (top 22) 0
abbrev s_Reading_takes : Stmt := inClass (top 22) 1
abbrev s_Reading_at_tree_end : Stmt := inClass (top 22) 2
abbrev s_Reading_may_stop : Stmt := inClass (top 22) 3
abbrev s_Reading_end_leaf : Stmt := inClass (top 22) 4
abbrev s_Reading_goes_in : Stmt := inClass (top 22) 5
abbrev s_Reading_goes_out : Stmt := inClass (top 22) 6
abbrev s_l_cell_at : Stmt := top 24
abbrev s_l_numbers : Stmt := top 25
abbrev s_l_tag : Stmt := top 26
abbrev s_l_words : Stmt := top 27
abbrev s_l_text : Stmt := top 28
abbrev s_l_spoiled : Stmt := top 29
abbrev s_l_bad : Stmt := top 30
abbrev s_l_grove : Stmt := top 31
abbrev s_l_is_grove : Stmt := top 32
abbrev s_l_asked : Stmt := top 33
abbrev s_law : Stmt := top 34
theorem sc_NoGrove___init__ : FnScope ["self", "place"] ["self", "place"] (defScope s_NoGrove___init__) := ⟨rfl, rfl, rfl, by decide +kernel, rfl, by decide +kernel, by decide +kernel⟩
theorem sc_is_tag : FnScope ["text"] ["text"] (defScope s_is_tag) := ⟨rfl, rfl, rfl, by decide +kernel, rfl, by decide +kernel, by decide +kernel⟩
theorem sc_grove_of : FnScope ["words", "tags", "rows", "place", "word", "within"] ["words"] (defScope s_grove_of) := ⟨rfl, rfl, rfl, by decide +kernel, rfl, by decide +kernel, by decide +kernel⟩
theorem sc_read : FnScope ["text", "reading", "place", "sign"] ["text"] (defScope s_read) := ⟨rfl, rfl, rfl, by decide +kernel, rfl, by decide +kernel, by decide +kernel⟩
theorem sc_Reading___init__ : FnScope ["self"] ["self"] (defScope s_Reading___init__) := ⟨rfl, rfl, rfl, by decide +kernel, rfl, by decide +kernel, by decide +kernel⟩
theorem sc_Reading_takes : FnScope ["self", "sign"] ["self", "sign"] (defScope s_Reading_takes) := ⟨rfl, rfl, rfl, by decide +kernel, rfl, by decide +kernel, by decide +kernel⟩
theorem sc_Reading_at_tree_end : FnScope ["self"] ["self"] (defScope s_Reading_at_tree_end) := ⟨rfl, rfl, rfl, by decide +kernel, rfl, by decide +kernel, by decide +kernel⟩
theorem sc_Reading_may_stop : FnScope ["self"] ["self"] (defScope s_Reading_may_stop) := ⟨rfl, rfl, rfl, by decide +kernel, rfl, by decide +kernel, by decide +kernel⟩
theorem sc_Reading_end_leaf : FnScope ["self"] ["self"] (defScope s_Reading_end_leaf) := ⟨rfl, rfl, rfl, by decide +kernel, rfl, by decide +kernel, by decide +kernel⟩
theorem sc_Reading_goes_in : FnScope ["self"] ["self"] (defScope s_Reading_goes_in) := ⟨rfl, rfl, rfl, by decide +kernel, rfl, by decide +kernel, by decide +kernel⟩
theorem sc_Reading_goes_out : FnScope ["self"] ["self"] (defScope s_Reading_goes_out) := ⟨rfl, rfl, rfl, by decide +kernel, rfl, by decide +kernel, by decide +kernel⟩
theorem sc_l_cell_at : FnScope ["_law_script", "_law_k"] ["_law_script", "_law_k"] (defScope s_l_cell_at) := ⟨rfl, rfl, rfl, by decide +kernel, rfl, by decide +kernel, by decide +kernel⟩
theorem sc_l_numbers : FnScope ["_law_script", "_law_many", "_law_found", "_law_number", "_law_k", "_law_cell"] ["_law_script", "_law_many"] (defScope s_l_numbers) := ⟨rfl, rfl, rfl, by decide +kernel, rfl, by decide +kernel, by decide +kernel⟩
theorem sc_l_tag : FnScope ["_law_number", "_law_some", "_law_tag_here", "_law_k"] ["_law_number"] (defScope s_l_tag) := ⟨rfl, rfl, rfl, by decide +kernel, rfl, by decide +kernel, by decide +kernel⟩
theorem sc_l_words : FnScope ["_law_script", "_law_first", "_law_many", "_law_lean", "_law_words_here", "_law_opened", "_law_number", "_law_closings"] ["_law_script"] (defScope s_l_words) := ⟨rfl, rfl, rfl, by decide +kernel, rfl, by decide +kernel, by decide +kernel⟩
theorem sc_l_text : FnScope ["_law_words_here", "_law_tags", "_law_rows", "_law_word", "_law_text_here", "_law_kidrow"] ["_law_words_here"] (defScope s_l_text) := ⟨rfl, rfl, rfl, by decide +kernel, rfl, by decide +kernel, by decide +kernel⟩
theorem sc_l_spoiled : FnScope ["_law_text_here", "_law_cell", "_law_some", "_law_mark", "_law_odd", "_law_at", "_law_way"] ["_law_text_here", "_law_cell"] (defScope s_l_spoiled) := ⟨rfl, rfl, rfl, by decide +kernel, rfl, by decide +kernel, by decide +kernel⟩
theorem sc_l_bad : FnScope ["_law_text_here", "_law_opened", "_law_many", "_law_last", "_law_place", "_law_sign", "_law_letter"] ["_law_text_here"] (defScope s_l_bad) := ⟨rfl, rfl, rfl, by decide +kernel, rfl, by decide +kernel, by decide +kernel⟩
theorem sc_l_grove : FnScope ["_law_text_here", "_law_rows", "_law_tags", "_law_last", "_law_sign", "_law_kidrow"] ["_law_text_here"] (defScope s_l_grove) := ⟨rfl, rfl, rfl, by decide +kernel, rfl, by decide +kernel, by decide +kernel⟩
theorem sc_l_is_grove : FnScope ["_law_found", "_law_pile", "_law_row", "_law_tree"] ["_law_found"] (defScope s_l_is_grove) := ⟨rfl, rfl, rfl, by decide +kernel, rfl, by decide +kernel, by decide +kernel⟩
theorem sc_l_asked : FnScope ["_law_text_here", "_law_found", "_law_refused", "e"] ["_law_text_here"] (defScope s_l_asked) := ⟨rfl, rfl, rfl, by decide +kernel, rfl, by decide +kernel, by decide +kernel⟩
theorem sc_law : FnScope ["_law_script", "_law_good", "_law_text_here", "_law_place", "_law_found", "_law_refused"] ["_law_script"] (defScope s_law) := ⟨rfl, rfl, rfl, by decide +kernel, rfl, by decide +kernel, by decide +kernel⟩
structure XC (K : PySem.W.Frag) (mg : Str → Option Value) (X_GroveError X_NoGrove X_BadForm X_TooMany X_TooBig X_NoneFits X_NoBook X_TwiceNamed X_NoName X_Ring X_BadChanger X_NoRecipe X_NotStraight X_NoChange X_NoRow : Addr) : Prop where
  n_GroveError : mg "GroveError" = some (.ref X_GroveError)
  n_NoGrove : mg "NoGrove" = some (.ref X_NoGrove)
  n_BadForm : mg "BadForm" = some (.ref X_BadForm)
  n_TooMany : mg "TooMany" = some (.ref X_TooMany)
  n_TooBig : mg "TooBig" = some (.ref X_TooBig)
  n_NoneFits : mg "NoneFits" = some (.ref X_NoneFits)
  n_NoBook : mg "NoBook" = some (.ref X_NoBook)
  n_TwiceNamed : mg "TwiceNamed" = some (.ref X_TwiceNamed)
  n_NoName : mg "NoName" = some (.ref X_NoName)
  n_Ring : mg "Ring" = some (.ref X_Ring)
  n_BadChanger : mg "BadChanger" = some (.ref X_BadChanger)
  n_NoRecipe : mg "NoRecipe" = some (.ref X_NoRecipe)
  n_NotStraight : mg "NotStraight" = some (.ref X_NotStraight)
  n_NoChange : mg "NoChange" = some (.ref X_NoChange)
  n_NoRow : mg "NoRow" = some (.ref X_NoRow)
  bas : XBas K X_GroveError
  isG : PySem.W.isClsIn K X_GroveError = true
  tyG : PySem.W.typeIn K (.ref X_GroveError) = some (.type "type")
  c_GroveError : XCl K X_GroveError
  c_NoGrove : XCl K X_NoGrove
  c_BadForm : XCl K X_BadForm
  c_TooMany : XCl K X_TooMany
  c_TooBig : XCl K X_TooBig
  c_NoneFits : XCl K X_NoneFits
  c_NoBook : XCl K X_NoBook
  c_TwiceNamed : XCl K X_TwiceNamed
  c_NoName : XCl K X_NoName
  c_Ring : XCl K X_Ring
  c_BadChanger : XCl K X_BadChanger
  c_NoRecipe : XCl K X_NoRecipe
  c_NotStraight : XCl K X_NotStraight
  c_NoChange : XCl K X_NoChange
  c_NoRow : XCl K X_NoRow
  top_NoGrove : XTop K X_NoGrove X_GroveError
  f_NoGrove_place : XFld K X_NoGrove "place"
  mV_NoGrove : PySem.W.mroIn K X_NoGrove (.type "ValueError") = some true
  ne_NoGrove : X_NoGrove ≠ X_GroveError
  m_NoGrove_GroveError : PySem.W.mroIn K X_NoGrove (.ref X_GroveError) = some true
  m_NoGrove_NoGrove : PySem.W.mroIn K X_NoGrove (.ref X_NoGrove) = some true
  m_NoGrove_BadForm : PySem.W.mroIn K X_NoGrove (.ref X_BadForm) = some false
  m_NoGrove_TooMany : PySem.W.mroIn K X_NoGrove (.ref X_TooMany) = some false
  m_NoGrove_TooBig : PySem.W.mroIn K X_NoGrove (.ref X_TooBig) = some false
  m_NoGrove_NoneFits : PySem.W.mroIn K X_NoGrove (.ref X_NoneFits) = some false
  m_NoGrove_NoBook : PySem.W.mroIn K X_NoGrove (.ref X_NoBook) = some false
  m_NoGrove_TwiceNamed : PySem.W.mroIn K X_NoGrove (.ref X_TwiceNamed) = some false
  m_NoGrove_NoName : PySem.W.mroIn K X_NoGrove (.ref X_NoName) = some false
  m_NoGrove_Ring : PySem.W.mroIn K X_NoGrove (.ref X_Ring) = some false
  m_NoGrove_BadChanger : PySem.W.mroIn K X_NoGrove (.ref X_BadChanger) = some false
  m_NoGrove_NoRecipe : PySem.W.mroIn K X_NoGrove (.ref X_NoRecipe) = some false
  m_NoGrove_NotStraight : PySem.W.mroIn K X_NoGrove (.ref X_NotStraight) = some false
  m_NoGrove_NoChange : PySem.W.mroIn K X_NoGrove (.ref X_NoChange) = some false
  m_NoGrove_NoRow : PySem.W.mroIn K X_NoGrove (.ref X_NoRow) = some false
abbrev blts : List Str := ["ValueError", "all", "bool", "enumerate", "int", "isinstance", "len", "max", "min", "range", "str", "tuple"]
section
variable {P : Program} {w : World} {K : PySem.W.Frag} {mg : Str → Option Value} {base : Heap} {f : Addr} {fd : FuncData} {X_GroveError X_NoGrove X_BadForm X_TooMany X_TooBig X_NoneFits X_NoBook X_TwiceNamed X_NoName X_Ring X_BadChanger X_NoRecipe X_NotStraight X_NoChange X_NoRow : Addr}
/-- the first bad word from here on: the place here, how many tags are open -/
def bad : Nat → Nat → List Str → Option Nat
  | p, o, [] => if 0 < o then some p else none
  | p, o, w :: ws => if w = SL ∧ 0 < o then bad (p + 1) (o - 1) ws else if tagB w = true then bad (p + 1) (o + 1) ws else some p
theorem tagB_SL : tagB SL = false := by decide
theorem bad_tag {p o : Nat} {w : Str} {ws : List Str} (h : tagB w = true) : bad p o (w :: ws) = bad (p + 1) (o + 1) ws := by
  have : ¬ (w = SL ∧ 0 < o) := fun z => by rw [z.1, tagB_SL] at h; cases h
  rw [bad, if_neg this, if_pos h]
theorem bad_end {p o : Nat} {ws : List Str} : bad p (o + 1) (SL :: ws) = bad (p + 1) o ws := by
  rw [bad, if_pos ⟨rfl, Nat.succ_pos o⟩]
  rfl
theorem bad_no {p o : Nat} {w : Str} {ws : List Str} (h1 : ¬ tagB w = true) (h2 : ¬ (w = SL ∧ 0 < o)) : bad p o (w :: ws) = some p := by
  rw [bad, if_neg h2, if_neg h1]
theorem can_bad : ∀ (ws : List Str) (p o : Nat), Can SL o ws → (∀ w ∈ ws, w = SL ∨ tagB w = true) → bad p o ws = none
  | [], p, o, h, _ => by
    have : o = 0 := h
    rw [bad, this]
    rfl
  | w :: ws, p, o, h, hw => by
    rcases hw w (List.mem_cons_self ..) with rfl | h1
    · obtain ⟨ho, hc⟩ := can_end.mp h
      obtain ⟨k, rfl⟩ : ∃ k, o = k + 1 := ⟨o - 1, by (first | lia | omega)⟩
      rw [bad_end]
      exact can_bad ws _ _ hc fun x hx => hw x (List.mem_cons_of_mem _ hx)
    · have hn : w ≠ SL := fun z => by rw [z, tagB_SL] at h1; cases h1
      rw [bad_tag h1]
      exact can_bad ws _ _ ((can_tag hn).mp h) fun x hx => hw x (List.mem_cons_of_mem _ hx)
theorem log_small {n : Nat} (h : n ≤ 100000) : ((n : Nat) : Int).natAbs.log2 < 1920 := by
  rw [Int.natAbs_natCast]
  by_cases h0 : n = 0
  · rw [h0]; decide
  · exact (Nat.log2_lt h0).mpr (Nat.lt_of_le_of_lt h (Nat.lt_of_lt_of_le (by decide : 100000 < 2 ^ 17) (Nat.pow_le_pow_right (by decide) (by decide))))
theorem tagB_lets {z : Str} (h : Lets z) (h8 : z.length ≤ 8) : tagB z = true := by
  have h1 : 1 ≤ z.length := by
    have : 0 < z.cps.toList.length := List.length_pos_iff.mpr h.1
    rw [Array.length_toList] at this
    exact this
  unfold tagB
  rw [decide_eq_true h1, decide_eq_true h8, Bool.true_and, Bool.true_and, List.all_eq_true]
  intro c hc
  have := h.2 c hc
  unfold azB
  simp; (first | lia | omega)
/-- an error's making -/
def spXInit (C : Addr) : Sp := fun vs H Q _ => ∃ (y : Addr) (p : Int), vs = [.ref y, .int p] ∧ p.natAbs.log2 < 1920 ∧ (Str.ofString "no grove goes on so at place " ++ Str.ofString (toString p)).length ≤ sizeLine ∧ H y = some (.ext (XNew y (.ref C) none)) ∧
  ∀ dx, H dx = none → dx ≠ y → Q .non (upd (upd H dx (.xd [("place", .int p)])) y (.ext (XNew y (.ref C) (some dx))))
/-- the grove of words, or the first bad one -/
def spGroveX (K : PySem.W.Frag) (C : Addr) : Sp := fun vs H Q E => ∃ (a : Addr) (ws : List Str), vs = [.ref a] ∧ SqL K H a (ws.map V.str) ∧ ws.length ≤ 1000 ∧ (∀ w ∈ ws, w.length ≤ 100000) ∧
  (bad 0 0 ws = none → ∀ (r : Addr) (xs : List V) (g : Gr Str) (H' : Hp), Same H H' → H r = none → H' r = some (.tup xs) → RepG H' xs g → words SL g = ws → Clean SL g → Q (.ref r) H') ∧
  (∀ p, bad 0 0 ws = some p → ∀ (dx : Addr) (H' : Hp), Same H H' → H dx = none → H' dx = some (.xd [("place", .int (p : Nat))]) → E (.ref C) (some dx) H')
theorem bt_ValueError : bootBuiltins "ValueError" = some (.type "ValueError") := by decide +kernel
/-- words of tags of small letters, and ends -/
def LetW (ws : List Str) : Prop := ∀ w ∈ ws, w = SL ∨ (Lets w ∧ w.length ≤ 8)
theorem ok_NoGrove___init__ (B : ∀ x ∈ blts, mg x = none) (xc : XC K mg X_GroveError X_NoGrove X_BadForm X_TooMany X_TooBig X_NoneFits X_NoBook X_TwiceNamed X_NoName X_Ring X_BadChanger X_NoRecipe X_NotStraight X_NoChange X_NoRow) (F : Fun K "__init__" "NoGrove.__init__" s_NoGrove___init__ f fd) : FnOk P w K mg base CX0 1 f fd ["self", "place"] (spXInit X_NoGrove) := by
  refine F.ok sc_NoGrove___init__ (fun vs H Q E h => ?_) (fun cdv A outer s H vs Q E hr h => ?_)
  · obtain ⟨y, p, rfl, _⟩ := h
    rfl
  obtain ⟨y, p, rfl, hp, hz, hy, q⟩ := h
  refine ⟨_, (pss_cons (ps_expr (pe_xinit xc.bas rfl xc.n_GroveError (pa_cons (pv 0) (pa_cons (pe_joined (pj_cons pe_str (pj_cons (pe_fv (pv 1)) pj_nil))) pa_nil))))
    (pss_one (ps_xfld (pv 0) (pv 1) rfl))), ?_⟩
  refine ⟨_, rfl, _, rfl, by decide, _, rfl, .inr ⟨p, rfl, hp, _, rfl, hz, hz, ?_⟩⟩
  refine ⟨y, X_NoGrove, X_GroveError, none, _, rfl, hy, xc.top_NoGrove, ?_⟩
  exact ⟨_, rfl, _, rfl, y, X_NoGrove, X_GroveError, rfl, hy, xc.top_NoGrove, xc.f_NoGrove_place, fun dx h1 h2 => q dx h1 h2⟩
theorem ok_is_tag (B : ∀ x ∈ blts, mg x = none) (Cc : ∃ t : Tok, mg "LONGEST_TAG" = some (.int 8 t)) (F : Fun K "is_tag" "is_tag" s_is_tag f fd) : FnOk P w K mg base CX0 1 f fd ["text"] spIsTag := by
  refine F.ok sc_is_tag (fun vs H Q E h => ?_) (fun cdv A outer s H vs Q E hr h => ?_)
  · obtain ⟨z, rfl, _⟩ := h
    rfl
  obtain ⟨z, rfl, hz, q⟩ := h
  obtain ⟨t8, c_LONGEST_TAG⟩ := Cc
  unfold tagB at q
  refine ⟨_, (pss_one (ps_ret (pe_and (pe_chain op_le op_le pe_int (pe_callB call_len_str rfl (B "len" (by decide)) PySem.boot_len (pa_cons (pv 0) pa_nil)) (pe_glob (v := .int 8) rfl c_LONGEST_TAG ⟨_, rfl⟩)) (pe_one (pe_callB (call_all rfl) rfl (B "all" (by decide)) bt_all (pa_cons (pe_comp_az (pv 0) rfl (by decide) (by decide) rfl (by decide) rfl (by decide) (fun _ => rfl)) pa_nil)))))), ?_⟩
  refine ⟨_, rfl, z, rfl, len1000 (by (first | lia | omega)), _, _, rfl, rfl, _, rfl, ?_⟩
  refine ite2 (fun c => ?_) (fun c => ?_)
  · have c1 : 1 ≤ z.length := by
      have := of_decide_eq_true c
      (first | lia | omega)
    rw [decide_eq_true c1, Bool.true_and] at q
    refine ⟨_, _, rfl, rfl, _, rfl, ?_⟩
    refine ite2 (fun c => ?_) (fun c => ?_)
    · have c2 : z.length ≤ 8 := by
        have := of_decide_eq_true c
        (first | lia | omega)
      rw [decide_eq_true c2, Bool.true_and] at q
      refine ⟨_, rfl, z, rfl, len1000 (by (first | lia | omega)), fun p hp => ⟨p, z.cps.toList.map azB, rfl, SqL.of ?_, ?_⟩⟩
      · rw [upd_same, List.map_map]
        rfl
      · have e : (z.cps.toList.map azB).all id = z.cps.toList.all azB := by
          rw [List.all_map]
          rfl
        rw [e]
        exact q _ (Same.new hp)
    · have c2 : ¬ z.length ≤ 8 := fun h => c (decide_eq_true (by show ((z.length : Nat) : Int) ≤ 8; (first | lia | omega)))
      rw [decide_eq_false c2, Bool.false_and] at q
      exact q H (Same.refl H)
  · have c1 : ¬ 1 ≤ z.length := fun h => c (decide_eq_true (by show (1 : Int) ≤ ((z.length : Nat) : Int); (first | lia | omega)))
    rw [decide_eq_false c1, Bool.false_and, Bool.false_and] at q
    exact ⟨_, rfl, iteF (q H (Same.refl H))⟩
theorem xnew_same {H H1 : Hp} {y dx : Addr} {o1 o2 o3 o4 : HO} (s : Same H H1) (h1 : H1 y = none) (h2 : upd H1 y o1 dx = none) : Same H (upd (upd (upd (upd H1 y o1) dx o2) y o3) y o4) := by
  obtain ⟨_, h3⟩ := upd_none h2
  exact (((s.upd_new (s.free h1)).upd_new (s.free h3)).upd_new (s.free h1)).upd_new (s.free h1)
theorem raise_place {K : PySem.W.Frag} {C : Addr} {H H1 : Hp} {E : XK} {i : Nat} (sm : Same H H1) (hi : i ≤ 50000)
    (q2 : ∀ (dx : Addr) (H' : Hp), Same H H' → H dx = none → H' dx = some (.xd [("place", .int (i : Nat))]) → E (.ref C) (some dx) H') :
    ([V.int (i : Nat)].length ≤ 1000) ∧ ∀ y, H1 y = none → spXInit C [.ref y, .int (i : Nat)] (upd H1 y (.ext (XNew y (.ref C) none)))
      (fun v H2 => v = .non ∧ ∃ d, H2 y = some (.ext (XNew y (.ref C) d)) ∧ E (.ref C) d (upd H2 y (.ext (XO y (.ref C) d)))) E0 := by
  refine ⟨(by show 1 ≤ 1000; decide), fun y hy => ⟨y, i, rfl, log_small (by (first | lia | omega)), ?_, upd_same, fun dx hdx hne => ⟨rfl, some dx, upd_same, ?_⟩⟩⟩
  · have h1 := PyProof.Rows.len_str_of_int (i : Int)
    rw [strLen_append]
    rw [sizeLine_eq]
    have h2 : (Str.ofString "no grove goes on so at place ").length = 29 := by decide
    rw [Int.natAbs_natCast] at h1
    (first | lia | omega)
  · refine q2 dx _ (xnew_same sm hy hdx) ?_ ?_
    · obtain ⟨_, h3⟩ := upd_none hdx
      exact sm.free h3
    · rw [upd_ne hne, upd_ne hne, upd_same]
theorem ok_grove_of (B : ∀ x ∈ blts, mg x = none) (xc : XC K mg X_GroveError X_NoGrove X_BadForm X_TooMany X_TooBig X_NoneFits X_NoBook X_TwiceNamed X_NoName X_Ring X_BadChanger X_NoRecipe X_NotStraight X_NoChange X_NoRow) (g_is_tag : Has P w K mg base "is_tag" ["text"] 1 spIsTag) (x_NoGrove : XMk P w K mg base X_NoGrove X_GroveError "NoGrove" ["self", "place"] 1 (spXInit X_NoGrove)) (F : Fun K "grove_of" "grove_of" s_grove_of f fd) : FnOk P w K mg base (CXE P w) 3 f fd ["words"] (spGroveX K X_NoGrove) := by
  refine F.okX sc_grove_of (fun vs H Q E h => ?_) (fun cdv A outer s H vs Q E hr h => ?_)
  · obtain ⟨a, ws, rfl, _⟩ := h
    rfl
  obtain ⟨a, ws, rfl, hS, hlen, hlong, q1, q2⟩ := h
  refine ⟨_, (pss_cons (ps_set (i := 1) sc_grove_of.nd rfl (Or.inl rfl) (pe_lst pa_nil))
    (pss_cons (ps_set (i := 2) sc_grove_of.nd rfl (Or.inl rfl) (pe_lst (pa_cons (pe_lst pa_nil) pa_nil)))
    (pss_cons (ps_for PassesOwn.leaving rfl (pi_enum rfl (B "enumerate" (by decide)) (pa_cons (pv 0) pa_nil)) (pg_tup rfl (pgs_cons (pg_name (i := 3) sc_grove_of.nd rfl (Or.inl rfl)) (pgs_cons (pg_name (i := 4) sc_grove_of.nd rfl (Or.inl rfl)) pgs_nil)))
      (pss_one (ps_if (pt_truth (pe_has g_is_tag hr rfl (pa_cons (pv 4) pa_nil)) (fun _ => rfl))
          (pss_cons (ps_expr (pe_bm PySem.F.plainAttrs_list PySem.F.slot_list_append PySem.F.type_list_append mt_append (pv 1) (pa_cons (pv 4) pa_nil)))
            (pss_one (ps_expr (pe_bm PySem.F.plainAttrs_list PySem.F.slot_list_append PySem.F.type_list_append mt_append (pv 2) (pa_cons (pe_lst pa_nil) pa_nil)))))
          (pss_one (ps_if (PW.pt (pw_and (pt_cmpR op_eq (pv 4) pe_str (nomark _)) (pw_and1 (pt_truth (pv 1) (fun _ => rfl)))))
              (pss_cons (ps_set (i := 5) sc_grove_of.nd rfl (Or.inl rfl) (pe_callTy call_tuple_of rfl (B "tuple" (by decide)) bt_tuple (pa_cons (pe_bm0 PySem.F.plainAttrs_list PySem.F.slot_list_pop PySem.F.type_list_pop mt_pop (pv 2)) pa_nil)))
                (pss_one (ps_expr (pe_bm PySem.F.plainAttrs_list PySem.F.slot_list_append PySem.F.type_list_append mt_append (pe_ix ix_list (pv 2) (pe_un un_neg pe_int) (fun _ _ => rfl)) (pa_cons (pe_tup (pa_cons (pe_bm0 PySem.F.plainAttrs_list PySem.F.slot_list_pop PySem.F.type_list_pop mt_pop (pv 1)) (pa_cons (pv 5) pa_nil))) pa_nil)))))
              (pss_one (ps_raiseI x_NoGrove takes_def hr rfl (pa_cons (pv 3) pa_nil))))))))
    (pss_cons (ps_if (pt_truth (pv 1) (fun _ => rfl))
      (pss_one (ps_raiseI x_NoGrove takes_def hr rfl (pa_cons (pe_callB call_len_seq rfl (B "len" (by decide)) PySem.boot_len (pa_cons (pv 0) pa_nil)) pa_nil)))
      pss_nil)
    (pss_one (ps_ret (pe_callTy call_tuple_of rfl (B "tuple" (by decide)) bt_tuple (pa_cons (pe_ix ix_list (pv 2) pe_int (fun _ _ => rfl)) pa_nil)))))))), ?_⟩
  -- tags = []; rows = [[]]
  refine ⟨by decide, fun T hT => ?_⟩
  refine ⟨by decide, fun a0 h0 => ⟨(by show 1 ≤ sizeLine; decide), fun R hR => ?_⟩⟩
  obtain ⟨n0T, h0'⟩ := upd_none h0
  obtain ⟨nR0, hR1⟩ := upd_none hR
  obtain ⟨nRT, hR'⟩ := upd_none hR1
  have s3 : Same H (upd (upd (upd H T (.lst [])) a0 (.lst [])) R (.lst [.ref a0])) := ((Same.new hT).upd_new h0').upd_new hR'
  refine ⟨_, rfl, a, _, rfl, s3.seq hS, for_enum (K := K) (a := a) (xs := ws.map V.str) (fun i σ H1 => ∃ (as : List Addr) (gs : List (Gr Str)) (ts : List Str) (v3 v4 v5 : Option V),
    σ = [some (.ref a), some (.ref T), some (.ref R), v3, v4, v5] ∧ Same H H1 ∧ H1 T = some (.lst ((ts.map V.str).reverse)) ∧ H1 R = some (.lst ((as.map V.ref).reverse)) ∧ RowsR H1 as gs ∧ (R :: T :: as).Nodup ∧
    (∀ b ∈ as, H b = none) ∧ gs.length = ts.length + 1 ∧ flatR SL gs ts = ws.take i ∧ bad i ts.length (ws.drop i) = bad 0 0 ws ∧ (∀ g ∈ gs, Clean SL g) ∧ ∀ t ∈ ts, t ≠ SL)
    ⟨[a0], [.nil], [], none, none, none, rfl, s3, ?_, upd_same, ?_, ?_, ?_, rfl, rfl, rfl, ?_, fun _ h => nomatch h⟩ ?_ ?_ ?_⟩
  · rw [upd_ne nRT.symm, upd_ne n0T.symm]
    exact upd_same
  · refine .cons ⟨[], ?_, .nil⟩ .nil
    rw [upd_ne nR0.symm]
    exact upd_same
  · simp [nRT, nR0, n0T.symm]
  · intro b hb
    obtain rfl := List.mem_singleton.mp hb
    exact h0'
  · intro g hg
    obtain rfl := List.mem_singleton.mp hg
    trivial
  · rintro i σ H1 _ ⟨as, gs, ts, v3, v4, v5, _, sm, _⟩
    exact sm.seq hS
  · rintro i x p σ H0 hi ⟨as, gs, ts, v3, v4, v5, rfl, sm0, hT0, hR0, hrows0, nd, hfr, hgl, hflat, hc, hcl, htn⟩ hp
    obtain ⟨hil, hix⟩ := List.getElem?_eq_some_iff.mp hi
    rw [List.length_map] at hil
    obtain rfl : x = V.str ws[i] := by
      rw [← hix, List.getElem_map]
    have hdrop : ws.drop i = ws[i] :: ws.drop (i + 1) := List.drop_eq_getElem_cons hil
    have htake : ws.take (i + 1) = ws.take i ++ [ws[i]] := List.take_succ_eq_append_getElem hil
    have hwd := hlong ws[i] (List.getElem_mem hil)
    rw [hdrop] at hc
    generalize ws[i] = wd at hc htake hwd
    have hasl : as.length = gs.length := Paired.length hrows0
    obtain ⟨ndR, ndT⟩ := List.nodup_cons.mp nd
    obtain ⟨ndT', ndA⟩ := List.nodup_cons.mp ndT
    have hRa : ∀ b ∈ as, b ≠ R := fun b hb e => ndR (by rw [← e]; exact List.mem_cons_of_mem _ hb)
    have hTa : ∀ b ∈ as, b ≠ T := fun b hb e => ndT' (by rw [← e]; exact hb)
    have hRT : R ≠ T := fun e => ndR (by rw [e]; exact List.mem_cons_self ..)
    have h100 : wd.length ≤ 100000 := hwd
    refine ⟨p, _, rfl, SqT.of upd_same, rfl, _, _, rfl, _, _, rfl, rfl, ?_⟩
    refine ⟨_, rfl, wd, rfl, h100, fun H1 s1 => ⟨_, rfl, ?_⟩⟩
    have s01 := (Same.new (o := .tup [.int i, .str wd]) hp).trans s1
    have sm := sm0.trans s01
    have hT1 := s01 _ _ hT0
    have hR1' := s01 _ _ hR0
    have hrows := rows_mono s01.tk hrows0 fun b hb o ho => s01 _ _ ho
    refine ite2 (fun c => ?_) (fun c => ?_)
    · -- a tag
      have e : wd ≠ SL := fun z => by rw [z, tagB_SL] at c; exact absurd c (by decide)
      have hc' := (bad_tag c).symm.trans hc
      have hts : ts.length ≤ 1000 := by
        have h1 := flatR_len SL (ts := ts) hgl
        rw [hflat, List.length_take] at h1
        (first | lia | omega)
      refine ⟨_, rfl, .inl ⟨rfl, _, SqL.of hT1⟩, _, rfl, T, _, _, rfl, rfl, hT1, len1000' (by rw [List.length_reverse, List.length_map]; (first | lia | omega)), ?_⟩
      have hRa2 : (upd H1 T (.lst ((ts.map V.str).reverse ++ [.str wd]))) R = some (.lst (as.map V.ref).reverse) := by
        rw [upd_ne hRT]
        exact hR1'
      refine ⟨_, rfl, .inl ⟨rfl, _, SqL.of hRa2⟩, by decide, fun l hl => ?_⟩
      obtain ⟨nlT, hl1⟩ := upd_none hl
      have nlR : R ≠ l := ne_of_none hR1' hl1
      have hRb : (upd (upd H1 T (.lst ((ts.map V.str).reverse ++ [.str wd]))) l (.lst [])) R = some (.lst (as.map V.ref).reverse) := by
        rw [upd_ne nlR]
        exact hRa2
      refine ⟨R, _, _, rfl, rfl, hRb, len1000' (by rw [List.length_reverse, List.length_map]; (first | lia | omega)), ?_⟩
      have tk : TK H1 (upd (upd (upd H1 T (.lst ((ts.map V.str).reverse ++ [.str wd]))) l (.lst [])) R (.lst ((as.map V.ref).reverse ++ [.ref l]))) := ((TK.lst hT1).trans (TK.new hl)).trans (TK.lst hRb)
      have nla : l ∉ as := fun hb => by
        obtain ⟨o, ho⟩ := rows_there hrows l hb
        rw [hl1] at ho
        cases ho
      refine ⟨l :: as, .nil :: gs, wd :: ts, _, _, _, rfl, ?_, ?_, ?_, ?_, ?_, ?_, ?_, ?_, ?_, ?_, ?_⟩
      · exact ((sm.upd_new hT).upd_new (sm.free hl1)).upd_new hR'
      · rw [upd_ne hRT.symm, upd_ne nlT.symm, upd_same, List.map_cons, List.reverse_cons]
      · rw [upd_same, List.map_cons, List.reverse_cons]
      · refine .cons ⟨[], ?_, .nil⟩ (rows_mono tk hrows fun b hb o ho => ?_)
        · rw [upd_ne nlR.symm]
          exact upd_same
        · rw [upd_ne (hRa b hb), upd_ne (ne_of_none ho hl1), upd_ne (hTa b hb)]
          exact ho
      · refine List.nodup_cons.mpr ⟨fun h => ?_, List.nodup_cons.mpr ⟨fun h => ?_, List.nodup_cons.mpr ⟨nla, ndA⟩⟩⟩
        · rcases List.mem_cons.mp h with h | h
          · exact hRT h
          · rcases List.mem_cons.mp h with h | h
            · exact nlR h
            · exact ndR (List.mem_cons_of_mem _ h)
        · rcases List.mem_cons.mp h with h | h
          · exact nlT h.symm
          · exact ndT' h
      · intro b hb
        rcases List.mem_cons.mp hb with rfl | hb
        · exact sm.free hl1
        · exact hfr b hb
      · simpa using hgl
      · rw [flatR_open, hflat, htake]
      · exact hc'
      · intro g hg
        rcases List.mem_cons.mp hg with rfl | hg
        · trivial
        · exact hcl g hg
      · intro x hx
        rcases List.mem_cons.mp hx with rfl | hx
        · exact e
        · exact htn x hx
    · -- an end, or bad
      have hbad : ¬ (wd = SL ∧ 0 < ts.length) → bad 0 0 ws = some i := fun z => hc.symm.trans (bad_no c z)
      refine ⟨_, rfl, rfl, _, rfl, ite2 (fun c2 => ?_) (fun c2 => iteF ⟨_, rfl, raise_place (K := K) sm (by (first | lia | omega)) (q2 i (hbad fun z => c2 (decide_eq_true (congrArg V.str z.1))))⟩)⟩
      have e : wd = SL := by
        have := of_decide_eq_true c2
        injection this
      subst e
      cases ts with
      | nil => exact ⟨_, rfl, false, .inl ⟨_, SqL.of hT1, rfl⟩, iteF ⟨_, rfl, raise_place (K := K) sm (by (first | lia | omega)) (q2 i (hbad fun z => absurd z.2 (Nat.lt_irrefl 0)))⟩⟩
      | cons t ts =>
        cases gs with
        | nil => simp at hgl
        | cons g0 gs =>
          cases gs with
          | nil => simp at hgl
          | cons g1 gs =>
            cases hrows with
            | @cons b0 _ as _ r0 hrows =>
              cases hrows with
              | @cons b1 _ as _ r1 hrows =>
                obtain ⟨vs0, h00, r00⟩ := r0
                obtain ⟨vs1, h11, r11⟩ := r1
                have m0 : b0 ∈ b0 :: b1 :: as := List.mem_cons_self ..
                have m1 : b1 ∈ b0 :: b1 :: as := List.mem_cons_of_mem _ (List.mem_cons_self ..)
                have hgs : gs.length = ts.length := by simpa using hgl
                have hw1 : (words SL g1).length ≤ 1000 := by
                  have h1 := flatR_ge SL (r := g1) hgs
                  have h2 := congrArg List.length hflat
                  rw [List.length_take] at h2
                  simp only [flatR, List.length_append] at h2
                  (first | lia | omega)
                have hv1 := r11.length
                have hRs : H1 R = some (.lst (((b1 :: as).map V.ref).reverse ++ [.ref b0])) := by
                  rw [hR1', List.map_cons, List.reverse_cons]
                have hTs : H1 T = some (.lst ((ts.map V.str).reverse ++ [.str t])) := by
                  rw [hT1, List.map_cons, List.reverse_cons]
                have hc' := bad_end.symm.trans hc
                refine ⟨_, rfl, true, .inl ⟨_, SqL.of hTs, by simp⟩, iteT ?_⟩
                refine ⟨_, rfl, .inl ⟨rfl, _, SqL.of hRs⟩, R, _, _, rfl, rfl, hRs, snoc_last _ _, ?_⟩
                rw [snoc_drop]
                have h0a : (upd H1 R (.lst ((b1 :: as).map V.ref).reverse)) b0 = some (.lst vs0) := by
                  rw [upd_ne (hRa b0 m0)]
                  exact h00
                refine ⟨b0, vs0, rfl, .inl ⟨SqL.of h0a, fun l hl => ?_⟩⟩
                obtain ⟨nlR, hl1⟩ := upd_none hl
                have nlT : l ≠ T := (ne_of_none hT1 hl1).symm
                have nl1 : b1 ≠ l := ne_of_none h11 hl1
                have hRb : (upd (upd H1 R (.lst ((b1 :: as).map V.ref).reverse)) l (.tup vs0)) R = some (.lst ((as.map V.ref).reverse ++ [.ref b1])) := by
                  rw [upd_ne nlR.symm, upd_same, List.map_cons, List.reverse_cons]
                have h1b : (upd (upd H1 R (.lst ((b1 :: as).map V.ref).reverse)) l (.tup vs0)) b1 = some (.lst vs1) := by
                  rw [upd_ne nl1, upd_ne (hRa b1 m1)]
                  exact h11
                have hTb : (upd (upd H1 R (.lst ((b1 :: as).map V.ref).reverse)) l (.tup vs0)) T = some (.lst ((ts.map V.str).reverse ++ [.str t])) := by
                  rw [upd_ne nlT.symm, upd_ne hRT.symm]
                  exact hTs
                refine ⟨_, rfl, 1, rfl, R, _, -1, .ref b1, rfl, rfl, SqL.of hRb, atI_last _ _, .inl ⟨rfl, _, SqL.of h1b⟩, _, rfl, .inl ⟨rfl, _, SqL.of hTb⟩, T, _, _, rfl, rfl, hTb, snoc_last _ _, ?_⟩
                rw [snoc_drop]
                refine ⟨_, rfl, (by show 2 ≤ sizeLine; decide), fun l2 hl2 => ?_⟩
                obtain ⟨n2T, hl2a⟩ := upd_none hl2
                obtain ⟨n2l, hl2b⟩ := upd_none hl2a
                obtain ⟨n2R, hl2c⟩ := upd_none hl2b
                have n21 : b1 ≠ l2 := ne_of_none h11 hl2c
                have h1d : (upd (upd (upd (upd H1 R (.lst ((b1 :: as).map V.ref).reverse)) l (.tup vs0)) T (.lst (ts.map V.str).reverse)) l2 (.tup [.str t, .ref l])) b1 = some (.lst vs1) := by
                  rw [upd_ne n21, upd_ne (hTa b1 m1)]
                  exact h1b
                refine ⟨b1, _, _, rfl, rfl, h1d, len1000' (by (first | lia | omega)), ?_⟩
                have tk : TK H1 (upd (upd (upd (upd (upd H1 R (.lst ((b1 :: as).map V.ref).reverse)) l (.tup vs0)) T (.lst (ts.map V.str).reverse)) l2 (.tup [.str t, .ref l])) b1 (.lst (vs1 ++ [.ref l2]))) :=
                  ((((TK.lst hRs).trans (TK.new hl)).trans (TK.lst hTb)).trans (TK.new hl2)).trans (TK.lst h1d)
                have ndA2 := (List.nodup_cons.mp ndA).2
                have n1as := (List.nodup_cons.mp ndA2).1
                refine ⟨b1 :: as, snoc g1 t g0 :: gs, ts, _, _, _, rfl, ?_, ?_, ?_, ?_, ?_, ?_, ?_, ?_, ?_, ?_, ?_⟩
                · exact ((((sm.upd_new hR').upd_new (sm.free hl1)).upd_new hT).upd_new (sm.free hl2c)).upd_new (hfr b1 m1)
                · rw [upd_ne (hTa b1 m1).symm, upd_ne n2T.symm, upd_same]
                · rw [upd_ne (hRa b1 m1).symm, upd_ne n2R.symm, upd_ne hRT, upd_ne nlR.symm, upd_same]
                · refine .cons ⟨_, upd_same, RepG.snoc (q := l) (ys := vs0) ?_ ?_ (r00.mono tk) (r11.mono tk)⟩ (rows_mono tk hrows fun b hb o ho => ?_)
                  · rw [upd_ne n21.symm]
                    exact upd_same
                  · rw [upd_ne nl1.symm, upd_ne n2l.symm, upd_ne nlT]
                    exact upd_same
                  · have mb : b ∈ b0 :: b1 :: as := List.mem_cons_of_mem _ (List.mem_cons_of_mem _ hb)
                    have nb1 : b ≠ b1 := fun e => n1as (by rw [← e]; exact hb)
                    rw [upd_ne nb1, upd_ne (ne_of_none ho hl2c), upd_ne (hTa b mb), upd_ne (ne_of_none ho hl1), upd_ne (hRa b mb)]
                    exact ho
                · refine List.nodup_cons.mpr ⟨fun h => ?_, List.nodup_cons.mpr ⟨fun h => ndT' (List.mem_cons_of_mem _ h), ndA2⟩⟩
                  rcases List.mem_cons.mp h with h | h
                  · exact hRT h
                  · exact ndR (List.mem_cons_of_mem _ (List.mem_cons_of_mem _ h))
                · exact fun b hb => hfr b (List.mem_cons_of_mem _ hb)
                · simpa using hgl
                · rw [flatR_close SL t hgs, hflat, htake]
                · exact hc'
                · intro g hg
                  rcases List.mem_cons.mp hg with rfl | hg
                  · exact clean_snoc (htn t (List.mem_cons_self ..)) (hcl g0 (List.mem_cons_self ..)) (hcl g1 (List.mem_cons_of_mem _ (List.mem_cons_self ..)))
                  · exact hcl g (List.mem_cons_of_mem _ (List.mem_cons_of_mem _ hg))
                · exact fun x hx => htn x (List.mem_cons_of_mem _ hx)
  · rintro σ H1 ⟨as, gs, ts, v3, v4, v5, rfl, sm, hT1, hR1', hrows, nd, hfr, hgl, hflat, hc, hcl, htn⟩
    rw [List.length_map] at hflat hc
    rw [List.take_length] at hflat
    rw [List.drop_length] at hc
    cases ts with
    | cons t0 ts =>
      refine ⟨_, rfl, true, .inl ⟨_, SqL.of hT1, by simp⟩, iteT ?_⟩
      have hb : bad 0 0 ws = some ws.length := by
        rw [← hc, bad, if_pos (by simp)]
      have hR0 := raise_place (K := K) (C := X_NoGrove) sm (by (first | lia | omega)) (q2 ws.length hb)
      refine ⟨_, rfl, a, _, rfl, .inl (sm.seq hS), ?_⟩
      rw [List.length_map]
      exact hR0
    | nil =>
    have hgood : bad 0 0 ws = none := by
      rw [← hc]
      rfl
    cases gs with
    | nil => simp at hgl
    | cons g gs =>
      obtain rfl : gs = [] := List.eq_nil_of_length_eq_zero (by simpa using hgl)
      cases hrows with
      | @cons b _ _ _ r hrows =>
        cases hrows
        obtain ⟨vs, hb, hg⟩ := r
        refine ⟨_, rfl, false, .inl ⟨_, SqL.of hT1, rfl⟩, iteF ?_⟩
        refine ⟨_, rfl, R, _, 0, .ref b, rfl, rfl, SqL.of hR1', rfl, b, vs, rfl, .inl ⟨SqL.of hb, fun r hr => ?_⟩⟩
        exact q1 hgood r vs g _ (sm.upd_new (sm.free hr)) (sm.free hr) upd_same (hg.mono (TK.new hr)) hflat (hcl g (List.mem_cons_self ..))
structure RdC (K : PySem.W.Frag) (C : Addr) : Prop where
  cls : Cls K C
  nw : NoAttr K C "words"
  nl : NoAttr K C "letters"
  nc : NoAttr K C "closed"
  nd : NoAttr K C "deep"
/-- what a Reading has found: its words, the letters of a tag under way, whether a tree was just ended by ), how many are open -/
structure RS where
  ws : List Str
  lt : Str
  cl : Bool
  dp : Int
def rdF (q : Addr) (st : RS) : List (Str × V) := [("words", .ref q), ("letters", .str st.lt), ("closed", .bl st.cl), ("deep", .int st.dp)]
def RdAt (C : Addr) (H : Hp) (a dx q : Addr) (st : RS) : Prop := H a = some (.ins C dx (rdF q st)) ∧ H q = some (.lst (st.ws.map V.str))
/-- all but the two is as it was -/
def Bar (a q : Addr) (H H' : Hp) : Prop := ∀ b o, b ≠ a → b ≠ q → H b = some o → H' b = some o
theorem Bar.refl {a q : Addr} {H : Hp} : Bar a q H H := fun _ _ _ _ h => h
theorem Bar.trans {a q : Addr} {H H1 H2 : Hp} (x : Bar a q H H1) (y : Bar a q H1 H2) : Bar a q H H2 := fun b o h1 h2 h => y b o h1 h2 (x b o h1 h2 h)
theorem Bar.same {a q : Addr} {H H1 : Hp} (x : Same H H1) : Bar a q H H1 := fun b o _ _ h => x b o h
theorem Bar.up {a q : Addr} {H : Hp} {o : HO} : Bar a q H (upd H a o) := fun b o' h1 _ h => by rw [upd_ne h1]; exact h
theorem Bar.uq {a q : Addr} {H : Hp} {o : HO} : Bar a q H (upd H q o) := fun b o' _ h2 h => by rw [upd_ne h2]; exact h
theorem RdAt.same {C a dx q : Addr} {H H' : Hp} {st : RS} (h : RdAt C H a dx q st) (s : Same H H') : RdAt C H' a dx q st := ⟨s _ _ h.1, s _ _ h.2⟩
theorem RdAt.ne {C a dx q : Addr} {H : Hp} {st : RS} (h : RdAt C H a dx q st) : q ≠ a := fun e => by
  have := h.2
  rw [e, h.1] at this
  cases this
theorem RdAt.put {C a dx q : Addr} {H : Hp} {st st' : RS} (h : RdAt C H a dx q st) (e : st'.ws = st.ws) : RdAt C (upd H a (.ins C dx (rdF q st'))) a dx q st' := ⟨upd_same, by rw [upd_ne h.ne, e]; exact h.2⟩
theorem RdAt.lst {C a dx q : Addr} {H : Hp} {st : RS} {ws : List Str} (h : RdAt C H a dx q st) : RdAt C (upd H q (.lst (ws.map V.str))) a dx q { st with ws := ws } := ⟨by rw [upd_ne h.ne.symm]; exact h.1, upd_same⟩
def endLeaf (st : RS) : RS := if st.lt = "" then st else { st with ws := st.ws ++ [st.lt, SL], lt := "" }
def atEnd (st : RS) : Bool := st.cl || !decide (st.lt = "")
def goesIn (st : RS) : Bool × RS := if st.cl = true then (false, st) else (true, { st with ws := st.ws ++ [st.lt], lt := "", dp := st.dp + 1 })
def goesOut (st : RS) : Bool × RS := if st.dp = 0 then (false, st) else (true, { endLeaf st with ws := (endLeaf st).ws ++ [SL], cl := true, dp := st.dp - 1 })
def takes (st : RS) (z : Str) : Bool × RS := if (!st.cl && tagB (st.lt ++ z)) = true then (true, { st with lt := st.lt ++ z }) else if atEnd st = false then (false, st) else if z = " " then (true, { endLeaf st with cl := false }) else if z = "(" then goesIn st else if z = ")" then goesOut st else (false, st)
def Sml (st : RS) : Prop := st.lt.length ≤ 8 ∧ st.ws.length ≤ 90000
def spInit (C : Addr) : Sp := fun vs H Q _ => ∃ a dx, vs = [.ref a] ∧ H a = some (.ins C dx []) ∧ ∀ q H', (∀ b o, b ≠ a → H b = some o → H' b = some o) → H q = none → RdAt C H' a dx q ⟨[], "", false, 0⟩ → Q .non H'
def spAtEnd (C : Addr) : Sp := fun vs H Q _ => ∃ a dx q st, vs = [.ref a] ∧ RdAt C H a dx q st ∧ Q (.bl (atEnd st)) H
def spMayStop (C : Addr) : Sp := fun vs H Q _ => ∃ a dx q st, vs = [.ref a] ∧ RdAt C H a dx q st ∧ Q (.bl (atEnd st && decide (st.dp = 0))) H
def spEndLeaf (C : Addr) : Sp := fun vs H Q _ => ∃ a dx q st, vs = [.ref a] ∧ RdAt C H a dx q st ∧ Sml st ∧ ∀ H', Bar a q H H' → RdAt C H' a dx q (endLeaf st) → Q .non H'
def spGoesIn (C : Addr) : Sp := fun vs H Q _ => ∃ a dx q st, vs = [.ref a] ∧ RdAt C H a dx q st ∧ Sml st ∧ ∀ H', Bar a q H H' → RdAt C H' a dx q (goesIn st).2 → Q (.bl (goesIn st).1) H'
def spGoesOut (C : Addr) : Sp := fun vs H Q _ => ∃ a dx q st, vs = [.ref a] ∧ RdAt C H a dx q st ∧ Sml st ∧ ∀ H', Bar a q H H' → RdAt C H' a dx q (goesOut st).2 → Q (.bl (goesOut st).1) H'
def spTakes (C : Addr) : Sp := fun vs H Q _ => ∃ a dx q st, ∃ z : Str, vs = [.ref a, .str z] ∧ z.length ≤ 8 ∧ RdAt C H a dx q st ∧ Sml st ∧ ∀ H', Bar a q H H' → RdAt C H' a dx q (takes st z).2 → Q (.bl (takes st z).1) H'
variable {C : Addr}
theorem dstr (x y : Str) : decide (V.str x = V.str y) = decide (x = y) := by
  by_cases e : x = y
  · rw [e]; simp
  · rw [decide_eq_false e]; exact decide_eq_false fun z => e (by injection z)
theorem dint (x y : Int) : decide (V.int x = V.int y) = decide (x = y) := by
  by_cases e : x = y
  · rw [e]; simp
  · rw [decide_eq_false e]; exact decide_eq_false fun z => e (by injection z)
theorem few (q : Addr) (st : RS) : (rdF q st).length < 1000 := show 4 < 1000 by decide
theorem ok_Reading___init__ (B : ∀ x ∈ blts, mg x = none) (c : RdC K C) (F : Fun K "__init__" "Reading.__init__" s_Reading___init__ f fd) : FnOk P w K mg base CX0 1 f fd ["self"] (spInit C) := by
  refine F.ok sc_Reading___init__ (fun vs H Q E h => ?_) (fun cdv A outer s H vs Q E hr h => ?_)
  · obtain ⟨a, dx, rfl, _⟩ := h
    rfl
  obtain ⟨a, dx, rfl, ha, q⟩ := h
  refine ⟨_, (pss_cons (ps_fld (pv 0) (pe_lst pa_nil) rfl)
    (pss_cons (ps_fld (pv 0) pe_str rfl)
    (pss_cons (ps_fld (pv 0) pe_bl rfl)
    (pss_one (ps_fld (pv 0) pe_int rfl))))), ?_⟩
  refine ⟨by decide, fun p hp => ⟨_, rfl, a, C, dx, [], rfl, by rw [upd_ne (ne_of_none ha hp)]; exact ha, c.cls, c.nw, by decide, ?_⟩⟩
  refine ⟨_, rfl, a, C, dx, _, rfl, upd_same, c.cls, c.nl, (show 1 < 1000 by decide), ?_⟩
  refine ⟨_, rfl, a, C, dx, _, rfl, upd_same, c.cls, c.nc, (show 2 < 1000 by decide), ?_⟩
  refine ⟨_, rfl, a, C, dx, _, rfl, upd_same, c.cls, c.nd, (show 3 < 1000 by decide), ?_⟩
  refine q p _ (fun b o hb h => ?_) hp ⟨upd_same, ?_⟩
  · rw [upd_ne hb, upd_ne hb, upd_ne hb, upd_ne hb, upd_ne (ne_of_none h hp)]
    exact h
  · have n : p ≠ a := (ne_of_none ha hp).symm
    rw [upd_ne n, upd_ne n, upd_ne n, upd_ne n]
    exact upd_same
theorem ok_Reading_at_tree_end (B : ∀ x ∈ blts, mg x = none) (c : RdC K C) (F : Fun K "at_tree_end" "Reading.at_tree_end" s_Reading_at_tree_end f fd) : FnOk P w K mg base CX0 1 f fd ["self"] (spAtEnd C) := by
  refine F.ok sc_Reading_at_tree_end (fun vs H Q E h => ?_) (fun cdv A outer s H vs Q E hr h => ?_)
  · obtain ⟨a, dx, q, st, rfl, _⟩ := h
    rfl
  obtain ⟨a, dx, q, st, rfl, hR, qq⟩ := h
  refine ⟨_, (pss_one (ps_ret (pe_or (pe_fld (pv 0) rfl) (pe_one (pe_cmpR op_ne (pe_fld (pv 0) rfl) pe_str (nomark _)))))), ?_⟩
  refine ⟨_, rfl, a, C, dx, _, _, rfl, hR.1, c.cls, c.nc, rfl, _, rfl, ?_⟩
  unfold atEnd at qq
  cases e : st.cl with
  | true =>
    rw [e] at qq
    exact iteT qq
  | false =>
    rw [e] at qq
    refine iteF ⟨_, rfl, a, C, dx, _, _, rfl, hR.1, c.cls, c.nl, rfl, rfl, ?_⟩
    show Q (.bl (!decide (V.str st.lt = V.str ""))) H
    rw [dstr]
    simpa using qq
theorem ok_Reading_may_stop (B : ∀ x ∈ blts, mg x = none) (c_Reading : RdC K C) (g_Reading_at_tree_end : HasM P w K mg base C "at_tree_end" ["self"] 1 (spAtEnd C)) (F : Fun K "may_stop" "Reading.may_stop" s_Reading_may_stop f fd) : FnOk P w K mg base CX0 2 f fd ["self"] (spMayStop C) := by
  refine F.ok sc_Reading_may_stop (fun vs H Q E h => ?_) (fun cdv A outer s H vs Q E hr h => ?_)
  · obtain ⟨a, dx, q, st, rfl, _⟩ := h
    rfl
  obtain ⟨a, dx, q, st, rfl, hR, qq⟩ := h
  have c := c_Reading
  refine ⟨_, (pss_one (ps_ret (pe_and (pe_hasm0 g_Reading_at_tree_end hr (pv 0) c_Reading.cls) (pe_one (pe_cmpR op_eq (pe_fld (pv 0) rfl) pe_int (nomark _)))))), ?_⟩
  refine ⟨_, rfl, a, dx, _, rfl, hR.1, rfl, a, dx, q, st, rfl, hR, _, rfl, ?_⟩
  cases e : atEnd st with
  | false =>
    rw [e] at qq
    exact iteF qq
  | true =>
    rw [e] at qq
    refine iteT ⟨_, rfl, a, C, dx, _, _, rfl, hR.1, c.cls, c.nd, rfl, rfl, ?_⟩
    show Q (.bl (decide (V.int st.dp = V.int 0))) H
    rw [dint]
    exact qq
theorem ok_Reading_end_leaf (B : ∀ x ∈ blts, mg x = none) (c : RdC K C) (F : Fun K "end_leaf" "Reading.end_leaf" s_Reading_end_leaf f fd) : FnOk P w K mg base CX0 1 f fd ["self"] (spEndLeaf C) := by
  refine F.ok sc_Reading_end_leaf (fun vs H Q E h => ?_) (fun cdv A outer s H vs Q E hr h => ?_)
  · obtain ⟨a, dx, q, st, rfl, _⟩ := h
    rfl
  obtain ⟨a, dx, q, st, rfl, hR, hs, qq⟩ := h
  refine ⟨_, (pss_one (ps_if (pt_cmpR op_ne (pe_fld (pv 0) rfl) pe_str (nomark _))
      (pss_cons (ps_expr (pe_bm PySem.F.plainAttrs_list PySem.F.slot_list_extend PySem.F.type_list_extend mt_extend (pe_fld (pv 0) rfl) (pa_cons (pe_lst (pa_cons (pe_fld (pv 0) rfl) (pa_cons pe_str pa_nil))) pa_nil)))
        (pss_one (ps_fld (pv 0) pe_str rfl)))
      pss_nil)), ?_⟩
  unfold endLeaf at qq
  refine ⟨_, rfl, a, C, dx, _, _, rfl, hR.1, c.cls, c.nl, rfl, rfl, _, rfl, ?_⟩
  by_cases e : st.lt = ""
  · rw [if_pos e] at qq
    refine iteNS (by rw [e]) ?_
    exact qq H Bar.refl hR
  · rw [if_neg e] at qq
    refine ite2 (fun _ => ?_) (fun z => absurd (by rw [dstr, decide_eq_false e]; rfl) z)
    refine ⟨_, rfl, a, C, dx, _, _, rfl, hR.1, c.cls, c.nw, rfl, .inl ⟨rfl, _, SqL.of hR.2⟩, _, rfl, a, C, dx, _, _, rfl, hR.1, c.cls, c.nl, rfl, (by show 2 ≤ sizeLine; decide), fun p hp => ?_⟩
    have s1 : Same H (upd H p (.lst [.str st.lt, .str SL])) := Same.new hp
    refine ⟨q, p, _, [.str st.lt, .str SL], rfl, rfl, s1 _ _ hR.2, upd_same, len1000 (by rw [List.length_map]; have := hs.2; show _ + 2 ≤ _; (first | lia | omega)), ?_⟩
    have r1 := (hR.same s1).lst (ws := st.ws ++ [st.lt, SL])
    have b1 : Bar a q H (upd (upd H p (.lst [.str st.lt, .str SL])) q (.lst ((st.ws ++ [st.lt, SL]).map V.str))) := (Bar.same s1).trans Bar.uq
    have em : st.ws.map V.str ++ [.str st.lt, .str SL] = (st.ws ++ [st.lt, SL]).map V.str := by rw [List.map_append]; rfl
    rw [em]
    refine ⟨_, rfl, a, C, dx, _, rfl, r1.1, c.cls, c.nl, few _ _, ?_⟩
    exact qq _ (b1.trans Bar.up) (r1.put (st' := { st with ws := st.ws ++ [st.lt, SL], lt := "" }) rfl)
theorem ok_Reading_goes_in (B : ∀ x ∈ blts, mg x = none) (c : RdC K C) (F : Fun K "goes_in" "Reading.goes_in" s_Reading_goes_in f fd) : FnOk P w K mg base CX0 1 f fd ["self"] (spGoesIn C) := by
  refine F.ok sc_Reading_goes_in (fun vs H Q E h => ?_) (fun cdv A outer s H vs Q E hr h => ?_)
  · obtain ⟨a, dx, q, st, rfl, _⟩ := h
    rfl
  obtain ⟨a, dx, q, st, rfl, hR, hs, qq⟩ := h
  refine ⟨_, (pss_cons (ps_if (pt_truth (pe_fld (pv 0) rfl) (fun _ => rfl))
      (pss_one (ps_ret pe_bl))
      pss_nil)
    (pss_cons (ps_expr (pe_bm PySem.F.plainAttrs_list PySem.F.slot_list_append PySem.F.type_list_append mt_append (pe_fld (pv 0) rfl) (pa_cons (pe_fld (pv 0) rfl) pa_nil)))
    (pss_cons (ps_fld (pv 0) pe_str rfl)
    (pss_cons (ps_fldaug (pv 0) pe_int in_add)
    (pss_one (ps_ret pe_bl)))))), ?_⟩
  unfold goesIn at qq
  refine ⟨_, rfl, a, C, dx, _, _, rfl, hR.1, c.cls, c.nc, rfl, st.cl, rfl, ?_⟩
  by_cases e : st.cl = true
  · rw [if_pos e] at qq
    rw [e]
    exact iteT (qq H Bar.refl hR)
  · rw [if_neg e] at qq
    rw [Bool.not_eq_true _ |>.mp e]
    refine iteF ?_
    refine ⟨_, rfl, a, C, dx, _, _, rfl, hR.1, c.cls, c.nw, rfl, .inl ⟨rfl, _, SqL.of hR.2⟩, _, rfl, a, C, dx, _, _, rfl, hR.1, c.cls, c.nl, rfl, q, _, _, rfl, rfl, hR.2, len1000' (by rw [List.length_map]; have := hs.2; (first | lia | omega)), ?_⟩
    have em : st.ws.map V.str ++ [.str st.lt] = (st.ws ++ [st.lt]).map V.str := by rw [List.map_append]; rfl
    rw [em]
    have r1 := hR.lst (ws := st.ws ++ [st.lt])
    refine ⟨_, rfl, a, C, dx, _, rfl, r1.1, c.cls, c.nl, few _ _, ?_⟩
    have r2 := r1.put (st' := { st with ws := st.ws ++ [st.lt], lt := "" }) rfl
    refine ⟨_, rfl, a, C, dx, _, _, rfl, r2.1, c.cls, c.nd, rfl, _, _, rfl, rfl, dx, _, r2.1, few _ _, ?_⟩
    exact qq _ ((Bar.uq.trans Bar.up).trans Bar.up) (r2.put (st' := { st with ws := st.ws ++ [st.lt], lt := "", dp := st.dp + 1 }) rfl)
theorem ok_Reading_goes_out (B : ∀ x ∈ blts, mg x = none) (c_Reading : RdC K C) (g_Reading_end_leaf : HasM P w K mg base C "end_leaf" ["self"] 1 (spEndLeaf C)) (F : Fun K "goes_out" "Reading.goes_out" s_Reading_goes_out f fd) : FnOk P w K mg base CX0 2 f fd ["self"] (spGoesOut C) := by
  refine F.ok sc_Reading_goes_out (fun vs H Q E h => ?_) (fun cdv A outer s H vs Q E hr h => ?_)
  · obtain ⟨a, dx, q, st, rfl, _⟩ := h
    rfl
  obtain ⟨a, dx, q, st, rfl, hR, hs, qq⟩ := h
  have c := c_Reading
  refine ⟨_, (pss_cons (ps_if (pt_cmpR op_eq (pe_fld (pv 0) rfl) pe_int (nomark _))
      (pss_one (ps_ret pe_bl))
      pss_nil)
    (pss_cons (ps_expr (pe_hasm0 g_Reading_end_leaf hr (pv 0) c_Reading.cls))
    (pss_cons (ps_expr (pe_bm PySem.F.plainAttrs_list PySem.F.slot_list_append PySem.F.type_list_append mt_append (pe_fld (pv 0) rfl) (pa_cons pe_str pa_nil)))
    (pss_cons (ps_fld (pv 0) pe_bl rfl)
    (pss_cons (ps_fldaug (pv 0) pe_int in_sub)
    (pss_one (ps_ret pe_bl))))))), ?_⟩
  unfold goesOut at qq
  refine ⟨_, rfl, a, C, dx, _, _, rfl, hR.1, c.cls, c.nd, rfl, rfl, _, rfl, ?_⟩
  by_cases e : st.dp = 0
  · rw [if_pos e] at qq
    refine ite2 (fun _ => qq H Bar.refl hR) (fun z => absurd (by rw [e]; exact decide_eq_true rfl) z)
  · rw [if_neg e] at qq
    refine ite2 (fun z => absurd (of_decide_eq_true z) fun z => e (by injection z)) (fun _ => ?_)
    refine ⟨_, rfl, a, dx, _, rfl, hR.1, rfl, a, dx, q, st, rfl, hR, hs, fun H1 b1 r1 => ?_⟩
    have hl : (endLeaf st).ws.length ≤ st.ws.length + 2 := by
      unfold endLeaf
      split
      · (first | lia | omega)
      · rw [List.length_append]; exact Nat.le_refl _
    have hdp : (endLeaf st).dp = st.dp := by unfold endLeaf; split <;> rfl
    refine ⟨_, rfl, a, C, dx, _, _, rfl, r1.1, c.cls, c.nw, rfl, .inl ⟨rfl, _, SqL.of r1.2⟩, q, _, _, rfl, rfl, r1.2, len1000' (by rw [List.length_map]; have := hs.2; (first | lia | omega)), ?_⟩
    have em : (endLeaf st).ws.map V.str ++ [.str SL] = ((endLeaf st).ws ++ [SL]).map V.str := by rw [List.map_append]; rfl
    rw [em]
    have r2 := r1.lst (ws := (endLeaf st).ws ++ [SL])
    refine ⟨_, rfl, a, C, dx, _, rfl, r2.1, c.cls, c.nc, few _ _, ?_⟩
    have r3 := r2.put (st' := { endLeaf st with ws := (endLeaf st).ws ++ [SL], cl := true }) rfl
    refine ⟨_, rfl, a, C, dx, _, _, rfl, r3.1, c.cls, c.nd, rfl, _, _, rfl, rfl, dx, _, r3.1, few _ _, ?_⟩
    have := qq (upd (upd (upd H1 q (.lst (((endLeaf st).ws ++ [SL]).map V.str))) a (.ins C dx (rdF q { endLeaf st with ws := (endLeaf st).ws ++ [SL], cl := true }))) a (.ins C dx (rdF q { endLeaf st with ws := (endLeaf st).ws ++ [SL], cl := true, dp := st.dp - 1 }))) (((b1.trans Bar.uq).trans Bar.up).trans Bar.up) (r3.put rfl)
    rw [← hdp] at this
    exact this
theorem ok_Reading_takes (B : ∀ x ∈ blts, mg x = none) (c_Reading : RdC K C) (g_is_tag : Has P w K mg base "is_tag" ["text"] 1 spIsTag) (g_Reading_at_tree_end : HasM P w K mg base C "at_tree_end" ["self"] 1 (spAtEnd C)) (g_Reading_end_leaf : HasM P w K mg base C "end_leaf" ["self"] 1 (spEndLeaf C))
    (g_Reading_goes_in : HasM P w K mg base C "goes_in" ["self"] 1 (spGoesIn C)) (g_Reading_goes_out : HasM P w K mg base C "goes_out" ["self"] 2 (spGoesOut C)) (F : Fun K "takes" "Reading.takes" s_Reading_takes f fd) : FnOk P w K mg base CX0 3 f fd ["self", "sign"] (spTakes C) := by
  refine F.ok sc_Reading_takes (fun vs H Q E h => ?_) (fun cdv A outer s H vs Q E hr h => ?_)
  · obtain ⟨a, dx, q, st, z, rfl, _⟩ := h
    rfl
  obtain ⟨a, dx, q, st, z, rfl, hz, hR, hs, qq⟩ := h
  have c := c_Reading
  unfold takes at qq
  refine cut 1 (fun σ' H' => σ' = [some (.ref a), some (.str z)] ∧ Same H H' ∧ (!st.cl && tagB (st.lt ++ z)) = false) ⟨_, (pss_cons (ps_if (pt_not (pt_truth (pe_hasm0 g_Reading_at_tree_end hr (pv 0) c_Reading.cls) (fun _ => rfl)))
      (pss_one (ps_ret pe_bl))
      pss_nil)
    (pss_cons (ps_if (pt_cmpR op_eq (pv 1) pe_str (nomark _))
      (pss_cons (ps_expr (pe_hasm0 g_Reading_end_leaf hr (pv 0) c_Reading.cls))
        (pss_cons (ps_fld (pv 0) pe_bl rfl)
        (pss_one (ps_ret pe_bl))))
      pss_nil)
    (pss_cons (ps_if (pt_cmpR op_eq (pv 1) pe_str (nomark _))
      (pss_one (ps_ret (pe_hasm0 g_Reading_goes_in hr (pv 0) c_Reading.cls)))
      pss_nil)
    (pss_one (ps_ret (pe_and (pe_cmpR op_eq (pv 1) pe_str (nomark _)) (pe_one (pe_hasm0 g_Reading_goes_out hr (pv 0) c_Reading.cls)))))))), ?_⟩ (fun u hu hR1 => ⟨_, (pss_cons (ps_if (PW.pt (pw_and (pt_not (pt_truth (pe_fld (pv 0) rfl) (fun _ => rfl))) (pw_and1 (pt_truth (pe_has g_is_tag hr rfl (pa_cons (pe_op op_add_str (pe_fld (pv 0) rfl) (pv 1)) pa_nil)) (fun _ => rfl)))))
      (pss_cons (ps_fld (pv 0) (pe_op op_add_str (pe_fld (pv 0) rfl) (pv 1)) rfl)
        (pss_one (ps_ret pe_bl)))
      pss_nil)
    hu), ?_⟩)
  · rintro σ' H0 ⟨rfl, s0, hno⟩
    rw [if_neg (by rw [hno]; decide)] at qq
    have r0 := hR.same s0
    refine ⟨_, rfl, a, dx, _, rfl, r0.1, rfl, a, dx, q, st, rfl, r0, _, rfl, ?_⟩
    by_cases e1 : atEnd st = false
    · rw [if_pos e1] at qq
      rw [e1]
      exact iteT (qq H0 (Bar.same s0) r0)
    rw [if_neg e1] at qq
    rw [Bool.not_eq_false _ |>.mp e1]
    refine iteF ⟨_, rfl, rfl, _, rfl, ?_⟩
    by_cases e2 : z = " "
    · rw [if_pos e2] at qq
      refine ite2 (fun _ => ?_) (fun y => absurd (by rw [e2]; exact decide_eq_true rfl) y)
      refine ⟨_, rfl, a, dx, _, rfl, r0.1, rfl, a, dx, q, st, rfl, r0, hs, fun H1 b1 r1 => ?_⟩
      refine ⟨_, rfl, a, C, dx, _, rfl, r1.1, c.cls, c.nc, few _ _, ?_⟩
      exact qq _ (((Bar.same s0).trans b1).trans Bar.up) (r1.put (st' := { endLeaf st with cl := false }) rfl)
    rw [if_neg e2] at qq
    refine ite2 (fun y => absurd (of_decide_eq_true y) fun y => e2 (by injection y)) (fun _ => ⟨_, rfl, rfl, _, rfl, ?_⟩)
    by_cases e3 : z = "("
    · rw [if_pos e3] at qq
      refine ite2 (fun _ => ?_) (fun y => absurd (by rw [e3]; exact decide_eq_true rfl) y)
      exact ⟨_, rfl, a, dx, _, rfl, r0.1, rfl, a, dx, q, st, rfl, r0, hs, fun H1 b1 r1 => qq H1 ((Bar.same s0).trans b1) r1⟩
    rw [if_neg e3] at qq
    refine ite2 (fun y => absurd (of_decide_eq_true y) fun y => e3 (by injection y)) (fun _ => ⟨_, rfl, rfl, _, rfl, ?_⟩)
    by_cases e4 : z = ")"
    · rw [if_pos e4] at qq
      refine ite2 (fun _ => ?_) (fun y => absurd (by rw [e4]; exact decide_eq_true rfl) y)
      exact ⟨_, rfl, a, dx, _, rfl, r0.1, rfl, a, dx, q, st, rfl, r0, hs, fun H1 b1 r1 => qq H1 ((Bar.same s0).trans b1) r1⟩
    · rw [if_neg e4] at qq
      refine ite2 (fun y => absurd (of_decide_eq_true y) fun y => e4 (by injection y)) (fun _ => qq H0 (Bar.same s0) r0)
  · refine ⟨_, rfl, a, C, dx, _, _, rfl, hR.1, c.cls, c.nc, rfl, st.cl, rfl, ?_⟩
    cases ecl : st.cl with
    | true => exact iteF (iteF (hR1 _ _ ⟨rfl, Same.refl H, by rw [ecl]; rfl⟩))
    | false =>
      refine iteT ?_
      refine ⟨_, rfl, a, C, dx, _, _, rfl, hR.1, c.cls, c.nl, rfl, _, rfl, _, _, rfl, rfl, len1000 (by have := hs.1; (first | lia | omega)), st.lt ++ z, rfl, (by rw [app_len]; have := hs.1; (first | lia | omega)), fun H1 s1 => ⟨_, rfl, ?_⟩⟩
      cases et : tagB (st.lt ++ z) with
      | false => exact iteF (hR1 _ _ ⟨rfl, s1, by rw [ecl, et]; rfl⟩)
      | true =>
        rw [if_pos (by rw [ecl, et]; rfl)] at qq
        have r1 := hR.same s1
        refine iteT ⟨_, rfl, a, C, dx, _, _, rfl, r1.1, c.cls, c.nl, rfl, _, rfl, _, _, rfl, rfl, len1000 (by have := hs.1; (first | lia | omega)), _, rfl, a, C, dx, _, rfl, r1.1, c.cls, c.nl, few _ _, ?_⟩
        exact qq _ ((Bar.same s1).trans Bar.up) (r1.put (st' := { st with lt := st.lt ++ z }) rfl)
/-! a Reading led along a text -/
def run : RS → List Nat → Option RS
  | st, [] => some st
  | st, c :: r => if (takes st ⟨#[c]⟩).1 = true then run (takes st ⟨#[c]⟩).2 r else none
theorem run_app : ∀ (xs ys : List Nat) (st : RS), run st (xs ++ ys) = (run st xs).bind fun s => run s ys
  | [], ys, st => rfl
  | c :: xs, ys, st => by
    show (if (takes st ⟨#[c]⟩).1 = true then run (takes st ⟨#[c]⟩).2 (xs ++ ys) else none) = (if (takes st ⟨#[c]⟩).1 = true then run (takes st ⟨#[c]⟩).2 xs else none).bind _
    by_cases h : (takes st ⟨#[c]⟩).1 = true
    · rw [if_pos h, if_pos h, run_app xs ys]
    · rw [if_neg h, if_neg h]; rfl
theorem endLeaf_small (st : RS) : (endLeaf st).lt.length ≤ st.lt.length ∧ (endLeaf st).ws.length ≤ st.ws.length + 2 := by
  unfold endLeaf
  split
  · exact ⟨Nat.le_refl _, by (first | lia | omega)⟩
  · exact ⟨Nat.zero_le _, by rw [List.length_append]; exact Nat.le_refl _⟩
theorem tagB_len {z : Str} (h : tagB z = true) : z.length ≤ 8 := by
  unfold tagB at h
  simp only [Bool.and_eq_true, decide_eq_true_eq] at h
  exact h.1.2
theorem takes_small {st : RS} {z : Str} (h : st.lt.length ≤ 8) : (takes st z).2.lt.length ≤ 8 ∧ (takes st z).2.ws.length ≤ st.ws.length + 3 := by
  have hE := endLeaf_small st
  unfold takes
  by_cases h1 : (!st.cl && tagB (st.lt ++ z)) = true
  · rw [if_pos h1]
    rw [Bool.and_eq_true] at h1
    exact ⟨tagB_len h1.2, by show st.ws.length ≤ _; (first | lia | omega)⟩
  rw [if_neg h1]
  by_cases h2 : atEnd st = false
  · rw [if_pos h2]; exact ⟨h, by show st.ws.length ≤ _; (first | lia | omega)⟩
  rw [if_neg h2]
  by_cases h3 : z = " "
  · rw [if_pos h3]
    exact ⟨by show (endLeaf st).lt.length ≤ 8; (first | lia | omega), by show (endLeaf st).ws.length ≤ _; (first | lia | omega)⟩
  rw [if_neg h3]
  by_cases h4 : z = "("
  · rw [if_pos h4]
    unfold goesIn
    split
    · exact ⟨h, by show st.ws.length ≤ _; (first | lia | omega)⟩
    · exact ⟨Nat.zero_le _, by show (st.ws ++ [st.lt]).length ≤ _; rw [List.length_append]; show _ + 1 ≤ _; (first | lia | omega)⟩
  rw [if_neg h4]
  by_cases h5 : z = ")"
  · rw [if_pos h5]
    unfold goesOut
    split
    · exact ⟨h, by show st.ws.length ≤ _; (first | lia | omega)⟩
    · exact ⟨by show (endLeaf st).lt.length ≤ 8; (first | lia | omega), by show ((endLeaf st).ws ++ [SL]).length ≤ _; rw [List.length_append]; show _ + 1 ≤ _; (first | lia | omega)⟩
  · rw [if_neg h5]; exact ⟨h, by show st.ws.length ≤ _; (first | lia | omega)⟩
theorem run_small : ∀ (cs : List Nat) {st fin : RS}, st.lt.length ≤ 8 → run st cs = some fin → fin.lt.length ≤ 8 ∧ fin.ws.length ≤ st.ws.length + 3 * cs.length
  | [], st, fin, h, e => by cases e; exact ⟨h, Nat.le_refl _⟩
  | c :: r, st, fin, h, e => by
    have e' : (if (takes st ⟨#[c]⟩).1 = true then run (takes st ⟨#[c]⟩).2 r else none) = some fin := e
    by_cases ht : (takes st ⟨#[c]⟩).1 = true
    · rw [if_pos ht] at e'
      obtain ⟨a, b⟩ := takes_small (z := ⟨#[c]⟩) h
      obtain ⟨a', b'⟩ := run_small r a e'
      exact ⟨a', by rw [List.length_cons]; (first | lia | omega)⟩
    · rw [if_neg ht] at e'; cases e'
/-- the letters of a tag -/
theorem run_letters : ∀ (r : List Nat) {st : RS}, st.cl = false → (∀ c ∈ r, 97 ≤ c ∧ c ≤ 122) → Let0 st.lt → st.lt.length + r.length ≤ 8 → run st r = some { st with lt := ⟨(cs st.lt ++ r).toArray⟩ }
  | [], st, _, _, _, _ => by
    show some st = _
    have : (⟨(cs st.lt ++ []).toArray⟩ : Str) = st.lt := cs_inj (by unfold cs; simp)
    rw [this]
  | c :: r, st, hcl, hr, hl, h8 => by
    have hz : cs (st.lt ++ ⟨#[c]⟩) = cs st.lt ++ [c] := cs_app _ _
    have hlen : (st.lt ++ ⟨#[c]⟩ : Str).length = st.lt.length + 1 := app_len _ _
    have hL : Let0 (st.lt ++ ⟨#[c]⟩ : Str) := fun d hd => by
      have hd' : d ∈ cs st.lt ++ [c] := by rw [← hz]; exact hd
      rcases List.mem_append.mp hd' with m | m
      · exact hl d m
      · rw [List.mem_singleton.mp m]; exact hr c (List.mem_cons_self ..)
    have hne : (st.lt ++ ⟨#[c]⟩ : Str).cps.toList ≠ [] := fun e => by
      have : cs st.lt ++ [c] = [] := by rw [← hz]; exact e
      simp at this
    rw [List.length_cons] at h8
    have ht : tagB (st.lt ++ ⟨#[c]⟩) = true := tagB_lets ⟨hne, hL⟩ (by rw [hlen]; (first | lia | omega))
    have e1 : takes st ⟨#[c]⟩ = (true, { st with lt := st.lt ++ ⟨#[c]⟩ }) := by
      unfold takes
      rw [if_pos (by rw [hcl, ht]; rfl)]
    show (if (takes st ⟨#[c]⟩).1 = true then run (takes st ⟨#[c]⟩).2 r else none) = _
    rw [e1, if_pos rfl, run_letters r (st := { st with lt := st.lt ++ ⟨#[c]⟩ }) hcl (fun d hd => hr d (List.mem_cons_of_mem _ hd)) hL (by rw [hlen]; (first | lia | omega))]
    congr 2
    apply cs_inj
    show cs (st.lt ++ ⟨#[c]⟩) ++ r = cs st.lt ++ c :: r
    rw [hz, List.append_assoc]
    rfl
theorem run_tag {st : RS} {t : Str} (hcl : st.cl = false) (hl : st.lt = "") (ht : Lets t) (h8 : t.length ≤ 8) : run st (cs t) = some { st with lt := t } := by
  have h := run_letters (cs t) hcl (fun c hc => ht.2 c hc) (by rw [hl]; intro c hc; cases hc) (by
    rw [hl]
    show 0 + (cs t).length ≤ 8
    unfold cs
    rw [Array.length_toList, Nat.zero_add]
    exact h8)
  rw [h]
  congr 2
  apply cs_inj
  show cs st.lt ++ cs t = cs t
  rw [hl]
  rfl
/-- what is known behind some words, the last of them ah -/
inductive RO : List Str → Str → RS → Prop
  | start : RO [] "" ⟨[], "", false, 0⟩
  | tag (d : List Str) (t : Str) : Lets t → t.length ≤ 8 → 0 ≤ hgt SL d → RO (d ++ [t]) t ⟨d, t, false, hgt SL d⟩
  | leaf (d : List Str) (t : Str) : Lets t → t.length ≤ 8 → 0 ≤ hgt SL d → RO (d ++ [t, SL]) SL ⟨d, t, false, hgt SL d⟩
  | shut (d : List Str) : RO (d ++ [SL]) SL ⟨d ++ [SL], "", true, hgt SL (d ++ [SL])⟩
theorem tagB_odd {t : Str} {c : Nat} (h : azB c = false) : tagB (t ++ ⟨#[c]⟩) = false := by
  unfold tagB
  have : (t ++ ⟨#[c]⟩ : Str).cps.toList = t.cps.toList ++ [c] := app_cps _ _
  rw [this, List.all_append]
  simp [h]
theorem hgt_one {t : Str} (h : t ≠ SL) : hgt SL [t] = 1 := by simp [hgt, h]
theorem hgt_end : hgt SL [SL] = -1 := by simp [hgt]
/-- a sign that is no letter: the tests behind -/
theorem takes_odd {st : RS} {c : Nat} (h : azB c = false) (he : atEnd st = true) : takes st ⟨#[c]⟩ = if (⟨#[c]⟩ : Str) = " " then (true, { endLeaf st with cl := false }) else if (⟨#[c]⟩ : Str) = "(" then goesIn st else if (⟨#[c]⟩ : Str) = ")" then goesOut st else (false, st) := by
  unfold takes
  rw [if_neg (by rw [tagB_odd h, Bool.and_false]; decide), if_neg (by rw [he]; decide)]
theorem run_one {st : RS} {c : Nat} {r : List Nat} {s1 : RS} (h : takes st ⟨#[c]⟩ = (true, s1)) : run st (c :: r) = run s1 r := by
  show (if (takes st ⟨#[c]⟩).1 = true then run (takes st ⟨#[c]⟩).2 r else none) = _
  rw [h, if_pos rfl]
theorem lt_end {st : RS} (h : Lets st.lt) : atEnd st = true := by
  unfold atEnd
  rw [decide_eq_false (lets_ne_empty h)]
  simp
theorem ro_tag {d : List Str} {ah t : Str} {st : RS} (h : RO d ah st) (ht : Lets t) (h8 : t.length ≤ 8) (h0 : 0 ≤ hgt SL d) : ∃ st', run st (cs (pc ah t)) = some st' ∧ RO (d ++ [t]) t st' := by
  rw [pc_tag ah ht]
  cases h with
  | start => exact ⟨_, run_tag rfl rfl ht h8, RO.tag [] t ht h8 (by decide)⟩
  | tag d _ ht0 h80 hd =>
    refine ⟨⟨d ++ [ah], t, false, hgt SL d + 1⟩, ?_, ?_⟩
    · have es : sepOf ah = "(" := by unfold sepOf; rw [if_neg (lets_ne_empty ht0), if_neg ht0.ne]
      rw [es]
      show run _ (40 :: cs t) = _
      rw [run_one (s1 := ⟨d ++ [ah], "", false, hgt SL d + 1⟩) ?_]
      · exact run_tag rfl rfl ht h8
      · rw [takes_odd (by decide) (lt_end ht0), if_neg (by decide), if_pos (by decide)]
        rfl
    · have : hgt SL d + 1 = hgt SL (d ++ [ah]) := by rw [hgt_append, hgt_one ht0.ne]
      rw [this]
      exact .tag _ _ ht h8 (by rw [← this]; (first | lia | omega))
  | leaf d t0 ht0 h80 hd =>
    refine ⟨⟨d ++ [t0, SL], t, false, hgt SL d⟩, ?_, ?_⟩
    · show run _ (32 :: cs t) = _
      rw [run_one (s1 := ⟨d ++ [t0, SL], "", false, hgt SL d⟩) ?_]
      · exact run_tag rfl rfl ht h8
      · rw [takes_odd (by decide) (lt_end ht0), if_pos (by decide)]
        unfold endLeaf
        rw [if_neg (lets_ne_empty ht0)]
    · have : hgt SL d = hgt SL (d ++ [t0, SL]) := by
        rw [show d ++ [t0, SL] = d ++ [t0] ++ [SL] by simp, hgt_append, hgt_append, hgt_one ht0.ne, hgt_end]; (first | lia | omega)
      rw [this]
      exact .tag _ _ ht h8 (by rw [← this]; exact hd)
  | shut d =>
    refine ⟨⟨d ++ [SL], t, false, hgt SL (d ++ [SL])⟩, ?_, ?_⟩
    · show run _ (32 :: cs t) = _
      rw [run_one (s1 := ⟨d ++ [SL], "", false, hgt SL (d ++ [SL])⟩) ?_]
      · exact run_tag rfl rfl ht h8
      · rw [takes_odd (by decide) rfl, if_pos (by decide)]
        rfl
    · exact .tag _ _ ht h8 h0
theorem ro_end {d : List Str} {ah : Str} {st : RS} (h : RO d ah st) (h1 : 1 ≤ hgt SL d) : ∃ st', run st (cs (pc ah SL)) = some st' ∧ RO (d ++ [SL]) SL st' := by
  unfold pc
  rw [if_pos rfl]
  cases h with
  | start => exact absurd h1 (by decide)
  | tag d _ ht0 h80 hd =>
    rw [if_neg ht0.ne]
    refine ⟨_, rfl, ?_⟩
    have := RO.leaf d ah ht0 h80 hd
    rw [show d ++ [ah, SL] = d ++ [ah] ++ [SL] by simp] at this
    exact this
  | leaf d t0 ht0 h80 hd =>
    have e : hgt SL d = hgt SL (d ++ [t0, SL]) := by
      rw [show d ++ [t0, SL] = d ++ [t0] ++ [SL] by simp, hgt_append, hgt_append, hgt_one ht0.ne, hgt_end]; (first | lia | omega)
    rw [if_pos rfl]
    refine ⟨⟨d ++ [t0, SL] ++ [SL], "", true, hgt SL d - 1⟩, ?_, ?_⟩
    · show run _ (41 :: []) = _
      rw [run_one (s1 := ⟨d ++ [t0, SL] ++ [SL], "", true, hgt SL d - 1⟩) ?_]
      · rfl
      · rw [takes_odd (by decide) (lt_end ht0), if_neg (by decide), if_neg (by decide), if_pos (by decide)]
        unfold goesOut
        rw [if_neg (by show hgt SL d ≠ 0; (first | lia | omega))]
        unfold endLeaf
        rw [if_neg (lets_ne_empty ht0)]
    · have e2 : hgt SL d - 1 = hgt SL (d ++ [t0, SL] ++ [SL]) := by rw [hgt_append (xs := d ++ [t0, SL]), ← e, hgt_end]; (first | lia | omega)
      rw [e2]
      exact .shut _
  | shut d =>
    rw [if_pos rfl]
    refine ⟨⟨d ++ [SL] ++ [SL], "", true, hgt SL (d ++ [SL]) - 1⟩, ?_, ?_⟩
    · show run _ (41 :: []) = _
      rw [run_one (s1 := ⟨d ++ [SL] ++ [SL], "", true, hgt SL (d ++ [SL]) - 1⟩) ?_]
      · rfl
      · rw [takes_odd (by decide) rfl, if_neg (by decide), if_neg (by decide), if_pos (by decide)]
        unfold goesOut
        rw [if_neg (by show hgt SL (d ++ [SL]) ≠ 0; (first | lia | omega))]
        rfl
    · have e2 : hgt SL (d ++ [SL]) - 1 = hgt SL (d ++ [SL] ++ [SL]) := by rw [hgt_append (xs := d ++ [SL]), hgt_end]; (first | lia | omega)
      rw [e2]
      exact .shut _
theorem ro_all : ∀ (ws : List Str) {d : List Str} {ah : Str} {st : RS} {n : Nat}, RO d ah st → hgt SL d = (n : Int) → Can SL n ws → LetW ws → ∃ st' ah', run st (pcc ah ws) = some st' ∧ RO (d ++ ws) ah' st' ∧ hgt SL (d ++ ws) = 0
  | [], d, ah, st, n, h, hn, hc, _ => by
    have : n = 0 := hc
    subst this
    exact ⟨st, ah, rfl, by rw [List.append_nil]; exact h, by rw [List.append_nil]; exact hn⟩
  | w :: ws, d, ah, st, n, h, hn, hc, hw => by
    have e0 : d ++ w :: ws = d ++ [w] ++ ws := by simp
    rw [pcc_cons, e0]
    have hw' : LetW ws := fun x hx => hw x (List.mem_cons_of_mem _ hx)
    by_cases e : w = SL
    · subst e
      obtain ⟨h1, hc'⟩ := can_end.mp hc
      obtain ⟨s1, r1, o1⟩ := ro_end h (by (first | lia | omega))
      obtain ⟨s2, a2, r2, o2, z2⟩ := ro_all ws (n := n - 1) o1 (by rw [hgt_append, hgt_end]; (first | lia | omega)) hc' hw'
      exact ⟨s2, a2, by rw [run_app, r1]; exact r2, o2, z2⟩
    · obtain ⟨hl, h8⟩ := (hw w (List.mem_cons_self ..)).resolve_left e
      obtain ⟨s1, r1, o1⟩ := ro_tag h hl h8 (by (first | lia | omega))
      obtain ⟨s2, a2, r2, o2, z2⟩ := ro_all ws (n := n + 1) o1 (by rw [hgt_append, hgt_one e]; (first | lia | omega)) ((can_tag e).mp hc) hw'
      exact ⟨s2, a2, by rw [run_app, r1]; exact r2, o2, z2⟩
/-- a text of a grove is read to its end, and its words are the grove's -/
theorem run_text {ws : List Str} (hc : Can SL 0 ws) (hw : LetW ws) : ∃ fin, run ⟨[], "", false, 0⟩ (pcc "" ws) = some fin ∧ (endLeaf fin).ws = ws ∧ (ws = [] ∨ (atEnd fin && decide (fin.dp = 0)) = true) := by
  obtain ⟨fin, ah, r, o, z⟩ := ro_all ws (n := 0) .start rfl hc hw
  rw [List.nil_append] at o z
  refine ⟨fin, r, ?_⟩
  cases o with
  | start => exact ⟨rfl, .inl rfl⟩
  | tag d t ht h8 hd =>
    rw [hgt_append, hgt_one ht.ne] at z
    (first | lia | omega)
  | leaf d t ht h8 hd =>
    have e : hgt SL d = hgt SL (d ++ [t, SL]) := by
      rw [show d ++ [t, SL] = d ++ [t] ++ [SL] by simp, hgt_append, hgt_append, hgt_one ht.ne, hgt_end]; (first | lia | omega)
    refine ⟨?_, .inr ?_⟩
    · unfold endLeaf
      rw [if_neg (lets_ne_empty ht)]
    · rw [lt_end ht, Bool.true_and]
      exact decide_eq_true (by show hgt SL d = 0; rw [e]; exact z)
  | shut d =>
    refine ⟨rfl, .inr ?_⟩
    show (true && decide (hgt SL (d ++ [SL]) = 0)) = true
    rw [decide_eq_true z]
    rfl
/-! the law's own way along a text -/
structure LS where
  o : Nat
  m : Nat
  l : Nat
def lstep (s : LS) (c : Nat) : Option LS :=
  if azB c = true then (if s.l = 41 ∨ s.m = 8 then none else some ⟨s.o, s.m + 1, c⟩)
  else if s.l = 40 ∨ s.l = 32 ∨ ¬ (c = 32 ∨ c = 40 ∨ c = 41) then none
  else if (c = 40 ∧ s.l = 41) ∨ (c = 41 ∧ s.o = 0) then none
  else some ⟨s.o + (if c = 40 then 1 else 0) - (if c = 41 then 1 else 0), 0, c⟩
def lbad : Nat → LS → List Nat → Option Nat
  | p, s, [] => if 0 < s.o ∨ (p ≠ 0 ∧ (s.l = 40 ∨ s.l = 32)) then some p else none
  | p, s, c :: r => match lstep s c with | none => some p | some s' => lbad (p + 1) s' r
def S0 : RS := ⟨[], "", false, 0⟩
def L0 : LS := ⟨0, 0, 40⟩
def rdW (z : Str) : List Str := match run S0 (cs z) with | some fin => (endLeaf fin).ws | none => []
def tbad (z : Str) : Option Nat := lbad 0 L0 (cs z)
def sep : List Nat → Nat
  | [] => 0
  | c :: r => (if c = 32 ∨ c = 40 then 1 else 0) + sep r
theorem sep_app : ∀ xs ys : List Nat, sep (xs ++ ys) = sep xs + sep ys
  | [], ys => by simp [sep]
  | x :: xs, ys => by
    show _ + sep (xs ++ ys) = _ + sep xs + sep ys
    rw [sep_app xs ys]
    (first | lia | omega)
inductive LR : RS → LS → Prop
  | s0 (ws : List Str) (d l : Nat) : l = 40 ∨ l = 32 → LR ⟨ws, "", false, (d : Nat)⟩ ⟨d, 0, l⟩
  | tg (ws : List Str) (lt : Str) (d l : Nat) : tagB lt = true → azB l = true → LR ⟨ws, lt, false, (d : Nat)⟩ ⟨d, lt.length, l⟩
  | cl (ws : List Str) (d : Nat) : LR ⟨ws, "", true, (d : Nat)⟩ ⟨d, 0, 41⟩
structure RG (st : RS) (s : LS) (n : Nat) : Prop where
  lr : LR st s
  can : ∀ tl, Can SL s.o tl → Can SL 0 (st.ws ++ tl)
  wl : ∀ w ∈ st.ws, w = SL ∨ tagB w = true
  mu : st.ws.length + s.o + (if st.cl = true then 0 else 2) ≤ 2 + 2 * n
theorem rg0 : RG S0 L0 0 := by
  refine ⟨.s0 [] 0 40 (.inl rfl), fun tl h => h, fun w h => ?_, by decide⟩
  cases h
theorem sg_eq {c d : Nat} : (⟨#[c]⟩ : Str) = ⟨#[d]⟩ ↔ c = d := ⟨fun h => by have h1 := congrArg (fun z : Str => z.cps.toList) h; simpa using h1, fun h => by rw [h]⟩
theorem e32 {c : Nat} : (⟨#[c]⟩ : Str) = " " ↔ c = 32 := sg_eq (d := 32)
theorem e40 {c : Nat} : (⟨#[c]⟩ : Str) = "(" ↔ c = 40 := sg_eq (d := 40)
theorem e41 {c : Nat} : (⟨#[c]⟩ : Str) = ")" ↔ c = 41 := sg_eq (d := 41)
theorem tagB_ext {t : Str} {c : Nat} (h : t.cps.toList.all azB = true) (hc : azB c = true) : tagB (t ++ ⟨#[c]⟩) = decide (t.length + 1 ≤ 8) := by
  unfold tagB
  have e1 : (t ++ ⟨#[c]⟩ : Str).cps.toList = t.cps.toList ++ [c] := app_cps _ _
  have e2 : (t ++ ⟨#[c]⟩ : Str).length = t.length + 1 := app_len _ _
  rw [e1, e2, List.all_append, h]
  simp [hc]
theorem tagB_all {t : Str} (h : tagB t = true) : t.cps.toList.all azB = true := by
  unfold tagB at h
  rw [Bool.and_eq_true] at h
  exact h.2
theorem az_ne {c : Nat} (h : azB c = true) : c ≠ 32 ∧ c ≠ 40 ∧ c ≠ 41 := by
  unfold azB at h
  simp at h
  (first | lia | omega)
theorem tag_ne0 {t : Str} (h : tagB t = true) : t ≠ "" := fun e => by rw [e] at h; exact absurd h (by decide)
theorem tag_neSL {t : Str} (h : tagB t = true) : t ≠ SL := fun e => by rw [e, tagB_SL] at h; cases h
/-- a letter behind the end of a tree or of a long tag -/
theorem takes_no {st : RS} {c : Nat} (hc : azB c = true) (h1 : (!st.cl && tagB (st.lt ++ ⟨#[c]⟩)) = false) (he : atEnd st = true) : (takes st ⟨#[c]⟩).1 = false := by
  obtain ⟨a, b, d⟩ := az_ne hc
  unfold takes
  rw [if_neg (by rw [h1]; decide), if_neg (by rw [he]; decide), if_neg (fun e => a (e32.mp e)), if_neg (fun e => b (e40.mp e)), if_neg (fun e => d (e41.mp e))]
theorem can_leaf {ws : List Str} {t : Str} {d : Nat} (ht : t ≠ SL) (h : ∀ tl, Can SL d tl → Can SL 0 (ws ++ tl)) : ∀ tl, Can SL d tl → Can SL 0 (ws ++ [t, SL] ++ tl) := fun tl h1 => by
  rw [List.append_assoc]
  exact h _ ((can_tag ht).mpr (can_end.mpr ⟨Nat.succ_le_succ (Nat.zero_le _), h1⟩))
theorem can_begin {ws : List Str} {t : Str} {d : Nat} (ht : t ≠ SL) (h : ∀ tl, Can SL d tl → Can SL 0 (ws ++ tl)) : ∀ tl, Can SL (d + 1) tl → Can SL 0 (ws ++ [t] ++ tl) := fun tl h1 => by
  rw [List.append_assoc]
  exact h _ ((can_tag ht).mpr h1)
theorem can_stop {ws : List Str} {d : Nat} (hd : d ≠ 0) (h : ∀ tl, Can SL d tl → Can SL 0 (ws ++ tl)) : ∀ tl, Can SL (d - 1) tl → Can SL 0 (ws ++ [SL] ++ tl) := fun tl h1 => by
  rw [List.append_assoc]
  exact h _ (can_end.mpr ⟨by (first | lia | omega), h1⟩)
theorem wl_app {ws vs : List Str} (h : ∀ w ∈ ws, w = SL ∨ tagB w = true) (k : ∀ w ∈ vs, w = SL ∨ tagB w = true) : ∀ w ∈ ws ++ vs, w = SL ∨ tagB w = true := fun w hw => (List.mem_append.mp hw).elim (h w) (k w)
theorem wl_1 {t : Str} (h : tagB t = true) : ∀ w ∈ [t], w = SL ∨ tagB w = true := fun w hw => by rw [List.mem_singleton.mp hw]; exact .inr h
theorem wl_s : ∀ w ∈ [SL], w = SL ∨ tagB w = true := fun w hw => .inl (List.mem_singleton.mp hw)
theorem endLeaf_e {ws : List Str} {b : Bool} {d : Int} : endLeaf ⟨ws, "", b, d⟩ = ⟨ws, "", b, d⟩ := by unfold endLeaf; rw [if_pos rfl]
theorem endLeaf_t {ws : List Str} {t : Str} {b : Bool} {d : Int} (h : tagB t = true) : endLeaf ⟨ws, t, b, d⟩ = ⟨ws ++ [t, SL], "", b, d⟩ := by unfold endLeaf; rw [if_neg (tag_ne0 h)]
theorem dpred {d : Nat} (h : d ≠ 0) : ((d - 1 : Nat) : Int) = (d : Int) - 1 := by (first | lia | omega)
theorem step_rg {st : RS} {s : LS} {n : Nat} (h : RG st s n) (c : Nat) : (lstep s c = none ∧ (takes st ⟨#[c]⟩).1 = false) ∨ ∃ s', lstep s c = some s' ∧ (takes st ⟨#[c]⟩).1 = true ∧ RG (takes st ⟨#[c]⟩).2 s' (n + sep [c]) := by
  obtain ⟨hl, hcan, hwl, hmu⟩ := h
  cases hl with
  | s0 ws d l hl =>
    have hmu' : ws.length + d + 2 ≤ 2 + 2 * n := hmu
    by_cases hc : azB c = true
    · have e1 : tagB (("" : Str) ++ ⟨#[c]⟩) = true := by
        rw [tagB_ext (by decide) hc]
        decide
      refine .inr ⟨⟨d, 1, c⟩, ?_, ?_⟩
      · unfold lstep
        rw [if_pos hc, if_neg (by show ¬ (l = 41 ∨ 0 = 8); (first | lia | omega))]
      · have e2 : takes ⟨ws, "", false, (d : Nat)⟩ ⟨#[c]⟩ = (true, ⟨ws, ("" : Str) ++ ⟨#[c]⟩, false, (d : Nat)⟩) := by
          unfold takes
          rw [if_pos (by show (!false && tagB (("" : Str) ++ ⟨#[c]⟩)) = true; rw [e1]; rfl)]
        rw [e2]
        refine ⟨rfl, ?_, hcan, hwl, ?_⟩
        · exact .tg ws _ d c e1 hc
        · show ws.length + d + 2 ≤ _
          (first | lia | omega)
    · have hc' : azB c = false := by simpa using hc
      refine .inl ⟨?_, ?_⟩
      · unfold lstep
        rw [if_neg hc, if_pos (by show l = 40 ∨ l = 32 ∨ _; (first | lia | omega))]
      · unfold takes
        rw [if_neg (by rw [tagB_odd hc', Bool.and_false]; decide), if_pos (by unfold atEnd; rw [decide_eq_true rfl]; rfl)]
  | tg ws lt d l ht hl =>
    have hmu' : ws.length + d + 2 ≤ 2 + 2 * n := hmu
    obtain ⟨l1, l2, l3⟩ := az_ne hl
    have hat : atEnd ⟨ws, lt, false, (d : Nat)⟩ = true := by
      unfold atEnd
      rw [decide_eq_false (tag_ne0 ht)]
      rfl
    by_cases hc : azB c = true
    · obtain ⟨c1, c2, c3⟩ := az_ne hc
      have e1 := tagB_ext (tagB_all ht) hc
      have h8 := tagB_len ht
      by_cases h9 : lt.length = 8
      · refine .inl ⟨?_, takes_no hc (by show (!false && tagB (lt ++ ⟨#[c]⟩)) = false; rw [e1, decide_eq_false (by (first | lia | omega))]; rfl) hat⟩
        unfold lstep
        rw [if_pos hc, if_pos (.inr h9)]
      · refine .inr ⟨⟨d, lt.length + 1, c⟩, ?_, ?_⟩
        · unfold lstep
          rw [if_pos hc, if_neg (by show ¬ (l = 41 ∨ lt.length = 8); (first | lia | omega))]
        · have e3 : tagB (lt ++ ⟨#[c]⟩) = true := by rw [e1]; exact decide_eq_true (by (first | lia | omega))
          have e2 : takes ⟨ws, lt, false, (d : Nat)⟩ ⟨#[c]⟩ = (true, ⟨ws, lt ++ ⟨#[c]⟩, false, (d : Nat)⟩) := by
            unfold takes
            rw [if_pos (by show (!false && tagB (lt ++ ⟨#[c]⟩)) = true; rw [e3]; rfl)]
          rw [e2]
          refine ⟨rfl, ?_, hcan, hwl, ?_⟩
          · have := LR.tg ws (lt ++ ⟨#[c]⟩) d c e3 hc
            rw [show (lt ++ ⟨#[c]⟩ : Str).length = lt.length + 1 from app_len _ _] at this
            exact this
          · show ws.length + d + 2 ≤ _
            (first | lia | omega)
    · have hc' : azB c = false := by simpa using hc
      have et := takes_odd hc' hat
      by_cases h32 : c = 32
      · subst h32
        rw [if_pos (e32.mpr rfl), endLeaf_t ht] at et
        refine .inr ⟨⟨d, 0, 32⟩, ?_, ?_⟩
        · unfold lstep
          rw [if_neg hc, if_neg (by show ¬ (l = 40 ∨ l = 32 ∨ ¬ (32 = 32 ∨ 32 = 40 ∨ 32 = 41)); (first | lia | omega)), if_neg (by show ¬ ((32 = 40 ∧ l = 41) ∨ (32 = 41 ∧ d = 0)); (first | lia | omega))]
          rfl
        · rw [et]
          refine ⟨rfl, .s0 _ d 32 (.inr rfl), can_leaf (tag_neSL ht) hcan, wl_app hwl (wl_app (wl_1 ht) wl_s), ?_⟩
          show (ws ++ [lt, SL]).length + d + 2 ≤ 2 + 2 * (n + 1)
          rw [List.length_append]
          show ws.length + 2 + d + 2 ≤ _
          (first | lia | omega)
      rw [if_neg (fun e => h32 (e32.mp e))] at et
      by_cases h40 : c = 40
      · subst h40
        rw [if_pos (e40.mpr rfl)] at et
        refine .inr ⟨⟨d + 1, 0, 40⟩, ?_, ?_⟩
        · unfold lstep
          rw [if_neg hc, if_neg (by show ¬ (l = 40 ∨ l = 32 ∨ ¬ (40 = 32 ∨ 40 = 40 ∨ 40 = 41)); (first | lia | omega)), if_neg (by show ¬ ((40 = 40 ∧ l = 41) ∨ (40 = 41 ∧ d = 0)); (first | lia | omega))]
          rfl
        · rw [et]
          refine ⟨rfl, .s0 (ws ++ [lt]) (d + 1) 40 (.inl rfl), can_begin (tag_neSL ht) hcan, wl_app hwl (wl_1 ht), ?_⟩
          show (ws ++ [lt]).length + (d + 1) + 2 ≤ 2 + 2 * (n + 1)
          rw [List.length_append]
          show ws.length + 1 + (d + 1) + 2 ≤ _
          (first | lia | omega)
      rw [if_neg (fun e => h40 (e40.mp e))] at et
      by_cases h41 : c = 41
      · subst h41
        rw [if_pos (e41.mpr rfl)] at et
        by_cases hd : d = 0
        · subst hd
          refine .inl ⟨?_, by rw [et]; rfl⟩
          unfold lstep
          rw [if_neg hc, if_neg (by show ¬ (l = 40 ∨ l = 32 ∨ ¬ (41 = 32 ∨ 41 = 40 ∨ 41 = 41)); (first | lia | omega)), if_pos (.inr ⟨rfl, rfl⟩)]
        · refine .inr ⟨⟨d - 1, 0, 41⟩, ?_, ?_⟩
          · unfold lstep
            rw [if_neg hc, if_neg (by show ¬ (l = 40 ∨ l = 32 ∨ ¬ (41 = 32 ∨ 41 = 40 ∨ 41 = 41)); (first | lia | omega)), if_neg (by show ¬ ((41 = 40 ∧ l = 41) ∨ (41 = 41 ∧ d = 0)); (first | lia | omega))]
            rfl
          · have eg : goesOut ⟨ws, lt, false, (d : Nat)⟩ = (true, ⟨ws ++ [lt, SL] ++ [SL], "", true, ((d - 1 : Nat) : Int)⟩) := by
              unfold goesOut
              rw [if_neg (by show ((d : Nat) : Int) ≠ 0; (first | lia | omega)), endLeaf_t ht, dpred hd]
            rw [et, eg]
            refine ⟨rfl, .cl _ (d - 1), can_stop hd (can_leaf (tag_neSL ht) hcan), wl_app (wl_app hwl (wl_app (wl_1 ht) wl_s)) wl_s, ?_⟩
            show (ws ++ [lt, SL] ++ [SL]).length + (d - 1) + 0 ≤ 2 + 2 * (n + 0)
            rw [List.length_append, List.length_append]
            show ws.length + 2 + 1 + (d - 1) + 0 ≤ _
            (first | lia | omega)
      rw [if_neg (fun e => h41 (e41.mp e))] at et
      refine .inl ⟨?_, by rw [et]⟩
      unfold lstep
      rw [if_neg hc, if_pos (.inr (.inr (by (first | lia | omega))))]
  | cl ws d =>
    have hmu' : ws.length + d + 0 ≤ 2 + 2 * n := hmu
    by_cases hc : azB c = true
    · refine .inl ⟨?_, takes_no hc rfl rfl⟩
      unfold lstep
      rw [if_pos hc, if_pos (.inl rfl)]
    · have hc' : azB c = false := by simpa using hc
      have et := takes_odd (st := ⟨ws, "", true, (d : Nat)⟩) hc' rfl
      by_cases h32 : c = 32
      · subst h32
        rw [if_pos (e32.mpr rfl), endLeaf_e] at et
        refine .inr ⟨⟨d, 0, 32⟩, ?_, ?_⟩
        · unfold lstep
          rw [if_neg hc, if_neg (by show ¬ (41 = 40 ∨ 41 = 32 ∨ ¬ (32 = 32 ∨ 32 = 40 ∨ 32 = 41)); (first | lia | omega)), if_neg (by show ¬ ((32 = 40 ∧ 41 = 41) ∨ (32 = 41 ∧ d = 0)); (first | lia | omega))]
          rfl
        · rw [et]
          refine ⟨rfl, .s0 _ d 32 (.inr rfl), hcan, hwl, ?_⟩
          show ws.length + d + 2 ≤ 2 + 2 * (n + 1)
          (first | lia | omega)
      rw [if_neg (fun e => h32 (e32.mp e))] at et
      by_cases h40 : c = 40
      · subst h40
        rw [if_pos (e40.mpr rfl)] at et
        refine .inl ⟨?_, by rw [et]; rfl⟩
        unfold lstep
        rw [if_neg hc, if_neg (by show ¬ (41 = 40 ∨ 41 = 32 ∨ ¬ (40 = 32 ∨ 40 = 40 ∨ 40 = 41)); (first | lia | omega)), if_pos (.inl ⟨rfl, rfl⟩)]
      rw [if_neg (fun e => h40 (e40.mp e))] at et
      by_cases h41 : c = 41
      · subst h41
        rw [if_pos (e41.mpr rfl)] at et
        by_cases hd : d = 0
        · subst hd
          refine .inl ⟨?_, by rw [et]; rfl⟩
          unfold lstep
          rw [if_neg hc, if_neg (by show ¬ (41 = 40 ∨ 41 = 32 ∨ ¬ (41 = 32 ∨ 41 = 40 ∨ 41 = 41)); (first | lia | omega)), if_pos (.inr ⟨rfl, rfl⟩)]
        · refine .inr ⟨⟨d - 1, 0, 41⟩, ?_, ?_⟩
          · unfold lstep
            rw [if_neg hc, if_neg (by show ¬ (41 = 40 ∨ 41 = 32 ∨ ¬ (41 = 32 ∨ 41 = 40 ∨ 41 = 41)); (first | lia | omega)), if_neg (by show ¬ ((41 = 40 ∧ 41 = 41) ∨ (41 = 41 ∧ d = 0)); (first | lia | omega))]
            rfl
          · have eg : goesOut ⟨ws, "", true, (d : Nat)⟩ = (true, ⟨ws ++ [SL], "", true, ((d - 1 : Nat) : Int)⟩) := by
              unfold goesOut
              rw [if_neg (by show ((d : Nat) : Int) ≠ 0; (first | lia | omega)), endLeaf_e, dpred hd]
            rw [et, eg]
            refine ⟨rfl, .cl _ (d - 1), can_stop hd hcan, wl_app hwl wl_s, ?_⟩
            show (ws ++ [SL]).length + (d - 1) + 0 ≤ 2 + 2 * (n + 0)
            rw [List.length_append]
            show ws.length + 1 + (d - 1) + 0 ≤ _
            (first | lia | omega)
      rw [if_neg (fun e => h41 (e41.mp e))] at et
      refine .inl ⟨?_, by rw [et]⟩
      unfold lstep
      rw [if_neg hc, if_pos (.inr (.inr (by (first | lia | omega))))]
/-- at a good end -/
theorem rg_end {st : RS} {s : LS} {n : Nat} (h : RG st s n) (ho : s.o = 0) (hl : st.ws = [] ∧ st.lt = "" ∨ (s.l ≠ 40 ∧ s.l ≠ 32)) : Can SL 0 (endLeaf st).ws ∧ (∀ w ∈ (endLeaf st).ws, w = SL ∨ tagB w = true) ∧ (endLeaf st).ws.length ≤ 2 + 2 * n := by
  obtain ⟨hlr, hcan, hwl, hmu⟩ := h
  cases hlr with
  | s0 ws d l hl' =>
    rcases hl with ⟨e, _⟩ | hl
    · have e' : ws = [] := e
      subst e'
      rw [endLeaf_e]
      exact ⟨rfl, hwl, by show 0 ≤ _; (first | lia | omega)⟩
    · exact absurd hl' (by have := hl; show ¬ (l = 40 ∨ l = 32); simp only at this; (first | lia | omega))
  | tg ws lt d l ht hl' =>
    have ho' : d = 0 := ho
    subst ho'
    have hmu' : ws.length + 0 + 2 ≤ 2 + 2 * n := hmu
    rw [endLeaf_t ht]
    refine ⟨?_, wl_app hwl (wl_app (wl_1 ht) wl_s), ?_⟩
    · have := can_leaf (tag_neSL ht) hcan [] (show Can SL 0 [] from rfl)
      rw [List.append_nil] at this
      exact this
    · show (ws ++ [lt, SL]).length ≤ _
      rw [List.length_append]
      show ws.length + 2 ≤ _
      (first | lia | omega)
  | cl ws d =>
    have ho' : d = 0 := ho
    subst ho'
    have hmu' : ws.length + 0 + 0 ≤ 2 + 2 * n := hmu
    rw [endLeaf_e]
    refine ⟨?_, hwl, by show ws.length ≤ _; (first | lia | omega)⟩
    have := hcan [] (show Can SL 0 [] from rfl)
    rw [List.append_nil] at this
    exact this
theorem drop_at {α : Type} {xs : List α} {i : Nat} {x : α} (h : xs[i]? = some x) : xs.drop i = x :: xs.drop (i + 1) := by
  obtain ⟨hi, e⟩ := List.getElem?_eq_some_iff.mp h
  rw [← e]
  exact List.drop_eq_getElem_cons hi
theorem take_at {α : Type} {xs : List α} {i : Nat} {x : α} (h : xs[i]? = some x) : xs.take (i + 1) = xs.take i ++ [x] := by
  obtain ⟨hi, e⟩ := List.getElem?_eq_some_iff.mp h
  rw [List.take_succ_eq_append_getElem hi, e]
theorem run_snoc {st s1 : RS} {xs : List Nat} {c : Nat} (h : run st xs = some s1) (ht : (takes s1 ⟨#[c]⟩).1 = true) : run st (xs ++ [c]) = some (takes s1 ⟨#[c]⟩).2 := by
  rw [run_app, h]
  show (if (takes s1 ⟨#[c]⟩).1 = true then run (takes s1 ⟨#[c]⟩).2 [] else none) = _
  rw [if_pos ht]
  rfl
/-- where the reader stands behind i signs -/
structure At (z : Str) (i : Nat) (st : RS) (s : LS) : Prop where
  rn : run S0 ((cs z).take i) = some st
  rg : RG st s (sep ((cs z).take i))
  lb : lbad i s ((cs z).drop i) = tbad z
theorem at0 (z : Str) : At z 0 S0 L0 := ⟨rfl, rg0, rfl⟩
theorem at_step {z : Str} {i c : Nat} {st : RS} {s : LS} (h : At z i st s) (hc : (cs z)[i]? = some c) : (lstep s c = none ∧ (takes st ⟨#[c]⟩).1 = false ∧ tbad z = some i) ∨ ∃ s', lstep s c = some s' ∧ (takes st ⟨#[c]⟩).1 = true ∧ At z (i + 1) (takes st ⟨#[c]⟩).2 s' := by
  have hlb := h.lb
  rw [drop_at hc, lbad] at hlb
  rcases step_rg h.rg c with ⟨h1, h2⟩ | ⟨s', h1, h2, h3⟩
  · rw [h1] at hlb
    exact .inl ⟨h1, h2, hlb.symm⟩
  · rw [h1] at hlb
    refine .inr ⟨s', h1, h2, ?_, ?_, hlb⟩
    · rw [take_at hc]
      exact run_snoc h.rn h2
    · rw [take_at hc, sep_app]
      exact h3
theorem at_small {z : Str} {i : Nat} {st : RS} {s : LS} (h : At z i st s) : st.lt.length ≤ 8 ∧ st.ws.length ≤ 3 * (cs z).length := by
  obtain ⟨a, b⟩ := run_small _ (by decide) h.rn
  rw [List.length_take] at b
  refine ⟨a, ?_⟩
  have : st.ws.length ≤ 0 + 3 * min i (cs z).length := b
  (first | lia | omega)
/-- at the text's end -/
theorem at_fin {z : Str} {st : RS} {s : LS} (h : At z (cs z).length st s) : (tbad z = if 0 < s.o ∨ ((cs z).length ≠ 0 ∧ (s.l = 40 ∨ s.l = 32)) then some (cs z).length else none) ∧ rdW z = (endLeaf st).ws ∧ st.dp = (s.o : Nat) ∧ (atEnd st = true ↔ ¬ (s.l = 40 ∨ s.l = 32)) := by
  have h1 := h.lb
  have h2 := h.rn
  rw [List.drop_length, lbad] at h1
  rw [List.take_length] at h2
  refine ⟨h1.symm, by unfold rdW; rw [h2], ?_, ?_⟩
  · cases h.rg.lr <;> rfl
  · cases h.rg.lr with
    | s0 ws d l hl => exact ⟨fun z => absurd z (by unfold atEnd; rw [decide_eq_true rfl]; exact Bool.false_ne_true), fun z => absurd hl z⟩
    | tg ws lt d l ht hl =>
      obtain ⟨a, b, c⟩ := az_ne hl
      exact ⟨fun _ => by show ¬ (l = 40 ∨ l = 32); (first | lia | omega), fun _ => by unfold atEnd; rw [decide_eq_false (tag_ne0 ht)]; rfl⟩
    | cl ws d => exact ⟨fun _ => (show ¬ (41 = 40 ∨ 41 = 32) by decide), fun _ => rfl⟩
theorem at_good {z : Str} {st : RS} {s : LS} (h : At z (cs z).length st s) (hg : tbad z = none) : s.o = 0 ∧ Can SL 0 (rdW z) ∧ (∀ w ∈ rdW z, w = SL ∨ tagB w = true) ∧ (rdW z).length ≤ 2 + 2 * sep (cs z) := by
  obtain ⟨e1, e2, e3, e4⟩ := at_fin h
  rw [hg] at e1
  have hn : ¬ (0 < s.o ∨ ((cs z).length ≠ 0 ∧ (s.l = 40 ∨ s.l = 32))) := fun x => by rw [if_pos x] at e1; cases e1
  have ho : s.o = 0 := by
    by_cases x : 0 < s.o
    · exact absurd (.inl x) hn
    · (first | lia | omega)
  have hrg := h.rg
  have hrn := h.rn
  rw [List.take_length] at hrg hrn
  rw [e2]
  refine ⟨ho, rg_end hrg ho ?_⟩
  by_cases x : (cs z).length = 0
  · have x' := List.eq_nil_of_length_eq_zero x
    rw [x'] at hrn
    have : S0 = st := by
      have := hrn
      simpa [run] using this
    rw [← this]
    exact .inl ⟨rfl, rfl⟩
  · refine .inr ?_
    by_cases y : s.l = 40 ∨ s.l = 32
    · exact absurd (.inr ⟨x, y⟩) hn
    · (first | lia | omega)
/-- a text that the reader reads to a good end is good -/
theorem run_lbad : ∀ (r : List Nat) {st fin : RS} {s : LS} {n p : Nat}, RG st s n → run st r = some fin → (atEnd fin && decide (fin.dp = 0)) = true → lbad p s r = none
  | [], st, fin, s, n, p, h, hr, he => by
    have e : st = fin := by simpa [run] using hr
    subst e
    rw [Bool.and_eq_true, decide_eq_true_eq] at he
    have e1 : st.dp = (s.o : Nat) := by cases h.lr <;> rfl
    rw [lbad, if_neg]
    rintro (x | ⟨_, x⟩)
    · have := he.2; (first | lia | omega)
    · have := he.1
      cases h.lr with
      | s0 ws d l hl => exact absurd this (by unfold atEnd; rw [decide_eq_true rfl]; exact Bool.false_ne_true)
      | tg ws lt d l ht hl =>
        obtain ⟨a, b, c⟩ := az_ne hl
        have x' : l = 40 ∨ l = 32 := x
        (first | lia | omega)
      | cl ws d => exact absurd x (show ¬ (41 = 40 ∨ 41 = 32) by decide)
  | c :: r, st, fin, s, n, p, h, hr, he => by
    have hr' : (if (takes st ⟨#[c]⟩).1 = true then run (takes st ⟨#[c]⟩).2 r else none) = some fin := hr
    rw [lbad]
    rcases step_rg h c with ⟨h1, h2⟩ | ⟨s', h1, h2, h3⟩
    · rw [if_neg (by rw [h2]; decide)] at hr'
      cases hr'
    · rw [if_pos h2] at hr'
      rw [h1]
      exact run_lbad r h3 hr' he
/-- a grove's text -/
theorem good_text {ws : List Str} {z : Str} (hc : Can SL 0 ws) (hw : LetW ws) (hz : cs z = pcc "" ws) : tbad z = none ∧ rdW z = ws := by
  obtain ⟨fin, h1, h2, h3⟩ := run_text hc hw
  rw [← hz] at h1
  refine ⟨?_, by unfold rdW; rw [show S0 = ⟨[], "", false, 0⟩ from rfl, h1]; exact h2⟩
  rcases h3 with e | e
  · subst e
    have : cs z = [] := hz
    unfold tbad
    rw [this]
    rfl
  · exact run_lbad _ rg0 h1 e
theorem sep_let : ∀ {r : List Nat}, (∀ c ∈ r, 97 ≤ c ∧ c ≤ 122) → sep r = 0
  | [], _ => rfl
  | c :: r, h => by
    have h1 := h c (List.mem_cons_self ..)
    show (if c = 32 ∨ c = 40 then 1 else 0) + sep r = 0
    rw [if_neg (by (first | lia | omega)), sep_let fun d hd => h d (List.mem_cons_of_mem _ hd)]
theorem sep_pcc : ∀ (ws : List Str) (ah : Str), LetW ws → sep (pcc ah ws) ≤ tagsN SL ws
  | [], _, _ => Nat.le_refl _
  | w :: ws, ah, h => by
    have ih := sep_pcc ws w fun x hx => h x (List.mem_cons_of_mem _ hx)
    rw [pcc_cons, sep_app]
    show _ ≤ (if w = SL then 0 else 1) + tagsN SL ws
    have h1 : sep (cs (pc ah w)) ≤ if w = SL then 0 else 1 := by
      by_cases e : w = SL
      · rw [if_pos e]
        unfold pc
        rw [if_pos e]
        split
        · exact Nat.le_of_eq rfl
        · exact Nat.le_of_eq rfl
      · rw [if_neg e]
        have hl := ((h w (List.mem_cons_self ..)).resolve_left e).1
        rw [pc_tag ah hl, sep_app, show sep (cs w) = 0 from sep_let hl.2]
        unfold sepOf
        split
        · decide
        · split <;> decide
    (first | lia | omega)
theorem sep_take (n : Nat) (xs : List Nat) : sep (xs.take n) + sep (xs.drop n) = sep xs := by rw [← sep_app, List.take_append_drop]
theorem sep_one (c : Nat) : sep [c] ≤ 1 := by
  show (if c = 32 ∨ c = 40 then 1 else 0) + 0 ≤ 1
  split <;> (first | lia | omega)
/-- words of a grove are some grove's -/
theorem grove_ex : ∀ (ws : List Str) {gs : List (Gr Str)} {ts : List Str}, gs.length = ts.length + 1 → Can SL ts.length ws → (∀ g ∈ gs, Clean SL g) → (∀ t ∈ ts, t ≠ SL) → ∃ g, words SL g = flatR SL gs ts ++ ws ∧ Clean SL g
  | [], gs, ts, hl, hc, hcl, _ => by
    have h0 : ts.length = 0 := hc
    have : ts = [] := List.eq_nil_of_length_eq_zero h0
    subst this
    match gs, hl with
    | [g], _ => exact ⟨g, by rw [List.append_nil]; rfl, hcl g (List.mem_cons_self ..)⟩
  | w :: ws, gs, ts, hl, hc, hcl, htn => by
    by_cases e : w = SL
    · subst e
      obtain ⟨h1, hc'⟩ := can_end.mp hc
      match gs, ts, hl, h1 with
      | g0 :: g1 :: gs, t :: ts, hl, _ =>
        have hl2 : gs.length = ts.length := by simpa using hl
        obtain ⟨g, k1, k2⟩ := grove_ex ws (gs := snoc g1 t g0 :: gs) (ts := ts) (by simpa using hl2) (by simpa using hc') (fun x hx => by
          rcases List.mem_cons.mp hx with rfl | hx
          · exact clean_snoc (htn t (List.mem_cons_self ..)) (hcl g0 (List.mem_cons_self ..)) (hcl g1 (List.mem_cons_of_mem _ (List.mem_cons_self ..)))
          · exact hcl x (List.mem_cons_of_mem _ (List.mem_cons_of_mem _ hx))) (fun x hx => htn x (List.mem_cons_of_mem _ hx))
        refine ⟨g, ?_, k2⟩
        rw [k1, flatR_close SL t hl2, List.append_assoc]
        rfl
      | [g0], t :: ts, hl, _ => simp at hl
    · obtain ⟨g, k1, k2⟩ := grove_ex ws (gs := .nil :: gs) (ts := w :: ts) (by simp [hl]) ((can_tag e).mp hc) (fun x hx => by
        rcases List.mem_cons.mp hx with rfl | hx
        · trivial
        · exact hcl x hx) (fun x hx => by
        rcases List.mem_cons.mp hx with rfl | hx
        · exact e
        · exact htn x hx)
      refine ⟨g, ?_, k2⟩
      rw [k1, flatR_open, List.append_assoc]
      rfl
/-- the grove of a text, or the first bad sign -/
def spReadX (K : PySem.W.Frag) (C : Addr) : Sp := fun vs H Q E => ∃ z : Str, vs = [.str z] ∧ AscL z ∧ z.length ≤ 20000 ∧ sep (cs z) ≤ 400 ∧
  (tbad z = none → ∀ (r : Addr) (xs : List V) (g : Gr Str) (H' : Hp), Same H H' → H' r = some (.tup xs) → RepG H' xs g → words SL g = rdW z → Clean SL g → Q (.ref r) H') ∧
  (∀ p, tbad z = some p → ∀ (dx : Addr) (H' : Hp), Same H H' → H dx = none → H' dx = some (.xd [("place", .int (p : Nat))]) → E (.ref C) (some dx) H')
theorem ok_read (B : ∀ x ∈ blts, mg x = none) (c_Reading : RdC K C) (xc : XC K mg X_GroveError X_NoGrove X_BadForm X_TooMany X_TooBig X_NoneFits X_NoBook X_TwiceNamed X_NoName X_Ring X_BadChanger X_NoRecipe X_NotStraight X_NoChange X_NoRow) (g_Reading : HasC P w K mg base C "Reading" ["self"] 1 (spInit C)) (g_Reading_takes : HasM P w K mg base C "takes" ["self", "sign"] 3 (spTakes C)) (x_NoGrove : XMk P w K mg base X_NoGrove X_GroveError "NoGrove" ["self", "place"] 1 (spXInit X_NoGrove)) (g_Reading_may_stop : HasM P w K mg base C "may_stop" ["self"] 2 (spMayStop C))
    (g_Reading_end_leaf : HasM P w K mg base C "end_leaf" ["self"] 1 (spEndLeaf C)) (g_grove_of : HasX P w K mg base "grove_of" ["words"] 3 (spGroveX K X_NoGrove)) (F : Fun K "read" "read" s_read f fd) : FnOk P w K mg base (CXE P w) 4 f fd ["text"] (spReadX K X_NoGrove) := by
  refine F.okX sc_read (fun vs H Q E h => ?_) (fun cdv A outer s H vs Q E hr h => ?_)
  · obtain ⟨z, rfl, _⟩ := h
    rfl
  obtain ⟨z, rfl, hasc, hzl, hsep, q1, q2⟩ := h
  have c := c_Reading
  have hzc : (cs z).length = z.length := Array.length_toList
  refine ⟨_, (pss_cons (ps_set (i := 1) sc_read.nd rfl (Or.inl rfl) (pe_hasc0 g_Reading hr rfl))
    (pss_cons (ps_for PassesOwn.leaving rfl (pi_enumS rfl (B "enumerate" (by decide)) (pa_cons (pv 0) pa_nil)) (pg_tup rfl (pgs_cons (pg_name (i := 2) sc_read.nd rfl (Or.inl rfl)) (pgs_cons (pg_name (i := 3) sc_read.nd rfl (Or.inl rfl)) pgs_nil)))
      (pss_one (ps_if (pt_not (pt_truth (pe_hasm g_Reading_takes hr (pv 1) c_Reading.cls (pa_cons (pv 3) pa_nil)) (fun _ => rfl)))
          (pss_one (ps_raiseI x_NoGrove takes_def hr rfl (pa_cons (pv 2) pa_nil)))
          pss_nil)))
    (pss_cons (ps_if (PW.pt (pw_and (pt_truth (pv 0) (fun _ => rfl)) (pw_and1 (pt_not (pt_truth (pe_hasm0 g_Reading_may_stop hr (pv 1) c_Reading.cls) (fun _ => rfl))))))
      (pss_one (ps_raiseI x_NoGrove takes_def hr rfl (pa_cons (pe_callB call_len_str rfl (B "len" (by decide)) PySem.boot_len (pa_cons (pv 0) pa_nil)) pa_nil)))
      pss_nil)
    (pss_cons (ps_expr (pe_hasm0 g_Reading_end_leaf hr (pv 1) c_Reading.cls))
    (pss_one (ps_ret (pe_hasX g_grove_of takes_def hr rfl (pa_cons (pe_fld (pv 1) rfl) pa_nil)))))))), ?_⟩
  refine fun a dx ha hdx hne => ⟨a, dx, rfl, upd_same, fun p H1 hk hp hR => ⟨rfl, ?_⟩⟩
  obtain ⟨npa, hp1⟩ := upd_none hp
  obtain ⟨npd, hp0⟩ := upd_none hp1
  have s1 : Same H H1 := fun b o h => hk b o (ne_of_none h ha) (by rw [upd_ne (ne_of_none h ha), upd_ne (ne_of_none h hdx)]; exact h)
  have bar : ∀ {H2 H3 : Hp}, Same H H2 → Bar a p H2 H3 → Same H H3 := fun s b x o h => b x o (ne_of_none h ha) (ne_of_none h hp0) (s _ _ h)
  refine ⟨_, rfl, z, rfl, hasc.asc, for_enumS (z := z) (fun i σ H2 => i ≤ z.length ∧ ∃ (st : RS) (ls : LS) (v2 v3 : Option V), σ = [some (.str z), some (.ref a), v2, v3] ∧ Same H H2 ∧ RdAt C H2 a dx p st ∧ At z i st ls)
    ⟨Nat.zero_le _, _, _, none, none, rfl, s1, hR, at0 z⟩ ?_ ?_⟩
  · rintro i c0 pt σ H2 hc ⟨hi, st, ls, v2, v3, rfl, sm, hR2, hat⟩ hpt
    obtain ⟨k1, k2⟩ := at_small hat
    have hs : Sml st := ⟨k1, by show st.ws.length ≤ 90000; (first | lia | omega)⟩
    have hlt : i < z.length := by
      have := (List.getElem?_eq_some_iff.mp hc).1
      rw [Array.length_toList] at this
      exact this
    have s3 : Same H2 (upd H2 pt (.tup [.int i, .str ⟨#[c0]⟩])) := Same.new hpt
    have hR3 := hR2.same s3
    refine ⟨pt, _, rfl, SqT.of upd_same, rfl, _, _, rfl, _, _, rfl, rfl, ?_⟩
    refine ⟨_, rfl, a, dx, _, rfl, hR3.1, rfl, _, rfl, a, dx, p, st, _, rfl, (by show 1 ≤ 8; decide), hR3, hs, fun H4 b4 r4 => ?_⟩
    have s4 := bar (sm.trans s3) b4
    rcases at_step hat hc with ⟨_, h2, h3⟩ | ⟨s', _, h2, h3⟩
    · rw [h2]
      exact ⟨false, rfl, iteT ⟨_, rfl, raise_place (K := K) s4 (by (first | lia | omega)) (q2 i h3)⟩⟩
    · rw [h2]
      exact ⟨true, rfl, iteF ⟨by (first | lia | omega), _, _, _, _, rfl, s4, r4, h3⟩⟩
  · rintro σ H2 ⟨_, st, ls, v2, v3, rfl, sm, hR2, hat⟩
    have hat : At z (cs z).length st ls := hat
    obtain ⟨e1, e2, e3, e4⟩ := at_fin hat
    obtain ⟨k1, k2⟩ := at_small hat
    have hs : Sml st := ⟨k1, by (first | lia | omega)⟩
    have fin_ok : tbad z = none → ∀ v2 v3 : Option V, tSeq (tDrop (tMeth C "end_leaf" (spEndLeaf C) [] E0 (tVar 1) tNil)) (tRet (tCallS (spGroveX K X_NoGrove) (fun _ => E) (tCons (tFld K (tVar 1) "words") tNil))) { nx := fun _ H' => Q .non H', rt := Q } [some (.str z), some (.ref a), v2, v3] H2 := by
      intro hg v2 v3
      obtain ⟨_, hcan, hwl, hln⟩ := at_good hat hg
      have hb := can_bad (rdW z) 0 0 hcan hwl
      refine ⟨_, rfl, a, dx, _, rfl, hR2.1, rfl, a, dx, p, st, rfl, hR2, hs, fun H3 b3 r3 => ?_⟩
      refine ⟨_, rfl, a, C, dx, _, _, rfl, r3.1, c.cls, c.nw, rfl, p, rdW z, rfl, ?_, by (first | lia | omega), fun w hw => ?_, fun _ r xs g H4 s4 n4 e4 hg4 hw4 hcl => q1 hg r xs g H4 ((bar sm b3).trans s4) e4 hg4 hw4 hcl, fun p' hp' => by rw [hb] at hp'; cases hp'⟩
      · have := r3.2
        rw [← e2] at this
        exact SqL.of this
      · rcases hwl w hw with e | e
        · rw [e]; decide
        · have := tagB_len e; (first | lia | omega)
    refine ⟨_, rfl, _, ⟨len1000 (by (first | lia | omega)), rfl⟩, ?_⟩
    by_cases hz : (cs z).length = 0
    · have hl0 : ((z.length : Int) != 0) = false := by rw [← hzc, hz]; rfl
      rw [hl0]
      refine iteF (iteF (fin_ok ?_ _ _))
      rw [e1, if_neg]
      have hz' := List.eq_nil_of_length_eq_zero hz
      have h0 := hat.lb
      unfold tbad at h0
      rw [hz', List.drop_nil] at h0
      rintro (x | ⟨x, _⟩)
      · have h1 : lbad (List.length ([] : List Nat)) ls [] = some 0 := by
          rw [lbad, if_pos (.inl x)]; rfl
        rw [h1] at h0
        cases h0
      · exact x hz
    · have hl1 : ((z.length : Int) != 0) = true := by
        rw [← hzc]
        simp
        intro x
        rw [x] at hz
        exact hz rfl
      rw [hl1]
      refine iteT ⟨_, rfl, a, dx, _, rfl, hR2.1, rfl, a, dx, p, st, rfl, hR2, ?_⟩
      cases hv : (atEnd st && decide (st.dp = 0)) with
      | true =>
        rw [Bool.and_eq_true, decide_eq_true_eq, e3] at hv
        refine ⟨true, rfl, iteF (fin_ok ?_ _ _)⟩
        rw [e1, if_neg]
        rintro (x | ⟨_, x⟩)
        · (first | lia | omega)
        · exact e4.mp hv.1 x
      | false =>
        refine ⟨false, rfl, iteT ⟨_, rfl, z, rfl, len1000 (by (first | lia | omega)), ?_⟩⟩
        have hp : tbad z = some z.length := by
          rw [e1, if_pos, hzc]
          by_cases x : 0 < ls.o
          · exact .inl x
          · refine .inr ⟨hz, ?_⟩
            by_cases y : ls.l = 40 ∨ ls.l = 32
            · exact y
            · exfalso
              rw [e4.mpr y, e3, decide_eq_true (by (first | lia | omega))] at hv
              cases hv
        exact raise_place (K := K) sm (by (first | lia | omega)) (q2 z.length hp)
theorem ok_l_cell_at (B : ∀ x ∈ blts, mg x = none) (F : Fun K "_law_cell_at" "_law_cell_at" s_l_cell_at f fd) : FnOk P w K mg base CX0 1 f fd ["_law_script", "_law_k"] (spCell K) := by
  refine F.ok sc_l_cell_at (fun vs H Q E h => ?_) (fun cdv A outer s H vs Q E hr h => ?_)
  · obtain ⟨a, ns, k, rfl, _⟩ := h
    rfl
  obtain ⟨a, ns, k, rfl, hS, h63, h0, q⟩ := h
  refine ⟨_, (pss_cons (ps_if (pt_cmpR op_lt (pv 1) (pe_callB call_len_seq rfl (B "len" (by decide)) PySem.boot_len (pa_cons (pv 0) pa_nil)) (nomark _))
      (pss_one (ps_ret (pe_ix ix_list (pv 0) (pv 1) (fun _ _ => rfl))))
      pss_nil)
    (pss_one (ps_ret pe_int))), ?_⟩
  refine ⟨_, rfl, _, rfl, a, _, rfl, .inl hS, _, _, rfl, rfl, _, rfl, ?_⟩
  refine ite2 (fun c => ?_) (fun c => ?_)
  · have c' := of_decide_eq_true c
    rw [List.length_map] at c'
    obtain ⟨v, hv⟩ := ints_at (ns := ns) h0 c'
    exact ⟨_, rfl, _, rfl, a, _, k, _, rfl, rfl, hS, hv, q v⟩
  · exact q 0
theorem ok_l_numbers (B : ∀ x ∈ blts, mg x = none) (g_l_cell_at : Has P w K mg base "_law_cell_at" ["_law_script", "_law_k"] 1 (spCell K)) (F : Fun K "_law_numbers" "_law_numbers" s_l_numbers f fd) :
    FnOk P w K mg base CX0 2 f fd ["_law_script", "_law_many"] (spNums K) := by
  refine F.ok sc_l_numbers (fun vs H Q E h => ?_) (fun cdv A outer s H vs Q E hr h => ?_)
  · obtain ⟨a, ns, m, rfl, _⟩ := h
    rfl
  obtain ⟨a, ns, m, rfl, hS, h63, h0, h1, q⟩ := h
  refine ⟨_, (pss_cons (ps_set (i := 2) sc_l_numbers.nd rfl (Or.inl rfl) (pe_lst pa_nil))
    (pss_cons (ps_set (i := 3) sc_l_numbers.nd rfl (Or.inl rfl) pe_int)
    (pss_cons (ps_for PassesOwn.never rfl (pi_range1 rfl (B "range" (by decide)) (pa_cons (pv 1) pa_nil)) (pg_name (i := 4) sc_l_numbers.nd rfl (Or.inl rfl))
      (pss_cons (ps_set (i := 5) sc_l_numbers.nd rfl (Or.inl rfl) (pe_has g_l_cell_at hr rfl (pa_cons (pv 0) (pa_cons (pe_op op_add pe_int (pe_op op_mod (pv 4) (pe_callB (call_max2 rfl) rfl (B "max" (by decide)) bt_max (pa_cons pe_int (pa_cons (pe_op op_sub (pe_callB call_len_seq rfl (B "len" (by decide)) PySem.boot_len (pa_cons (pv 0) pa_nil)) pe_int) pa_nil))))) pa_nil))))
        (pss_cons (ps_set (i := 3) sc_l_numbers.nd rfl (Or.inl rfl) (pe_op op_mod (pe_op op_add (pe_op op_mul (pv 3) pe_int) (pv 5)) pe_int))
        (pss_one (ps_expr (pe_bm PySem.F.plainAttrs_list PySem.F.slot_list_append PySem.F.type_list_append mt_append (pv 2) (pa_cons (pv 3) pa_nil)))))))
    (pss_one (ps_ret (pv 2)))))), ?_⟩
  refine ⟨by decide, fun p hp => ?_⟩
  refine ⟨_, rfl, m, rfl, by (first | lia | omega), by (first | lia | omega), for_range (lo := 0) (n := m.toNat) (fun i σ H1 => ∃ (xs : List Int) (num : Int) (v4 v5 : Option V), σ = [some (.ref a), some (.int m), some (.ref p), some (.int num), v4, v5] ∧
    Same H H1 ∧ H1 p = some (.lst (xs.map V.int)) ∧ xs.length = i ∧ (∀ x ∈ xs, 0 ≤ x ∧ x < 2147483647)) ⟨[], _, none, none, rfl, Same.new hp, upd_same, rfl, fun _ h => nomatch h⟩ ?_ ?_⟩
  · rintro i σ H1 hi ⟨xs, num, v4, v5, rfl, sm, hp1, hl, hx⟩
    have hS1 := sm.seq hS
    refine ⟨_, rfl, _, rfl, _, rfl, a, _, rfl, .inl hS1, _, _, rfl, rfl, _, _, rfl, _, _, rfl, rfl, ?_, _, _, rfl, rfl, a, ns, _, rfl, hS1, h63, ?_, fun v => ?_⟩
    · exact max_pos _
    · have := Int.emod_nonneg (0 + (i : Int)) (Int.ne_of_gt (max_pos (((ns.map V.int).length : Int) - 2)))
      (first | lia | omega)
    refine ⟨_, rfl, _, _, rfl, rfl, .inr ⟨by decide, by decide⟩, _, rfl, _, _, rfl, rfl, _, _, rfl, rfl, (by show (0 : Int) < 2147483647; decide), ?_⟩
    refine ⟨_, rfl, .inl ⟨rfl, _, SqL.of hp1⟩, _, rfl, p, _, _, rfl, rfl, hp1, len1000' (by rw [List.length_map]; (first | lia | omega)), ?_⟩
    refine ⟨xs ++ [(num * 48271 + v) % 2147483647], _, _, _, rfl, sm.upd_new hp, ?_, ?_, ?_⟩
    · rw [upd_same, List.map_append]
      rfl
    · rw [List.length_append, hl]
      rfl
    · intro x hx'
      rcases List.mem_append.mp hx' with hx' | hx'
      · exact hx x hx'
      · obtain rfl := List.mem_singleton.mp hx'
        exact ⟨Int.emod_nonneg _ (by decide), Int.emod_lt_of_pos _ (by decide)⟩
  · rintro σ H1 ⟨xs, num, v4, v5, rfl, sm, hp1, hl, hx⟩
    exact ⟨_, rfl, q p xs H1 sm hp hp1 hl hx⟩
theorem ok_l_tag (B : ∀ x ∈ blts, mg x = none) (F : Fun K "_law_tag" "_law_tag" s_l_tag f fd) : FnOk P w K mg base CX0 1 f fd ["_law_number"] spTag := by
  refine F.ok sc_l_tag (fun vs H Q E h => ?_) (fun cdv A outer s H vs Q E hr h => ?_)
  · obtain ⟨n, rfl, _⟩ := h
    rfl
  obtain ⟨n, rfl, h0, h1, q⟩ := h
  have a0 : Let0 "a" := by intro c hc; revert c; decide
  refine ⟨_, (pss_cons (ps_set (i := 1) sc_l_tag.nd rfl (Or.inl rfl) pe_str)
    (pss_cons (ps_if (pt_cmpR op_eq (pe_op op_mod (pv 0) pe_int) pe_int (nomark _))
      (pss_one (ps_ret (pe_op op_add_str (pe_ix ix_str (pv 1) (pe_op op_mod (pe_op op_fdiv (pv 0) pe_int) pe_int) (fun _ _ => rfl)) (pe_op op_mul_str pe_str (pe_op op_mod (pe_op op_fdiv (pv 0) pe_int) pe_int)))))
      pss_nil)
    (pss_cons (ps_set (i := 2) sc_l_tag.nd rfl (Or.inl rfl) pe_str)
    (pss_cons (ps_for PassesOwn.never rfl (pi_range1 rfl (B "range" (by decide)) (pa_cons (pe_op op_add pe_int (pe_op op_mod (pe_op op_fdiv (pv 0) pe_int) pe_int)) pa_nil)) (pg_name (i := 3) sc_l_tag.nd rfl (Or.inl rfl))
      (pss_cons (ps_set (i := 0) sc_l_tag.nd rfl (Or.inl rfl) (pe_op op_mod (pe_op op_add (pe_op op_mul (pv 0) pe_int) (pv 3)) pe_int))
        (pss_one (ps_set (i := 2) sc_l_tag.nd rfl (Or.inl rfl) (pe_op op_add_str (pv 2) (pe_ix ix_str (pv 1) (pe_op op_mod (pv 0) pe_int) (fun _ _ => rfl)))))))
    (pss_one (ps_ret (pv 2))))))), ?_⟩
  -- number % 4 == 0
  refine ⟨_, rfl, _, _, rfl, rfl, (by show (0 : Int) < 4; decide), rfl, _, rfl, ?_⟩
  refine ite2 (fun _ => ?_) (fun _ => ?_)
  · obtain ⟨c, hc, c1, c2⟩ := abc_at (i := n / 4 % 3) (Int.emod_nonneg _ (by decide)) (Int.lt_trans (Int.emod_lt_of_pos _ (by decide)) (by decide))
    have e1 := Int.emod_nonneg (n / 12) (by decide : (8 : Int) ≠ 0)
    have e2 := Int.emod_lt_of_pos (n / 12) (by decide : (0 : Int) < 8)
    refine ⟨_, rfl, _, rfl, _, _, rfl, rfl, ⟨by decide, by decide⟩, _, _, rfl, rfl, (by show (0 : Int) < 3; decide), _, _, c, rfl, rfl, (by decide), hc, ?_⟩
    refine ⟨_, rfl, _, _, rfl, rfl, ⟨by decide, by decide⟩, _, _, rfl, rfl, (by show (0 : Int) < 8; decide), _, _, rfl, rfl, by (first | lia | omega), by (first | lia | omega), ?_, _, _, rfl, rfl, ?_, ?_⟩
    · show (n / 12 % 8).toNat * 1 ≤ sizeLine
      exact len1000 (by (first | lia | omega))
    · rw [repS_len]
      show 1 + (n / 12 % 8).toNat * 1 ≤ sizeLine
      exact len1000 (by (first | lia | omega))
    · refine q _ (lets_l (lets_one c1 c2) (let0_rep a0 _)) ?_
      rw [app_len, repS_len]
      show 1 + (n / 12 % 8).toNat * 1 ≤ 8
      (first | lia | omega)
  -- letter by letter
  have e1 := Int.emod_nonneg (n / 4) (by decide : (8 : Int) ≠ 0)
  have e2 := Int.emod_lt_of_pos (n / 4) (by decide : (0 : Int) < 8)
  refine ⟨_, rfl, _, _, rfl, rfl, ⟨by decide, by decide⟩, _, _, rfl, rfl, (by show (0 : Int) < 8; decide), _, _, rfl, rfl, _, rfl, by (first | lia | omega), by (first | lia | omega), for_range (lo := 0) (n := (1 + n / 4 % 8).toNat)
    (fun i σ H1 => ∃ (n' : Int) (t : Str) (v4 : Option V), σ = [some (.int n'), some (.str ABC), some (.str t), v4] ∧ H1 = H ∧ 0 ≤ n' ∧ n' < 2147483647 ∧ Let0 t ∧ t.length = i) ⟨n, Str.empty, none, rfl, rfl, h0, h1, (fun c hc => nomatch hc), rfl⟩ ?_ ?_⟩
  · rintro i σ H1 hi ⟨n', t, v4, rfl, rfl, n0, n1, ht, hl⟩
    have m1 := Int.emod_nonneg (n' * 69621 + (0 + (i : Int))) (by decide : (2147483629 : Int) ≠ 0)
    have m2 := Int.emod_lt_of_pos (n' * 69621 + (0 + (i : Int))) (by decide : (0 : Int) < 2147483629)
    refine ⟨_, rfl, _, _, rfl, rfl, .inr ⟨by decide, by decide⟩, _, rfl, _, _, rfl, rfl, _, _, rfl, rfl, (by show (0 : Int) < 2147483629; decide), ?_⟩
    obtain ⟨c, hc, c1, c2⟩ := abc_at (i := (n' * 69621 + (0 + (i : Int))) % 2147483629 % 26) (Int.emod_nonneg _ (by decide)) (Int.emod_lt_of_pos _ (by decide))
    refine ⟨_, rfl, _, rfl, _, rfl, _, _, rfl, rfl, (by show (0 : Int) < 26; decide), _, _, c, rfl, rfl, (by decide), hc, _, _, rfl, rfl, ?_, ?_⟩
    · show t.length + 1 ≤ sizeLine
      exact len1000 (by (first | lia | omega))
    · refine ⟨_, t ++ ⟨#[c]⟩, _, rfl, rfl, m1, by (first | lia | omega), let0_app ht (lets_one c1 c2).let0, ?_⟩
      rw [app_len, hl]
      rfl
  · rintro σ H1 ⟨n', t, v4, rfl, rfl, n0, n1, ht, hl⟩
    refine ⟨_, rfl, q t ⟨?_, ht⟩ (by (first | lia | omega))⟩
    intro z
    have : t.cps.toList.length = (1 + n / 4 % 8).toNat := by
      rw [Array.length_toList]
      exact hl
    rw [z] at this
    simp at this
    (first | lia | omega)
theorem ok_l_words (B : ∀ x ∈ blts, mg x = none) (g_l_cell_at : Has P w K mg base "_law_cell_at" ["_law_script", "_law_k"] 1 (spCell K)) (g_l_numbers : Has P w K mg base "_law_numbers" ["_law_script", "_law_many"] 2 (spNums K))
    (g_l_tag : Has P w K mg base "_law_tag" ["_law_number"] 1 spTag) (F : Fun K "_law_words" "_law_words" s_l_words f fd) : FnOk P w K mg base CX0 3 f fd ["_law_script"] (spLWords K) := by
  refine F.ok sc_l_words (fun vs H Q E h => ?_) (fun cdv A outer s H vs Q E hr h => ?_)
  · obtain ⟨a, ns, rfl, _⟩ := h
    rfl
  obtain ⟨a, ns, rfl, hS, h63, q⟩ := h
  refine cut 3 (fun σ' H' => ∃ (fst many : Int), 0 ≤ many ∧ many ≤ 300 ∧ H' = H ∧ σ' = [some (.ref a), some (.int fst), some (.int many), none, none, none, none, none])
    ⟨_, (pss_cons (ps_set (i := 3) sc_l_words.nd rfl (Or.inl rfl) (pe_ix ix_list (pe_lst (pa_cons pe_int (pa_cons pe_int (pa_cons pe_int (pa_cons pe_int pa_nil))))) (pe_op op_mod (pe_op op_fdiv (pv 1) pe_int) pe_int) (fun _ _ => rfl)))
    (pss_cons (ps_set (i := 4) sc_l_words.nd rfl (Or.inl rfl) (pe_lst pa_nil))
    (pss_cons (ps_set (i := 5) sc_l_words.nd rfl (Or.inl rfl) pe_int)
    (pss_cons (ps_for PassesOwn.never rfl (pi_list (pe_has g_l_numbers hr rfl (pa_cons (pv 0) (pa_cons (pv 2) pa_nil)))) (pg_name (i := 6) sc_l_words.nd rfl (Or.inl rfl))
      (pss_cons (ps_set (i := 7) sc_l_words.nd rfl (Or.inl rfl) pe_int)
        (pss_cons (ps_if (PW.pt (pw_or (pt_cmpR op_lt (pe_op op_mod (pv 6) pe_int) (pv 3) (nomark _)) (pw_or1 (pt_cmpR op_eq (pv 5) pe_int (nomark _)))))
          (pss_one (ps_set (i := 7) sc_l_words.nd rfl (Or.inl rfl) (pe_callB (call_min2 rfl) rfl (B "min" (by decide)) bt_min (pa_cons (pv 5) (pa_cons (pe_op op_add pe_int (pe_op op_mod (pe_op op_fdiv (pv 6) pe_int) pe_int)) pa_nil)))))
          pss_nil)
        (pss_cons (ps_expr (pe_bm PySem.F.plainAttrs_list PySem.F.slot_list_extend PySem.F.type_list_extend mt_extend (pv 4) (pa_cons (pe_op op_rep (pe_lst (pa_cons pe_str pa_nil)) (pv 7)) pa_nil)))
        (pss_cons (ps_expr (pe_bm PySem.F.plainAttrs_list PySem.F.slot_list_append PySem.F.type_list_append mt_append (pv 4) (pa_cons (pe_has g_l_tag hr rfl (pa_cons (pe_op op_fdiv (pv 6) pe_int) pa_nil)) pa_nil)))
        (pss_one (ps_set (i := 5) sc_l_words.nd rfl (Or.inl rfl) (pe_op op_sub (pe_op op_add (pv 5) pe_int) (pv 7)))))))))
    (pss_one (ps_ret (pe_op op_cat (pv 4) (pe_op op_rep (pe_lst (pa_cons pe_str pa_nil)) (pv 5))))))))), ?_⟩ (fun u hu hR => ⟨_, (pss_cons (ps_set (i := 1) sc_l_words.nd rfl (Or.inl rfl) (pe_has g_l_cell_at hr rfl (pa_cons (pv 0) (pa_cons pe_int pa_nil))))
    (pss_cons (ps_set (i := 2) sc_l_words.nd rfl (Or.inl rfl) (pe_op op_mod (pe_op op_fdiv (pv 1) pe_int) pe_int))
    (pss_cons (ps_if (pt_cmpR op_eq (pe_op op_mod (pv 1) pe_int) pe_int (nomark _))
      (pss_one (ps_set (i := 2) sc_l_words.nd rfl (Or.inl rfl) (pe_op op_mod (pe_op op_fdiv (pv 1) pe_int) pe_int)))
      pss_nil)
    hu))), ?_⟩)
  rotate_left
  · refine ⟨_, rfl, a, ns, 0, rfl, hS, h63, Int.le_refl 0, fun fst => ?_⟩
    refine ⟨_, rfl, _, _, rfl, rfl, ⟨by decide, by decide⟩, _, _, rfl, rfl, (by show (0 : Int) < 12; decide), ?_⟩
    refine ⟨_, rfl, _, _, rfl, rfl, (by show (0 : Int) < 8; decide), rfl, _, rfl, ?_⟩
    refine ite2 (fun _ => ?_) (fun _ => ?_)
    · refine ⟨_, rfl, _, _, rfl, rfl, ⟨by decide, by decide⟩, _, _, rfl, rfl, (by show (0 : Int) < 291; decide), ?_⟩
      have e1 := Int.emod_nonneg (fst / 8) (by decide : (291 : Int) ≠ 0)
      have e2 := Int.emod_lt_of_pos (fst / 8) (by decide : (0 : Int) < 291)
      exact hR _ _ ⟨fst, _, e1, by (first | lia | omega), rfl, rfl⟩
    · have e1 := Int.emod_nonneg (fst / 8) (by decide : (12 : Int) ≠ 0)
      have e2 := Int.emod_lt_of_pos (fst / 8) (by decide : (0 : Int) < 12)
      exact hR _ _ ⟨fst, _, e1, by (first | lia | omega), rfl, rfl⟩
  · rintro σ' H' ⟨fst, many, m0, m1, rfl, rfl⟩
    -- lean = [3, 0, 6, 8][..]
    refine ⟨by decide, fun L hL => ?_⟩
    have e1 := Int.emod_nonneg (fst / 2408) (by decide : (4 : Int) ≠ 0)
    have e2 := Int.emod_lt_of_pos (fst / 2408) (by decide : (0 : Int) < 4)
    obtain ⟨ln, hln⟩ := ints_at (ns := [3, 0, 6, 8]) e1 e2
    refine ⟨_, rfl, _, _, rfl, rfl, ⟨by decide, by decide⟩, _, _, rfl, rfl, (by show (0 : Int) < 4; decide), L, _, _, _, rfl, rfl, SqL.of upd_same, hln, ?_⟩
    -- words = []; opened = 0
    refine ⟨by decide, fun p hp => ?_⟩
    obtain ⟨npL, hp0⟩ := upd_none hp
    have s2 : Same H' (upd (upd H' L (.lst [.int 3, .int 0, .int 6, .int 8])) p (.lst [])) := (Same.new hL).upd_new hp0
    refine ⟨_, rfl, _, rfl, a, ns, many, rfl, s2.seq hS, h63, m0, by (first | lia | omega), fun r xs H1 s1 hr0 hr1 hxl hxs => ?_⟩
    obtain ⟨nrp, hr0'⟩ := upd_none hr0
    have hrH := (upd_none hr0').2
    have s3 := s2.trans s1
    refine ⟨r, rfl, ⟨_, SqL.of hr1⟩, for_list (K := K) (a := r) (xs := xs.map V.int) (fun i σ H2 => ∃ (ws : List Str) (op : Nat) (v6 v7 : Option V), σ = [some (.ref a), some (.int fst), some (.int many), some (.int ln), some (.ref p), some (.int op), v6, v7] ∧
      Same H' H2 ∧ H2 r = some (.lst (xs.map V.int)) ∧ H2 p = some (.lst (ws.map V.str)) ∧ ws.length + op = 2 * i ∧ (∀ tl, Can SL op tl → Can SL 0 (ws ++ tl)) ∧ ∀ w ∈ ws, w = SL ∨ (Lets w ∧ w.length ≤ 8))
      ⟨[], 0, none, none, rfl, s3, hr1, s1 _ _ upd_same, rfl, fun _ h => h, fun _ h => nomatch h⟩ ?_ ?_ ?_⟩
    · rintro i σ H2 _ ⟨ws, op, v6, v7, _, _, h, _⟩
      exact SqL.of h
    · rintro i x σ H2 hi ⟨ws, op, v6, v7, rfl, sm, hr2, hp2, hlen, hcan, hws⟩
      obtain ⟨hil, hix⟩ := List.getElem?_eq_some_iff.mp hi
      rw [List.length_map] at hil
      obtain rfl : x = V.int xs[i] := by
        rw [← hix, List.getElem_map]
      obtain ⟨b0, b1⟩ := hxs xs[i] (List.getElem_mem hil)
      generalize xs[i] = num at b0 b1
      have f1 := Int.emod_nonneg (num / 8) (by decide : (4 : Int) ≠ 0)
      have hmin : ∃ cl : Nat, (if 1 + num / 8 % 4 < (op : Int) then 1 + num / 8 % 4 else (op : Int)) = (cl : Int) ∧ cl ≤ op := by
        by_cases c : 1 + num / 8 % 4 < (op : Int)
        · exact ⟨(1 + num / 8 % 4).toNat, by rw [if_pos c]; (first | lia | omega), by (first | lia | omega)⟩
        · exact ⟨op, by rw [if_neg c], Nat.le_refl _⟩
      have hzero : ∃ cl : Nat, (0 : Int) = (cl : Int) ∧ cl ≤ op := ⟨0, rfl, Nat.zero_le _⟩
      have e3 := Int.ediv_nonneg b0 (by decide : (0 : Int) ≤ 32)
      have e4 : num / 32 < 2147483647 := by (first | lia | omega)
      refine ⟨_, rfl, _, _, rfl, rfl, (by show (0 : Int) < 8; decide), _, rfl, _, _, rfl, rfl, _, rfl, ?_⟩
      refine ite2 (fun _ => iteT ?_) (fun _ => ⟨_, rfl, rfl, _, rfl, ite2 (fun _ => ?_) (fun _ => ?_)⟩)
      · refine ⟨_, rfl, _, rfl, _, _, rfl, rfl, ⟨by decide, by decide⟩, _, _, rfl, rfl, (by show (0 : Int) < 4; decide), _, _, rfl, rfl, _, _, rfl, ?_⟩
        exact tailW sm hr2 hp2 nrp hlen (by (first | lia | omega)) hcan hws hp0 hrH b0 b1 hmin (fun H3 Qa hq => ⟨_, rfl, _, _, rfl, rfl, ⟨by decide, by decide⟩, num / 32, rfl, e3, e4, fun t ht hl8 => hq t ht hl8⟩) (fun ws' op' H3 a1 a2 a3 a4 a5 a6 => ⟨ws', op', _, _, rfl, a1, a2, a3, a4, a5, a6⟩)
      · refine ⟨_, rfl, _, rfl, _, _, rfl, rfl, ⟨by decide, by decide⟩, _, _, rfl, rfl, (by show (0 : Int) < 4; decide), _, _, rfl, rfl, _, _, rfl, ?_⟩
        exact tailW sm hr2 hp2 nrp hlen (by (first | lia | omega)) hcan hws hp0 hrH b0 b1 hmin (fun H3 Qa hq => ⟨_, rfl, _, _, rfl, rfl, ⟨by decide, by decide⟩, num / 32, rfl, e3, e4, fun t ht hl8 => hq t ht hl8⟩) (fun ws' op' H3 a1 a2 a3 a4 a5 a6 => ⟨ws', op', _, _, rfl, a1, a2, a3, a4, a5, a6⟩)
      · exact tailW sm hr2 hp2 nrp hlen (by (first | lia | omega)) hcan hws hp0 hrH b0 b1 hzero (fun H3 Qa hq => ⟨_, rfl, _, _, rfl, rfl, ⟨by decide, by decide⟩, num / 32, rfl, e3, e4, fun t ht hl8 => hq t ht hl8⟩) (fun ws' op' H3 a1 a2 a3 a4 a5 a6 => ⟨ws', op', _, _, rfl, a1, a2, a3, a4, a5, a6⟩)
    · rintro σ H2 ⟨ws, op, v6, v7, rfl, sm, hr2, hp2, hlen, hcan, hws⟩
      rw [List.length_map, hxl] at hlen
      refine ⟨_, rfl, by decide, fun b hb => ⟨_, rfl, b, _, _, rfl, rfl, upd_same, by (first | lia | omega), by (first | lia | omega), len1000 (by show 1 * _ ≤ _; (first | lia | omega)), fun c hc => ?_⟩⟩
      obtain ⟨ncb, hc0⟩ := upd_none hc
      have npb : p ≠ b := ne_of_none hp2 hb
      have npc : p ≠ c := ne_of_none hp2 hc0
      refine ⟨p, c, ws.map V.str, (List.replicate op SL).map V.str, rfl, rfl, ?_, ?_, len1000 (by rw [List.length_map, List.length_map, List.length_replicate]; (first | lia | omega)), fun d hd => ?_⟩
      · rw [upd_ne npc, upd_ne npb]
        exact hp2
      · rw [upd_same]
        congr 2
        rw [Int.toNat_natCast]
        exact rep_map op
      obtain ⟨ndc, hd0⟩ := upd_none hd
      obtain ⟨ndb, hd1⟩ := upd_none hd0
      refine q d (ws ++ List.replicate op SL) _ (((sm.upd_new (sm.free hb)).upd_new (sm.free hc0)).upd_new (sm.free hd1)) (sm.free hd1) ?_ ?_ (hcan _ (can_all op)) ?_
      · rw [upd_same, List.map_append]
      · rw [List.length_append, List.length_replicate]
        (first | lia | omega)
      · intro w hw
        rcases List.mem_append.mp hw with hw | hw
        · exact hws w hw
        · exact .inl (List.mem_replicate.mp hw).2
set_option maxHeartbeats 4000000 in
theorem ok_l_text (B : ∀ x ∈ blts, mg x = none) (F : Fun K "_law_text" "_law_text" s_l_text f fd) : FnOk P w K mg base CX0 1 f fd ["_law_words_here"] (spText K) := by
  refine F.ok sc_l_text (fun vs H Q E h => ?_) (fun cdv A outer s H vs Q E hr h => ?_)
  · obtain ⟨a, g, rfl, _⟩ := h
    rfl
  obtain ⟨a, g0', rfl, hS, hlen, hcl0, hcan, hok, q⟩ := h
  have hu := hu_room hr
  refine ⟨_, (pss_cons (ps_set (i := 1) sc_l_text.nd rfl (Or.inl rfl) (pe_lst pa_nil))
    (pss_cons (ps_set (i := 2) sc_l_text.nd rfl (Or.inl rfl) (pe_lst (pa_cons (pe_lst pa_nil) pa_nil)))
    (pss_cons (ps_for PassesOwn.never rfl (pi_list (pv 0)) (pg_name (i := 3) sc_l_text.nd rfl (Or.inl rfl))
      (pss_cons (ps_if (pt_cmpR op_ne (pv 3) pe_str (nomark _))
          (pss_cons (ps_expr (pe_bm PySem.F.plainAttrs_list PySem.F.slot_list_append PySem.F.type_list_append mt_append (pv 1) (pa_cons (pv 3) pa_nil)))
            (pss_cons (ps_expr (pe_bm PySem.F.plainAttrs_list PySem.F.slot_list_append PySem.F.type_list_append mt_append (pv 2) (pa_cons (pe_lst pa_nil) pa_nil)))
            (pss_one ps_continue)))
          pss_nil)
        (pss_cons (ps_set (i := 4) sc_l_text.nd rfl (Or.inl rfl) (pe_bm0 PySem.F.plainAttrs_list PySem.F.slot_list_pop PySem.F.type_list_pop mt_pop (pv 1)))
        (pss_cons (ps_set (i := 5) sc_l_text.nd rfl (Or.inl rfl) (pe_bm0 PySem.F.plainAttrs_list PySem.F.slot_list_pop PySem.F.type_list_pop mt_pop (pv 2)))
        (pss_cons (ps_if (pt_cmpR (op_ne_nil hu) (pv 5) (pe_lst pa_nil) (nomark _))
          (pss_one (ps_set (i := 4) sc_l_text.nd rfl (Or.inl rfl) (pe_op op_add_str (pe_op op_add_str (pe_op op_add_str (pv 4) pe_str) (pe_bm PySem.F.plainAttrs_str PySem.F.slot_str_join PySem.F.type_str_join mt_join pe_str (pa_cons (pv 5) pa_nil))) pe_str)))
          pss_nil)
        (pss_one (ps_expr (pe_bm PySem.F.plainAttrs_list PySem.F.slot_list_append PySem.F.type_list_append mt_append (pe_ix ix_list (pv 2) (pe_un un_neg pe_int) (fun _ _ => rfl)) (pa_cons (pv 4) pa_nil)))))))))
    (pss_one (ps_ret (pe_bm PySem.F.plainAttrs_str PySem.F.slot_str_join PySem.F.type_str_join mt_join pe_str (pa_cons (pe_ix ix_list (pv 2) pe_int (fun _ _ => rfl)) pa_nil))))))), ?_⟩
  -- tags = []; rows = [[]]
  refine ⟨by decide, fun T hT => ?_⟩
  refine ⟨by decide, fun a0 h0 => ⟨(by show 1 ≤ sizeLine; decide), fun R hR => ?_⟩⟩
  obtain ⟨n0T, h0'⟩ := upd_none h0
  obtain ⟨nR0, hR1⟩ := upd_none hR
  obtain ⟨nRT, hR'⟩ := upd_none hR1
  have s3 : Same H (upd (upd (upd H T (.lst [])) a0 (.lst [])) R (.lst [.ref a0])) := ((Same.new hT).upd_new h0').upd_new hR'
  refine ⟨_, rfl, a, rfl, ⟨_, s3.seq hS⟩, for_list (K := K) (a := a) (xs := (words SL g0').map V.str) (fun i σ H1 => ∃ (as : List Addr) (gs : List (Gr Str)) (ts : List Str) (v3 v4 v5 : Option V),
    σ = [some (.ref a), some (.ref T), some (.ref R), v3, v4, v5] ∧ Same H H1 ∧ H1 T = some (.lst ((ts.map V.str).reverse)) ∧ H1 R = some (.lst ((as.map V.ref).reverse)) ∧ RowsT H1 as gs ∧ (R :: T :: as).Nodup ∧
    (∀ b ∈ as, H b = none) ∧ gs.length = ts.length + 1 ∧ flatR SL gs ts = (words SL g0').take i ∧ Can SL ts.length ((words SL g0').drop i) ∧ (∀ g ∈ gs, GoodT g ∧ Clean SL g) ∧ ∀ t ∈ ts, Lets t ∧ t.length ≤ 8)
    ⟨[a0], [.nil], [], none, none, none, rfl, s3, ?_, upd_same, ?_, ?_, ?_, rfl, rfl, hcan, ?_, fun _ h => nomatch h⟩ ?_ ?_ ?_⟩
  · rw [upd_ne nRT.symm, upd_ne n0T.symm]
    exact upd_same
  · refine .cons ?_ .nil
    rw [upd_ne nR0.symm]
    exact upd_same
  · simp [nRT, nR0, n0T.symm]
  · intro b hb
    obtain rfl := List.mem_singleton.mp hb
    exact h0'
  · intro g hg
    obtain rfl := List.mem_singleton.mp hg
    exact ⟨trivial, trivial⟩
  · rintro i σ H1 _ ⟨as, gs, ts, v3, v4, v5, _, sm, _⟩
    exact sm.seq hS
  · rintro i x σ H1 hi ⟨as, gs, ts, v3, v4, v5, rfl, sm, hT1, hR1', hrows, nd, hfr, hgl, hflat, hc, hcl, htn⟩
    obtain ⟨hil, hix⟩ := List.getElem?_eq_some_iff.mp hi
    rw [List.length_map] at hil
    obtain rfl : x = V.str (words SL g0')[i] := by
      rw [← hix, List.getElem_map]
    have hdrop : (words SL g0').drop i = (words SL g0')[i] :: (words SL g0').drop (i + 1) := List.drop_eq_getElem_cons hil
    have htake : (words SL g0').take (i + 1) = (words SL g0').take i ++ [(words SL g0')[i]] := List.take_succ_eq_append_getElem hil
    have hokw := hok _ (List.getElem_mem hil)
    rw [hdrop] at hc
    generalize (words SL g0')[i] = wd at hc htake hokw
    have hasl : as.length = gs.length := Paired.length hrows
    obtain ⟨ndR, ndT⟩ := List.nodup_cons.mp nd
    obtain ⟨ndT', ndA⟩ := List.nodup_cons.mp ndT
    have hRa : ∀ b ∈ as, b ≠ R := fun b hb e => ndR (by rw [← e]; exact List.mem_cons_of_mem _ hb)
    have hTa : ∀ b ∈ as, b ≠ T := fun b hb e => ndT' (by rw [← e]; exact hb)
    have hRT : R ≠ T := fun e => ndR (by rw [e]; exact List.mem_cons_self ..)
    refine ⟨_, rfl, rfl, _, rfl, ?_⟩
    refine ite2 (fun c => ?_) (fun c => ?_)
    · -- a tag
      have e : wd ≠ SL := fun z => by
        rw [z] at c
        exact absurd c (by decide)
      have hc' := (can_tag e).mp hc
      have hts : ts.length ≤ 1000 := by
        have h1 := flatR_len SL (ts := ts) hgl
        rw [hflat, List.length_take] at h1
        (first | lia | omega)
      refine ⟨_, rfl, .inl ⟨rfl, _, SqL.of hT1⟩, _, rfl, T, _, _, rfl, rfl, hT1, len1000' (by rw [List.length_reverse, List.length_map]; (first | lia | omega)), ?_⟩
      have hRa2 : (upd H1 T (.lst ((ts.map V.str).reverse ++ [.str wd]))) R = some (.lst (as.map V.ref).reverse) := by
        rw [upd_ne hRT]
        exact hR1'
      refine ⟨_, rfl, .inl ⟨rfl, _, SqL.of hRa2⟩, by decide, fun l hl => ?_⟩
      obtain ⟨nlT, hl1⟩ := upd_none hl
      have nlR : R ≠ l := ne_of_none hR1' hl1
      have hRb : (upd (upd H1 T (.lst ((ts.map V.str).reverse ++ [.str wd]))) l (.lst [])) R = some (.lst (as.map V.ref).reverse) := by
        rw [upd_ne nlR]
        exact hRa2
      refine ⟨R, _, _, rfl, rfl, hRb, len1000' (by rw [List.length_reverse, List.length_map]; (first | lia | omega)), ?_⟩
      have nla : l ∉ as := fun hb => by
        obtain ⟨o, ho⟩ := rowsT_there hrows l hb
        rw [hl1] at ho
        cases ho
      refine ⟨l :: as, .nil :: gs, wd :: ts, _, _, _, rfl, ?_, ?_, ?_, ?_, ?_, ?_, ?_, ?_, ?_, ?_, ?_⟩
      · exact ((sm.upd_new hT).upd_new (sm.free hl1)).upd_new hR'
      · rw [upd_ne hRT.symm, upd_ne nlT.symm, upd_same, List.map_cons, List.reverse_cons]
      · rw [upd_same, List.map_cons, List.reverse_cons]
      · refine .cons ?_ (rowsT_mono hrows fun b hb o ho => ?_)
        · rw [upd_ne nlR.symm]
          exact upd_same
        · rw [upd_ne (hRa b hb), upd_ne (ne_of_none ho hl1), upd_ne (hTa b hb)]
          exact ho
      · refine List.nodup_cons.mpr ⟨fun h => ?_, List.nodup_cons.mpr ⟨fun h => ?_, List.nodup_cons.mpr ⟨nla, ndA⟩⟩⟩
        · rcases List.mem_cons.mp h with h | h
          · exact hRT h
          · rcases List.mem_cons.mp h with h | h
            · exact nlR h
            · exact ndR (List.mem_cons_of_mem _ h)
        · rcases List.mem_cons.mp h with h | h
          · exact nlT h.symm
          · exact ndT' h
      · intro b hb
        rcases List.mem_cons.mp hb with rfl | hb
        · exact sm.free hl1
        · exact hfr b hb
      · simpa using hgl
      · rw [flatR_open, hflat, htake]
      · exact hc'
      · intro g hg
        rcases List.mem_cons.mp hg with rfl | hg
        · exact ⟨trivial, trivial⟩
        · exact hcl g hg
      · intro x hx
        rcases List.mem_cons.mp hx with rfl | hx
        · exact hokw.resolve_left e
        · exact htn x hx
    · -- an end
      have e : wd = SL := by
        by_cases z : wd = SL
        · exact z
        · exact absurd (by rw [decide_eq_false (fun h => z (V.str.inj h))]; rfl) c
      subst e
      obtain ⟨hpos, hc'⟩ := can_end.mp hc
      cases ts with
      | nil => exact absurd hpos (by simp)
      | cons t ts =>
        cases gs with
        | nil => simp at hgl
        | cons g0 gs =>
          cases gs with
          | nil => simp at hgl
          | cons g1 gs =>
            cases hrows with
            | @cons b0 _ as _ h00 hrows =>
              cases hrows with
              | @cons b1 _ as _ h11 hrows =>
                have m0 : b0 ∈ b0 :: b1 :: as := List.mem_cons_self ..
                have m1 : b1 ∈ b0 :: b1 :: as := List.mem_cons_of_mem _ (List.mem_cons_self ..)
                have hgs : gs.length = ts.length := by simpa using hgl
                have hg0 := hcl g0 (List.mem_cons_self ..)
                have hg1 := hcl g1 (List.mem_cons_of_mem _ (List.mem_cons_self ..))
                have ht8 := htn t (List.mem_cons_self ..)
                have hfl : (words SL g1).length ≤ 1000 ∧ (words SL g0).length ≤ 1000 := by
                  have h1 := flatR_ge SL (r := g1) hgs
                  have h2 := congrArg List.length hflat
                  rw [List.length_take] at h2
                  simp only [flatR, List.length_append, List.length_cons] at h2
                  (first | lia | omega)
                have hr0 := rowT_len hg0.1
                have hr1 := rowT_len hg1.1
                have htl := treeT_len t (rowT g0)
                have hRs : H1 R = some (.lst (((b1 :: as).map V.ref).reverse ++ [.ref b0])) := by
                  rw [hR1', List.map_cons, List.reverse_cons]
                have hTs : H1 T = some (.lst ((ts.map V.str).reverse ++ [.str t])) := by
                  rw [hT1, List.map_cons, List.reverse_cons]
                refine ⟨_, rfl, .inl ⟨rfl, _, SqL.of hTs⟩, T, _, _, rfl, rfl, hTs, snoc_last _ _, ?_⟩
                rw [snoc_drop]
                have hRa2 : (upd H1 T (.lst (ts.map V.str).reverse)) R = some (.lst (((b1 :: as).map V.ref).reverse ++ [.ref b0])) := by
                  rw [upd_ne hRT]
                  exact hRs
                refine ⟨_, rfl, .inl ⟨rfl, _, SqL.of hRa2⟩, R, _, _, rfl, rfl, hRa2, snoc_last _ _, ?_⟩
                rw [snoc_drop]
                have h0a : (upd (upd H1 T (.lst (ts.map V.str).reverse)) R (.lst ((b1 :: as).map V.ref).reverse)) b0 = some (.lst ((rowT g0).map V.str)) := by
                  rw [upd_ne (hRa b0 m0), upd_ne (hTa b0 m0)]
                  exact h00
                have h1a : (upd (upd H1 T (.lst (ts.map V.str).reverse)) R (.lst ((b1 :: as).map V.ref).reverse)) b1 = some (.lst ((rowT g1).map V.str)) := by
                  rw [upd_ne (hRa b1 m1), upd_ne (hTa b1 m1)]
                  exact h11
                refine ⟨_, rfl, by decide, fun l hl => ?_⟩
                obtain ⟨nlR, hl1⟩ := upd_none hl
                obtain ⟨nlT, hl2⟩ := upd_none hl1
                have n0l : b0 ≠ l := ne_of_none h00 hl2
                have n1l : b1 ≠ l := ne_of_none h11 hl2
                have h0b : (upd (upd (upd H1 T (.lst (ts.map V.str).reverse)) R (.lst ((b1 :: as).map V.ref).reverse)) l (.lst [])) b0 = some (.lst ((rowT g0).map V.str)) := by
                  rw [upd_ne n0l]
                  exact h0a
                have h1b : (upd (upd (upd H1 T (.lst (ts.map V.str).reverse)) R (.lst ((b1 :: as).map V.ref).reverse)) l (.lst [])) b1 = some (.lst ((rowT g1).map V.str)) := by
                  rw [upd_ne n1l]
                  exact h1a
                have hRb : (upd (upd (upd H1 T (.lst (ts.map V.str).reverse)) R (.lst ((b1 :: as).map V.ref).reverse)) l (.lst [])) R = some (.lst ((as.map V.ref).reverse ++ [.ref b1])) := by
                  rw [upd_ne nlR.symm, upd_same, List.map_cons, List.reverse_cons]
                have ndA2 := (List.nodup_cons.mp ndA).2
                have n1as := (List.nodup_cons.mp ndA2).1
                have fin : ∀ (tx : Str) (v3 v4 v5 : Option V), tx = treeT t (rowT g0) → ∃ (as' : List Addr) (gs' : List (Gr Str)) (ts' : List Str) (u3 u4 u5 : Option V),
                    [some (.ref a), some (.ref T), some (.ref R), v3, v4, v5] = [some (.ref a), some (.ref T), some (.ref R), u3, u4, u5] ∧
                    Same H (upd (upd (upd (upd H1 T (.lst (ts.map V.str).reverse)) R (.lst ((b1 :: as).map V.ref).reverse)) l (.lst [])) b1 (.lst ((rowT g1).map V.str ++ [.str tx]))) ∧
                    (upd (upd (upd (upd H1 T (.lst (ts.map V.str).reverse)) R (.lst ((b1 :: as).map V.ref).reverse)) l (.lst [])) b1 (.lst ((rowT g1).map V.str ++ [.str tx]))) T = some (.lst ((ts'.map V.str).reverse)) ∧
                    (upd (upd (upd (upd H1 T (.lst (ts.map V.str).reverse)) R (.lst ((b1 :: as).map V.ref).reverse)) l (.lst [])) b1 (.lst ((rowT g1).map V.str ++ [.str tx]))) R = some (.lst ((as'.map V.ref).reverse)) ∧
                    RowsT (upd (upd (upd (upd H1 T (.lst (ts.map V.str).reverse)) R (.lst ((b1 :: as).map V.ref).reverse)) l (.lst [])) b1 (.lst ((rowT g1).map V.str ++ [.str tx]))) as' gs' ∧ (R :: T :: as').Nodup ∧
                    (∀ b ∈ as', H b = none) ∧ gs'.length = ts'.length + 1 ∧ flatR SL gs' ts' = (words SL g0').take (i + 1) ∧ Can SL ts'.length ((words SL g0').drop (i + 1)) ∧ (∀ g ∈ gs', GoodT g ∧ Clean SL g) ∧ ∀ t ∈ ts', Lets t ∧ t.length ≤ 8 := by
                  intro tx v3 v4 v5 htx
                  refine ⟨b1 :: as, snoc g1 t g0 :: gs, ts, v3, v4, v5, rfl, ?_, ?_, ?_, ?_, ?_, ?_, ?_, ?_, ?_, ?_, ?_⟩
                  · exact (((sm.upd_new hT).upd_new hR').upd_new (sm.free hl2)).upd_new (hfr b1 m1)
                  · rw [upd_ne (hTa b1 m1).symm, upd_ne nlT.symm, upd_ne hRT.symm, upd_same]
                  · rw [upd_ne (hRa b1 m1).symm, upd_ne nlR.symm, upd_same]
                  · refine .cons ?_ (rowsT_mono hrows fun b hb o ho => ?_)
                    · rw [upd_same, rowT_snoc, List.map_append, htx]
                      rfl
                    · have mb : b ∈ b0 :: b1 :: as := List.mem_cons_of_mem _ (List.mem_cons_of_mem _ hb)
                      have nb1 : b ≠ b1 := fun e => n1as (by rw [← e]; exact hb)
                      rw [upd_ne nb1, upd_ne (ne_of_none ho hl2), upd_ne (hRa b mb), upd_ne (hTa b mb)]
                      exact ho
                  · refine List.nodup_cons.mpr ⟨fun h => ?_, List.nodup_cons.mpr ⟨fun h => ndT' (List.mem_cons_of_mem _ h), ndA2⟩⟩
                    rcases List.mem_cons.mp h with h | h
                    · exact hRT h
                    · exact ndR (List.mem_cons_of_mem _ (List.mem_cons_of_mem _ h))
                  · exact fun b hb => hfr b (List.mem_cons_of_mem _ hb)
                  · simpa using hgl
                  · rw [flatR_close SL t hgs, hflat, htake]
                  · exact hc'
                  · intro g hg
                    rcases List.mem_cons.mp hg with rfl | hg
                    · exact ⟨good_snoc ht8 hg0.1 hg1.1, clean_snoc ht8.1.ne hg0.2 hg1.2⟩
                    · exact hcl g (List.mem_cons_of_mem _ (List.mem_cons_of_mem _ hg))
                  · exact fun x hx => htn x (List.mem_cons_of_mem _ hx)
                have hll : ((rowT g1).map V.str).length < sizeLine := len1000' (by rw [List.length_map]; (first | lia | omega))
                refine ⟨b0, l, _, rfl, rfl, SqL.of h0b, SqL.of upd_same, _, rfl, ?_⟩
                refine ite2 (fun c => ?_) (fun c => ?_)
                · have hne : rowT g0 ≠ [] := fun z => by
                    rw [z] at c
                    exact absurd c (by decide)
                  refine ⟨_, rfl, _, _, rfl, rfl, ?_, rfl, _, rfl, " ", b0, rowT g0, rfl, rfl, SqL.of h0b, ?_, _, _, rfl, rfl, ?_, _, _, rfl, rfl, ?_, ?_⟩
                  · exact len1000 (by show _ + 1 ≤ _; (first | lia | omega))
                  · show _ + _ * 1 ≤ _
                    (first | lia | omega)
                  · have := len_le_sum " " (rowT g0)
                    have e3 : (" " : Str).length = 1 := rfl
                    rw [e3] at this
                    rw [app_len]
                    exact len1000 (by show _ + 1 + _ ≤ _; (first | lia | omega))
                  · have := len_le_sum " " (rowT g0)
                    have e3 : (" " : Str).length = 1 := rfl
                    rw [e3] at this
                    rw [app_len, app_len]
                    exact len1000 (by show _ + 1 + _ + 1 ≤ _; (first | lia | omega))
                  · refine appLast rfl rfl hRb h1b hll (fin _ _ _ _ ?_)
                    unfold treeT
                    rw [if_neg hne]
                · have hne : rowT g0 = [] := by
                    cases z : rowT g0 with
                    | nil => rfl
                    | cons y ys =>
                      rw [z] at c
                      exact absurd rfl c
                  refine appLast rfl rfl hRb h1b hll (fin _ _ _ _ ?_)
                  unfold treeT
                  rw [if_pos hne]
  · rintro σ H1 ⟨as, gs, ts, v3, v4, v5, rfl, sm, hT1, hR1', hrows, nd, hfr, hgl, hflat, hc, hcl, htn⟩
    rw [List.length_map] at hflat hc
    rw [List.take_length] at hflat
    rw [List.drop_length] at hc
    obtain rfl : ts = [] := List.eq_nil_of_length_eq_zero hc
    cases gs with
    | nil => simp at hgl
    | cons g gs =>
      obtain rfl : gs = [] := List.eq_nil_of_length_eq_zero (by simpa using hgl)
      cases hrows with
      | @cons b _ _ _ hb hrows =>
        cases hrows
        have hg := hcl g (List.mem_cons_self ..)
        have hrl := rowT_len hg.1
        have hfl : words SL g = words SL g0' := hflat
        refine ⟨rfl, _, rfl, R, _, 0, .ref b, rfl, rfl, SqL.of hR1', rfl, " ", b, rowT g, rfl, rfl, SqL.of hb, ?_, ?_⟩
        · show _ + _ * 1 ≤ _
          rw [hfl] at hrl
          (first | lia | omega)
        · have e : g = g0' := words_inj hg.2 hcl0 hfl
          subst e
          exact q H1 sm
def spBadT : Sp := fun vs H Q _ => ∃ z : Str, vs = [.str z] ∧ AscL z ∧ z.length ≤ 20000 ∧ Q (match tbad z with | none => .non | some p => .int (p : Nat)) H
theorem d32 {l : Nat} : decide (V.str ⟨#[l]⟩ = V.str " ") = decide (l = 32) := by rw [dstr]; exact decide_eq_decide.mpr e32
theorem d40 {l : Nat} : decide (V.str ⟨#[l]⟩ = V.str "(") = decide (l = 40) := by rw [dstr]; exact decide_eq_decide.mpr e40
theorem d41 {l : Nat} : decide (V.str ⟨#[l]⟩ = V.str ")") = decide (l = 41) := by rw [dstr]; exact decide_eq_decide.mpr e41
theorem dnat {a b : Nat} : decide (V.int (a : Nat) = V.int (b : Nat)) = decide (a = b) := by rw [dint]; exact decide_eq_decide.mpr Int.ofNat_inj
def SPB : Str := " ()"
theorem spb_all : ∀ c : _root_.Fin 128, (Builtin.Str.occurrences SPB ⟨#[c.val]⟩ 0 SPB.length 1).isEmpty = !decide (c.val = 32 ∨ c.val = 40 ∨ c.val = 41) := by decide +kernel
theorem spb {c : Nat} (h : c < 128) : (Builtin.Str.occurrences SPB ⟨#[c]⟩ 0 SPB.length 1).isEmpty = !decide (c = 32 ∨ c = 40 ∨ c = 41) := spb_all ⟨c, h⟩
theorem cs_at {z : Str} {i : Nat} (h : i < z.length) : ∃ c, (cs z)[i]? = some c ∧ atI z.cps.toList (0 + (i : Int)) = some c := by
  have h1 : i < z.cps.toList.length := by rw [Array.length_toList]; exact h
  refine ⟨z.cps.toList[i], List.getElem?_eq_some_iff.mpr ⟨h1, rfl⟩, ?_⟩
  rw [Int.zero_add]
  exact atI_nat (List.getElem?_eq_some_iff.mpr ⟨h1, rfl⟩)
theorem ok_l_bad (B : ∀ x ∈ blts, mg x = none) (F : Fun K "_law_bad" "_law_bad" s_l_bad f fd) : FnOk P w K mg base CX0 1 f fd ["_law_text_here"] spBadT := by
  refine F.ok sc_l_bad (fun vs H Q E h => ?_) (fun cdv A outer s H vs Q E hr h => ?_)
  · obtain ⟨z, rfl, _⟩ := h
    rfl
  obtain ⟨z, rfl, hasc, hlen, q⟩ := h
  have hzc : (cs z).length = z.length := Array.length_toList
  refine ⟨_, (pss_cons (ps_set (i := 1) sc_l_bad.nd rfl (Or.inl rfl) pe_int)
    (pss_cons (ps_set (i := 2) sc_l_bad.nd rfl (Or.inl rfl) pe_int)
    (pss_cons (ps_set (i := 3) sc_l_bad.nd rfl (Or.inl rfl) pe_str)
    (pss_cons (ps_for PassesOwn.never rfl (pi_range1 rfl (B "range" (by decide)) (pa_cons (pe_callB call_len_str rfl (B "len" (by decide)) PySem.boot_len (pa_cons (pv 0) pa_nil)) pa_nil)) (pg_name (i := 4) sc_l_bad.nd rfl (Or.inl rfl))
      (pss_cons (ps_set (i := 5) sc_l_bad.nd rfl (Or.inl rfl) (pe_ix ix_str (pv 0) (pv 4) (fun _ _ => rfl)))
        (pss_cons (ps_set (i := 6) sc_l_bad.nd rfl (Or.inl rfl) (pe_cmpR op_in_str (pv 5) pe_str (by with_unfolding_all rfl)))
        (pss_cons (ps_if (PW.pt (pw_and (pt_truth (pv 6) (fun _ => rfl)) (pw_and1 (PW.pt (pw_or (pt_cmpR op_eq (pv 3) pe_str (nomark _)) (pw_or1 (pt_cmpR op_eq (pv 2) pe_int (nomark _))))))))
          (pss_one (ps_ret (pv 4)))
          pss_nil)
        (pss_cons (ps_if (PW.pt (pw_and (pt_not (pt_truth (pv 6) (fun _ => rfl))) (pw_and1 (PW.pt (pw_or (pt_cmpR op_eq (pv 3) pe_str (nomark _)) (pw_or (pt_cmpR op_eq (pv 3) pe_str (nomark _)) (pw_or1 (pt_cmpR op_notIn_str (pv 5) pe_str (by with_unfolding_all rfl)))))))))
          (pss_one (ps_ret (pv 4)))
          pss_nil)
        (pss_cons (ps_if (PW.pt (pw_or (PW.pt (pw_and (pt_cmpR op_eq (pv 5) pe_str (nomark _)) (pw_and1 (pt_cmpR op_eq (pv 3) pe_str (nomark _))))) (pw_or1 (PW.pt (pw_and (pt_cmpR op_eq (pv 5) pe_str (nomark _)) (pw_and1 (pt_cmpR op_eq (pv 1) pe_int (nomark _))))))))
          (pss_one (ps_ret (pv 4)))
          pss_nil)
        (pss_cons (ps_set (i := 2) sc_l_bad.nd rfl (Or.inl rfl) (pe_op op_mul (pe_op op_add (pv 2) pe_int) (pe_callTy call_intB rfl (B "int" (by decide)) bt_int (pa_cons (pv 6) pa_nil))))
        (pss_cons (ps_set (i := 1) sc_l_bad.nd rfl (Or.inl rfl) (pe_op op_sub (pe_op op_add (pv 1) (pe_callTy call_intB rfl (B "int" (by decide)) bt_int (pa_cons (pe_cmpR op_eq (pv 5) pe_str (nomark _)) pa_nil))) (pe_callTy call_intB rfl (B "int" (by decide)) bt_int (pa_cons (pe_cmpR op_eq (pv 5) pe_str (nomark _)) pa_nil))))
        (pss_one (ps_set (i := 3) sc_l_bad.nd rfl (Or.inl rfl) (pv 5)))))))))))
    (pss_cons (ps_if (PW.pt (pw_or (pt_cmpR op_gt (pv 1) pe_int (nomark _)) (pw_or1 (PW.pt (pw_and (pt_cmpR op_ne (pv 0) pe_str (nomark _)) (pw_and1 (PW.pt (pw_or (pt_cmpR op_eq (pv 3) pe_str (nomark _)) (pw_or1 (pt_cmpR op_eq (pv 3) pe_str (nomark _)))))))))))
      (pss_one (ps_ret (pe_callB call_len_str rfl (B "len" (by decide)) PySem.boot_len (pa_cons (pv 0) pa_nil))))
      pss_nil)
    (pss_one (ps_ret pe_non))))))), ?_⟩
  refine ⟨_, rfl, z, rfl, len1000 (by (first | lia | omega)), _, rfl, by (first | lia | omega), by (first | lia | omega), for_range (lo := 0) (fun i σ H1 => ∃ (ls : LS) (v4 v5 v6 : Option V), σ = [some (.str z), some (.int (ls.o : Nat)), some (.int (ls.m : Nat)), some (.str ⟨#[ls.l]⟩), v4, v5, v6] ∧ H1 = H ∧ lbad i ls ((cs z).drop i) = tbad z) ⟨L0, none, none, none, rfl, rfl, rfl⟩ ?_ ?_⟩
  · rintro i σ H1 hi ⟨ls, v4, v5, v6, rfl, rfl, hb⟩
    have hi' : i < z.length := by (first | lia | omega)
    obtain ⟨c, hc, hat⟩ := cs_at hi'
    have hc8 : c < 128 := hasc c (List.mem_of_getElem? hc)
    rw [drop_at hc, lbad] at hb
    have ei : (0 : Int) + (i : Int) = ((i : Nat) : Int) := by (first | lia | omega)
    have bad_ok : lstep ls c = none → ∀ v5 v6 : Option V, tRet (tVar 4) { nx := fun x H' => Q V.non H', rt := Q } [some (.str z), some (.int (ls.o : Nat)), some (.int (ls.m : Nat)), some (.str ⟨#[ls.l]⟩), some (.int (0 + (i : Int))), v5, v6] H1 := fun h v5 v6 => by
      rw [h] at hb
      rw [← hb] at q
      refine ⟨_, rfl, ?_⟩
      rw [ei]
      exact q
    refine ⟨_, rfl, _, rfl, z, _, c, rfl, rfl, len1000 (by (first | lia | omega)), hat, ?_⟩
    refine ⟨_, rfl, _, ABC, rfl, rfl, ?_⟩
    rw [notin_az hc8, Bool.not_not]
    cases hz : azB c with
    | true =>
      obtain ⟨c1, c2, c3⟩ := az_ne hz
      refine ⟨_, rfl, true, rfl, iteT ?_⟩
      refine ⟨_, rfl, rfl, _, rfl, ?_⟩
      rw [d41]
      by_cases h1 : ls.l = 41
      · rw [decide_eq_true h1]
        refine iteT (iteT (bad_ok ?_ _ _))
        unfold lstep
        rw [if_pos hz, if_pos (.inl h1)]
      rw [decide_eq_false h1]
      refine iteF ⟨_, rfl, rfl, _, rfl, ?_⟩
      rw [show (V.int 8) = V.int ((8 : Nat) : Int) from rfl, dnat]
      by_cases h2 : ls.m = 8
      · rw [decide_eq_true h2]
        refine iteT (bad_ok ?_ _ _)
        unfold lstep
        rw [if_pos hz, if_pos (.inr h2)]
      rw [decide_eq_false h2]
      refine iteF ?_
      have hst : lstep ls c = some ⟨ls.o, ls.m + 1, c⟩ := by
        unfold lstep
        rw [if_pos hz, if_neg (by (first | lia | omega))]
      rw [hst] at hb
      refine ⟨_, rfl, true, rfl, iteF (iteF ?_)⟩
      refine ⟨_, rfl, rfl, _, rfl, ?_⟩
      rw [d40, decide_eq_false c2]
      refine iteF (iteF ⟨_, rfl, rfl, _, rfl, ?_⟩)
      rw [d41, decide_eq_false c3]
      refine iteF (iteF ?_)
      refine ⟨_, rfl, _, _, rfl, rfl, _, rfl, _, rfl, _, _, rfl, rfl, .inr ⟨by decide, by decide⟩, ?_⟩
      refine ⟨_, rfl, _, rfl, rfl, _, rfl, _, _, rfl, rfl, _, rfl, rfl, _, rfl, _, _, rfl, rfl, ?_⟩
      rw [d40, decide_eq_false c2, d41, decide_eq_false c3]
      refine ⟨_, rfl, ⟨ls.o, ls.m + 1, c⟩, some (.int (0 + (i : Int))), some (.str ⟨#[c]⟩), some (.bl true), ?_, rfl, hb⟩
      show [some (V.str z), some (V.int (((ls.o : Nat) : Int) + 0 - 0)), some (V.int ((((ls.m : Nat) : Int) + 1) * 1)), some (V.str ⟨#[c]⟩), some (.int (0 + (i : Int))), some (.str ⟨#[c]⟩), some (.bl true)] = _
      rw [show ((ls.o : Nat) : Int) + 0 - 0 = ((ls.o : Nat) : Int) by (first | lia | omega), show (((ls.m : Nat) : Int) + 1) * 1 = ((ls.m + 1 : Nat) : Int) by (first | lia | omega)]
    | false =>
      have hz' : ¬ azB c = true := by rw [hz]; decide
      refine ⟨_, rfl, false, rfl, iteF (iteF ?_)⟩
      refine ⟨_, rfl, false, rfl, iteT ?_⟩
      refine ⟨_, rfl, rfl, _, rfl, ?_⟩
      rw [d40]
      by_cases h1 : ls.l = 40
      · rw [decide_eq_true h1]
        refine iteT (iteT (bad_ok ?_ _ _))
        unfold lstep
        rw [if_neg hz', if_pos (.inl h1)]
      rw [decide_eq_false h1]
      refine iteF ⟨_, rfl, rfl, _, rfl, ?_⟩
      rw [d32]
      by_cases h2 : ls.l = 32
      · rw [decide_eq_true h2]
        refine iteT (iteT (bad_ok ?_ _ _))
        unfold lstep
        rw [if_neg hz', if_pos (.inr (.inl h2))]
      rw [decide_eq_false h2]
      refine iteF ⟨_, rfl, _, SPB, rfl, rfl, _, rfl, ?_⟩
      rw [spb hc8, Bool.not_not]
      by_cases h3 : c = 32 ∨ c = 40 ∨ c = 41
      case neg =>
        rw [decide_eq_false h3]
        refine iteT (bad_ok ?_ _ _)
        unfold lstep
        rw [if_neg hz', if_pos (.inr (.inr h3))]
      rw [decide_eq_true h3]
      refine iteF ?_
      have hst : lstep ls c = if (c = 40 ∧ ls.l = 41) ∨ (c = 41 ∧ ls.o = 0) then none else some ⟨ls.o + (if c = 40 then 1 else 0) - (if c = 41 then 1 else 0), 0, c⟩ := by
        unfold lstep
        rw [if_neg hz', if_neg (by rintro (x | x | x); exact h1 x; exact h2 x; exact x h3)]
      have d0 : decide (V.int ((ls.o : Nat) : Int) = V.int 0) = decide (ls.o = 0) := dnat (b := 0)
      have go : ∀ o' : Nat, lstep ls c = some ⟨o', 0, c⟩ → lbad (i + 1) ⟨o', 0, c⟩ ((cs z).drop (i + 1)) = tbad z := fun o' e => by
        rw [e] at hb
        exact hb
      rcases h3 with rfl | rfl | rfl
      · have hb' := go ls.o (by rw [hst, if_neg (by (first | lia | omega))]; rfl)
        refine ⟨_, rfl, rfl, _, rfl, ?_⟩
        rw [d40, decide_eq_false (by decide)]
        refine iteF (iteF ⟨_, rfl, rfl, _, rfl, ?_⟩)
        rw [d41, decide_eq_false (by decide)]
        refine iteF (iteF ?_)
        refine ⟨_, rfl, _, _, rfl, rfl, _, rfl, _, rfl, _, _, rfl, rfl, .inr ⟨by decide, by decide⟩, ?_⟩
        refine ⟨_, rfl, _, rfl, rfl, _, rfl, _, _, rfl, rfl, _, rfl, rfl, _, rfl, _, _, rfl, rfl, ?_⟩
        rw [d40, decide_eq_false (by decide), d41, decide_eq_false (by decide)]
        refine ⟨_, rfl, ⟨ls.o, 0, 32⟩, some (.int (0 + (i : Int))), some (.str ⟨#[32]⟩), some (.bl false), ?_, rfl, hb'⟩
        show [some (V.str z), some (V.int (((ls.o : Nat) : Int) + 0 - 0)), some (V.int ((((ls.m : Nat) : Int) + 1) * 0)), some (V.str ⟨#[32]⟩), some (.int (0 + (i : Int))), some (.str ⟨#[32]⟩), some (.bl false)] = _
        rw [show ((ls.o : Nat) : Int) + 0 - 0 = ((ls.o : Nat) : Int) by (first | lia | omega), show (((ls.m : Nat) : Int) + 1) * 0 = ((0 : Nat) : Int) by (first | lia | omega)]
      · refine ⟨_, rfl, rfl, _, rfl, ?_⟩
        rw [d40, decide_eq_true rfl]
        refine iteT ⟨_, rfl, rfl, _, rfl, ?_⟩
        rw [d41]
        by_cases h4 : ls.l = 41
        · rw [decide_eq_true h4]
          refine iteT (iteT (bad_ok ?_ _ _))
          rw [hst, if_pos (.inl ⟨rfl, h4⟩)]
        have hb' := go (ls.o + 1) (by rw [hst, if_neg (by (first | lia | omega))]; rfl)
        rw [decide_eq_false h4]
        refine iteF ⟨_, rfl, rfl, _, rfl, ?_⟩
        rw [d41, decide_eq_false (by decide)]
        refine iteF (iteF ?_)
        refine ⟨_, rfl, _, _, rfl, rfl, _, rfl, _, rfl, _, _, rfl, rfl, .inr ⟨by decide, by decide⟩, ?_⟩
        refine ⟨_, rfl, _, rfl, rfl, _, rfl, _, _, rfl, rfl, _, rfl, rfl, _, rfl, _, _, rfl, rfl, ?_⟩
        rw [d40, decide_eq_true rfl, d41, decide_eq_false (by decide)]
        refine ⟨_, rfl, ⟨ls.o + 1, 0, 40⟩, some (.int (0 + (i : Int))), some (.str ⟨#[40]⟩), some (.bl false), ?_, rfl, hb'⟩
        show [some (V.str z), some (V.int (((ls.o : Nat) : Int) + 1 - 0)), some (V.int ((((ls.m : Nat) : Int) + 1) * 0)), some (V.str ⟨#[40]⟩), some (.int (0 + (i : Int))), some (.str ⟨#[40]⟩), some (.bl false)] = _
        rw [show ((ls.o : Nat) : Int) + 1 - 0 = ((ls.o + 1 : Nat) : Int) by (first | lia | omega), show (((ls.m : Nat) : Int) + 1) * 0 = ((0 : Nat) : Int) by (first | lia | omega)]
      · refine ⟨_, rfl, rfl, _, rfl, ?_⟩
        rw [d40, decide_eq_false (by decide)]
        refine iteF (iteF ⟨_, rfl, rfl, _, rfl, ?_⟩)
        rw [d41, decide_eq_true rfl]
        refine iteT ⟨_, rfl, rfl, _, rfl, ?_⟩
        rw [d0]
        by_cases h4 : ls.o = 0
        · rw [decide_eq_true h4]
          refine iteT (bad_ok ?_ _ _)
          rw [hst, if_pos (.inr ⟨rfl, h4⟩)]
        have hb' := go (ls.o - 1) (by rw [hst, if_neg (by (first | lia | omega))]; rfl)
        rw [decide_eq_false h4]
        refine iteF ?_
        refine ⟨_, rfl, _, _, rfl, rfl, _, rfl, _, rfl, _, _, rfl, rfl, .inr ⟨by decide, by decide⟩, ?_⟩
        refine ⟨_, rfl, _, rfl, rfl, _, rfl, _, _, rfl, rfl, _, rfl, rfl, _, rfl, _, _, rfl, rfl, ?_⟩
        rw [d40, decide_eq_false (by decide), d41, decide_eq_true rfl]
        refine ⟨_, rfl, ⟨ls.o - 1, 0, 41⟩, some (.int (0 + (i : Int))), some (.str ⟨#[41]⟩), some (.bl false), ?_, rfl, hb'⟩
        show [some (V.str z), some (V.int (((ls.o : Nat) : Int) + 0 - 1)), some (V.int ((((ls.m : Nat) : Int) + 1) * 0)), some (V.str ⟨#[41]⟩), some (.int (0 + (i : Int))), some (.str ⟨#[41]⟩), some (.bl false)] = _
        rw [show ((ls.o : Nat) : Int) + 0 - 1 = ((ls.o - 1 : Nat) : Int) by (first | lia | omega), show (((ls.m : Nat) : Int) + 1) * 0 = ((0 : Nat) : Int) by (first | lia | omega)]
  · rintro σ H1 ⟨ls, v4, v5, v6, rfl, rfl, hb⟩
    have hb : lbad z.length ls ((cs z).drop z.length) = tbad z := by simpa using hb
    rw [← hzc, List.drop_length, lbad] at hb
    refine ⟨_, rfl, _, _, rfl, rfl, _, rfl, ?_⟩
    by_cases h1 : 0 < ls.o
    · rw [if_pos (.inl h1)] at hb
      rw [← hb] at q
      refine ite2 (fun _ => iteT ?_) (fun x => absurd (decide_eq_true (by (first | lia | omega))) x)
      refine ⟨_, rfl, z, rfl, len1000 (by (first | lia | omega)), ?_⟩
      rw [← hzc]
      exact q
    refine ite2 (fun x => absurd (of_decide_eq_true x) (by (first | lia | omega))) (fun _ => ?_)
    refine ⟨_, rfl, rfl, _, rfl, ?_⟩
    have hne : decide (V.str z = V.str "") = decide ((cs z).length = 0) := by
      rw [dstr]
      refine decide_eq_decide.mpr ⟨fun e => by rw [e]; rfl, fun e => cs_inj ?_⟩
      rw [List.eq_nil_of_length_eq_zero e]
      rfl
    rw [hne]
    by_cases h2 : (cs z).length = 0
    · rw [if_neg (by (first | lia | omega))] at hb
      rw [← hb] at q
      rw [decide_eq_true h2]
      exact iteF (iteF q)
    rw [decide_eq_false h2]
    refine iteT ⟨_, rfl, rfl, _, rfl, ?_⟩
    rw [d40]
    have bad : (ls.l = 40 ∨ ls.l = 32) → ∀ v4 v5 v6 : Option V, tRet (tCB (fun xs H Q => ∃ z, xs = [V.str z] ∧ z.length ≤ sizeLine ∧ Q (V.int ↑z.length) H) (tCons (tVar 0) tNil)) { nx := fun x H' => Q V.non H', rt := Q } [some (.str z), some (.int (ls.o : Nat)), some (.int (ls.m : Nat)), some (.str ⟨#[ls.l]⟩), v4, v5, v6] H1 := fun h v4 v5 v6 => by
      rw [if_pos (.inr ⟨h2, h⟩)] at hb
      rw [← hb] at q
      refine ⟨_, rfl, z, rfl, len1000 (by (first | lia | omega)), ?_⟩
      rw [← hzc]
      exact q
    by_cases h3 : ls.l = 40
    · rw [decide_eq_true h3]
      exact iteT (iteT (bad (.inl h3) _ _ _))
    rw [decide_eq_false h3]
    refine iteF ⟨_, rfl, rfl, _, rfl, ?_⟩
    rw [d32]
    by_cases h4 : ls.l = 32
    · rw [decide_eq_true h4]
      exact iteT (bad (.inr h4) _ _ _)
    rw [decide_eq_false h4]
    rw [if_neg (by (first | lia | omega))] at hb
    rw [← hb] at q
    exact iteF q
def spSpoilT : Sp := fun vs H Q _ => ∃ (z : Str) (c : Int), vs = [.str z, .int c] ∧ AscL z ∧ z.length ≤ 10000 ∧ ∀ y : Str, AscL y → y.length ≤ z.length + 1 → sep (cs y) ≤ sep (cs z) + 1 → Q (.str y) H
theorem cut_to {z : Str} {n : Nat} (h : n ≤ z.length) : cs (PySem.StrLaws.sliceText z none (some (n : Int))) = (cs z).take n := by
  have hl : z.cps.toList.length = z.length := Array.length_toList
  rw [PySem.StrLaws.sliceText_to (x := z) (j := (n : Int)) ⟨by (first | lia | omega), by rw [hl]; (first | lia | omega)⟩]
  show (((z.cps.toList.drop 0).take ((n : Int) - 0).toNat).toArray).toList = _
  rw [List.toList_toArray, List.drop_zero, Int.sub_zero, Int.toNat_natCast]
  rfl
theorem from_clamp {z : Str} {i : Int} (h : (z.length : Int) ≤ i) : PySem.StrLaws.sliceText z (some i) none = PySem.StrLaws.sliceText z (some (z.length : Int)) none := by
  have a : ¬ (i < 0) := by (first | lia | omega)
  have b : ¬ ((z.length : Int) < 0) := by (first | lia | omega)
  have e1 : min i (z.length : Int) = z.length := by (first | lia | omega)
  have e : Builtin.Str.strSliceIndices (some i) none 1 z.length = Builtin.Str.strSliceIndices (some (z.length : Int)) none 1 z.length := by
    simp [Builtin.Str.strSliceIndices, a, b, e1]
  unfold PySem.StrLaws.sliceText
  rw [e]
theorem cut_fr (z : Str) (n : Nat) : cs (PySem.StrLaws.sliceText z (some (n : Int)) none) = (cs z).drop n := by
  have hl : z.cps.toList.length = z.length := Array.length_toList
  have key : ∀ m : Nat, m ≤ z.length → cs (PySem.StrLaws.sliceText z (some (m : Int)) none) = (cs z).drop m := fun m hm => by
    rw [PySem.StrLaws.sliceText_from (x := z) (i := (m : Int)) ⟨by (first | lia | omega), by rw [hl]; (first | lia | omega)⟩]
    unfold cs
    rw [List.toList_toArray, Int.toNat_natCast]
    apply List.take_of_length_le
    rw [List.length_drop]
    (first | lia | omega)
  by_cases h : n ≤ z.length
  · exact key n h
  · rw [from_clamp (by (first | lia | omega)), key _ (Nat.le_refl _)]
    have hc : (cs z).length = z.length := hl
    rw [List.drop_eq_nil_of_le (by (first | lia | omega)), List.drop_eq_nil_of_le (by (first | lia | omega))]
theorem cs_len (z : Str) : z.length = (cs z).length := Array.length_toList.symm
def ODT : Str := " ()ab "
theorem odt_all : ∀ n : _root_.Fin 6, ODT.cps.toList.getD n.val 0 < 128 ∧ n.val < ODT.cps.toList.length := by decide +kernel
theorem odt_at {i : Int} (h0 : 0 ≤ i) (h1 : i < 6) : ∃ c, atI ODT.cps.toList i = some c ∧ c < 128 := by
  obtain ⟨n, rfl⟩ := Int.eq_ofNat_of_zero_le h0
  obtain ⟨a, c⟩ := odt_all ⟨n, by (first | lia | omega)⟩
  refine ⟨_, atI_nat (List.getElem?_eq_getElem c), ?_⟩
  rw [List.getD_eq_getElem?_getD, List.getElem?_eq_getElem c] at a
  exact a
/-- what the ways make of a text -/
theorem ok_mid {z y : Str} {c n m : Nat} {d : List Nat} (hz : AscL z) (hc : c < 128) (hd : d = [c] ∨ d = []) (hnm : n ≤ m) (hy : cs y = (cs z).take n ++ d ++ (cs z).drop m) : AscL y ∧ y.length ≤ z.length + 1 ∧ sep (cs y) ≤ sep (cs z) + 1 := by
  refine ⟨fun x hx => ?_, ?_, ?_⟩
  · have hx' : x ∈ cs y := hx
    rw [hy] at hx'
    rcases List.mem_append.mp hx' with h | h
    · rcases List.mem_append.mp h with h | h
      · exact hz x (List.mem_of_mem_take h)
      · rcases hd with rfl | rfl
        · rw [List.mem_singleton.mp h]; exact hc
        · cases h
    · exact hz x (List.mem_of_mem_drop h)
  · rw [cs_len, cs_len z, hy, List.length_append, List.length_append, List.length_take, List.length_drop]
    rcases hd with rfl | rfl
    · show _ + 1 + _ ≤ _
      (first | lia | omega)
    · show _ + 0 + _ ≤ _
      (first | lia | omega)
  · rw [hy, sep_app, sep_app]
    have h1 := sep_take n (cs z)
    have h2 := sep_take (m - n) ((cs z).drop n)
    rw [List.drop_drop, Nat.add_sub_cancel' hnm] at h2
    rcases hd with rfl | rfl
    · have := sep_one c
      (first | lia | omega)
    · show _ + 0 + _ ≤ _
      (first | lia | omega)
theorem ok_l_spoiled (B : ∀ x ∈ blts, mg x = none) (F : Fun K "_law_spoiled" "_law_spoiled" s_l_spoiled f fd) : FnOk P w K mg base CX0 1 f fd ["_law_text_here", "_law_cell"] spSpoilT := by
  refine F.ok sc_l_spoiled (fun vs H Q E h => ?_) (fun cdv A outer s H vs Q E hr h => ?_)
  · obtain ⟨z, c, rfl, _⟩ := h
    rfl
  obtain ⟨z, c, rfl, hz, hlen, q⟩ := h
  refine cut 5 (fun σ' H' => H' = H ∧ ∃ (x2 x3 : Option V) (od : Nat), σ' = [some (.str z), some (.int c), x2, x3, some (.str ⟨#[od]⟩), none, none] ∧ od < 128) ⟨_, (pss_cons (ps_set (i := 5) sc_l_spoiled.nd rfl (Or.inl rfl) (pe_op op_mod (pe_op op_mod (pe_op op_mul (pv 1) pe_int) pe_int) (pe_op op_add (pe_callB call_len_str rfl (B "len" (by decide)) PySem.boot_len (pa_cons (pv 0) pa_nil)) pe_int)))
    (pss_cons (ps_set (i := 6) sc_l_spoiled.nd rfl (Or.inl rfl) (pe_op op_mod (pv 1) pe_int))
    (pss_cons (ps_if (pt_cmpR op_eq (pv 6) pe_int (nomark _))
      (pss_one (ps_ret (pe_op op_add_str (pe_op op_add_str (pe_slice sl_str (pv 0) po_none (po_some (pv 5))) (pv 4)) (pe_slice sl_str (pv 0) (po_some (pv 5)) po_none))))
      pss_nil)
    (pss_cons (ps_if (pt_cmpR op_eq (pv 6) pe_int (nomark _))
      (pss_one (ps_ret (pe_slice sl_str (pv 0) po_none (po_some (pv 5)))))
      pss_nil)
    (pss_cons (ps_if (pt_cmpR op_eq (pv 6) pe_int (nomark _))
      (pss_one (ps_ret (pe_op op_add_str (pe_slice sl_str (pv 0) po_none (po_some (pv 5))) (pe_slice sl_str (pv 0) (po_some (pe_op op_add (pv 5) pe_int)) po_none))))
      pss_nil)
    (pss_cons (ps_if (pt_cmpR op_eq (pv 6) pe_int (nomark _))
      (pss_one (ps_ret (pe_op op_add_str (pe_op op_add_str (pe_slice sl_str (pv 0) po_none (po_some (pv 5))) (pv 4)) (pe_slice sl_str (pv 0) (po_some (pe_op op_add (pv 5) pe_int)) po_none))))
      pss_nil)
    (pss_one (ps_ret (pv 0))))))))), ?_⟩ (fun u hu hR1 => ⟨_, (pss_cons (ps_set (i := 2) sc_l_spoiled.nd rfl (Or.inl rfl) pe_str)
    (pss_cons (ps_set (i := 2) sc_l_spoiled.nd rfl (Or.inl rfl) (pe_op op_add_str (pv 2) pe_str))
    (pss_cons (ps_set (i := 3) sc_l_spoiled.nd rfl (Or.inl rfl) (pe_op op_mod (pe_op op_fdiv (pv 1) pe_int) pe_int))
    (pss_cons (ps_set (i := 4) sc_l_spoiled.nd rfl (Or.inl rfl) (pe_ix ix_str pe_str (pv 3) (fun _ _ => rfl)))
    (pss_cons (ps_if (pt_cmpR op_eq (pv 3) pe_int (nomark _))
      (pss_one (ps_set (i := 4) sc_l_spoiled.nd rfl (Or.inl rfl) (pe_ix ix_str (pv 2) (pe_op op_mod (pe_op op_fdiv (pv 1) pe_int) pe_int) (fun _ _ => rfl))))
      pss_nil)
    hu))))), ?_⟩)
  · rintro σ' H' ⟨rfl, x2, x3, od, rfl, hod⟩
    have hpos : (0 : Int) < (z.length : Int) + 1 := by (first | lia | omega)
    refine ⟨_, rfl, _, _, rfl, rfl, .inr ⟨by decide, by decide⟩, _, _, rfl, rfl, (by show (0 : Int) < 1000003; decide), _, rfl, z, rfl, len1000 (by (first | lia | omega)), _, _, rfl, rfl, _, _, rfl, rfl, hpos, ?_⟩
    have f1 := Int.emod_nonneg (c * 69621 % 1000003) (Int.ne_of_gt hpos)
    have f2 := Int.emod_lt_of_pos (c * 69621 % 1000003) hpos
    obtain ⟨n, hn⟩ := Int.eq_ofNat_of_zero_le f1
    have hnl : n ≤ z.length := by (first | lia | omega)
    refine ⟨_, rfl, _, _, rfl, rfl, (by show (0 : Int) < 6; decide), ?_⟩
    show tSeq _ _ _ [some (.str z), some (.int c), x2, x3, some (.str ⟨#[od]⟩), some (.int (c * 69621 % 1000003 % ((z.length : Int) + 1))), some (.int (c % 6))] _
    rw [hn]
    have hm : ((n : Nat) : Int) + 1 = ((n + 1 : Nat) : Int) := by (first | lia | omega)
    have hzl : z.length ≤ sizeLine := len1000 (by (first | lia | omega))
    have lt1 : ∀ k, (PySem.StrLaws.sliceText z none (some ((n : Nat) : Int))).length + 1 + (PySem.StrLaws.sliceText z (some ((k : Nat) : Int)) none).length ≤ sizeLine := fun k => by
      have h1 := cs_len (PySem.StrLaws.sliceText z none (some ((n : Nat) : Int)))
      have h2 := cs_len (PySem.StrLaws.sliceText z (some ((k : Nat) : Int)) none)
      have h3 := cs_len z
      rw [cut_to hnl, List.length_take] at h1
      rw [cut_fr, List.length_drop] at h2
      exact len1000 (by (first | lia | omega))
    refine ⟨_, rfl, rfl, _, rfl, ite2 (fun _ => ?_) (fun _ => ?_)⟩
    · have l := lt1 n
      refine ⟨_, rfl, _, rfl, _, rfl, z, rfl, hzl, _, rfl, _, _, rfl, rfl, (by show _ + 1 ≤ _; (first | lia | omega)), _, rfl, _, rfl, _, rfl, z, rfl, hzl, _, _, rfl, rfl, (by rw [app_len]; show _ + 1 + _ ≤ _; (first | lia | omega)), ?_⟩
      obtain ⟨a1, a2, a3⟩ := ok_mid (y := PySem.StrLaws.sliceText z none (some ((n : Nat) : Int)) ++ ⟨#[od]⟩ ++ PySem.StrLaws.sliceText z (some ((n : Nat) : Int)) none) (n := n) (m := n) hz hod (.inl rfl) (Nat.le_refl _) (by rw [cs_app, cs_app, cut_to hnl, cut_fr]; rfl)
      exact q _ a1 a2 a3
    refine ⟨_, rfl, rfl, _, rfl, ite2 (fun _ => ?_) (fun _ => ?_)⟩
    · refine ⟨_, rfl, _, rfl, _, rfl, z, rfl, hzl, ?_⟩
      obtain ⟨a1, a2, a3⟩ := ok_mid (y := PySem.StrLaws.sliceText z none (some ((n : Nat) : Int))) (n := n) (m := max n z.length) (c := 97) hz (by decide) (.inr rfl) (Nat.le_max_left ..) (by
        rw [cut_to hnl, List.drop_eq_nil_of_le (by rw [← cs_len]; exact Nat.le_max_right ..)]
        simp)
      exact q _ a1 a2 a3
    refine ⟨_, rfl, rfl, _, rfl, ite2 (fun _ => ?_) (fun _ => ?_)⟩
    · have l := lt1 (n + 1)
      refine ⟨_, rfl, _, rfl, _, rfl, z, rfl, hzl, _, rfl, _, rfl, _, _, rfl, rfl, _, rfl, z, rfl, hzl, _, _, rfl, rfl, (by rw [hm]; (first | lia | omega)), ?_⟩
      rw [hm]
      obtain ⟨a1, a2, a3⟩ := ok_mid (y := PySem.StrLaws.sliceText z none (some ((n : Nat) : Int)) ++ PySem.StrLaws.sliceText z (some ((n + 1 : Nat) : Int)) none) (n := n) (m := n + 1) (c := 97) hz (by decide) (.inr rfl) (Nat.le_succ _) (by rw [cs_app, cut_to hnl, cut_fr, List.append_nil])
      exact q _ a1 a2 a3
    refine ⟨_, rfl, rfl, _, rfl, ite2 (fun _ => ?_) (fun _ => ?_)⟩
    · have l := lt1 (n + 1)
      refine ⟨_, rfl, _, rfl, _, rfl, z, rfl, hzl, _, rfl, _, _, rfl, rfl, (by show _ + 1 ≤ _; (first | lia | omega)), _, rfl, _, rfl, _, _, rfl, rfl, _, rfl, z, rfl, hzl, _, _, rfl, rfl, (by rw [app_len, hm]; show _ + 1 + _ ≤ _; (first | lia | omega)), ?_⟩
      rw [hm]
      obtain ⟨a1, a2, a3⟩ := ok_mid (y := PySem.StrLaws.sliceText z none (some ((n : Nat) : Int)) ++ ⟨#[od]⟩ ++ PySem.StrLaws.sliceText z (some ((n + 1 : Nat) : Int)) none) (n := n) (m := n + 1) hz hod (.inl rfl) (Nat.le_succ _) (by rw [cs_app, cs_app, cut_to hnl, cut_fr]; rfl)
      exact q _ a1 a2 a3
    exact ⟨_, rfl, q z hz (by (first | lia | omega)) (by (first | lia | omega))⟩
  · have e1 := Int.emod_nonneg (c / 6) (by decide : (6 : Int) ≠ 0)
    have e2 := Int.emod_lt_of_pos (c / 6) (by decide : (0 : Int) < 6)
    obtain ⟨d1, hd1, hd8⟩ := odt_at e1 e2
    refine ⟨_, rfl, _, _, rfl, rfl, (by decide), ?_⟩
    refine ⟨_, rfl, _, _, rfl, rfl, ⟨by decide, by decide⟩, _, _, rfl, rfl, (by show (0 : Int) < 6; decide), ?_⟩
    refine ⟨_, rfl, ODT, _, d1, rfl, rfl, (by decide), hd1, ?_⟩
    refine ⟨_, rfl, rfl, _, rfl, ite2 (fun _ => ?_) (fun _ => ?_)⟩
    · obtain ⟨d2, h2, h28⟩ := sig_at (i := c / 36 % 94) (Int.emod_nonneg _ (by decide)) (Int.emod_lt_of_pos _ (by decide))
      refine ⟨_, rfl, _, rfl, _, _, rfl, rfl, ⟨by decide, by decide⟩, _, _, rfl, rfl, (by show (0 : Int) < 94; decide), SIG, _, d2, rfl, rfl, (by decide), h2, ?_⟩
      exact hR1 _ _ ⟨rfl, _, _, d2, rfl, h28⟩
    · exact hR1 _ _ ⟨rfl, _, _, d1, rfl, hd8⟩
/-- the grove of a good text -/
def spGroveT (K : PySem.W.Frag) : Sp := fun vs H Q _ => ∃ z : Str, vs = [.str z] ∧ AscL z ∧ z.length ≤ 20000 ∧ tbad z = none ∧ (rdW z).length ≤ 1000 ∧
  ∀ (r : Addr) (xs : List V) (g : Gr Str) (H' : Hp), Same H H' → H' r = some (.tup xs) → RepG H' xs g → words SL g = rdW z → Clean SL g → Q (.ref r) H'
/-- rows and tags under way, the words so far, how many are open -/
def RT (H H1 : Hp) (R T : Addr) (ws : List Str) (o : Nat) : Prop := ∃ (as : List Addr) (gs : List (Gr Str)) (ts : List Str), Same H H1 ∧ H1 T = some (.lst ((ts.map V.str).reverse)) ∧ H1 R = some (.lst ((as.map V.ref).reverse)) ∧ RowsR H1 as gs ∧ (R :: T :: as).Nodup ∧
    (∀ b ∈ as, H b = none) ∧ gs.length = ts.length + 1 ∧ flatR SL gs ts = ws ∧ ts.length = o ∧ (∀ g ∈ gs, Clean SL g) ∧ ∀ t ∈ ts, t ≠ SL
section
variable {K : PySem.W.Frag} {H H1 : Hp} {R T : Addr} {ws : List Str} {o : Nat} {D : Ends} {σ : St}
theorem RT.open {lt : Str} (h : RT H H1 R T ws o) (hR' : H R = none) (hT : H T = none) (hw : ws.length ≤ 90000) (h1 : σ[1]? = some (some (.ref R))) (h2 : σ[2]? = some (some (.ref T))) (h3 : σ[3]? = some (some (.str lt))) (e : lt ≠ SL)
    (k : ∀ H2, RT H H2 R T (ws ++ [lt]) (o + 1) → D.nx σ H2) : tSeq (tDrop (tBM K "list" rAppend (tVar 2) (tCons (tVar 3) tNil))) (tDrop (tBM K "list" rAppend (tVar 1) (tCons (tLst tNil) tNil))) D σ H1 := by
  obtain ⟨as, gs, ts, sm, hT1, hR1', hrows, nd, hfr, hgl, hflat, ho, hcl, htn⟩ := h
  have hasl : as.length = gs.length := Paired.length hrows
  obtain ⟨ndR, ndT⟩ := List.nodup_cons.mp nd
  obtain ⟨ndT', ndA⟩ := List.nodup_cons.mp ndT
  have hRa : ∀ b ∈ as, b ≠ R := fun b hb e => ndR (by rw [← e]; exact List.mem_cons_of_mem _ hb)
  have hTa : ∀ b ∈ as, b ≠ T := fun b hb e => ndT' (by rw [← e]; exact hb)
  have hRT : R ≠ T := fun e => ndR (by rw [e]; exact List.mem_cons_self ..)
  have hts : ts.length ≤ 90000 := by
    have h1 := flatR_len SL (ts := ts) hgl
    rw [hflat] at h1
    (first | lia | omega)
  refine ⟨_, h2, .inl ⟨rfl, _, SqL.of hT1⟩, _, h3, T, _, _, rfl, rfl, hT1, len1000' (by rw [List.length_reverse, List.length_map]; (first | lia | omega)), ?_⟩
  have hRa2 : (upd H1 T (.lst ((ts.map V.str).reverse ++ [.str lt]))) R = some (.lst (as.map V.ref).reverse) := by
    rw [upd_ne hRT]
    exact hR1'
  refine ⟨_, h1, .inl ⟨rfl, _, SqL.of hRa2⟩, by decide, fun l hl => ?_⟩
  obtain ⟨nlT, hl1⟩ := upd_none hl
  have nlR : R ≠ l := ne_of_none hR1' hl1
  have hRb : (upd (upd H1 T (.lst ((ts.map V.str).reverse ++ [.str lt]))) l (.lst [])) R = some (.lst (as.map V.ref).reverse) := by
    rw [upd_ne nlR]
    exact hRa2
  refine ⟨R, _, _, rfl, rfl, hRb, len1000' (by rw [List.length_reverse, List.length_map]; (first | lia | omega)), ?_⟩
  have tk : TK H1 (upd (upd (upd H1 T (.lst ((ts.map V.str).reverse ++ [.str lt]))) l (.lst [])) R (.lst ((as.map V.ref).reverse ++ [.ref l]))) := ((TK.lst hT1).trans (TK.new hl)).trans (TK.lst hRb)
  have nla : l ∉ as := fun hb => by
    obtain ⟨o, ho⟩ := rows_there hrows l hb
    rw [hl1] at ho
    cases ho
  refine k _ ⟨l :: as, .nil :: gs, lt :: ts, ?_, ?_, ?_, ?_, ?_, ?_, ?_, ?_, ?_, ?_, ?_⟩
  · exact ((sm.upd_new hT).upd_new (sm.free hl1)).upd_new hR'
  · rw [upd_ne hRT.symm, upd_ne nlT.symm, upd_same, List.map_cons, List.reverse_cons]
  · rw [upd_same, List.map_cons, List.reverse_cons]
  · refine .cons ⟨[], ?_, .nil⟩ (rows_mono tk hrows fun b hb o ho => ?_)
    · rw [upd_ne nlR.symm]
      exact upd_same
    · rw [upd_ne (hRa b hb), upd_ne (ne_of_none ho hl1), upd_ne (hTa b hb)]
      exact ho
  · refine List.nodup_cons.mpr ⟨fun h => ?_, List.nodup_cons.mpr ⟨fun h => ?_, List.nodup_cons.mpr ⟨nla, ndA⟩⟩⟩
    · rcases List.mem_cons.mp h with h | h
      · exact hRT h
      · rcases List.mem_cons.mp h with h | h
        · exact nlR h
        · exact ndR (List.mem_cons_of_mem _ h)
    · rcases List.mem_cons.mp h with h | h
      · exact nlT h.symm
      · exact ndT' h
  · intro b hb
    rcases List.mem_cons.mp hb with rfl | hb
    · exact sm.free hl1
    · exact hfr b hb
  · simpa using hgl
  · rw [flatR_open, hflat]
  · rw [List.length_cons, ho]
  · intro g hg
    rcases List.mem_cons.mp hg with rfl | hg
    · trivial
    · exact hcl g hg
  · intro x hx
    rcases List.mem_cons.mp hx with rfl | hx
    · exact e
    · exact htn x hx
theorem flatR_leaf (t : Str) : ∀ {r : Gr Str} {rs : List (Gr Str)} {ts : List Str}, rs.length = ts.length → flatR SL (snoc r t .nil :: rs) ts = flatR SL (r :: rs) ts ++ [t, SL] := by
  intro r rs ts h
  rw [flatR_close SL t h]
  show (flatR SL (r :: rs) ts ++ t :: words SL .nil) ++ [SL] = _
  rw [List.append_assoc]
  rfl
theorem RT.leaf {lt : Str} (h : RT H H1 R T ws o) (hw : ws.length ≤ 90000) (h1 : σ[1]? = some (some (.ref R))) (h3 : σ[3]? = some (some (.str lt))) (e : lt ≠ SL)
    (k : ∀ H2, RT H H2 R T (ws ++ [lt, SL]) o → D.nx σ H2) : tDrop (tBM K "list" rAppend (tOp (rIxL K) (tVar 1) (tUn (rU fun i => V.int (-i)) (tC (V.int 1)))) (tCons (tTup (tCons (tVar 3) (tCons (tTup tNil) tNil))) tNil)) D σ H1 := by
  obtain ⟨as, gs, ts, sm, hT1, hR1', hrows, nd, hfr, hgl, hflat, ho, hcl, htn⟩ := h
  cases gs with
  | nil => simp at hgl
  | cons g0 gs =>
    cases hrows with
    | @cons b0 _ as _ r0 hrows =>
      obtain ⟨vs0, h00, r00⟩ := r0
      obtain ⟨ndR, ndT⟩ := List.nodup_cons.mp nd
      obtain ⟨ndT', ndA⟩ := List.nodup_cons.mp ndT
      have m0 : b0 ∈ b0 :: as := List.mem_cons_self ..
      have hRa : ∀ b ∈ b0 :: as, b ≠ R := fun b hb e => ndR (by rw [← e]; exact List.mem_cons_of_mem _ hb)
      have hTa : ∀ b ∈ b0 :: as, b ≠ T := fun b hb e => ndT' (by rw [← e]; exact hb)
      have hgs : gs.length = ts.length := by simpa using hgl
      have n0as := (List.nodup_cons.mp ndA).1
      have hv0 := r00.length
      have hw0 : (words SL g0).length ≤ 90000 := by
        have h1 := flatR_ge SL (r := g0) hgs
        rw [hflat] at h1
        (first | lia | omega)
      have hRs : H1 R = some (.lst ((as.map V.ref).reverse ++ [.ref b0])) := by
        rw [hR1', List.map_cons, List.reverse_cons]
      refine ⟨_, h1, 1, rfl, R, _, -1, .ref b0, rfl, rfl, SqL.of hRs, atI_last _ _, .inl ⟨rfl, _, SqL.of h00⟩, _, h3, (by show 0 ≤ sizeLine; decide), fun l hl => ⟨(by show 2 ≤ sizeLine; decide), fun l2 hl2 => ?_⟩⟩
      obtain ⟨n2l, hl2a⟩ := upd_none hl2
      have n0l : b0 ≠ l := ne_of_none h00 hl
      have n02 : b0 ≠ l2 := ne_of_none h00 hl2a
      have h0c : (upd (upd H1 l (.tup [])) l2 (.tup [.str lt, .ref l])) b0 = some (.lst vs0) := by
        rw [upd_ne n02, upd_ne n0l]
        exact h00
      refine ⟨b0, _, _, rfl, rfl, h0c, len1000' (by (first | lia | omega)), ?_⟩
      have tk : TK H1 (upd (upd (upd H1 l (.tup [])) l2 (.tup [.str lt, .ref l])) b0 (.lst (vs0 ++ [.ref l2]))) := ((TK.new hl).trans (TK.new hl2)).trans (TK.lst h0c)
      refine k _ ⟨b0 :: as, snoc g0 lt .nil :: gs, ts, ?_, ?_, ?_, ?_, nd, hfr, by simpa using hgl, ?_, ho, ?_, htn⟩
      · exact ((sm.upd_new (sm.free hl)).upd_new (sm.free hl2a)).upd_new (hfr b0 m0)
      · rw [upd_ne (hTa b0 m0).symm, upd_ne (ne_of_none hT1 hl2a), upd_ne (ne_of_none hT1 hl)]
        exact hT1
      · rw [upd_ne (hRa b0 m0).symm, upd_ne (ne_of_none hR1' hl2a), upd_ne (ne_of_none hR1' hl)]
        exact hR1'
      · refine .cons ⟨_, upd_same, RepG.snoc (q := l) (ys := []) ?_ ?_ .nil (r00.mono tk)⟩ (rows_mono tk hrows fun b hb o ho => ?_)
        · rw [upd_ne n02.symm]
          exact upd_same
        · rw [upd_ne n0l.symm, upd_ne n2l.symm]
          exact upd_same
        · rw [upd_ne (fun e => n0as (by rw [← e]; exact hb)), upd_ne (ne_of_none ho hl2a), upd_ne (ne_of_none ho hl)]
          exact ho
      · rw [flatR_leaf lt hgs, hflat]
      · intro g hg
        rcases List.mem_cons.mp hg with rfl | hg
        · exact clean_snoc (w := .nil) e trivial (hcl g0 (List.mem_cons_self ..))
        · exact hcl g (List.mem_cons_of_mem _ hg)
theorem RT.close (h : RT H H1 R T ws o) (hR' : H R = none) (hT : H T = none) (hw : ws.length ≤ 90000) (hpos : o ≠ 0) {x0 x3 x4 v5 : Option V} (hσ : σ = [x0, some (.ref R), some (.ref T), x3, x4, v5])
    (k : ∀ v5 H2, RT H H2 R T (ws ++ [SL]) (o - 1) → D.nx [x0, some (.ref R), some (.ref T), x3, x4, v5] H2) :
    tSeq (tAsg (tCB (fun xs H_1 Q => ∃ p ys, xs = [V.ref p] ∧ ((SqL K H_1 p ys ∧ ∀ (l : Addr), H_1 l = none → Q (V.ref l) (upd H_1 l (HO.tup ys))) ∨ SqT K H_1 p ys ∧ Q (V.ref p) H_1)) (tCons (tBM0 K "list" rPop (tVar 1)) tNil)) (gName 5))
      (tDrop (tBM K "list" rAppend (tOp (rIxL K) (tVar 1) (tUn (rU fun i => V.int (-i)) (tC (V.int 1)))) (tCons (tTup (tCons (tBM0 K "list" rPop (tVar 2)) (tCons (tVar 5) tNil))) tNil))) D σ H1 := by
  subst hσ
  obtain ⟨as, gs, ts, sm, hT1, hR1', hrows, nd, hfr, hgl, hflat, ho, hcl, htn⟩ := h
  cases ts with
  | nil => exact absurd ho.symm hpos
  | cons t ts =>
    cases gs with
    | nil => simp at hgl
    | cons g0 gs =>
      cases gs with
      | nil => simp at hgl
      | cons g1 gs =>
        cases hrows with
        | @cons b0 _ as _ r0 hrows =>
          cases hrows with
          | @cons b1 _ as _ r1 hrows =>
            obtain ⟨vs0, h00, r00⟩ := r0
            obtain ⟨vs1, h11, r11⟩ := r1
            obtain ⟨ndR, ndT⟩ := List.nodup_cons.mp nd
            obtain ⟨ndT', ndA⟩ := List.nodup_cons.mp ndT
            have hRa : ∀ b ∈ b0 :: b1 :: as, b ≠ R := fun b hb e => ndR (by rw [← e]; exact List.mem_cons_of_mem _ hb)
            have hTa : ∀ b ∈ b0 :: b1 :: as, b ≠ T := fun b hb e => ndT' (by rw [← e]; exact hb)
            have hRT : R ≠ T := fun e => ndR (by rw [e]; exact List.mem_cons_self ..)
            have m0 : b0 ∈ b0 :: b1 :: as := List.mem_cons_self ..
            have m1 : b1 ∈ b0 :: b1 :: as := List.mem_cons_of_mem _ (List.mem_cons_self ..)
            have hgs : gs.length = ts.length := by simpa using hgl
            have hw1 : (words SL g1).length ≤ 90000 := by
              have h1 := flatR_ge SL (r := g1) hgs
              have h2 := congrArg List.length hflat
              simp only [flatR, List.length_append] at h2
              (first | lia | omega)
            have hv1 := r11.length
            have hRs : H1 R = some (.lst (((b1 :: as).map V.ref).reverse ++ [.ref b0])) := by
              rw [hR1', List.map_cons, List.reverse_cons]
            have hTs : H1 T = some (.lst ((ts.map V.str).reverse ++ [.str t])) := by
              rw [hT1, List.map_cons, List.reverse_cons]
            refine ⟨_, rfl, .inl ⟨rfl, _, SqL.of hRs⟩, R, _, _, rfl, rfl, hRs, snoc_last _ _, ?_⟩
            rw [snoc_drop]
            have h0a : (upd H1 R (.lst ((b1 :: as).map V.ref).reverse)) b0 = some (.lst vs0) := by
              rw [upd_ne (hRa b0 m0)]
              exact h00
            refine ⟨b0, vs0, rfl, .inl ⟨SqL.of h0a, fun l hl => ?_⟩⟩
            obtain ⟨nlR, hl1⟩ := upd_none hl
            have nlT : l ≠ T := (ne_of_none hT1 hl1).symm
            have nl1 : b1 ≠ l := ne_of_none h11 hl1
            have hRb : (upd (upd H1 R (.lst ((b1 :: as).map V.ref).reverse)) l (.tup vs0)) R = some (.lst ((as.map V.ref).reverse ++ [.ref b1])) := by
              rw [upd_ne nlR.symm, upd_same, List.map_cons, List.reverse_cons]
            have h1b : (upd (upd H1 R (.lst ((b1 :: as).map V.ref).reverse)) l (.tup vs0)) b1 = some (.lst vs1) := by
              rw [upd_ne nl1, upd_ne (hRa b1 m1)]
              exact h11
            have hTb : (upd (upd H1 R (.lst ((b1 :: as).map V.ref).reverse)) l (.tup vs0)) T = some (.lst ((ts.map V.str).reverse ++ [.str t])) := by
              rw [upd_ne nlT.symm, upd_ne hRT.symm]
              exact hTs
            refine ⟨_, rfl, 1, rfl, R, _, -1, .ref b1, rfl, rfl, SqL.of hRb, atI_last _ _, .inl ⟨rfl, _, SqL.of h1b⟩, _, rfl, .inl ⟨rfl, _, SqL.of hTb⟩, T, _, _, rfl, rfl, hTb, snoc_last _ _, ?_⟩
            rw [snoc_drop]
            refine ⟨_, rfl, (by show 2 ≤ sizeLine; decide), fun l2 hl2 => ?_⟩
            obtain ⟨n2T, hl2a⟩ := upd_none hl2
            obtain ⟨n2l, hl2b⟩ := upd_none hl2a
            obtain ⟨n2R, hl2c⟩ := upd_none hl2b
            have n21 : b1 ≠ l2 := ne_of_none h11 hl2c
            have h1d : (upd (upd (upd (upd H1 R (.lst ((b1 :: as).map V.ref).reverse)) l (.tup vs0)) T (.lst (ts.map V.str).reverse)) l2 (.tup [.str t, .ref l])) b1 = some (.lst vs1) := by
              rw [upd_ne n21, upd_ne (hTa b1 m1)]
              exact h1b
            refine ⟨b1, _, _, rfl, rfl, h1d, len1000' (by (first | lia | omega)), ?_⟩
            have tk : TK H1 (upd (upd (upd (upd (upd H1 R (.lst ((b1 :: as).map V.ref).reverse)) l (.tup vs0)) T (.lst (ts.map V.str).reverse)) l2 (.tup [.str t, .ref l])) b1 (.lst (vs1 ++ [.ref l2]))) :=
              ((((TK.lst hRs).trans (TK.new hl)).trans (TK.lst hTb)).trans (TK.new hl2)).trans (TK.lst h1d)
            have ndA2 := (List.nodup_cons.mp ndA).2
            have n1as := (List.nodup_cons.mp ndA2).1
            refine k _ _ ⟨b1 :: as, snoc g1 t g0 :: gs, ts, ?_, ?_, ?_, ?_, ?_, ?_, ?_, ?_, ?_, ?_, ?_⟩
            · exact ((((sm.upd_new hR').upd_new (sm.free hl1)).upd_new hT).upd_new (sm.free hl2c)).upd_new (hfr b1 m1)
            · rw [upd_ne (hTa b1 m1).symm, upd_ne n2T.symm, upd_same]
            · rw [upd_ne (hRa b1 m1).symm, upd_ne n2R.symm, upd_ne hRT, upd_ne nlR.symm, upd_same]
            · refine .cons ⟨_, upd_same, RepG.snoc (q := l) (ys := vs0) ?_ ?_ (r00.mono tk) (r11.mono tk)⟩ (rows_mono tk hrows fun b hb o ho => ?_)
              · rw [upd_ne n21.symm]
                exact upd_same
              · rw [upd_ne nl1.symm, upd_ne n2l.symm, upd_ne nlT]
                exact upd_same
              · have mb : b ∈ b0 :: b1 :: as := List.mem_cons_of_mem _ (List.mem_cons_of_mem _ hb)
                have nb1 : b ≠ b1 := fun e => n1as (by rw [← e]; exact hb)
                rw [upd_ne nb1, upd_ne (ne_of_none ho hl2c), upd_ne (hTa b mb), upd_ne (ne_of_none ho hl1), upd_ne (hRa b mb)]
                exact ho
            · refine List.nodup_cons.mpr ⟨fun h => ?_, List.nodup_cons.mpr ⟨fun h => ndT' (List.mem_cons_of_mem _ h), ndA2⟩⟩
              rcases List.mem_cons.mp h with h | h
              · exact hRT h
              · exact ndR (List.mem_cons_of_mem _ (List.mem_cons_of_mem _ h))
            · exact fun b hb => hfr b (List.mem_cons_of_mem _ hb)
            · simpa using hgl
            · rw [flatR_close SL t hgs, hflat]
            · rw [← ho]; rfl
            · intro g hg
              rcases List.mem_cons.mp hg with rfl | hg
              · exact clean_snoc (htn t (List.mem_cons_self ..)) (hcl g0 (List.mem_cons_self ..)) (hcl g1 (List.mem_cons_of_mem _ (List.mem_cons_self ..)))
              · exact hcl g (List.mem_cons_of_mem _ (List.mem_cons_of_mem _ hg))
            · exact fun x hx => htn x (List.mem_cons_of_mem _ hx)
end
theorem takes_letter {st : RS} {c : Nat} (hc : azB c = true) (h : (takes st ⟨#[c]⟩).1 = true) : takes st ⟨#[c]⟩ = (true, { st with lt := st.lt ++ ⟨#[c]⟩ }) := by
  obtain ⟨a, b, d⟩ := az_ne hc
  unfold takes at h ⊢
  by_cases h1 : (!st.cl && tagB (st.lt ++ ⟨#[c]⟩)) = true
  · rw [if_pos h1]
  · rw [if_neg h1] at h
    by_cases h2 : atEnd st = false
    · rw [if_pos h2] at h; cases h
    · rw [if_neg h2, if_neg (fun e => a (e32.mp e)), if_neg (fun e => b (e40.mp e)), if_neg (fun e => d (e41.mp e))] at h
      cases h
theorem takes_end {st : RS} {c : Nat} (hc : azB c = false) (h : (takes st ⟨#[c]⟩).1 = true) : atEnd st = true := by
  unfold takes at h
  rw [if_neg (by rw [tagB_odd hc, Bool.and_false]; decide)] at h
  by_cases h2 : atEnd st = false
  · rw [if_pos h2] at h; cases h
  · simpa using h2
theorem LR.lt {st : RS} {ls : LS} (h : LR st ls) : st.lt ≠ SL := by
  cases h with
  | s0 ws d l hl => exact show ("" : Str) ≠ SL by decide
  | tg ws lt d l ht hl => exact tag_neSL ht
  | cl ws d => exact show ("" : Str) ≠ SL by decide
theorem endLeaf_lt (st : RS) : (endLeaf st).lt = "" := by
  unfold endLeaf
  by_cases h : st.lt = ""
  · rw [if_pos h]; exact h
  · rw [if_neg h]
theorem lstep_o {s s' : LS} {c : Nat} (h : lstep s c = some s') : s'.o = if azB c = true then s.o else s.o + (if c = 40 then 1 else 0) - (if c = 41 then 1 else 0) := by
  unfold lstep at h
  by_cases hc : azB c = true
  · rw [if_pos hc] at h
    rw [if_pos hc]
    split at h
    · cases h
    · cases h; rfl
  · rw [if_neg hc] at h
    rw [if_neg hc]
    split at h
    · cases h
    · split at h
      · cases h
      · cases h; rfl
theorem lstep_in {s s' : LS} {c : Nat} (hc : azB c = false) (h : lstep s c = some s') : c = 32 ∨ c = 40 ∨ c = 41 := by
  unfold lstep at h
  rw [if_neg (by rw [hc]; decide)] at h
  by_cases h1 : s.l = 40 ∨ s.l = 32 ∨ ¬ (c = 32 ∨ c = 40 ∨ c = 41)
  · rw [if_pos h1] at h; cases h
  · (first | lia | omega)
theorem ok_l_grove (B : ∀ x ∈ blts, mg x = none) (F : Fun K "_law_grove" "_law_grove" s_l_grove f fd) : FnOk P w K mg base CX0 1 f fd ["_law_text_here"] (spGroveT K) := by
  refine F.ok sc_l_grove (fun vs H Q E h => ?_) (fun cdv A outer s H vs Q E hr h => ?_)
  · obtain ⟨z, rfl, _⟩ := h
    rfl
  obtain ⟨z, rfl, hasc, hlen, hgood, hwl, q⟩ := h
  have hzc : (cs z).length = z.length := Array.length_toList
  refine ⟨_, (pss_cons (ps_set (i := 1) sc_l_grove.nd rfl (Or.inl rfl) (pe_lst (pa_cons (pe_lst pa_nil) pa_nil)))
    (pss_cons (ps_set (i := 2) sc_l_grove.nd rfl (Or.inl rfl) (pe_lst pa_nil))
    (pss_cons (ps_set (i := 3) sc_l_grove.nd rfl (Or.inl rfl) pe_str)
    (pss_cons (ps_for PassesOwn.never rfl (pi_str (pe_op op_add_str (pv 0) pe_str)) (pg_name (i := 4) sc_l_grove.nd rfl (Or.inl rfl))
      (pss_cons (ps_if (pt_cmpR op_in_str (pv 4) pe_str (by with_unfolding_all rfl))
          (pss_cons (ps_set (i := 3) sc_l_grove.nd rfl (Or.inl rfl) (pe_op op_add_str (pv 3) (pv 4)))
            (pss_one ps_continue))
          pss_nil)
        (pss_cons (ps_if (pt_cmpR op_eq (pv 4) pe_str (nomark _))
          (pss_cons (ps_expr (pe_bm PySem.F.plainAttrs_list PySem.F.slot_list_append PySem.F.type_list_append mt_append (pv 2) (pa_cons (pv 3) pa_nil)))
            (pss_one (ps_expr (pe_bm PySem.F.plainAttrs_list PySem.F.slot_list_append PySem.F.type_list_append mt_append (pv 1) (pa_cons (pe_lst pa_nil) pa_nil)))))
          (pss_one (ps_if (pt_cmpR op_ne (pv 3) pe_str (nomark _))
              (pss_one (ps_expr (pe_bm PySem.F.plainAttrs_list PySem.F.slot_list_append PySem.F.type_list_append mt_append (pe_ix ix_list (pv 1) (pe_un un_neg pe_int) (fun _ _ => rfl)) (pa_cons (pe_tup (pa_cons (pv 3) (pa_cons (pe_tup pa_nil) pa_nil))) pa_nil))))
              pss_nil)))
        (pss_cons (ps_set (i := 3) sc_l_grove.nd rfl (Or.inl rfl) pe_str)
        (pss_one (ps_if (pt_cmpR op_eq (pv 4) pe_str (nomark _))
          (pss_cons (ps_set (i := 5) sc_l_grove.nd rfl (Or.inl rfl) (pe_callTy call_tuple_of rfl (B "tuple" (by decide)) bt_tuple (pa_cons (pe_bm0 PySem.F.plainAttrs_list PySem.F.slot_list_pop PySem.F.type_list_pop mt_pop (pv 1)) pa_nil)))
            (pss_one (ps_expr (pe_bm PySem.F.plainAttrs_list PySem.F.slot_list_append PySem.F.type_list_append mt_append (pe_ix ix_list (pv 1) (pe_un un_neg pe_int) (fun _ _ => rfl)) (pa_cons (pe_tup (pa_cons (pe_bm0 PySem.F.plainAttrs_list PySem.F.slot_list_pop PySem.F.type_list_pop mt_pop (pv 2)) (pa_cons (pv 5) pa_nil))) pa_nil)))))
          pss_nil))))))
    (pss_one (ps_ret (pe_callTy call_tuple_of rfl (B "tuple" (by decide)) bt_tuple (pa_cons (pe_ix ix_list (pv 1) pe_int (fun _ _ => rfl)) pa_nil)))))))), ?_⟩
  refine ⟨by decide, fun a0 h0 => ⟨(by show 1 ≤ sizeLine; decide), fun R hR => ?_⟩⟩
  refine ⟨by decide, fun T hT => ?_⟩
  obtain ⟨nR0, hR'⟩ := upd_none hR
  obtain ⟨nTR, hT1⟩ := upd_none hT
  obtain ⟨nT0, hT'⟩ := upd_none hT1
  have s3 : Same H (upd (upd (upd H a0 (.lst [])) R (.lst [.ref a0])) T (.lst [])) := ((Same.new h0).upd_new hR').upd_new hT'
  have hap : (z ++ " " : Str).cps.toList = cs z ++ [32] := app_cps _ _
  refine ⟨_, rfl, z, " ", rfl, rfl, len1000 (by show _ + 1 ≤ _; (first | lia | omega)), z ++ " ", rfl, AscL.asc (ascL_app hasc (by intro c hc; have : c ∈ [32] := hc; simp at this; (first | lia | omega))), for_str (fun i σ H1 => ∃ (lt : Str) (ws : List Str) (o : Nat) (v4 v5 : Option V), σ = [some (.str z), some (.ref R), some (.ref T), some (.str lt), v4, v5] ∧ RT H H1 R T ws o ∧ ((i ≤ z.length ∧ ∃ st ls, At z i st ls ∧ st.ws = ws ∧ st.lt = lt ∧ ls.o = o) ∨ (i = z.length + 1 ∧ ws = rdW z ∧ o = 0)))
    ⟨"", [], 0, none, none, rfl, ⟨[a0], [.nil], [], s3, upd_same, ?_, ?_, ?_, ?_, rfl, rfl, rfl, ?_, fun _ h => nomatch h⟩, .inl ⟨Nat.zero_le _, S0, L0, at0 z, rfl, rfl, rfl⟩⟩ ?_ ?_⟩
  · rw [upd_ne nTR.symm]
    exact upd_same
  · refine .cons ⟨[], ?_, .nil⟩ .nil
    rw [upd_ne nT0.symm, upd_ne nR0.symm]
    exact upd_same
  · simp [nTR.symm, nR0, nT0]
  · intro b hb
    obtain rfl := List.mem_singleton.mp hb
    exact h0
  · intro g hg
    obtain rfl := List.mem_singleton.mp hg
    trivial
  · rintro i c σ H1 hi ⟨lt, ws, o, v4, v5, rfl, hRT, hI⟩
    rw [hap] at hi
    have hil := (List.getElem?_eq_some_iff.mp hi).1
    rw [List.length_append, hzc] at hil
    have hil : i < z.length + 1 := hil
    rcases hI with ⟨hi', st, ls, hat, rfl, rfl, rfl⟩ | ⟨e, _⟩
    case inr => (first | lia | omega)
    have hsm := at_small hat
    have hws : st.ws.length ≤ 90000 := by (first | lia | omega)
    have hl := hat.rg.lr.lt
    have hc8 : c < 128 := by
      rcases List.mem_append.mp (List.mem_of_getElem? hi) with m | m
      · exact hasc c m
      · rw [List.mem_singleton.mp m]; decide
    refine ⟨_, rfl, _, ABC, rfl, rfl, _, rfl, ?_⟩
    rw [notin_az hc8, Bool.not_not]
    have dne : decide (V.str st.lt = V.str "") = decide (st.lt = "") := dstr _ _
    by_cases hlt : i < z.length
    case neg =>
      have e : i = z.length := by (first | lia | omega)
      subst e
      have ec : c = 32 := by
        rw [← hzc, List.getElem?_append_right (Nat.le_refl _), Nat.sub_self] at hi
        simpa using hi.symm
      subst ec
      rw [← hzc] at hat
      obtain ⟨ho, _⟩ := at_good hat hgood
      obtain ⟨_, ew, _⟩ := at_fin hat
      rw [show azB 32 = false by decide]
      refine iteF ⟨_, rfl, rfl, _, rfl, ?_⟩
      rw [d40, decide_eq_false (by decide)]
      refine iteF ⟨_, rfl, rfl, _, rfl, ?_⟩
      rw [dne]
      have fin : ∀ H2, RT H H2 R T (endLeaf st).ws ls.o → RT H H2 R T (rdW z) 0 := fun H2 h => by
        rw [ew, ← ho]
        exact h
      by_cases h0 : st.lt = ""
      · rw [decide_eq_true h0]
        refine iteF ⟨_, rfl, rfl, _, rfl, ?_⟩
        rw [d41, decide_eq_false (by decide)]
        refine iteF ⟨_, _, _, _, _, rfl, fin _ ?_, .inr ⟨rfl, rfl, rfl⟩⟩
        unfold endLeaf
        rw [if_pos h0]
        exact hRT
      · rw [decide_eq_false h0]
        refine iteT (hRT.leaf hws rfl rfl hl fun H2 h2 => ?_)
        refine ⟨_, rfl, rfl, _, rfl, ?_⟩
        rw [d41, decide_eq_false (by decide)]
        refine iteF ⟨_, _, _, _, _, rfl, fin _ ?_, .inr ⟨rfl, rfl, rfl⟩⟩
        unfold endLeaf
        rw [if_neg h0]
        exact h2
    case pos =>
      have hc : (cs z)[i]? = some c := by
        rw [List.getElem?_append_left (by rw [hzc]; exact hlt)] at hi
        exact hi
      rcases at_step hat hc with ⟨_, _, h3⟩ | ⟨s', hst, ht, hat'⟩
      · rw [hgood] at h3
        cases h3
      have ho := lstep_o hst
      cases hz : azB c with
      | true =>
        rw [if_pos hz] at ho
        have et := takes_letter hz ht
        refine iteT ⟨_, rfl, _, rfl, _, _, rfl, rfl, len1000 (by show st.lt.length + 1 ≤ _; (first | lia | omega)), ?_⟩
        refine ⟨_, st.ws, ls.o, _, _, rfl, hRT, .inl ⟨hlt, _, s', hat', ?_, ?_, ho⟩⟩
        · rw [et]
        · rw [et]
      | false =>
        rw [if_neg (by rw [hz]; decide)] at ho
        have et := takes_odd hz (takes_end hz ht)
        refine iteF ⟨_, rfl, rfl, _, rfl, ?_⟩
        rcases lstep_in hz hst with rfl | rfl | rfl
        · rw [if_pos (e32.mpr rfl)] at et
          rw [d40, decide_eq_false (by decide)]
          refine iteF ⟨_, rfl, rfl, _, rfl, ?_⟩
          rw [dne]
          have fin : ∀ H2 v5, RT H H2 R T (endLeaf st).ws ls.o → ∃ (lt : Str) (ws : List Str) (o : Nat) (v4' v5' : Option V), [some (.str z), some (.ref R), some (.ref T), some (.str ""), some (.str ⟨#[32]⟩), v5] = [some (.str z), some (.ref R), some (.ref T), some (.str lt), v4', v5'] ∧ RT H H2 R T ws o ∧ ((i + 1 ≤ z.length ∧ ∃ st ls, At z (i + 1) st ls ∧ st.ws = ws ∧ st.lt = lt ∧ ls.o = o) ∨ (i + 1 = z.length + 1 ∧ ws = rdW z ∧ o = 0)) := fun H2 v5 h =>
            ⟨"", _, _, _, _, rfl, h, .inl ⟨hlt, _, s', hat', by rw [et], by rw [et]; exact endLeaf_lt st, ho⟩⟩
          by_cases h0 : st.lt = ""
          · rw [decide_eq_true h0]
            refine iteF ⟨_, rfl, rfl, _, rfl, ?_⟩
            rw [d41, decide_eq_false (by decide)]
            refine iteF (fin _ _ ?_)
            unfold endLeaf
            rw [if_pos h0]
            exact hRT
          · rw [decide_eq_false h0]
            refine iteT (hRT.leaf hws rfl rfl hl fun H2 h2 => ?_)
            refine ⟨_, rfl, rfl, _, rfl, ?_⟩
            rw [d41, decide_eq_false (by decide)]
            refine iteF (fin _ _ ?_)
            unfold endLeaf
            rw [if_neg h0]
            exact h2
        · rw [if_neg (by decide), if_pos (e40.mpr rfl)] at et
          rw [d40, decide_eq_true rfl]
          refine iteT (hRT.open hR' hT' hws rfl rfl rfl hl fun H2 h2 => ?_)
          refine ⟨_, rfl, rfl, _, rfl, ?_⟩
          rw [d41, decide_eq_false (by decide)]
          have hcl : ¬ st.cl = true := fun e => by
            rw [et] at ht
            unfold goesIn at ht
            rw [if_pos e] at ht
            cases ht
          have eg : goesIn st = (true, { st with ws := st.ws ++ [st.lt], lt := "", dp := st.dp + 1 }) := by
            unfold goesIn
            rw [if_neg hcl]
          exact iteF ⟨"", _, _, _, _, rfl, h2, .inl ⟨hlt, _, s', hat', by rw [et, eg], by rw [et, eg], ho⟩⟩
        · rw [if_neg (by decide), if_neg (by decide), if_pos (e41.mpr rfl)] at et
          rw [d40, decide_eq_false (by decide)]
          refine iteF ⟨_, rfl, rfl, _, rfl, ?_⟩
          rw [dne]
          have hd : ¬ st.dp = 0 := fun e => by
            rw [et] at ht
            unfold goesOut at ht
            rw [if_pos e] at ht
            cases ht
          have hdp : st.dp = (ls.o : Nat) := by cases hat.rg.lr <;> rfl
          have eg : goesOut st = (true, { endLeaf st with ws := (endLeaf st).ws ++ [SL], cl := true, dp := st.dp - 1 }) := by
            unfold goesOut
            rw [if_neg hd]
          have hle : (endLeaf st).ws.length ≤ 90000 := by
            have := endLeaf_small st
            (first | lia | omega)
          have fin : ∀ H2 v5, RT H H2 R T ((endLeaf st).ws ++ [SL]) (ls.o - 1) → ∃ (lt : Str) (ws : List Str) (o : Nat) (v4' v5' : Option V), [some (.str z), some (.ref R), some (.ref T), some (.str ""), some (.str ⟨#[41]⟩), v5] = [some (.str z), some (.ref R), some (.ref T), some (.str lt), v4', v5'] ∧ RT H H2 R T ws o ∧ ((i + 1 ≤ z.length ∧ ∃ st ls, At z (i + 1) st ls ∧ st.ws = ws ∧ st.lt = lt ∧ ls.o = o) ∨ (i + 1 = z.length + 1 ∧ ws = rdW z ∧ o = 0)) := fun H2 v5 h =>
            ⟨"", _, _, _, _, rfl, h, .inl ⟨hlt, _, s', hat', by rw [et, eg], by rw [et, eg]; exact endLeaf_lt st, ho⟩⟩
          by_cases h0 : st.lt = ""
          · rw [decide_eq_true h0]
            refine iteF ⟨_, rfl, rfl, _, rfl, ?_⟩
            rw [d41, decide_eq_true rfl]
            have hE : endLeaf st = st := by
              unfold endLeaf
              rw [if_pos h0]
            rw [hE] at hle fin
            exact iteT (hRT.close hR' hT' hle (by (first | lia | omega)) rfl fun v5 H2 h2 => fin H2 v5 h2)
          · rw [decide_eq_false h0]
            refine iteT (hRT.leaf hws rfl rfl hl fun H2 h2 => ?_)
            refine ⟨_, rfl, rfl, _, rfl, ?_⟩
            rw [d41, decide_eq_true rfl]
            have hE : (endLeaf st).ws = st.ws ++ [st.lt, SL] := by
              unfold endLeaf
              rw [if_neg h0]
            rw [hE] at hle fin
            exact iteT (h2.close hR' hT' hle (by (first | lia | omega)) rfl fun v5 H3 h3 => fin H3 v5 h3)
  · rintro σ H1 ⟨lt, ws, o, v4, v5, rfl, hRT, hI⟩
    rw [hap, List.length_append, hzc] at hI
    rcases hI with ⟨hi', _⟩ | ⟨_, rfl, rfl⟩
    · have : z.length + 1 ≤ z.length := hi'
      (first | lia | omega)
    obtain ⟨as, gs, ts, sm, hT1, hR1', hrows, nd, hfr, hgl, hflat, ho, hcl, htn⟩ := hRT
    obtain rfl : ts = [] := List.eq_nil_of_length_eq_zero ho
    cases gs with
    | nil => simp at hgl
    | cons g gs =>
      obtain rfl : gs = [] := List.eq_nil_of_length_eq_zero (by simpa using hgl)
      cases hrows with
      | @cons b _ _ _ r hrows =>
        cases hrows
        obtain ⟨vs, hb, hg⟩ := r
        refine ⟨_, rfl, R, _, 0, .ref b, rfl, rfl, SqL.of hR1', rfl, b, vs, rfl, .inl ⟨SqL.of hb, fun r hr => ?_⟩⟩
        exact q r vs g _ (sm.upd_new (sm.free hr)) upd_same (hg.mono (TK.new hr)) hflat (hcl g (List.mem_cons_self ..))
/-- how many trees a grove holds -/
def tg : Gr Str → Nat
  | .nil => 0
  | .cons _ w o => 1 + tg w + tg o
theorem tg_le : ∀ g : Gr Str, tg g ≤ (words SL g).length
  | .nil => Nat.zero_le _
  | .cons t w o => by
    have h1 := tg_le w
    have h2 := tg_le o
    simp only [tg, words, List.length_cons, List.length_append]
    (first | lia | omega)
def RowG (H : Hp) (v : V) (g : Gr Str) : Prop := ∃ p xs, v = .ref p ∧ H p = some (.tup xs) ∧ RepG H xs g
theorem RowG.mono {H H' : Hp} {v : V} {g : Gr Str} (k : TK H H') : RowG H v g → RowG H' v g
  | ⟨p, xs, e, h, r⟩ => ⟨p, xs, e, k _ _ h, r.mono k⟩
def wsum : List (Gr Str) → Nat
  | [] => 0
  | g :: gs => 1 + tg g + wsum gs
theorem wsum_snoc : ∀ (gs : List (Gr Str)) (g : Gr Str), wsum (gs ++ [g]) = wsum gs + (1 + tg g)
  | [], g => by simp [wsum]
  | h :: gs, g => by
    show 1 + tg h + wsum (gs ++ [g]) = 1 + tg h + wsum gs + _
    rw [wsum_snoc gs g]
    (first | lia | omega)
theorem wsum_len : ∀ gs : List (Gr Str), gs.length ≤ wsum gs
  | [] => Nat.le_refl _
  | g :: gs => by
    have := wsum_len gs
    show gs.length + 1 ≤ 1 + tg g + wsum gs
    (first | lia | omega)
theorem rowg_mono {H H' : Hp} (k : TK H H') : ∀ {vs : List V} {gs : List (Gr Str)}, Paired (RowG H) vs gs → Paired (RowG H') vs gs
  | _, _, .nil => .nil
  | _, _, .cons r t => .cons (r.mono k) (rowg_mono k t)
theorem paired_snoc {α β : Type} {F : α → β → Prop} {x : α} {y : β} (r : F x y) : ∀ {l₁ : List α} {l₂ : List β}, Paired F l₁ l₂ → Paired F (l₁ ++ [x]) (l₂ ++ [y])
  | _, _, .nil => .cons r .nil
  | _, _, .cons a t => .cons a (paired_snoc r t)
theorem drop_of_at {α : Type} {xs : List α} {i : Nat} {x : α} (h : xs[i]? = some x) : xs.drop i = x :: xs.drop (i + 1) := by
  obtain ⟨hi, e⟩ := List.getElem?_eq_some_iff.mp h
  rw [← e]
  exact List.drop_eq_getElem_cons hi
def spIsGrove (K : PySem.W.Frag) : Sp := fun vs H Q _ => ∃ (a : Addr) (xs : List V) (g : Gr Str), vs = [.ref a] ∧ H a = some (.tup xs) ∧ RepG H xs g ∧ (words SL g).length ≤ 1000 ∧ ∀ H', Same H H' → Q (.bl true) H'
theorem ok_l_is_grove (B : ∀ x ∈ blts, mg x = none) (F : Fun K "_law_is_grove" "_law_is_grove" s_l_is_grove f fd) : FnOk P w K mg base CX0 1 f fd ["_law_found"] (spIsGrove K) := by
  refine F.ok sc_l_is_grove (fun vs H Q E h => ?_) (fun cdv A outer s H vs Q E hr h => ?_)
  · obtain ⟨a, xs, g, rfl, _⟩ := h
    rfl
  obtain ⟨a, xs, g, rfl, ha, hg, hl, q⟩ := h
  refine ⟨_, (pss_cons (ps_set (i := 1) sc_l_is_grove.nd rfl (Or.inl rfl) (pe_lst (pa_cons (pv 0) pa_nil)))
    (pss_cons (ps_while PassesOwn.never (pt_cmpR op_gt (pe_callB call_len_seq rfl (B "len" (by decide)) PySem.boot_len (pa_cons (pv 1) pa_nil)) pe_int (nomark _))
      (pss_cons (ps_set (i := 2) sc_l_is_grove.nd rfl (Or.inl rfl) (pe_bm0 PySem.F.plainAttrs_list PySem.F.slot_list_pop PySem.F.type_list_pop mt_pop (pv 1)))
        (pss_cons (ps_if (pt_not (pt_truth (pe_callB call_isinst rfl (B "isinstance" (by decide)) bt_isinstance (pa_cons (pv 2) (pa_cons (pe_ty rfl (B "tuple" (by decide)) bt_tuple) pa_nil))) (fun _ => rfl)))
          (pss_one (ps_ret pe_bl))
          pss_nil)
        (pss_one (ps_for PassesOwn.never rfl (pi_tup (pv 2)) (pg_name (i := 3) sc_l_is_grove.nd rfl (Or.inl rfl))
          (pss_cons (ps_if (PW.pt (pw_or (pt_not (pt_truth (pe_callB call_isinst rfl (B "isinstance" (by decide)) bt_isinstance (pa_cons (pv 3) (pa_cons (pe_ty rfl (B "tuple" (by decide)) bt_tuple) pa_nil))) (fun _ => rfl))) (pw_or (pt_cmpR op_ne (pe_callB call_len_seq rfl (B "len" (by decide)) PySem.boot_len (pa_cons (pv 3) pa_nil)) pe_int (nomark _)) (pw_or1 (pt_not (pt_truth (pe_callB call_isinst rfl (B "isinstance" (by decide)) bt_isinstance (pa_cons (pe_ix ix_tup (pv 3) pe_int (fun _ _ => rfl)) (pa_cons (pe_ty rfl (B "str" (by decide)) bt_str) pa_nil))) (fun _ => rfl)))))))
              (pss_one (ps_ret pe_bl))
              pss_nil)
            (pss_one (ps_expr (pe_bm PySem.F.plainAttrs_list PySem.F.slot_list_append PySem.F.type_list_append mt_append (pv 1) (pa_cons (pe_ix ix_tup (pv 3) pe_int (fun _ _ => rfl)) pa_nil))))))))))
    (pss_one (ps_ret pe_bl)))), ?_⟩
  refine ⟨_, rfl, by show 1 ≤ sizeLine; decide, fun l hl => ?_⟩
  let W : Nat → St → Hp → Prop := fun m σ H1 => ∃ (vs : List V) (gs : List (Gr Str)) (v2 v3 : Option V), σ = [some (.ref a), some (.ref l), v2, v3] ∧ Same H H1 ∧ H1 l = some (.lst vs) ∧ Paired (RowG H1) vs gs ∧ m = wsum gs ∧ m ≤ 1001
  have s1 : Same H (upd H l (.lst [.ref a])) := Same.new hl
  have tg0 := tg_le g
  refine ⟨W, ⟨wsum [g], [.ref a], [g], none, none, rfl, s1, upd_same, .cons ⟨a, xs, rfl, s1.tk _ _ ha, hg.mono s1.tk⟩ .nil, rfl, (by show 1 + tg g + 0 ≤ 1001; (first | lia | omega))⟩, ?_⟩
  rintro m σ H1 ⟨vs, gs, v2, v3, rfl, sm, hl1, hst, rfl, hm⟩
  refine ⟨_, rfl, l, _, rfl, .inl (SqL.of hl1), _, _, rfl, rfl, _, rfl, ?_⟩
  have hvl : vs.length = gs.length := Paired.length hst
  by_cases e : vs = []
  · subst e
    refine ite2 (fun z => absurd z (by simp)) (fun _ => ?_)
    exact q H1 sm
  · obtain ⟨vs', v, rfl⟩ := snoc_of e
    obtain ⟨gs', g1, rfl, hst', hx⟩ := Paired.unsnoc hst
    refine ite2 (fun _ => ?_) (fun z => absurd z (by simp))
    refine ⟨fun σ' H' => ∃ m', m' < wsum (gs' ++ [g1]) ∧ W m' σ' H', fun _ _ h => h, ?_⟩
    refine ⟨_, rfl, .inl ⟨rfl, _, SqL.of hl1⟩, l, _, v, rfl, rfl, hl1, snoc_last _ _, ?_⟩
    rw [snoc_drop]
    have k1 : TK H1 (upd H1 l (.lst vs')) := TK.lst hl1
    have hst2 := rowg_mono k1 hst'
    obtain ⟨p, ys, rfl, hp, hr1⟩ := hx.mono k1
    have sm2 : Same H (upd H1 l (.lst vs')) := sm.upd_new hl
    have ew := wsum_snoc gs' g1
    refine ⟨_, rfl, .ref p, "tuple", .type "tuple", true, rfl, .tup hp, rfl, true, rfl, iteF ?_⟩
    refine ⟨_, rfl, p, rfl, ⟨_, SqT.of hp⟩, for_tup (K := K) (a := p) (xs := ys) (fun i σ H2 => ∃ (vs2 : List V) (gs2 : List (Gr Str)) (v3 : Option V) (g2 : Gr Str), σ = [some (.ref a), some (.ref l), some (.ref p), v3] ∧ Same H H2 ∧ H2 l = some (.lst vs2) ∧ H2 p = some (.tup ys) ∧ Paired (RowG H2) vs2 gs2 ∧ RepG H2 (ys.drop i) g2 ∧ wsum gs2 + tg g2 + 1 = wsum (gs' ++ [g1]))
      ⟨vs', gs', v3, g1, rfl, sm2, upd_same, hp, hst2, hr1, by (first | lia | omega)⟩ ?_ ?_ ?_⟩
    · rintro i σ H2 hi ⟨vs2, gs2, v3, g2, rfl, sm3, hl2, hp2, hst3, hr2, hw⟩
      exact SqT.of hp2
    · rintro i x σ H2 hx ⟨vs2, gs2, v3, g2, rfl, sm3, hl2, hp2, hst3, hr2, hw⟩
      rw [drop_of_at hx] at hr2
      have hv2 : vs2.length = gs2.length := Paired.length hst3
      have hw2 := wsum_len gs2
      cases hr2 with
      | @cons p' q' t' _ zs w' o' h1 h2 h3 h4 =>
        refine ⟨_, rfl, .ref p', "tuple", .type "tuple", true, rfl, .tup h1, rfl, true, rfl, iteF ?_⟩
        refine ⟨_, rfl, p', _, rfl, .inr (SqT.of h1), rfl, _, rfl, ite2 (fun z => absurd z (by simp)) (fun _ => ?_)⟩
        refine ⟨_, rfl, p', _, 0, _, rfl, rfl, SqT.of h1, rfl, .str t', "str", .type "str", true, rfl, .str t', rfl, true, rfl, iteF ?_⟩
        refine ⟨_, rfl, .inl ⟨rfl, _, SqL.of hl2⟩, _, rfl, p', _, 1, _, rfl, rfl, SqT.of h1, rfl, l, _, _, rfl, rfl, hl2, len1000' (by (first | lia | omega)), ?_⟩
        have k2 := TK.lst (o := .lst (vs2 ++ [.ref q'])) hl2
        refine ⟨vs2 ++ [.ref q'], gs2 ++ [w'], _, o', rfl, sm3.upd_new hl, upd_same, k2 _ _ hp2, paired_snoc ⟨q', _, rfl, k2 _ _ h2, h3.mono k2⟩ (rowg_mono k2 hst3), h4.mono k2, ?_⟩
        have e1 := wsum_snoc gs2 w'
        have e2 : tg (.cons t' w' o') = 1 + tg w' + tg o' := rfl
        (first | lia | omega)
    · rintro σ H2 ⟨vs2, gs2, v3, g2, rfl, sm3, hl2, hp2, hst3, hr2, hw⟩
      exact ⟨_, by (first | lia | omega), vs2, gs2, _, _, rfl, sm3, hl2, hst3, rfl, by (first | lia | omega)⟩
theorem fm_nil {α : Type} {p : α → Prop} : ∀ x ∈ ([] : List α), p x := fun _ h => absurd h (List.not_mem_nil)
theorem fm_cons {α : Type} {p : α → Prop} {a : α} {l : List α} (h : p a) (t : ∀ x ∈ l, p x) : ∀ x ∈ a :: l, p x := fun x hx => (List.mem_cons.mp hx).elim (fun e => e ▸ h) (t x)
/-- all is kept but errors -/
def Kp (H H' : Hp) : Prop := ∀ b o, H b = some o → (∀ x, o ≠ .ext x) → H' b = some o
theorem Kp.same {H H' : Hp} (s : Same H H') : Kp H H' := fun b o h _ => s b o h
theorem Kp.trans {H H1 H2 : Hp} (a : Kp H H1) (b : Kp H1 H2) : Kp H H2 := fun c o h n => b c o (a c o h n) n
theorem Kp.ext {H H1 : Hp} {e : Addr} {x : Heap → Prop} {o : HO} (a : Kp H H1) (h : H1 e = some (.ext x)) : Kp H (upd H1 e o) := fun b u q n => by
  have q1 := a b u q n
  have : b ≠ e := fun z => by
    rw [z, h] at q1
    exact n x (Option.some.inj q1).symm
  rw [upd_ne this]
  exact q1
def spAsked (K : PySem.W.Frag) : Sp := fun vs H Q _ => ∃ z : Str, vs = [.str z] ∧ AscL z ∧ z.length ≤ 20000 ∧ sep (cs z) ≤ 400 ∧
  (tbad z = none → ∀ (r t : Addr) (xs : List V) (g : Gr Str) (H' : Hp), Kp H H' → H' r = some (.tup [.ref t, .non]) → H' t = some (.tup xs) → RepG H' xs g → words SL g = rdW z → Clean SL g → Q (.ref r) H') ∧
  (∀ p, tbad z = some p → ∀ (r l : Addr) (H' : Hp), Kp H H' → H' r = some (.tup [.non, .ref l]) → H' l = some (.lst [.int (p : Nat), .bl true]) → Q (.ref r) H')
theorem ok_l_asked (B : ∀ x ∈ blts, mg x = none) (xc : XC K mg X_GroveError X_NoGrove X_BadForm X_TooMany X_TooBig X_NoneFits X_NoBook X_TwiceNamed X_NoName X_Ring X_BadChanger X_NoRecipe X_NotStraight X_NoChange X_NoRow) (g_read : HasX P w K mg base "read" ["text"] 4 (spReadX K X_NoGrove)) (F : Fun K "_law_asked" "_law_asked" s_l_asked f fd) : FnOk P w K mg base CX0 5 f fd ["_law_text_here"] (spAsked K) := by
  refine F.ok sc_l_asked (fun vs H Q E h => ?_) (fun cdv A outer s H vs Q E hr h => ?_)
  · obtain ⟨z, rfl, _⟩ := h
    rfl
  obtain ⟨z, rfl, hz, hl, hsp, q1, q2⟩ := h
  refine ⟨_, (pss_cons (ps_set (i := 1) sc_l_asked.nd rfl (Or.inl rfl) pe_non)
    (pss_cons (ps_set (i := 2) sc_l_asked.nd rfl (Or.inl rfl) pe_non)
    (pss_cons (ps_try rfl rfl (fun E pins E₁ hT hp => (pss_one (ps_set (i := 1) sc_l_asked.nd rfl (Or.inl rfl) (pe_hasX g_read hT hr rfl (pa_cons (pv 0) pa_nil)))))
      (ph_skip (fun e => (pe_tup (pa_cons (pe_glob (v := .ref X_BadChanger) rfl xc.n_BadChanger rfl) (pa_cons (pe_glob (v := .ref X_BadForm) rfl xc.n_BadForm rfl) (pa_cons (pe_glob (v := .ref X_NoBook) rfl xc.n_NoBook rfl) (pa_cons (pe_glob (v := .ref X_NoChange) rfl xc.n_NoChange rfl) (pa_cons (pe_glob (v := .ref X_NoName) rfl xc.n_NoName rfl) (pa_cons (pe_glob (v := .ref X_NoneFits) rfl xc.n_NoneFits rfl) (pa_cons (pe_glob (v := .ref X_NoRecipe) rfl xc.n_NoRecipe rfl) (pa_cons (pe_glob (v := .ref X_NoRow) rfl xc.n_NoRow rfl) pa_nil))))))))))
      (ph_skip (fun e => (pe_tup (pa_cons (pe_glob (v := .ref X_NotStraight) rfl xc.n_NotStraight rfl) (pa_cons (pe_glob (v := .ref X_Ring) rfl xc.n_Ring rfl) (pa_cons (pe_glob (v := .ref X_TooBig) rfl xc.n_TooBig rfl) (pa_cons (pe_glob (v := .ref X_TooMany) rfl xc.n_TooMany rfl) (pa_cons (pe_glob (v := .ref X_TwiceNamed) rfl xc.n_TwiceNamed rfl) pa_nil)))))))
      (ph_as (i := 3) (rest := []) (fun e => (pe_glob (v := .ref X_NoGrove) rfl xc.n_NoGrove rfl)) sc_l_asked.nd rfl rfl (fun e => (pss_one (ps_set (i := 2) sc_l_asked.nd rfl (Or.inl rfl) (pe_lst (pa_cons (pe_xgetK (K := K) rfl (pv 3) rfl) (pa_cons (pe_and (pe_callB (call_xisRK (K := K) rfl) rfl (B "isinstance" (by decide)) bt_isinstance (pa_cons (pv 3) (pa_cons (pe_glob (v := .ref X_GroveError) rfl xc.n_GroveError rfl) pa_nil))) (pe_one (pe_callB (call_xisTK (K := K) rfl) rfl (B "isinstance" (by decide)) bt_isinstance (pa_cons (pv 3) (pa_cons (pe_ty rfl (B "ValueError" (by decide)) bt_ValueError) pa_nil))))) pa_nil))))))))))
    (pss_one (ps_ret (pe_tup (pa_cons (pv 1) (pa_cons (pv 2) pa_nil)))))))), ?_⟩
  refine ⟨fun σ' C d H' => σ' = [some (.str z), some .non, some .non, none] ∧ C = .ref X_NoGrove ∧ ∃ p dx, tbad z = some p ∧ d = some dx ∧ Same H H' ∧ H' dx = some (.xd [("place", .int (p : Nat))]), ?_, ?_⟩
  · refine ⟨_, rfl, z, rfl, hz, hl, hsp, fun hb r xs g H' sm e1 hg hw2 hcl => ?_, fun p hb dx H' sm hd e1 => ⟨rfl, rfl, p, dx, hb, rfl, sm, e1⟩⟩
    refine ⟨_, rfl, _, rfl, (by show 2 ≤ sizeLine; decide), fun t ht => ?_⟩
    have s2 := Same.new (o := .tup [.ref r, .non]) ht
    exact q1 hb t r xs g _ (Kp.same (sm.trans s2)) upd_same (s2 _ _ e1) (hg.mono s2.tk) hw2 hcl
  · rintro σ' C d H' e oe ⟨rfl, rfl, p, dx, hb, rfl, sm, e1⟩ he hc hd hf
    have k0 : Kp H (upd H' e (Known e oe)) := (Kp.same sm).ext he
    have nd : dx ≠ e := fun z => by rw [z, he] at e1; cases e1
    have e2 : (upd H' e (Known e oe)) dx = some (.xd [("place", .int (p : Nat))]) := by rw [upd_ne nd]; exact e1
    have e3 : (upd H' e (Known e oe)) e = some (Known e oe) := upd_same
    generalize upd H' e (Known e oe) = H1 at k0 e2 e3
    refine ⟨(by show 8 ≤ sizeLine; decide), fun t1 h1 => ?_⟩
    have s1 := Same.new (o := .tup [.ref X_BadChanger, .ref X_BadForm, .ref X_NoBook, .ref X_NoChange, .ref X_NoName, .ref X_NoneFits, .ref X_NoRecipe, .ref X_NoRow]) h1
    refine ⟨[X_BadChanger, X_BadForm, X_NoBook, X_NoChange, X_NoName, X_NoneFits, X_NoRecipe, X_NoRow], X_NoGrove, .many (SqT.of upd_same) ?_, hc, ?_, s1 _ _ e3, ?_⟩
    · exact fm_cons xc.c_BadChanger (fm_cons xc.c_BadForm (fm_cons xc.c_NoBook (fm_cons xc.c_NoChange (fm_cons xc.c_NoName (fm_cons xc.c_NoneFits (fm_cons xc.c_NoRecipe (fm_cons xc.c_NoRow fm_nil)))))))
    · exact fm_cons xc.m_NoGrove_BadChanger (fm_cons xc.m_NoGrove_BadForm (fm_cons xc.m_NoGrove_NoBook (fm_cons xc.m_NoGrove_NoChange (fm_cons xc.m_NoGrove_NoName (fm_cons xc.m_NoGrove_NoneFits (fm_cons xc.m_NoGrove_NoRecipe (fm_cons xc.m_NoGrove_NoRow fm_nil)))))))
    refine ⟨(by show 5 ≤ sizeLine; decide), fun t2 h2 => ?_⟩
    have s2 := s1.trans (Same.new (o := .tup [.ref X_NotStraight, .ref X_Ring, .ref X_TooBig, .ref X_TooMany, .ref X_TwiceNamed]) h2)
    refine ⟨[X_NotStraight, X_Ring, X_TooBig, X_TooMany, X_TwiceNamed], X_NoGrove, .many (SqT.of upd_same) ?_, hc, ?_, s2 _ _ e3, ?_⟩
    · exact fm_cons xc.c_NotStraight (fm_cons xc.c_Ring (fm_cons xc.c_TooBig (fm_cons xc.c_TooMany (fm_cons xc.c_TwiceNamed fm_nil))))
    · exact fm_cons xc.m_NoGrove_NotStraight (fm_cons xc.m_NoGrove_Ring (fm_cons xc.m_NoGrove_TooBig (fm_cons xc.m_NoGrove_TooMany (fm_cons xc.m_NoGrove_TwiceNamed fm_nil))))
    refine ⟨[X_NoGrove], X_NoGrove, fun _ => true, .one xc.c_NoGrove, hc, ?_, rfl, s2 _ _ e3, ?_⟩
    · intro D hD
      obtain rfl := List.mem_singleton.mp hD
      exact xc.m_NoGrove_NoGrove
    refine ⟨_, rfl, e, oe, X_NoGrove, dx, _, _, rfl, s2 _ _ e3, hc, hd, hf, s2 _ _ e2, xc.f_NoGrove_place, rfl, ?_⟩
    refine ⟨_, rfl, e, oe, X_NoGrove, X_GroveError, rfl, s2 _ _ e3, hc, xc.ne_NoGrove, xc.isG, xc.tyG, xc.m_NoGrove_GroveError, true, rfl, iteT ?_⟩
    refine ⟨_, rfl, e, oe, X_NoGrove, "ValueError", rfl, s2 _ _ e3, hc, rfl, xc.mV_NoGrove, ?_⟩
    refine ⟨(by show 2 ≤ sizeLine; decide), fun l hl => ?_⟩
    have s3 := s2.trans (Same.new (o := .lst [.int (p : Nat), .bl true]) hl)
    refine ⟨_, rfl, _, rfl, (by show 2 ≤ sizeLine; decide), fun t ht => ?_⟩
    have s4 := Same.new (o := .tup [.non, .ref l]) ht
    exact q2 p hb t l _ (k0.trans (Kp.same (s3.trans s4))) upd_same (s4 _ _ upd_same)
theorem pc_asc {ah w : Str} (hw : w = SL ∨ (Lets w ∧ w.length ≤ 8)) : AscL (pc ah w) := by
  unfold pc
  rcases hw with e | e
  · rw [if_pos e]
    split
    · intro c hc; have : c ∈ [41] := hc; simp at this; (first | lia | omega)
    · intro c hc; cases hc
  · rw [if_neg e.1.ne]
    split
    · exact e.1.let0.ascL
    · split
      · exact ascL_app (by intro c hc; have : c ∈ [32] := hc; simp at this; (first | lia | omega)) e.1.let0.ascL
      · exact ascL_app (by intro c hc; have : c ∈ [40] := hc; simp at this; (first | lia | omega)) e.1.let0.ascL
theorem pcc_asc : ∀ (ws : List Str) (ah : Str), LetW ws → ∀ c ∈ pcc ah ws, c < 128
  | [], _, _, c, h => by cases h
  | w :: ws, ah, hw, c, h => by
    rw [pcc_cons] at h
    rcases List.mem_append.mp h with h | h
    · exact pc_asc (hw w (List.mem_cons_self ..)) c h
    · exact pcc_asc ws w (fun x hx => hw x (List.mem_cons_of_mem _ hx)) c h
theorem letW_8 {ws : List Str} (h : LetW ws) : ∀ w ∈ ws, w.length ≤ 8 := fun w hw => (h w hw).elim (fun e => by rw [e]; decide) fun e => e.2
theorem at_all {z : Str} (h : tbad z = none) : ∀ i, i ≤ (cs z).length → ∃ st ls, At z i st ls
  | 0, _ => ⟨_, _, at0 z⟩
  | i + 1, hi => by
    obtain ⟨st, ls, ha⟩ := at_all h i (by (first | lia | omega))
    have hc : (cs z)[i]? = some (cs z)[i] := List.getElem?_eq_getElem (by (first | lia | omega))
    rcases at_step ha hc with ⟨_, _, h3⟩ | ⟨s', _, _, h3⟩
    · rw [h] at h3; cases h3
    · exact ⟨_, s', h3⟩
theorem good_words {z : Str} (h : tbad z = none) : (rdW z).length ≤ 2 + 2 * sep (cs z) ∧ OkW (rdW z) := by
  obtain ⟨st, ls, ha⟩ := at_all h _ (Nat.le_refl _)
  obtain ⟨_, _, hw, hl⟩ := at_good ha h
  refine ⟨hl, fun w hm => ?_⟩
  rcases hw w hm with e | e
  · rw [e]; exact sl_ok
  · refine Let0.ok fun c hc => ?_
    have := List.all_eq_true.mp (tagB_all e) c hc
    unfold azB at this
    simp at this
    (first | lia | omega)
theorem ok_law (B : ∀ x ∈ blts, mg x = none) (g_l_text : Has P w K mg base "_law_text" ["_law_words_here"] 1 (spText K)) (g_l_words : Has P w K mg base "_law_words" ["_law_script"] 3 (spLWords K)) (g_l_spoiled : Has P w K mg base "_law_spoiled" ["_law_text_here", "_law_cell"] 1 spSpoilT) (g_l_cell_at : Has P w K mg base "_law_cell_at" ["_law_script", "_law_k"] 1 (spCell K)) (g_l_bad : Has P w K mg base "_law_bad" ["_law_text_here"] 1 spBadT) (g_l_asked : Has P w K mg base "_law_asked" ["_law_text_here"] 5 (spAsked K)) (g_l_grove : Has P w K mg base "_law_grove" ["_law_text_here"] 1 (spGroveT K)) (g_l_is_grove : Has P w K mg base "_law_is_grove" ["_law_found"] 1 (spIsGrove K))
    (F : Fun K "law" "law" s_law f fd) : FnOk P w K mg base CX0 86 f fd ["_law_script"] (spLaw K) := by
  refine F.ok sc_law (fun vs H Q E h => ?_) (fun cdv A outer s H vs Q E hr h => ?_)
  · obtain ⟨a, ns, rfl, _⟩ := h
    rfl
  obtain ⟨a, ns, rfl, hS, h63, q⟩ := h
  have hu := hu_room hr
  have hu1 : (A.deeper (PyProof.Rows.envOfC (Str.ofString "law") (defScope s_law) s.heap.objs.size f cdv)).units + 1001 < cLine := by have := hr.un; (first | lia | omega)
  refine ⟨_, (pss_cons (ps_set (i := 1) sc_law.nd rfl (Or.inl rfl) (pe_has g_l_text hr rfl (pa_cons (pe_has g_l_words hr rfl (pa_cons (pv 0) pa_nil)) pa_nil)))
    (pss_cons (ps_set (i := 2) sc_law.nd rfl (Or.inl rfl) (pe_has g_l_spoiled hr rfl (pa_cons (pv 1) (pa_cons (pe_has g_l_cell_at hr rfl (pa_cons (pv 0) (pa_cons pe_int pa_nil))) pa_nil))))
    (pss_cons (ps_set (i := 3) sc_law.nd rfl (Or.inl rfl) (pe_has g_l_bad hr rfl (pa_cons (pv 2) pa_nil)))
    (pss_cons (ps_asg (pe_has g_l_asked hr rfl (pa_cons (pv 2) pa_nil)) (pg_tup rfl (pgs_cons (pg_name (i := 4) sc_law.nd rfl (Or.inl rfl)) (pgs_cons (pg_name (i := 5) sc_law.nd rfl (Or.inl rfl)) pgs_nil))))
    (pss_cons (ps_if (pt_cmpR op_isN (pv 3) pe_non (nomark _))
      (pss_one (ps_ret (pe_and (pe_cmpR op_isN (pv 5) pe_non (nomark _)) (pe_and (pe_has g_l_is_grove hr rfl (pa_cons (pv 4) pa_nil)) (pe_one (pe_cmpR (op_eqDn (n := 1001) hu1) (pv 4) (pe_has g_l_grove hr rfl (pa_cons (pv 2) pa_nil)) (nomark _)))))))
      pss_nil)
    (pss_cons (ps_if (PW.pt (pw_or (pt_cmpR op_isN (pv 5) pe_non (nomark _)) (pw_or1 (pt_not (pt_truth (pe_ix ix_list (pv 5) pe_int (fun _ _ => rfl)) (fun _ => rfl))))))
      (pss_one (ps_ret pe_bl))
      pss_nil)
    (pss_cons (ps_if (PW.pt (pw_or (pt_not (pt_truth (pe_callB call_isinst rfl (B "isinstance" (by decide)) bt_isinstance (pa_cons (pe_ix ix_list (pv 5) pe_int (fun _ _ => rfl)) (pa_cons (pe_ty rfl (B "int" (by decide)) bt_int) pa_nil))) (fun _ => rfl))) (pw_or (pt_truth (pe_callB call_isinst rfl (B "isinstance" (by decide)) bt_isinstance (pa_cons (pe_ix ix_list (pv 5) pe_int (fun _ _ => rfl)) (pa_cons (pe_ty rfl (B "bool" (by decide)) bt_bool) pa_nil))) (fun _ => rfl)) (pw_or1 (pt_cmpR op_ne (pe_ix ix_list (pv 5) pe_int (fun _ _ => rfl)) (pv 3) (nomark _))))))
      (pss_one (ps_ret pe_bl))
      pss_nil)
    (pss_cons (ps_asg (pe_has g_l_asked hr rfl (pa_cons (pv 1) pa_nil)) (pg_tup rfl (pgs_cons (pg_name (i := 4) sc_law.nd rfl (Or.inl rfl)) (pgs_cons (pg_name (i := 5) sc_law.nd rfl (Or.inl rfl)) pgs_nil))))
    (pss_one (ps_ret (pe_and (pe_cmpR op_isN (pv 5) pe_non (nomark _)) (pe_and (pe_has g_l_is_grove hr rfl (pa_cons (pv 4) pa_nil)) (pe_one (pe_cmpR (op_eqDn (n := 1001) hu1) (pv 4) (pe_has g_l_grove hr rfl (pa_cons (pv 1) pa_nil)) (nomark _))))))))))))))), ?_⟩
  refine ⟨_, rfl, a, ns, rfl, hS, h63, fun r1 ws H1 s1 n1 e1 hl hcan hok => ?_⟩
  obtain ⟨g, hgw, hgc⟩ := grove_ex ws (gs := [.nil]) (ts := []) rfl hcan (fun x hx => by rw [List.mem_singleton.mp hx]; trivial) (fun _ h => nomatch h)
  have hgw : words SL g = ws := hgw
  subst hgw
  have hlw : LetW (words SL g) := hok
  refine ⟨r1, g, rfl, SqL.of e1, by (first | lia | omega), hgc, hcan, hok, fun H2 s2 => ?_⟩
  have hcs : cs (Txt.join " " (rowT g)) = pcc "" (words SL g) := by
    rw [← shown_eq (good_of hgc hlw), cs_join, jn_empty]
    rfl
  have hzl : (Txt.join " " (rowT g)).length ≤ 9 * (words SL g).length := by
    have h1 := len_le_sum "" (pcs "" (words SL g))
    have h2 := pcs_sum "" (letW_8 hlw)
    rw [shown_eq (good_of hgc hlw)] at h1
    have h3 : (pcs "" (words SL g)).length * ("" : Str).length = 0 := Nat.mul_zero _
    (first | lia | omega)
  have hza : AscL (Txt.join " " (rowT g)) := fun c hc => pcc_asc (words SL g) "" hlw c (by rw [← hcs]; exact hc)
  have hzs : sep (cs (Txt.join " " (rowT g))) ≤ 350 := by
    have h1 := sep_pcc (words SL g) "" hlw
    have h2 := tagsN_words hgc
    rw [hcs]
    (first | lia | omega)
  obtain ⟨hgb, hgr⟩ := good_text hcan hlw hcs
  generalize Txt.join " " (rowT g) = z at hcs hzl hza hzs hgb hgr
  refine ⟨_, rfl, _, rfl, a, ns, 1, rfl, (s1.trans s2).seq hS, h63, by decide, fun c => ?_⟩
  refine ⟨z, c, rfl, hza, by (first | lia | omega), fun y hya hyl hys => ?_⟩
  refine ⟨_, rfl, y, rfl, hya, by (first | lia | omega), ?_⟩
  refine ⟨_, rfl, y, rfl, hya, by (first | lia | omega), by (first | lia | omega), fun hb t0 t xs g1 H4 kp et et2 hg hw hcl => ?_, fun p hb t0 l H4 kp et el => ?_⟩
  · refine ⟨t0, _, rfl, SqT.of et, rfl, _, _, rfl, _, _, rfl, rfl, ?_⟩
    rw [hb]
    refine ⟨_, rfl, rfl, true, rfl, iteT ?_⟩
    refine ⟨_, rfl, rfl, true, rfl, iteT ?_⟩
    obtain ⟨w1, w2⟩ := good_words hb
    have hl1 : (words SL g1).length ≤ 1000 := by rw [hw]; (first | lia | omega)
    refine ⟨_, rfl, t, xs, g1, rfl, et2, hg, hl1, fun H5 s5 => ⟨true, rfl, iteT ?_⟩⟩
    refine ⟨_, rfl, _, rfl, y, rfl, hya, by (first | lia | omega), hb, by (first | lia | omega), fun r6 xs6 g6 H6 s6 e6 hg6 hw6 hc6 => ?_⟩
    have eg : g6 = g1 := words_inj hc6 hcl (hw6.trans hw.symm)
    subst eg
    exact eq_grove (SqT.of (s6 _ _ (s5 _ _ et2))) (SqT.of e6) ((hg.mono s5.tk).mono s6.tk) hg6 (by rw [hw]; exact w2) hl1 (q _)
  · refine ⟨t0, _, rfl, SqT.of et, rfl, _, _, rfl, _, _, rfl, rfl, ?_⟩
    rw [hb]
    refine ⟨_, rfl, rfl, false, rfl, iteF ?_⟩
    refine ⟨_, rfl, rfl, false, rfl, iteF ?_⟩
    refine ⟨_, rfl, l, _, 1, _, rfl, rfl, SqL.of el, rfl, true, rfl, iteF ?_⟩
    refine ⟨_, rfl, l, _, 0, _, rfl, rfl, SqL.of el, rfl, .int (p : Nat), "int", .type "int", true, rfl, .int _, rfl, true, rfl, iteF ?_⟩
    refine ⟨_, rfl, l, _, 0, _, rfl, rfl, SqL.of el, rfl, .int (p : Nat), "bool", .type "int", false, rfl, .int _, rfl, false, rfl, iteF ?_⟩
    refine ⟨_, rfl, l, _, 0, _, rfl, rfl, SqL.of el, rfl, ?_⟩
    refine ⟨_, rfl, rfl, _, rfl, ite2 (fun z => absurd z (by simp)) (fun _ => ?_)⟩
    refine ⟨_, rfl, z, rfl, hza, by (first | lia | omega), by (first | lia | omega), fun hb2 t6 t xs g1 H6 kp6 et et2 hg hw hcl => ?_, fun p2 hb2 => by rw [hgb] at hb2; cases hb2⟩
    refine ⟨t6, _, rfl, SqT.of et, rfl, _, _, rfl, _, _, rfl, rfl, ?_⟩
    refine ⟨_, rfl, rfl, true, rfl, iteT ?_⟩
    obtain ⟨w1, w2⟩ := good_words hgb
    have hl1 : (words SL g1).length ≤ 1000 := by rw [hw]; (first | lia | omega)
    refine ⟨_, rfl, t, xs, g1, rfl, et2, hg, hl1, fun H5 s5 => ⟨true, rfl, iteT ?_⟩⟩
    refine ⟨_, rfl, _, rfl, z, rfl, hza, by (first | lia | omega), hgb, by (first | lia | omega), fun r6 xs6 g6 H6 s6 e6 hg6 hw6 hc6 => ?_⟩
    have eg : g6 = g1 := words_inj hc6 hcl (hw6.trans hw.symm)
    subst eg
    exact eq_grove (SqT.of (s6 _ _ (s5 _ _ et2))) (SqT.of e6) ((hg.mono s5.tk).mono s6.tk) hg6 (by rw [hw]; exact w2) hl1 (q _)
end
theorem all_mk {l : PySem.W.OpenLaw} {w : World} {K : PySem.W.Frag} {h : Heap} {mg : Str → Option Value} {fa f1 f2 f3 f4 f5 f6 f7 f8 f9 f10 f11 f12 f13 f14 f15 f16 f17 f18 f19 f20 f21 f22 : Addr} (X : K.In h) (G : h.Ns mainGlobals mg) (hfa : mg "law" = some (.ref fa))
    {od1 an1 od2 an2 od3 an3 od4 an4 od5 an5 od6 an6 od7 an7 od8 an8 od9 an9 od10 an10 od11 an11 od12 an12 od13 an13 od14 an14 od15 an15 od16 an16 od17 an17 od18 an18 od19 an19 od20 an20 od21 an21 od22 an22 : Option Addr} {sl1 sl2 sl3 sl4 sl5 sl6 sl7 sl8 sl9 sl10 sl11 sl12 sl13 sl14 sl15 sl16 sl17 sl18 sl19 sl20 sl21 sl22 : Array (Option Value)} {oc1 kV1 dc1 pm1 cd1 ct1 oc2 kV2 dc2 pm2 cd2 ct2 oc3 kV3 dc3 pm3 cd3 ct3 oc4 kV4 dc4 pm4 cd4 ct4 oc5 kV5 dc5 pm5 cd5 ct5 oc6 kV6 dc6 pm6 cd6 ct6 oc7 kV7 dc7 pm7 cd7 ct7 oc8 kV8 dc8 pm8 cd8 ct8 oc9 kV9 dc9 pm9 cd9 ct9 oc10 kV10 dc10 pm10 cd10 ct10 oc11 kV11 dc11 pm11 cd11 ct11 oc12 kV12 dc12 pm12 cd12 ct12 oc13 kV13 dc13 pm13 cd13 ct13 oc14 kV14 dc14 pm14 cd14 ct14 oc15 kV15 dc15 pm15 cd15 ct15 oc16 kV16 dc16 pm16 cd16 ct16 oc17 kV17 dc17 pm17 cd17 ct17 oc18 kV18 dc18 pm18 cd18 ct18 oc19 kV19 dc19 pm19 cd19 ct19 oc20 kV20 dc20 pm20 cd20 ct20 oc21 kV21 dc21 pm21 cd21 ct21 oc22 kV22 dc22 pm22 cd22 ct22 : Value}
    {X_GroveError X_NoGrove X_BadForm X_TooMany X_TooBig X_NoneFits X_NoBook X_TwiceNamed X_NoName X_Ring X_BadChanger X_NoRecipe X_NotStraight X_NoChange X_NoRow : Addr}
    (xn_GroveError : PySem.W.nsIn K mainGlobals "GroveError" = some (some (.ref X_GroveError)))
    (xn_NoGrove : PySem.W.nsIn K mainGlobals "NoGrove" = some (some (.ref X_NoGrove)))
    (xn_BadForm : PySem.W.nsIn K mainGlobals "BadForm" = some (some (.ref X_BadForm)))
    (xn_TooMany : PySem.W.nsIn K mainGlobals "TooMany" = some (some (.ref X_TooMany)))
    (xn_TooBig : PySem.W.nsIn K mainGlobals "TooBig" = some (some (.ref X_TooBig)))
    (xn_NoneFits : PySem.W.nsIn K mainGlobals "NoneFits" = some (some (.ref X_NoneFits)))
    (xn_NoBook : PySem.W.nsIn K mainGlobals "NoBook" = some (some (.ref X_NoBook)))
    (xn_TwiceNamed : PySem.W.nsIn K mainGlobals "TwiceNamed" = some (some (.ref X_TwiceNamed)))
    (xn_NoName : PySem.W.nsIn K mainGlobals "NoName" = some (some (.ref X_NoName)))
    (xn_Ring : PySem.W.nsIn K mainGlobals "Ring" = some (some (.ref X_Ring)))
    (xn_BadChanger : PySem.W.nsIn K mainGlobals "BadChanger" = some (some (.ref X_BadChanger)))
    (xn_NoRecipe : PySem.W.nsIn K mainGlobals "NoRecipe" = some (some (.ref X_NoRecipe)))
    (xn_NotStraight : PySem.W.nsIn K mainGlobals "NotStraight" = some (some (.ref X_NotStraight)))
    (xn_NoChange : PySem.W.nsIn K mainGlobals "NoChange" = some (some (.ref X_NoChange)))
    (xn_NoRow : PySem.W.nsIn K mainGlobals "NoRow" = some (some (.ref X_NoRow)))
    {g0 goc : Value} {gdd god : Option Addr} {gcd : ClassData} {gsl gsl' : Array (Option Value)} {ges : Array DictEntry} {gep : Nat} (xg1 : K.lookup X_GroveError = some ⟨g0, gdd, .cls gcd, gsl⟩) (xg2 : K.lookup gcd.ns = some ⟨goc, god, .dict ges gep, gsl'⟩) (xg3 : keysOk ges = true) (xg4 : PySem.W.nsIn K gcd.ns "__init__" = some none)
    (xb1 : PySem.W.specialIn K (.ref X_GroveError) "__getattribute__" = some (some (.builtin "type.__getattribute__"))) (xb2 : PySem.W.readsIn K X_GroveError (.type "type") = true) (xb3 : PySem.W.findCls K (.ref X_GroveError) (.type "type") "__init__" = some (.val (.builtin "ValueError.__init__"))) (xb4 : PySem.W.isClsIn K X_GroveError = true) (xb5 : PySem.W.typeIn K (.ref X_GroveError) = some (.type "type"))
    (d1_GroveError : PySem.W.isClsIn K X_GroveError = true) (d2_GroveError : PySem.W.mroIn K X_GroveError (.type "BaseException") = some true) (d3_GroveError : PySem.W.instIn K (.ref X_GroveError) (.type "tuple") = some false)
    (d1_NoGrove : PySem.W.isClsIn K X_NoGrove = true) (d2_NoGrove : PySem.W.mroIn K X_NoGrove (.type "BaseException") = some true) (d3_NoGrove : PySem.W.instIn K (.ref X_NoGrove) (.type "tuple") = some false)
    (d1_BadForm : PySem.W.isClsIn K X_BadForm = true) (d2_BadForm : PySem.W.mroIn K X_BadForm (.type "BaseException") = some true) (d3_BadForm : PySem.W.instIn K (.ref X_BadForm) (.type "tuple") = some false)
    (d1_TooMany : PySem.W.isClsIn K X_TooMany = true) (d2_TooMany : PySem.W.mroIn K X_TooMany (.type "BaseException") = some true) (d3_TooMany : PySem.W.instIn K (.ref X_TooMany) (.type "tuple") = some false)
    (d1_TooBig : PySem.W.isClsIn K X_TooBig = true) (d2_TooBig : PySem.W.mroIn K X_TooBig (.type "BaseException") = some true) (d3_TooBig : PySem.W.instIn K (.ref X_TooBig) (.type "tuple") = some false)
    (d1_NoneFits : PySem.W.isClsIn K X_NoneFits = true) (d2_NoneFits : PySem.W.mroIn K X_NoneFits (.type "BaseException") = some true) (d3_NoneFits : PySem.W.instIn K (.ref X_NoneFits) (.type "tuple") = some false)
    (d1_NoBook : PySem.W.isClsIn K X_NoBook = true) (d2_NoBook : PySem.W.mroIn K X_NoBook (.type "BaseException") = some true) (d3_NoBook : PySem.W.instIn K (.ref X_NoBook) (.type "tuple") = some false)
    (d1_TwiceNamed : PySem.W.isClsIn K X_TwiceNamed = true) (d2_TwiceNamed : PySem.W.mroIn K X_TwiceNamed (.type "BaseException") = some true) (d3_TwiceNamed : PySem.W.instIn K (.ref X_TwiceNamed) (.type "tuple") = some false)
    (d1_NoName : PySem.W.isClsIn K X_NoName = true) (d2_NoName : PySem.W.mroIn K X_NoName (.type "BaseException") = some true) (d3_NoName : PySem.W.instIn K (.ref X_NoName) (.type "tuple") = some false)
    (d1_Ring : PySem.W.isClsIn K X_Ring = true) (d2_Ring : PySem.W.mroIn K X_Ring (.type "BaseException") = some true) (d3_Ring : PySem.W.instIn K (.ref X_Ring) (.type "tuple") = some false)
    (d1_BadChanger : PySem.W.isClsIn K X_BadChanger = true) (d2_BadChanger : PySem.W.mroIn K X_BadChanger (.type "BaseException") = some true) (d3_BadChanger : PySem.W.instIn K (.ref X_BadChanger) (.type "tuple") = some false)
    (d1_NoRecipe : PySem.W.isClsIn K X_NoRecipe = true) (d2_NoRecipe : PySem.W.mroIn K X_NoRecipe (.type "BaseException") = some true) (d3_NoRecipe : PySem.W.instIn K (.ref X_NoRecipe) (.type "tuple") = some false)
    (d1_NotStraight : PySem.W.isClsIn K X_NotStraight = true) (d2_NotStraight : PySem.W.mroIn K X_NotStraight (.type "BaseException") = some true) (d3_NotStraight : PySem.W.instIn K (.ref X_NotStraight) (.type "tuple") = some false)
    (d1_NoChange : PySem.W.isClsIn K X_NoChange = true) (d2_NoChange : PySem.W.mroIn K X_NoChange (.type "BaseException") = some true) (d3_NoChange : PySem.W.instIn K (.ref X_NoChange) (.type "tuple") = some false)
    (d1_NoRow : PySem.W.isClsIn K X_NoRow = true) (d2_NoRow : PySem.W.mroIn K X_NoRow (.type "BaseException") = some true) (d3_NoRow : PySem.W.instIn K (.ref X_NoRow) (.type "tuple") = some false)
    {nm_NoGrove q_NoGrove : Str} {N_NoGrove : Addr} {bs_NoGrove : List Value} {hdct_NoGrove : Bool} {sn_NoGrove : List Str} {sub_NoGrove : List Value} {ab_NoGrove : Bool} {col_NoGrove : Option Bool} {dd_NoGrove : Option Addr} {k0_NoGrove k1_NoGrove k2_NoGrove k3_NoGrove k5_NoGrove : Option Value}
    (xl_NoGrove : K.lookup X_NoGrove = some (excClassObj nm_NoGrove q_NoGrove X_NoGrove N_NoGrove bs_NoGrove (.ref X_GroveError :: bmV) hdct_NoGrove sn_NoGrove sub_NoGrove ab_NoGrove col_NoGrove dd_NoGrove k0_NoGrove k1_NoGrove k2_NoGrove k3_NoGrove k5_NoGrove "ValueError.__new__"))
    (xc_NoGrove : PySem.W.specialIn K (.ref X_NoGrove) "__call__" = some (some (.builtin "type.__call__"))) (xt_NoGrove : PySem.W.instIn K (.ref X_NoGrove) (.type "type") = some true) (xk_NoGrove : PySem.W.keepIn K (.ref X_NoGrove) = true) (xv_NoGrove : PySem.W.mroIn K X_NoGrove (.type "ValueError") = some true)
    (xe_NoGrove : X_NoGrove ≠ X_GroveError)
    (f1_NoGrove_place : PySem.W.findIn K (.ref X_NoGrove) "__setattr__" = some (some (.builtin "object.__setattr__"))) (f2_NoGrove_place : PySem.W.findIn K (.ref X_NoGrove) "place" = some none) (f3_NoGrove_place : PySem.W.hasDictIn K X_NoGrove = true) (f4_NoGrove_place : PySem.W.findIn K (.ref X_NoGrove) "__getattribute__" = some (some (.builtin "BaseException.__getattribute__"))) (f5_NoGrove_place : PySem.W.findIn K (.ref X_NoGrove) "__getattr__" = some none)
    (m_NoGrove_GroveError : PySem.W.mroIn K X_NoGrove (.ref X_GroveError) = some true)
    (m_NoGrove_NoGrove : PySem.W.mroIn K X_NoGrove (.ref X_NoGrove) = some true)
    (m_NoGrove_BadForm : PySem.W.mroIn K X_NoGrove (.ref X_BadForm) = some false)
    (m_NoGrove_TooMany : PySem.W.mroIn K X_NoGrove (.ref X_TooMany) = some false)
    (m_NoGrove_TooBig : PySem.W.mroIn K X_NoGrove (.ref X_TooBig) = some false)
    (m_NoGrove_NoneFits : PySem.W.mroIn K X_NoGrove (.ref X_NoneFits) = some false)
    (m_NoGrove_NoBook : PySem.W.mroIn K X_NoGrove (.ref X_NoBook) = some false)
    (m_NoGrove_TwiceNamed : PySem.W.mroIn K X_NoGrove (.ref X_TwiceNamed) = some false)
    (m_NoGrove_NoName : PySem.W.mroIn K X_NoGrove (.ref X_NoName) = some false)
    (m_NoGrove_Ring : PySem.W.mroIn K X_NoGrove (.ref X_Ring) = some false)
    (m_NoGrove_BadChanger : PySem.W.mroIn K X_NoGrove (.ref X_BadChanger) = some false)
    (m_NoGrove_NoRecipe : PySem.W.mroIn K X_NoGrove (.ref X_NoRecipe) = some false)
    (m_NoGrove_NotStraight : PySem.W.mroIn K X_NoGrove (.ref X_NotStraight) = some false)
    (m_NoGrove_NoChange : PySem.W.mroIn K X_NoGrove (.ref X_NoChange) = some false)
    (m_NoGrove_NoRow : PySem.W.mroIn K X_NoGrove (.ref X_NoRow) = some false)
    {C_Reading : Addr}
    (cn1 : PySem.W.nsIn K mainGlobals "Reading" = some (some (.ref C_Reading))) (cp1 : PySem.W.plainGet K C_Reading Str.empty = true) (ch1 : PySem.W.hasDictIn K C_Reading = true) (cq1 : PySem.W.plainOver K C_Reading = true) (cs1 : PySem.W.findIn K (.ref C_Reading) "__setattr__" = some (some (.builtin "object.__setattr__"))) (cm1 : PySem.W.makesIn K C_Reading = true) (ck1 : PySem.W.keepIn K (.ref C_Reading) = true)
    (cx1_0 : PySem.W.findIn K (.ref C_Reading) "words" = some none)
    (cx1_1 : PySem.W.findIn K (.ref C_Reading) "letters" = some none)
    (cx1_2 : PySem.W.findIn K (.ref C_Reading) "closed" = some none)
    (cx1_3 : PySem.W.findIn K (.ref C_Reading) "deep" = some none)
    (a1 : PySem.W.nsIn K mainGlobals "_law_text" = some (some (.ref f1))) (l1 : K.lookup f1 = some ⟨oc1, od1, .func (PySem.W.fnOf "_law_text" "_law_text" (defArgs s_l_text) (defBody s_l_text) (defScope s_l_text) .none kV1 dc1 pm1 an1 cd1 ct1), sl1⟩) (c1 : PySem.W.codeIn K cd1 "_law_text" = true) (k1 : PySem.W.keepIn K (.ref f1) = true)
    (a2 : PySem.W.nsIn K mainGlobals "_law_cell_at" = some (some (.ref f2))) (l2 : K.lookup f2 = some ⟨oc2, od2, .func (PySem.W.fnOf "_law_cell_at" "_law_cell_at" (defArgs s_l_cell_at) (defBody s_l_cell_at) (defScope s_l_cell_at) .none kV2 dc2 pm2 an2 cd2 ct2), sl2⟩) (c2 : PySem.W.codeIn K cd2 "_law_cell_at" = true) (k2 : PySem.W.keepIn K (.ref f2) = true)
    (a3 : PySem.W.nsIn K mainGlobals "_law_numbers" = some (some (.ref f3))) (l3 : K.lookup f3 = some ⟨oc3, od3, .func (PySem.W.fnOf "_law_numbers" "_law_numbers" (defArgs s_l_numbers) (defBody s_l_numbers) (defScope s_l_numbers) .none kV3 dc3 pm3 an3 cd3 ct3), sl3⟩) (c3 : PySem.W.codeIn K cd3 "_law_numbers" = true) (k3 : PySem.W.keepIn K (.ref f3) = true)
    (a4 : PySem.W.nsIn K mainGlobals "_law_tag" = some (some (.ref f4))) (l4 : K.lookup f4 = some ⟨oc4, od4, .func (PySem.W.fnOf "_law_tag" "_law_tag" (defArgs s_l_tag) (defBody s_l_tag) (defScope s_l_tag) .none kV4 dc4 pm4 an4 cd4 ct4), sl4⟩) (c4 : PySem.W.codeIn K cd4 "_law_tag" = true) (k4 : PySem.W.keepIn K (.ref f4) = true)
    (a5 : PySem.W.nsIn K mainGlobals "_law_words" = some (some (.ref f5))) (l5 : K.lookup f5 = some ⟨oc5, od5, .func (PySem.W.fnOf "_law_words" "_law_words" (defArgs s_l_words) (defBody s_l_words) (defScope s_l_words) .none kV5 dc5 pm5 an5 cd5 ct5), sl5⟩) (c5 : PySem.W.codeIn K cd5 "_law_words" = true) (k5 : PySem.W.keepIn K (.ref f5) = true)
    (a6 : PySem.W.nsIn K mainGlobals "_law_spoiled" = some (some (.ref f6))) (l6 : K.lookup f6 = some ⟨oc6, od6, .func (PySem.W.fnOf "_law_spoiled" "_law_spoiled" (defArgs s_l_spoiled) (defBody s_l_spoiled) (defScope s_l_spoiled) .none kV6 dc6 pm6 an6 cd6 ct6), sl6⟩) (c6 : PySem.W.codeIn K cd6 "_law_spoiled" = true) (k6 : PySem.W.keepIn K (.ref f6) = true)
    (a7 : PySem.W.nsIn K mainGlobals "_law_bad" = some (some (.ref f7))) (l7 : K.lookup f7 = some ⟨oc7, od7, .func (PySem.W.fnOf "_law_bad" "_law_bad" (defArgs s_l_bad) (defBody s_l_bad) (defScope s_l_bad) .none kV7 dc7 pm7 an7 cd7 ct7), sl7⟩) (c7 : PySem.W.codeIn K cd7 "_law_bad" = true) (k7 : PySem.W.keepIn K (.ref f7) = true)
    (a8 : PySem.W.findIn K (.ref C_Reading) "__init__" = some (some (.ref f8))) (l8 : K.lookup f8 = some ⟨oc8, od8, .func (PySem.W.fnOf "__init__" "Reading.__init__" (defArgs s_Reading___init__) (defBody s_Reading___init__) (defScope s_Reading___init__) .none kV8 dc8 pm8 an8 cd8 ct8), sl8⟩) (c8 : PySem.W.codeIn K cd8 "Reading.__init__" = true) (k8 : PySem.W.keepIn K (.ref f8) = true) (n8 : PySem.W.isFn K (.ref f8) = true)
    (a9 : PySem.W.nsIn K mainGlobals "is_tag" = some (some (.ref f9))) (l9 : K.lookup f9 = some ⟨oc9, od9, .func (PySem.W.fnOf "is_tag" "is_tag" (defArgs s_is_tag) (defBody s_is_tag) (defScope s_is_tag) .none kV9 dc9 pm9 an9 cd9 ct9), sl9⟩) (c9 : PySem.W.codeIn K cd9 "is_tag" = true) (k9 : PySem.W.keepIn K (.ref f9) = true)
    (a10 : PySem.W.findIn K (.ref C_Reading) "at_tree_end" = some (some (.ref f10))) (l10 : K.lookup f10 = some ⟨oc10, od10, .func (PySem.W.fnOf "at_tree_end" "Reading.at_tree_end" (defArgs s_Reading_at_tree_end) (defBody s_Reading_at_tree_end) (defScope s_Reading_at_tree_end) .none kV10 dc10 pm10 an10 cd10 ct10), sl10⟩) (c10 : PySem.W.codeIn K cd10 "Reading.at_tree_end" = true) (k10 : PySem.W.keepIn K (.ref f10) = true) (n10 : PySem.W.isFn K (.ref f10) = true)
    (a11 : PySem.W.findIn K (.ref C_Reading) "end_leaf" = some (some (.ref f11))) (l11 : K.lookup f11 = some ⟨oc11, od11, .func (PySem.W.fnOf "end_leaf" "Reading.end_leaf" (defArgs s_Reading_end_leaf) (defBody s_Reading_end_leaf) (defScope s_Reading_end_leaf) .none kV11 dc11 pm11 an11 cd11 ct11), sl11⟩) (c11 : PySem.W.codeIn K cd11 "Reading.end_leaf" = true) (k11 : PySem.W.keepIn K (.ref f11) = true) (n11 : PySem.W.isFn K (.ref f11) = true)
    (a12 : PySem.W.findIn K (.ref C_Reading) "goes_in" = some (some (.ref f12))) (l12 : K.lookup f12 = some ⟨oc12, od12, .func (PySem.W.fnOf "goes_in" "Reading.goes_in" (defArgs s_Reading_goes_in) (defBody s_Reading_goes_in) (defScope s_Reading_goes_in) .none kV12 dc12 pm12 an12 cd12 ct12), sl12⟩) (c12 : PySem.W.codeIn K cd12 "Reading.goes_in" = true) (k12 : PySem.W.keepIn K (.ref f12) = true) (n12 : PySem.W.isFn K (.ref f12) = true)
    (a13 : PySem.W.findIn K (.ref C_Reading) "goes_out" = some (some (.ref f13))) (l13 : K.lookup f13 = some ⟨oc13, od13, .func (PySem.W.fnOf "goes_out" "Reading.goes_out" (defArgs s_Reading_goes_out) (defBody s_Reading_goes_out) (defScope s_Reading_goes_out) .none kV13 dc13 pm13 an13 cd13 ct13), sl13⟩) (c13 : PySem.W.codeIn K cd13 "Reading.goes_out" = true) (k13 : PySem.W.keepIn K (.ref f13) = true) (n13 : PySem.W.isFn K (.ref f13) = true)
    (a14 : PySem.W.findIn K (.ref C_Reading) "takes" = some (some (.ref f14))) (l14 : K.lookup f14 = some ⟨oc14, od14, .func (PySem.W.fnOf "takes" "Reading.takes" (defArgs s_Reading_takes) (defBody s_Reading_takes) (defScope s_Reading_takes) .none kV14 dc14 pm14 an14 cd14 ct14), sl14⟩) (c14 : PySem.W.codeIn K cd14 "Reading.takes" = true) (k14 : PySem.W.keepIn K (.ref f14) = true) (n14 : PySem.W.isFn K (.ref f14) = true)
    (a15 : PySem.W.findIn K (.ref X_NoGrove) "__init__" = some (some (.ref f15)))
    (l15 : K.lookup f15 = some ⟨oc15, od15, .func (PySem.W.fnOf "__init__" "NoGrove.__init__" (defArgs s_NoGrove___init__) (defBody s_NoGrove___init__) (defScope s_NoGrove___init__) .none kV15 dc15 pm15 an15 cd15 ct15), sl15⟩) (c15 : PySem.W.codeIn K cd15 "NoGrove.__init__" = true) (k15 : PySem.W.keepIn K (.ref f15) = true) (n15 : PySem.W.isFn K (.ref f15) = true)
    (a16 : PySem.W.findIn K (.ref C_Reading) "may_stop" = some (some (.ref f16))) (l16 : K.lookup f16 = some ⟨oc16, od16, .func (PySem.W.fnOf "may_stop" "Reading.may_stop" (defArgs s_Reading_may_stop) (defBody s_Reading_may_stop) (defScope s_Reading_may_stop) .none kV16 dc16 pm16 an16 cd16 ct16), sl16⟩) (c16 : PySem.W.codeIn K cd16 "Reading.may_stop" = true) (k16 : PySem.W.keepIn K (.ref f16) = true) (n16 : PySem.W.isFn K (.ref f16) = true)
    (a17 : PySem.W.nsIn K mainGlobals "grove_of" = some (some (.ref f17))) (l17 : K.lookup f17 = some ⟨oc17, od17, .func (PySem.W.fnOf "grove_of" "grove_of" (defArgs s_grove_of) (defBody s_grove_of) (defScope s_grove_of) .none kV17 dc17 pm17 an17 cd17 ct17), sl17⟩) (c17 : PySem.W.codeIn K cd17 "grove_of" = true) (k17 : PySem.W.keepIn K (.ref f17) = true)
    (a18 : PySem.W.nsIn K mainGlobals "read" = some (some (.ref f18))) (l18 : K.lookup f18 = some ⟨oc18, od18, .func (PySem.W.fnOf "read" "read" (defArgs s_read) (defBody s_read) (defScope s_read) .none kV18 dc18 pm18 an18 cd18 ct18), sl18⟩) (c18 : PySem.W.codeIn K cd18 "read" = true) (k18 : PySem.W.keepIn K (.ref f18) = true)
    (a19 : PySem.W.nsIn K mainGlobals "_law_asked" = some (some (.ref f19))) (l19 : K.lookup f19 = some ⟨oc19, od19, .func (PySem.W.fnOf "_law_asked" "_law_asked" (defArgs s_l_asked) (defBody s_l_asked) (defScope s_l_asked) .none kV19 dc19 pm19 an19 cd19 ct19), sl19⟩) (c19 : PySem.W.codeIn K cd19 "_law_asked" = true) (k19 : PySem.W.keepIn K (.ref f19) = true)
    (a20 : PySem.W.nsIn K mainGlobals "_law_grove" = some (some (.ref f20))) (l20 : K.lookup f20 = some ⟨oc20, od20, .func (PySem.W.fnOf "_law_grove" "_law_grove" (defArgs s_l_grove) (defBody s_l_grove) (defScope s_l_grove) .none kV20 dc20 pm20 an20 cd20 ct20), sl20⟩) (c20 : PySem.W.codeIn K cd20 "_law_grove" = true) (k20 : PySem.W.keepIn K (.ref f20) = true)
    (a21 : PySem.W.nsIn K mainGlobals "_law_is_grove" = some (some (.ref f21))) (l21 : K.lookup f21 = some ⟨oc21, od21, .func (PySem.W.fnOf "_law_is_grove" "_law_is_grove" (defArgs s_l_is_grove) (defBody s_l_is_grove) (defScope s_l_is_grove) .none kV21 dc21 pm21 an21 cd21 ct21), sl21⟩) (c21 : PySem.W.codeIn K cd21 "_law_is_grove" = true) (k21 : PySem.W.keepIn K (.ref f21) = true)
    (a22 : PySem.W.nsIn K mainGlobals "law" = some (some (.ref f22))) (l22 : K.lookup f22 = some ⟨oc22, od22, .func (PySem.W.fnOf "law" "law" (defArgs s_law) (defBody s_law) (defScope s_law) .none kV22 dc22 pm22 an22 cd22 ct22), sl22⟩) (c22 : PySem.W.codeIn K cd22 "law" = true) (k22 : PySem.W.keepIn K (.ref f22) = true)
    {tk0 : Tok} (y0 : PySem.W.nsIn K mainGlobals "LONGEST_TAG" = some (some (.int 8 tk0)))
    (z0 : PySem.W.nsIn K mainGlobals "ValueError" = some none) (z1 : PySem.W.nsIn K mainGlobals "all" = some none) (z2 : PySem.W.nsIn K mainGlobals "bool" = some none) (z3 : PySem.W.nsIn K mainGlobals "enumerate" = some none) (z4 : PySem.W.nsIn K mainGlobals "int" = some none) (z5 : PySem.W.nsIn K mainGlobals "isinstance" = some none) (z6 : PySem.W.nsIn K mainGlobals "len" = some none) (z7 : PySem.W.nsIn K mainGlobals "max" = some none) (z8 : PySem.W.nsIn K mainGlobals "min" = some none) (z9 : PySem.W.nsIn K mainGlobals "range" = some none) (z10 : PySem.W.nsIn K mainGlobals "str" = some none) (z11 : PySem.W.nsIn K mainGlobals "tuple" = some none) :
    ∃ fd : FuncData, (∀ (s : Shared) (v : Value), BindsTo s fd ⟨[v], []⟩ [("_law_script", v)]) ∧ ∀ base : Heap, K.In base → base.Ns mainGlobals mg → FnOk l.prog w K mg base CX0 86 fa fd ["_law_script"] (Fg.spLaw K) := by
  have e := hfa.symm.trans (PySem.W.mg_of X G a22)
  cases e
  have B : ∀ x ∈ blts, mg x = none := List.forall_mem_cons.mpr ⟨PySem.W.mg_none_of X G z0, List.forall_mem_cons.mpr ⟨PySem.W.mg_none_of X G z1, List.forall_mem_cons.mpr ⟨PySem.W.mg_none_of X G z2, List.forall_mem_cons.mpr ⟨PySem.W.mg_none_of X G z3, List.forall_mem_cons.mpr ⟨PySem.W.mg_none_of X G z4, List.forall_mem_cons.mpr ⟨PySem.W.mg_none_of X G z5, List.forall_mem_cons.mpr ⟨PySem.W.mg_none_of X G z6, List.forall_mem_cons.mpr ⟨PySem.W.mg_none_of X G z7, List.forall_mem_cons.mpr ⟨PySem.W.mg_none_of X G z8, List.forall_mem_cons.mpr ⟨PySem.W.mg_none_of X G z9, List.forall_mem_cons.mpr ⟨PySem.W.mg_none_of X G z10, List.forall_mem_cons.mpr ⟨PySem.W.mg_none_of X G z11, List.forall_mem_nil _⟩⟩⟩⟩⟩⟩⟩⟩⟩⟩⟩⟩
  have Cc_LONGEST_TAG : ∃ t : Tok, mg "LONGEST_TAG" = some (.int 8 t) := ⟨_, PySem.W.mg_of X G y0⟩
  have F1 := fun_mk (st := s_l_text) l1 c1 k1
  have b1 := F1.binds (ps := ["_law_words_here"]) fun _ _ _ _ _ _ us hl => by obtain ⟨_, rfl⟩ := len1 hl; rfl
  have F2 := fun_mk (st := s_l_cell_at) l2 c2 k2
  have b2 := F2.binds (ps := ["_law_script", "_law_k"]) fun _ _ _ _ _ _ us hl => by obtain ⟨_, _, rfl⟩ := len2 hl; rfl
  have F3 := fun_mk (st := s_l_numbers) l3 c3 k3
  have b3 := F3.binds (ps := ["_law_script", "_law_many"]) fun _ _ _ _ _ _ us hl => by obtain ⟨_, _, rfl⟩ := len2 hl; rfl
  have F4 := fun_mk (st := s_l_tag) l4 c4 k4
  have b4 := F4.binds (ps := ["_law_number"]) fun _ _ _ _ _ _ us hl => by obtain ⟨_, rfl⟩ := len1 hl; rfl
  have F5 := fun_mk (st := s_l_words) l5 c5 k5
  have b5 := F5.binds (ps := ["_law_script"]) fun _ _ _ _ _ _ us hl => by obtain ⟨_, rfl⟩ := len1 hl; rfl
  have F6 := fun_mk (st := s_l_spoiled) l6 c6 k6
  have b6 := F6.binds (ps := ["_law_text_here", "_law_cell"]) fun _ _ _ _ _ _ us hl => by obtain ⟨_, _, rfl⟩ := len2 hl; rfl
  have F7 := fun_mk (st := s_l_bad) l7 c7 k7
  have b7 := F7.binds (ps := ["_law_text_here"]) fun _ _ _ _ _ _ us hl => by obtain ⟨_, rfl⟩ := len1 hl; rfl
  have F8 := fun_mk (st := s_Reading___init__) l8 c8 k8
  have b8 := F8.binds (ps := ["self"]) fun _ _ _ _ _ _ us hl => by obtain ⟨_, rfl⟩ := len1 hl; rfl
  have F9 := fun_mk (st := s_is_tag) l9 c9 k9
  have b9 := F9.binds (ps := ["text"]) fun _ _ _ _ _ _ us hl => by obtain ⟨_, rfl⟩ := len1 hl; rfl
  have F10 := fun_mk (st := s_Reading_at_tree_end) l10 c10 k10
  have b10 := F10.binds (ps := ["self"]) fun _ _ _ _ _ _ us hl => by obtain ⟨_, rfl⟩ := len1 hl; rfl
  have F11 := fun_mk (st := s_Reading_end_leaf) l11 c11 k11
  have b11 := F11.binds (ps := ["self"]) fun _ _ _ _ _ _ us hl => by obtain ⟨_, rfl⟩ := len1 hl; rfl
  have F12 := fun_mk (st := s_Reading_goes_in) l12 c12 k12
  have b12 := F12.binds (ps := ["self"]) fun _ _ _ _ _ _ us hl => by obtain ⟨_, rfl⟩ := len1 hl; rfl
  have F13 := fun_mk (st := s_Reading_goes_out) l13 c13 k13
  have b13 := F13.binds (ps := ["self"]) fun _ _ _ _ _ _ us hl => by obtain ⟨_, rfl⟩ := len1 hl; rfl
  have F14 := fun_mk (st := s_Reading_takes) l14 c14 k14
  have b14 := F14.binds (ps := ["self", "sign"]) fun _ _ _ _ _ _ us hl => by obtain ⟨_, _, rfl⟩ := len2 hl; rfl
  have F15 := fun_mk (st := s_NoGrove___init__) l15 c15 k15
  have b15 := F15.binds (ps := ["self", "place"]) fun _ _ _ _ _ _ us hl => by obtain ⟨_, _, rfl⟩ := len2 hl; rfl
  have F16 := fun_mk (st := s_Reading_may_stop) l16 c16 k16
  have b16 := F16.binds (ps := ["self"]) fun _ _ _ _ _ _ us hl => by obtain ⟨_, rfl⟩ := len1 hl; rfl
  have F17 := fun_mk (st := s_grove_of) l17 c17 k17
  have b17 := F17.binds (ps := ["words"]) fun _ _ _ _ _ _ us hl => by obtain ⟨_, rfl⟩ := len1 hl; rfl
  have F18 := fun_mk (st := s_read) l18 c18 k18
  have b18 := F18.binds (ps := ["text"]) fun _ _ _ _ _ _ us hl => by obtain ⟨_, rfl⟩ := len1 hl; rfl
  have F19 := fun_mk (st := s_l_asked) l19 c19 k19
  have b19 := F19.binds (ps := ["_law_text_here"]) fun _ _ _ _ _ _ us hl => by obtain ⟨_, rfl⟩ := len1 hl; rfl
  have F20 := fun_mk (st := s_l_grove) l20 c20 k20
  have b20 := F20.binds (ps := ["_law_text_here"]) fun _ _ _ _ _ _ us hl => by obtain ⟨_, rfl⟩ := len1 hl; rfl
  have F21 := fun_mk (st := s_l_is_grove) l21 c21 k21
  have b21 := F21.binds (ps := ["_law_found"]) fun _ _ _ _ _ _ us hl => by obtain ⟨_, rfl⟩ := len1 hl; rfl
  have F22 := fun_mk (st := s_law) l22 c22 k22
  refine ⟨PySem.W.fnOf "law" "law" (defArgs s_law) (defBody s_law) (defScope s_law) .none kV22 dc22 pm22 an22 cd22 ct22, fun s v => .of_eq rfl, fun base _ _ => ?_⟩
  have xc : XC K mg X_GroveError X_NoGrove X_BadForm X_TooMany X_TooBig X_NoneFits X_NoBook X_TwiceNamed X_NoName X_Ring X_BadChanger X_NoRecipe X_NotStraight X_NoChange X_NoRow := ⟨PySem.W.mg_of X G xn_GroveError, PySem.W.mg_of X G xn_NoGrove, PySem.W.mg_of X G xn_BadForm, PySem.W.mg_of X G xn_TooMany, PySem.W.mg_of X G xn_TooBig, PySem.W.mg_of X G xn_NoneFits, PySem.W.mg_of X G xn_NoBook, PySem.W.mg_of X G xn_TwiceNamed, PySem.W.mg_of X G xn_NoName, PySem.W.mg_of X G xn_Ring, PySem.W.mg_of X G xn_BadChanger, PySem.W.mg_of X G xn_NoRecipe, PySem.W.mg_of X G xn_NotStraight, PySem.W.mg_of X G xn_NoChange, PySem.W.mg_of X G xn_NoRow, ⟨xb1, xb2, xb3⟩, xb4, xb5, ⟨d1_GroveError, d2_GroveError, d3_GroveError⟩, ⟨d1_NoGrove, d2_NoGrove, d3_NoGrove⟩, ⟨d1_BadForm, d2_BadForm, d3_BadForm⟩, ⟨d1_TooMany, d2_TooMany, d3_TooMany⟩, ⟨d1_TooBig, d2_TooBig, d3_TooBig⟩, ⟨d1_NoneFits, d2_NoneFits, d3_NoneFits⟩, ⟨d1_NoBook, d2_NoBook, d3_NoBook⟩, ⟨d1_TwiceNamed, d2_TwiceNamed, d3_TwiceNamed⟩, ⟨d1_NoName, d2_NoName, d3_NoName⟩, ⟨d1_Ring, d2_Ring, d3_Ring⟩, ⟨d1_BadChanger, d2_BadChanger, d3_BadChanger⟩, ⟨d1_NoRecipe, d2_NoRecipe, d3_NoRecipe⟩, ⟨d1_NotStraight, d2_NotStraight, d3_NotStraight⟩, ⟨d1_NoChange, d2_NoChange, d3_NoChange⟩, ⟨d1_NoRow, d2_NoRow, d3_NoRow⟩, ⟨⟨_, _, _, _, _, _, _, _, _, _, _, _, _, _, _, xl_NoGrove⟩, ⟨⟨_, _, _, _, _, _, _, _, _, xg1, xg2, xg3, xg4⟩⟩, xc_NoGrove, xt_NoGrove, xk_NoGrove⟩, ⟨f1_NoGrove_place, f2_NoGrove_place, f3_NoGrove_place, f4_NoGrove_place, f5_NoGrove_place, d2_NoGrove⟩, xv_NoGrove, xe_NoGrove, m_NoGrove_GroveError, m_NoGrove_NoGrove, m_NoGrove_BadForm, m_NoGrove_TooMany, m_NoGrove_TooBig, m_NoGrove_NoneFits, m_NoGrove_NoBook, m_NoGrove_TwiceNamed, m_NoGrove_NoName, m_NoGrove_Ring, m_NoGrove_BadChanger, m_NoGrove_NoRecipe, m_NoGrove_NotStraight, m_NoGrove_NoChange, m_NoGrove_NoRow⟩
  have c_Reading : K08.RdC K C_Reading := ⟨⟨cp1, ch1, cq1, cs1⟩, cx1_0, cx1_1, cx1_2, cx1_3⟩
  have g_l_text : Has l.prog w K mg base "_law_text" ["_law_words_here"] 1 (Fg.spText K) := ⟨⟨f1, _, ok_l_text B  F1, b1, k1, PySem.W.mg_of X G a1⟩⟩
  have g_l_cell_at : Has l.prog w K mg base "_law_cell_at" ["_law_script", "_law_k"] 1 (Fg.spCell K) := ⟨⟨f2, _, ok_l_cell_at B  F2, b2, k2, PySem.W.mg_of X G a2⟩⟩
  have g_l_numbers : Has l.prog w K mg base "_law_numbers" ["_law_script", "_law_many"] 2 (Fg.spNums K) := ⟨⟨f3, _, ok_l_numbers B g_l_cell_at F3, b3, k3, PySem.W.mg_of X G a3⟩⟩
  have g_l_tag : Has l.prog w K mg base "_law_tag" ["_law_number"] 1 (Fg.spTag) := ⟨⟨f4, _, ok_l_tag B  F4, b4, k4, PySem.W.mg_of X G a4⟩⟩
  have g_l_words : Has l.prog w K mg base "_law_words" ["_law_script"] 3 (Fg.spLWords K) := ⟨⟨f5, _, ok_l_words B g_l_cell_at g_l_numbers g_l_tag F5, b5, k5, PySem.W.mg_of X G a5⟩⟩
  have g_l_spoiled : Has l.prog w K mg base "_law_spoiled" ["_law_text_here", "_law_cell"] 1 (K08.spSpoilT) := ⟨⟨f6, _, ok_l_spoiled B  F6, b6, k6, PySem.W.mg_of X G a6⟩⟩
  have g_l_bad : Has l.prog w K mg base "_law_bad" ["_law_text_here"] 1 (K08.spBadT) := ⟨⟨f7, _, ok_l_bad B  F7, b7, k7, PySem.W.mg_of X G a7⟩⟩
  have g_Reading : HasC l.prog w K mg base C_Reading "Reading" ["self"] 1 (K08.spInit C_Reading) := ⟨⟨f8, _, ok_Reading___init__ B c_Reading  F8, b8, ⟨cm1, a8, n8, ck1⟩, PySem.W.mg_of X G cn1⟩⟩
  have g_is_tag : Has l.prog w K mg base "is_tag" ["text"] 1 (Fg.spIsTag) := ⟨⟨f9, _, ok_is_tag B Cc_LONGEST_TAG  F9, b9, k9, PySem.W.mg_of X G a9⟩⟩
  have g_Reading_at_tree_end : HasM l.prog w K mg base C_Reading "at_tree_end" ["self"] 1 (K08.spAtEnd C_Reading) := ⟨⟨f10, _, ok_Reading_at_tree_end B c_Reading  F10, b10, ⟨a10, n10, k10⟩⟩⟩
  have g_Reading_end_leaf : HasM l.prog w K mg base C_Reading "end_leaf" ["self"] 1 (K08.spEndLeaf C_Reading) := ⟨⟨f11, _, ok_Reading_end_leaf B c_Reading  F11, b11, ⟨a11, n11, k11⟩⟩⟩
  have g_Reading_goes_in : HasM l.prog w K mg base C_Reading "goes_in" ["self"] 1 (K08.spGoesIn C_Reading) := ⟨⟨f12, _, ok_Reading_goes_in B c_Reading  F12, b12, ⟨a12, n12, k12⟩⟩⟩
  have g_Reading_goes_out : HasM l.prog w K mg base C_Reading "goes_out" ["self"] 2 (K08.spGoesOut C_Reading) := ⟨⟨f13, _, ok_Reading_goes_out B c_Reading g_Reading_end_leaf F13, b13, ⟨a13, n13, k13⟩⟩⟩
  have g_Reading_takes : HasM l.prog w K mg base C_Reading "takes" ["self", "sign"] 3 (K08.spTakes C_Reading) := ⟨⟨f14, _, ok_Reading_takes B c_Reading g_is_tag g_Reading_at_tree_end g_Reading_end_leaf g_Reading_goes_in g_Reading_goes_out F14, b14, ⟨a14, n14, k14⟩⟩⟩
  have x_NoGrove : XMk l.prog w K mg base X_NoGrove X_GroveError "NoGrove" ["self", "place"] 1 (K08.spXInit X_NoGrove) := ⟨⟨f15, _, ok_NoGrove___init__ B xc  F15, b15, a15, n15⟩, xc.top_NoGrove, xc.n_NoGrove⟩
  have g_Reading_may_stop : HasM l.prog w K mg base C_Reading "may_stop" ["self"] 2 (K08.spMayStop C_Reading) := ⟨⟨f16, _, ok_Reading_may_stop B c_Reading g_Reading_at_tree_end F16, b16, ⟨a16, n16, k16⟩⟩⟩
  have g_grove_of : HasX l.prog w K mg base "grove_of" ["words"] 3 (K08.spGroveX K X_NoGrove) := ⟨⟨f17, _, ok_grove_of B xc g_is_tag x_NoGrove F17, b17, k17, PySem.W.mg_of X G a17⟩⟩
  have g_read : HasX l.prog w K mg base "read" ["text"] 4 (K08.spReadX K X_NoGrove) := ⟨⟨f18, _, ok_read B c_Reading xc g_Reading g_Reading_takes x_NoGrove g_Reading_may_stop g_Reading_end_leaf g_grove_of F18, b18, k18, PySem.W.mg_of X G a18⟩⟩
  have g_l_asked : Has l.prog w K mg base "_law_asked" ["_law_text_here"] 5 (K08.spAsked K) := ⟨⟨f19, _, ok_l_asked B xc g_read F19, b19, k19, PySem.W.mg_of X G a19⟩⟩
  have g_l_grove : Has l.prog w K mg base "_law_grove" ["_law_text_here"] 1 (K08.spGroveT K) := ⟨⟨f20, _, ok_l_grove B  F20, b20, k20, PySem.W.mg_of X G a20⟩⟩
  have g_l_is_grove : Has l.prog w K mg base "_law_is_grove" ["_law_found"] 1 (K08.spIsGrove K) := ⟨⟨f21, _, ok_l_is_grove B  F21, b21, k21, PySem.W.mg_of X G a21⟩⟩
  exact ok_law B g_l_text g_l_words g_l_spoiled g_l_cell_at g_l_bad g_l_asked g_l_grove g_l_is_grove F22
theorem walk {l : PySem.W.OpenLaw} {q : Program} {loose : List Str} {XP : (Str → Option Value) → Heap → Prop} {YP : World → Heap → Prop} {d : DefRec} {K : Params → PySem.W.Frag} (hn : l.most = some 63) (hdf : d.params.defaults = [])
    (hY : ∀ (w : World) (h : Heap), YP w h → (K w.params).In h)
    (F : ∀ (w : World) (mg : Str → Option Value) (fa : Addr) (h : Heap), (K w.params).In h → h.Ns mainGlobals mg → mg d.name = some (.ref fa) →
      ∃ fd : FuncData, (∀ (s : Shared) (u : Value), BindsTo s fd ⟨[u], []⟩ [("_law_script", u)]) ∧ ∀ base : Heap, (K w.params).In base → base.Ns mainGlobals mg → FnOk l.prog w (K w.params) mg base CX0 86 fa fd ["_law_script"] (Fg.spLaw (K w.params))) :
    PySem.W.WalkO q loose XP YP l.row.toRowW d [] (fun f vs => PySem.call f vs) :=
  L2.walk_of (n := 63) (k := 86) (x := "_law_script") (CX := fun _ => CX0) (sp := fun w => Fg.spLaw (K w.params)) hn (by decide) hdf ⟨rfl, by decide, by decide⟩ hY F (fun _ _ a ns hl _ hS => ⟨a, ns, rfl, hS, hl, fun _ => rfl⟩) fun _ _ _ _ _ z => z
end K08
def PySem.W.Fast.tw7584415966704967657 := 0
def PySem.W.Fast.tw151373389605152291 := 0
def PySem.W.Fast.tw5247678215889946171 := 0
def PySem.W.Fast.tw13401553028529305988 := 0
def PySem.W.Fast.tw1844659621470584328 := 0
def PySem.W.Fast.tw6618968156863738487 := 0
def PySem.W.Fast.tw4422558684613165276 := 0
def PySem.W.Fast.tw17301800573997193251 := 0
def PySem.W.Fast.tw3223284663020025087 := 0
def PySem.W.Fast.tw559994908434564501 := 0
def PySem.W.Fast.tw6990126924254325611 := 0
def PySem.W.Fast.tw4188128897602959550 := 0
def PySem.W.Fast.tw15260302280159112271 := 0
def PySem.W.Fast.tw12349349348433705216 := 0
def PySem.W.Fast.tw6989806323023243915 := 0
def PySem.W.Fast.tw7766526263081059548 := 0
def PySem.W.Fast.tw12080731456580835366 := 0
def PySem.W.Fast.tw15432905283224720547 := 0
def PySem.W.Fast.tw7067027237318811766 := 0
def PySem.W.Fast.tw5892288953218178256 := 0
def PySem.W.Fast.tw7961075240329531235 := 0
def PySem.W.Fast.tw9861658825883299073 := 0
def PySem.W.Fast.tw16207230078659830761 := 0
def PySem.W.Fast.tw8116888464180487936 := 0
def PySem.W.Fast.tw17115837069145458130 := 0
def PySem.W.Fast.tw13707887402275328830 := 0
def PySem.W.Fast.tw1306203308936472495 := 0
def PySem.W.Fast.tw12313882690395527885 := 0
def PySem.W.Fast.tw132656361259840445 := 0
def PySem.W.Fast.tw15988855771613060519 := 0
def PySem.W.Fast.tw11586922932297328014 := 0
def PySem.W.Fast.tw5595207992695665388 := 0
def PySem.W.Fast.tw9425569413355067233 := 0
def PySem.W.Fast.tw537093369240459846 := 0
def PySem.W.Fast.tw9751558223891586432 := 0
def PySem.W.Fast.tw4867261198933953514 := 0
def PySem.W.Fast.tw286525103193922613 := 0
def PySem.W.Fast.tw11633800364574859683 := 0
def PySem.W.Fast.tw5758865033264792192 := 0
def PySem.W.Fast.tw5390397231361705911 := 0
def PySem.W.Fast.tw15404059637336608594 := 0
def PySem.W.Fast.tw12167256067475609776 := 0
def PySem.W.Fast.tw12500293494713184565 := 0
def PySem.W.Fast.tw8990534306475892747 := 0
def PySem.W.Fast.tw8993457515581755114 := 0
def PySem.W.Fast.tw16091458429013287439 := 0
def PySem.W.Fast.tw11944995449230478086 := 0
def PySem.W.Fast.tw5290992781508719182 := 0
def PySem.W.Fast.tw5724570463843279680 := 0
def PySem.W.Fast.tw14974726798253902839 := 0
def PySem.W.Fast.tw1913674222977948343 := 0
def PySem.W.Fast.tw3947798625682684549 := 0
def PySem.W.Fast.tw17695115468223417135 := 0
def PySem.W.Fast.tw8535984920293396406 := 0
def PySem.W.Fast.tw4217805245578385856 := 0
def PySem.W.Fast.tw13334782221406205026 := 0
def PySem.W.Fast.tw1061103232728789158 := 0
def PySem.W.Fast.tw1263814597643861039 := 0
def PySem.W.Fast.tw3532948572653057843 := 0
def PySem.W.Fast.tw9376062293976533018 := 0
def PySem.W.Fast.tw9323235253948209677 := 0
def PySem.W.Fast.tw6372615230649726103 := 0
def PySem.W.Fast.tw14382673120500366440 := 0
def PySem.W.Fast.tw6631391783336785905 := 0
def PySem.W.Fast.tw14995258882801776192 := 0
def PySem.W.Fast.tw12943332142619249491 := 0
def PySem.W.Fast.tw3917667968005071175 := 0
def PySem.W.Fast.tw5480070760539249326 := 0
def PySem.W.Fast.tw2019070831639837628 := 0
def PySem.W.Fast.tw17771995638823165159 := 0
def PySem.W.Fast.tw10520793673738248901 := 0
def PySem.W.Fast.tw8108741652292997880 := 0
def PySem.W.Fast.tw13727905214104457679 := 0
def PySem.W.Fast.tw7292018742753385247 := 0
def PySem.W.Fast.tw17594124281189378291 := 0
def PySem.W.Fast.tw7694925218864178844 := 0
def PySem.W.Fast.tw5170445421739768109 := 0
def PySem.W.Fast.tw6945298039922051211 := 0
def PySem.W.Fast.tw6281940348455709910 := 0
def PySem.W.Fast.tw1667497291122446519 := 0
def PySem.W.Fast.tw4178190978204730670 := 0
def PySem.W.Fast.tw3939935908300706758 := 0
def PySem.W.Fast.tw4850004721660602224 := 0
def PySem.W.Fast.tw4239820718052050662 := 0
def PySem.W.Fast.tw4465177534805890715 := 0
def PySem.W.Fast.tw4524681410722902144 := 0
def PySem.W.Fast.tw17171305232547579126 := 0
def PySem.W.Fast.tw7096205634973611521 := 0
def PySem.W.Fast.tw13337460856186115301 := 0
def PySem.W.Fast.tw16966460816405896046 := 0
def PySem.W.Fast.tw4863206782115145324 := 0
def PySem.W.Fast.tw5259189887613784019 := 0
def PySem.W.Fast.tw11055237237594443853 := 0
def PySem.W.Fast.tw8016686916396204982 := 0
def PySem.W.Fast.tw14576054550173131891 := 0
def PySem.W.Fast.tw5716728711689030894 := 0
def PySem.W.Fast.tw18089243014639899493 := 0
def PySem.W.Fast.tw3901420078681346417 := 0
def PySem.W.Fast.tw5672923921316113665 := 0
def PySem.W.Fast.tw10374488793165761046 := 0
def PySem.W.Fast.tw745878064966696724 := 0
def PySem.W.Fast.tw8474801328064978379 := 0
def PySem.W.Fast.tw5029389007689947892 := 0
def PySem.W.Fast.tw131708351766435868 := 0
def PySem.W.Fast.tw9228479346063300851 := 0
def PySem.W.Fast.tw2899208177304125803 := 0
def PySem.W.Fast.tw7687313915025434523 := 0
def PySem.W.Fast.tw7754974985764727079 := 0
def PySem.W.Fast.tw11207729053883707067 := 0
def PySem.W.Fast.tw11858998075024868334 := 0
def PySem.W.Fast.tw17703519102441722078 := 0
def PySem.W.Fast.tw961948161828595899 := 0
def PySem.W.Fast.tw3791410448626823286 := 0
def PySem.W.Fast.tw7500273793003129185 := 0
def PySem.W.Fast.tw5374403455035961125 := 0
def PySem.W.Fast.tw9788072979344665222 := 0
def PySem.W.Fast.tw11492717827077705698 := 0
def PySem.W.Fast.tw5243560467562853333 := 0
def PySem.W.Fast.tw17649552921826628550 := 0
def PySem.W.Fast.tw1362256957762630891 := 0
def PySem.W.Fast.tw2624933770533866935 := 0
def PySem.W.Fast.tw7013303440386841776 := 0
def PySem.W.Fast.tw4347329213327996565 := 0
def PySem.W.Fast.tw2068133759084700962 := 0
def PySem.W.Fast.tw7404234592639528521 := 0
def PySem.W.Fast.tw4271166881769463326 := 0
def PySem.W.Fast.tw18292336193619318136 := 0
def PySem.W.Fast.tw18144807821020943762 := 0
def PySem.W.Fast.tw5671354174697724988 := 0
def PySem.W.Fast.tw18384158165400267505 := 0
def PySem.W.Fast.tw7354639883931137168 := 0
def PySem.W.Fast.tw18116852974474586701 := 0
def PySem.W.Fast.tw13359554368667775592 := 0
def PySem.W.Fast.tw5855165371187409236 := 0
def PySem.W.Fast.tw11894211983985844128 := 0
def PySem.W.Fast.tw5149356457102510762 := 0
def PySem.W.Fast.tw11238291380316828403 := 0
def PySem.W.Fast.tw910695605668515976 := 0
def PySem.W.Fast.tw13854129822891928026 := 0
def PySem.W.Fast.tw9892458781528967985 := 0
def PySem.W.Fast.tw10433474685589946637 := 0
def PySem.W.Fast.tw5963871806840703761 := 0
def PySem.W.Fast.tw11176236090976330122 := 0
def PySem.W.Fast.tw3519329605363710394 := 0
def PySem.W.Fast.tw18021889461830337479 := 0
def PySem.W.Fast.tw227474521627285561 := 0
def PySem.W.Fast.tw14742729687256957946 := 0
def PySem.W.Fast.tw14529044908570423575 := 0
def PySem.W.Fast.tw900712570528577328 := 0
def PySem.W.Fast.tw12024029642121437540 := 0
def PySem.W.Fast.tw6417281469523126373 := 0
def PySem.W.Fast.tw3443624446007590629 := 0
def PySem.W.Fast.tw18187122165592847480 := 0
def PySem.W.Fast.tw9911987136259713987 := 0
def PySem.W.Fast.tw6939902429013536052 := 0
def PySem.W.Fast.tw15149220854913292208 := 0
def PySem.W.Fast.tw2890611464023405563 := 0
def PySem.W.Fast.tw7030917845212643944 := 0
def PySem.W.Fast.tw14537367689099904811 := 0
def PySem.W.Fast.tw9463053388003583514 := 0
def PySem.W.Fast.tw8054817047868447718 := 0
def PySem.W.Fast.tw6791013318734091034 := 0
def PySem.W.Fast.tw291762636864206788 := 0
def PySem.W.Fast.tw9298354290927300108 := 0
def PySem.W.Fast.tw15485122938468665605 := 0
def PySem.W.Fast.tw17003158412278999181 := 0
def PySem.W.Fast.tw11916252833564060101 := 0
def PySem.W.Fast.tw11513303326026251672 := 0
def PySem.W.Fast.tw16337318811451793919 := 0
def PySem.W.Fast.tw1166139416580108950 := 0
def PySem.W.Fast.tw17733334158277680323 := 0
def PySem.W.Fast.tw7878387103244450578 := 0
def PySem.W.Fast.tw11969104372490076076 := 0
def PySem.W.Fast.tw329398373959232112 := 0
def PySem.W.Fast.tw16407812187470728913 := 0
def PySem.W.Fast.tw12790059094779409721 := 0
def PySem.W.Fast.tw17728468228371832248 := 0
def PySem.W.Fast.tw2214242226498963230 := 0
def PySem.W.Fast.tw2633569121692707728 := 0
def PySem.W.Fast.tw16297921892472561788 := 0
def PySem.W.Fast.tw1607512254757167305 := 0
def PySem.W.Fast.tw13862144677662750486 := 0
def PySem.W.Fast.tw1981400812889469865 := 0
def PySem.W.Fast.tw1493144485429866671 := 0
def PySem.W.Fast.tw8478728076967950105 := 0
def PySem.W.Fast.tw15797930891565447162 := 0
def PySem.W.Fast.tw2154686094794244948 := 0
def PySem.W.Fast.tw1566701461003006076 := 0
def PySem.W.Fast.tw2111890954635106707 := 0
def PySem.W.Fast.tw16004159353444740339 := 0
def PySem.W.Fast.tw11990561833300799237 := 0
def PySem.W.Fast.tw12675129701364125439 := 0
def PySem.W.Fast.tw7683151478215418196 := 0
def PySem.W.Fast.tw5320331299812713901 := 0
def PySem.W.Fast.tw2963123151903825396 := 0
def PySem.W.Fast.tw11726753774135413413 := 0
def PySem.W.Fast.tw980707006581143274 := 0
def PySem.W.Fast.tw2667423176905866766 := 0
def PySem.W.Fast.tw962093820681372142 := 0
def PySem.W.Fast.tw14620122270436271601 := 0
def PySem.W.Fast.tw13626262654168523591 := 0
def PySem.W.Fast.tw13957956868728090876 := 0
def PySem.W.Fast.tw209523598556176524 := 0
def PySem.W.Fast.tw17397923230920257519 := 0
def PySem.W.Fast.tw3488145464572072167 := 0
def PySem.W.Fast.tw11212481783548350551 := 0
def PySem.W.Fast.tw18019915675465802033 := 0
def PySem.W.Fast.tw1263567971601915278 := 0
def PySem.W.Fast.tw8882413034564758665 := 0
def PySem.W.Fast.tw16506780037866385309 := 0
def PySem.W.Fast.tw7910621617757964103 := 0
def PySem.W.Fast.tw3071866128510179325 := 0
def PySem.W.Fast.tw17006136494375220965 := 0
def PySem.W.Fast.tw3306335795104615275 := 0
def PySem.W.Fast.tw1875158260150592814 := 0
def PySem.W.Fast.tw14305246852332158624 := 0
def PySem.W.Fast.tw10490277792060113882 := 0
def PySem.W.Fast.tw11767978098409536142 := 0
def PySem.W.Fast.tw4125186649165355905 := 0
def PySem.W.Fast.tw12813328054917623141 := 0
def PySem.W.Fast.tw16541852065092742318 := 0
def PySem.W.Fast.tw2186193665439630429 := 0
def PySem.W.Fast.tw13887472844829259801 := 0
def PySem.W.Fast.tw205606990319459945 := 0
def PySem.W.Fast.tw18420146544277596686 := 0
def PySem.W.Fast.tw12068883858078552333 := 0
def PySem.W.Fast.tw17780962049571441180 := 0
def PySem.W.Fast.tw17345370256330605865 := 0
def PySem.W.Fast.tw9097785751283406951 := 0
def PySem.W.Fast.tw4600711138606417391 := 0
def PySem.W.Fast.tw12430186518199031363 := 0
def PySem.W.Fast.tw8174768352158153401 := 0
def PySem.W.Fast.tw16309416391790243671 := 0
def PySem.W.Fast.tw8927553993870369788 := 0
def PySem.W.Fast.tw5486018745641991575 := 0
def PySem.W.Fast.tw8155938515439594604 := 0
def PySem.W.Fast.tw17412458953809691182 := 0
def PySem.W.Fast.tw3507697633033710532 := 0
def PySem.W.Fast.tw521428573687701024 := 0
def PySem.W.Fast.tw10878344091256209655 := 0
def PySem.W.Fast.tw12733914079059883603 := 0
def PySem.W.Fast.tw17344723705282760058 := 0
def PySem.W.Fast.tw1357518864401048768 := 0
def PySem.W.Fast.tw7299301765420319295 := 0
def PySem.W.Fast.tw8224197990853147936 := 0
def PySem.W.Fast.tw15798858809525671692 := 0
def PySem.W.Fast.tw15506827977459228474 := 0
def PySem.W.Fast.tw11161760961166459855 := 0
def PySem.W.Fast.tw12064343785377289475 := 0
def PySem.W.Fast.tw5963325161628582517 := 0
def PySem.W.Fast.tw16813222062720589266 := 0
def PySem.W.Fast.tw3260049569672362984 := 0
def PySem.W.Fast.tw12086488214157278839 := 0
def PySem.W.Fast.tw25159855717587950 := 0
def PySem.W.Fast.tw16651418792488627172 := 0
def PySem.W.Fast.tw2635873097340982152 := 0
def PySem.W.Fast.tw8123289702352480049 := 0
def PySem.W.Fast.tw15217492230583177145 := 0
def PySem.W.Fast.tw11917246413575095455 := 0
def PySem.W.Fast.tw5758823743414805897 := 0
def PySem.W.Fast.tw11410905196127123828 := 0
def PySem.W.Fast.tw8803918854572206259 := 0
def PySem.W.Fast.tw4490759255187214586 := 0
def PySem.W.Fast.tw8018902624836631917 := 0
def PySem.W.Fast.tw10961079681044799637 := 0
def PySem.W.Fast.tw12782925296117980923 := 0
def PySem.W.Fast.tw17526796773616314695 := 0
def PySem.W.Fast.tw8355547581057681142 := 0
def PySem.W.Fast.tw11926956505101319054 := 0
def PySem.W.Fast.tw14127972324832325262 := 0
def PySem.W.Fast.tw7062255118891418068 := 0
def PySem.W.Fast.tw7319305207233222440 := 0
def PySem.W.Fast.tw3408726065532373480 := 0
def PySem.W.Fast.tw14142476636628977646 := 0
def PySem.W.Fast.tw881823756460696978 := 0
def PySem.W.Fast.tw12798756426019868184 := 0
def PySem.W.Fast.tw7591785197602600547 := 0
def PySem.W.Fast.tw2546553017349020229 := 0
def PySem.W.Fast.tw9225947464274011847 := 0
def PySem.W.Fast.tw10877463688166721263 := 0
def PySem.W.Fast.tw17852210498431700303 := 0
def PySem.W.Fast.tw2043108547141341824 := 0
def PySem.W.Fast.tw5605995373525360287 := 0
def PySem.W.Fast.tw883224134324229440 := 0
def PySem.W.Fast.tw571601124863236228 := 0
def PySem.W.Fast.tw6309103980215208671 := 0
def PySem.W.Fast.tw7429401016359566321 := 0
def PySem.W.Fast.tw12556525110436314246 := 0
def PySem.W.Fast.tw16305140405990650493 := 0
def PySem.W.Fast.tw1655600952887385235 := 0
def PySem.W.Fast.tw930810240913416186 := 0
def PySem.W.Fast.tw9788339210023416588 := 0
def PySem.W.Fast.tw12944356536646418863 := 0
def PySem.W.Fast.tw14818589177673334949 := 0
def PySem.W.Fast.tw2054635183734347258 := 0
def PySem.W.Fast.tw13642234300637349612 := 0
def PySem.W.Fast.tw2882091283475579186 := 0
def PySem.W.Fast.tw2881619084800201699 := 0
def PySem.W.Fast.tw6771995917704163235 := 0
def PySem.W.Fast.tw13277702210430194238 := 0
def PySem.W.Fast.tw15108152924868043975 := 0
def PySem.W.Fast.tw15880269318583896220 := 0
def PySem.W.Fast.tw15298398246442221845 := 0
def PySem.W.Fast.tw11789507088536741568 := 0
def PySem.W.Fast.tw11428559265441257335 := 0
def PySem.W.Fast.tw9055875688702139711 := 0
def PySem.W.Fast.tw13447030774299550074 := 0
def PySem.W.Fast.tw9006420345014293884 := 0
def PySem.W.Fast.tw1620456386724900543 := 0
def PySem.W.Fast.tw17696703344607892991 := 0
def PySem.W.Fast.tw8608701792922371072 := 0
def PySem.W.Fast.tw7797882063054868845 := 0
def PySem.W.Fast.tw14038541844000391220 := 0
def PySem.W.Fast.tw12983031642061219596 := 0
def PySem.W.Fast.tw3503794763711325750 := 0
def PySem.W.Fast.tw2629096133523723998 := 0
def PySem.W.Fast.tw148871727538456631 := 0
def PySem.W.Fast.tw2977897766679389870 := 0
def PySem.W.Fast.tw10408168178558457277 := 0
def PySem.W.Fast.tw4158079614306948479 := 0
def PySem.W.Fast.tw959651914088791658 := 0
def PySem.W.Fast.tw5318898355086739752 := 0
def PySem.W.Fast.tw5139815159308130223 := 0
def PySem.W.Fast.tw14798190403688067755 := 0
def PySem.W.Fast.tw5318390053594603997 := 0
def PySem.W.Fast.tw16675619036542093072 := 0
def PySem.W.Fast.tw13777027829073934718 := 0
def PySem.W.Fast.tw15747716346416261 := 0
def PySem.W.Fast.tw597746847863835078 := 0
def PySem.W.Fast.tw10452514420623553160 := 0
def PySem.W.Fast.tw6759487443943774471 := 0
def PySem.W.Fast.tw4632465837912879687 := 0
def PySem.W.Fast.tw8151494952823646102 := 0
def PySem.W.Fast.tw2256541270311115087 := 0
def PySem.W.Fast.tw17156595568041616809 := 0
def PySem.W.Fast.tw6936323751026778074 := 0
def PySem.W.Fast.tw6362939335117114524 := 0
def PySem.W.Fast.tw14998517036320256201 := 0
def PySem.W.Fast.tw12368486011062932135 := 0
def PySem.W.Fast.tw11026633537674872498 := 0
def PySem.W.Fast.tw11641592795875033124 := 0
def PySem.W.Fast.tw14805695888878921000 := 0
def PySem.W.Fast.tw9399949433063115787 := 0
def PySem.W.Fast.tw13119964240877777627 := 0
def PySem.W.Fast.tw14458614785115551710 := 0
def PySem.W.Fast.tw13261852855756997578 := 0
def PySem.W.Fast.tw9908274240049802418 := 0
def PySem.W.Fast.tw4339649983463469072 := 0
def PySem.W.Fast.tw4525209211990954789 := 0
def PySem.W.Fast.tw6967955876886883840 := 0
def PySem.W.Fast.tw8373947613492223643 := 0
def PySem.W.Fast.tw1671409489969134850 := 0
def PySem.W.Fast.tw4591548044503602313 := 0
def PySem.W.Fast.tw13725430118645645999 := 0
def PySem.W.Fast.tw4645651020900831610 := 0
def PySem.W.Fast.tw17516567244156449496 := 0
def PySem.W.Fast.tw1052508048066435776 := 0
def PySem.W.Fast.tw16276674947850913250 := 0
def PySem.W.Fast.tw13501918277081065311 := 0
def PySem.W.Fast.tw4169342792503084771 := 0
def PySem.W.Fast.tw15561298943213521809 := 0
def PySem.W.Fast.tw12025516487406518721 := 0
def PySem.W.Fast.tw279930691991346012 := 0
def PySem.W.Fast.tw17363760555433063782 := 0
def PySem.W.Fast.tw3748186915862019792 := 0
def PySem.W.Fast.tw7063268063321917338 := 0
def PySem.W.Fast.tw16570860000590608259 := 0
def PySem.W.Fast.tw12400578692477655206 := 0
def PySem.W.Fast.tw16277031693604881870 := 0
def PySem.W.Fast.tw9535782555930824745 := 0
def PySem.W.Fast.tw7398033814209723941 := 0
def PySem.W.Fast.tw15094979159833727156 := 0
def PySem.W.Fast.tw3633194484130359041 := 0
def PySem.W.Fast.tw7543087054959607526 := 0
def PySem.W.Fast.tw4402364542459495880 := 0
def PySem.W.Fast.tw8819755152817148366 := 0
def PySem.W.Fast.tw9746601170850113638 := 0
def PySem.W.Fast.tw2591852155499289475 := 0
def PySem.W.Fast.tw8437914254893512599 := 0
def PySem.W.Fast.tw11708560484510300427 := 0
def PySem.W.Fast.tw11492881702878650382 := 0
def PySem.W.Fast.tw8576247591589793254 := 0
def PySem.W.Fast.tw3166574593942153174 := 0
def PySem.W.Fast.tw6484936782378735486 := 0
def PySem.W.Fast.tw5514101791218450289 := 0
def PySem.W.Fast.tw8217448132182581469 := 0
def PySem.W.Fast.tw6685764122490401230 := 0
def PySem.W.Fast.tw6469975012185874923 := 0
def PySem.W.Fast.tw7795266898959167180 := 0
def PySem.W.Fast.tw10262420257497552547 := 0
def PySem.W.Fast.tw6502134090234248635 := 0
def PySem.W.Fast.tw16127342359327057793 := 0
def PySem.W.Fast.tw15375429821470053217 := 0
def PySem.W.Fast.tw11090322096915165281 := 0
def PySem.W.Fast.tw5554676997024849344 := 0
def PySem.W.Fast.tw7298324800491988622 := 0
def PySem.W.Fast.tw10858949224995892458 := 0
def PySem.W.Fast.tw2254683526041430178 := 0
def PySem.W.Fast.tw17143605707384793614 := 0
def PySem.W.Fast.tw4193291230395121474 := 0
def PySem.W.Fast.tw201569553434504796 := 0
def PySem.W.Fast.tw1913445831145048067 := 0
def PySem.W.Fast.tw8989991095811605661 := 0
def PySem.W.Fast.tw6549892242158862621 := 0
def PySem.W.Fast.tw9766201416334546449 := 0
def PySem.W.Fast.tw2071662960288816991 := 0
def PySem.W.Fast.tw1876882543374886015 := 0
def PySem.W.Fast.tw10467782170048238081 := 0
def PySem.W.Fast.tw2691725988181112144 := 0
def PySem.W.Fast.tw4227103612034678398 := 0
def PySem.W.Fast.tw12424531423046605057 := 0
def PySem.W.Fast.tw8284582278420856117 := 0
def PySem.W.Fast.tw5115848968383696841 := 0
def PySem.W.Fast.tw12047904579238183813 := 0
def PySem.W.Fast.tw16348615113968236026 := 0
def PySem.W.Fast.tw610617188484314819 := 0
def PySem.W.Fast.tw9738347588948985217 := 0
def PySem.W.Fast.tw14824304472952746110 := 0
def PySem.W.Fast.tw17313297360442574359 := 0
def PySem.W.Fast.tw14520741916210100994 := 0
def PySem.W.Fast.tw16952223664686959016 := 0
def PySem.W.Fast.tw11732811951528446203 := 0
def PySem.W.Fast.tw14771320578803533694 := 0
def PySem.W.Fast.tw5861652359511952261 := 0
def PySem.W.Fast.tw1727861415460398906 := 0
def PySem.W.Fast.tw7732714943016091827 := 0
def PySem.W.Fast.tw10486051850441934431 := 0
def PySem.W.Fast.tw13188215852156425094 := 0
def PySem.W.Fast.tw2015649322718021128 := 0
def PySem.W.Fast.tw12011640112304137171 := 0
def PySem.W.Fast.tw17757501873565936455 := 0
def PySem.W.Fast.tw8980280668108906862 := 0
def PySem.W.Fast.tw8103001563121481308 := 0
def PySem.W.Fast.tw12024267551778476297 := 0
def PySem.W.Fast.tw11436546483504224429 := 0
def PySem.W.Fast.tw624366830056721685 := 0
def PySem.W.Fast.tw8149638390593150835 := 0
def PySem.W.Fast.tw14453630521200815487 := 0
def PySem.W.Fast.tw1265254572563683965 := 0
def PySem.W.Fast.tw15860389880124220146 := 0
def PySem.W.Fast.tw16507261511601145984 := 0
def PySem.W.Fast.tw9368079853225359833 := 0
def PySem.W.Fast.tw2044068342656137636 := 0
def PySem.W.Fast.tw4783832169318778874 := 0
def PySem.W.Fast.tw6456390661720465001 := 0
def PySem.W.Fast.tw4664447598964694994 := 0
def PySem.W.Fast.tw6584753972324414099 := 0
def PySem.W.Fast.tw1071165840116016462 := 0
def PySem.W.Fast.tw2638506167381214442 := 0
def PySem.W.Fast.tw601457647356990094 := 0
def PySem.W.Fast.tw16577699001735354118 := 0
def PySem.W.Fast.tw5063474659367306700 := 0
def PySem.W.Fast.tw2413981107439382420 := 0
def PySem.W.Fast.tw15386504077524976505 := 0
def PySem.W.Fast.tw9843039868302410949 := 0
def PySem.W.Fast.tw17095168625689089730 := 0
def PySem.W.Fast.tw17454277194400587119 := 0
def PySem.W.Fast.tw10601175501998589132 := 0
def PySem.W.Fast.tw4552617608965398778 := 0
def PySem.W.Fast.tw3753052228151751902 := 0
open PySem PySem.W PyProof.Rows
set_option maxRecDepth 100000 in
set_option maxHeartbeats 0 in
theorem PySem.Challenge.cw_formgrove_k08_groves_read_holds : PySem.Challenge.rw_formgrove_k08_groves_read.Holds := by
  w_on; o_law; k_head; (case hw => w_witness2)
  k_fill
  refine K08.walk (l := PySem.Challenge.rw_formgrove_k08_groves_read) rfl rfl (fun w h Y => PySem.W.kIn_of Y) ?F
  case F =>
    intro w mg fa h KX G hmg
    refine' K08.all_mk KX G hmg ?xn_GroveError ?xn_NoGrove ?xn_BadForm ?xn_TooMany ?xn_TooBig ?xn_NoneFits ?xn_NoBook ?xn_TwiceNamed ?xn_NoName ?xn_Ring ?xn_BadChanger ?xn_NoRecipe ?xn_NotStraight ?xn_NoChange ?xn_NoRow ?xg1 ?xg2 ?xg3 ?xg4 ?xb1 ?xb2 ?xb3 ?xb4 ?xb5 ?d1_GroveError ?d2_GroveError ?d3_GroveError ?d1_NoGrove ?d2_NoGrove ?d3_NoGrove ?d1_BadForm ?d2_BadForm ?d3_BadForm ?d1_TooMany ?d2_TooMany ?d3_TooMany ?d1_TooBig ?d2_TooBig ?d3_TooBig ?d1_NoneFits ?d2_NoneFits ?d3_NoneFits ?d1_NoBook ?d2_NoBook ?d3_NoBook ?d1_TwiceNamed ?d2_TwiceNamed ?d3_TwiceNamed ?d1_NoName ?d2_NoName ?d3_NoName ?d1_Ring ?d2_Ring ?d3_Ring ?d1_BadChanger ?d2_BadChanger ?d3_BadChanger ?d1_NoRecipe ?d2_NoRecipe ?d3_NoRecipe ?d1_NotStraight ?d2_NotStraight ?d3_NotStraight ?d1_NoChange ?d2_NoChange ?d3_NoChange ?d1_NoRow ?d2_NoRow ?d3_NoRow ?xl_NoGrove ?xc_NoGrove ?xt_NoGrove ?xk_NoGrove ?xv_NoGrove ?xe_NoGrove ?f1_NoGrove_place ?f2_NoGrove_place ?f3_NoGrove_place ?f4_NoGrove_place ?f5_NoGrove_place ?m_NoGrove_GroveError ?m_NoGrove_NoGrove ?m_NoGrove_BadForm ?m_NoGrove_TooMany ?m_NoGrove_TooBig ?m_NoGrove_NoneFits ?m_NoGrove_NoBook ?m_NoGrove_TwiceNamed ?m_NoGrove_NoName ?m_NoGrove_Ring ?m_NoGrove_BadChanger ?m_NoGrove_NoRecipe ?m_NoGrove_NotStraight ?m_NoGrove_NoChange ?m_NoGrove_NoRow ?cn1 ?cp1 ?ch1 ?cq1 ?cs1 ?cm1 ?ck1 ?cx1_0 ?cx1_1 ?cx1_2 ?cx1_3 ?a1 ?l1 ?c1 ?k1 ?a2 ?l2 ?c2 ?k2 ?a3 ?l3 ?c3 ?k3 ?a4 ?l4 ?c4 ?k4 ?a5 ?l5 ?c5 ?k5 ?a6 ?l6 ?c6 ?k6 ?a7 ?l7 ?c7 ?k7 ?a8 ?l8 ?c8 ?k8 ?n8 ?a9 ?l9 ?c9 ?k9 ?a10 ?l10 ?c10 ?k10 ?n10 ?a11 ?l11 ?c11 ?k11 ?n11 ?a12 ?l12 ?c12 ?k12 ?n12 ?a13 ?l13 ?c13 ?k13 ?n13 ?a14 ?l14 ?c14 ?k14 ?n14 ?a15 ?l15 ?c15 ?k15 ?n15 ?a16 ?l16 ?c16 ?k16 ?n16 ?a17 ?l17 ?c17 ?k17 ?a18 ?l18 ?c18 ?k18 ?a19 ?l19 ?c19 ?k19 ?a20 ?l20 ?c20 ?k20 ?a21 ?l21 ?c21 ?k21 ?a22 ?l22 ?c22 ?k22 ?y0 ?z0 ?z1 ?z2 ?z3 ?z4 ?z5 ?z6 ?z7 ?z8 ?z9 ?z10 ?z11
    (case xn_GroveError => k_is)
    (case xn_NoGrove => k_is)
    (case xn_BadForm => k_is)
    (case xn_TooMany => k_is)
    (case xn_TooBig => k_is)
    (case xn_NoneFits => k_is)
    (case xn_NoBook => k_is)
    (case xn_TwiceNamed => k_is)
    (case xn_NoName => k_is)
    (case xn_Ring => k_is)
    (case xn_BadChanger => k_is)
    (case xn_NoRecipe => k_is)
    (case xn_NotStraight => k_is)
    (case xn_NoChange => k_is)
    (case xn_NoRow => k_is)
    (case xg1 => k_is)
    (case xg2 => k_is)
    (case xg3 => rfl)
    (case xg4 => k_is)
    (case xb1 => k_is)
    (case xb2 => k_is)
    (case xb3 => k_is)
    (case xb4 => k_is)
    (case xb5 => k_is)
    (case d1_GroveError => k_is)
    (case d2_GroveError => k_is)
    (case d3_GroveError => k_is)
    (case d1_NoGrove => k_is)
    (case d2_NoGrove => k_is)
    (case d3_NoGrove => k_is)
    (case d1_BadForm => k_is)
    (case d2_BadForm => k_is)
    (case d3_BadForm => k_is)
    (case d1_TooMany => k_is)
    (case d2_TooMany => k_is)
    (case d3_TooMany => k_is)
    (case d1_TooBig => k_is)
    (case d2_TooBig => k_is)
    (case d3_TooBig => k_is)
    (case d1_NoneFits => k_is)
    (case d2_NoneFits => k_is)
    (case d3_NoneFits => k_is)
    (case d1_NoBook => k_is)
    (case d2_NoBook => k_is)
    (case d3_NoBook => k_is)
    (case d1_TwiceNamed => k_is)
    (case d2_TwiceNamed => k_is)
    (case d3_TwiceNamed => k_is)
    (case d1_NoName => k_is)
    (case d2_NoName => k_is)
    (case d3_NoName => k_is)
    (case d1_Ring => k_is)
    (case d2_Ring => k_is)
    (case d3_Ring => k_is)
    (case d1_BadChanger => k_is)
    (case d2_BadChanger => k_is)
    (case d3_BadChanger => k_is)
    (case d1_NoRecipe => k_is)
    (case d2_NoRecipe => k_is)
    (case d3_NoRecipe => k_is)
    (case d1_NotStraight => k_is)
    (case d2_NotStraight => k_is)
    (case d3_NotStraight => k_is)
    (case d1_NoChange => k_is)
    (case d2_NoChange => k_is)
    (case d3_NoChange => k_is)
    (case d1_NoRow => k_is)
    (case d2_NoRow => k_is)
    (case d3_NoRow => k_is)
    (case xl_NoGrove => k_is)
    (case xc_NoGrove => k_is)
    (case xt_NoGrove => k_is)
    (case xk_NoGrove => k_is)
    (case xv_NoGrove => k_is)
    (case xe_NoGrove => decide)
    (case f1_NoGrove_place => k_is)
    (case f2_NoGrove_place => k_is)
    (case f3_NoGrove_place => k_is)
    (case f4_NoGrove_place => k_is)
    (case f5_NoGrove_place => k_is)
    (case m_NoGrove_GroveError => k_is)
    (case m_NoGrove_NoGrove => k_is)
    (case m_NoGrove_BadForm => k_is)
    (case m_NoGrove_TooMany => k_is)
    (case m_NoGrove_TooBig => k_is)
    (case m_NoGrove_NoneFits => k_is)
    (case m_NoGrove_NoBook => k_is)
    (case m_NoGrove_TwiceNamed => k_is)
    (case m_NoGrove_NoName => k_is)
    (case m_NoGrove_Ring => k_is)
    (case m_NoGrove_BadChanger => k_is)
    (case m_NoGrove_NoRecipe => k_is)
    (case m_NoGrove_NotStraight => k_is)
    (case m_NoGrove_NoChange => k_is)
    (case m_NoGrove_NoRow => k_is)
    (case cn1 => k_is)
    (case cp1 => k_is)
    (case ch1 => k_is)
    (case cq1 => k_is)
    (case cs1 => k_is)
    (case cm1 => k_is)
    (case ck1 => k_is)
    (case cx1_0 => k_is)
    (case cx1_1 => k_is)
    (case cx1_2 => k_is)
    (case cx1_3 => k_is)
    (case a1 => k_is)
    (case l1 => k_is)
    (case c1 => k_is)
    (case k1 => k_is)
    (case a2 => k_is)
    (case l2 => k_is)
    (case c2 => k_is)
    (case k2 => k_is)
    (case a3 => k_is)
    (case l3 => k_is)
    (case c3 => k_is)
    (case k3 => k_is)
    (case a4 => k_is)
    (case l4 => k_is)
    (case c4 => k_is)
    (case k4 => k_is)
    (case a5 => k_is)
    (case l5 => k_is)
    (case c5 => k_is)
    (case k5 => k_is)
    (case a6 => k_is)
    (case l6 => k_is)
    (case c6 => k_is)
    (case k6 => k_is)
    (case a7 => k_is)
    (case l7 => k_is)
    (case c7 => k_is)
    (case k7 => k_is)
    (case a8 => k_is)
    (case l8 => k_is)
    (case c8 => k_is)
    (case k8 => k_is)
    (case n8 => k_is)
    (case a9 => k_is)
    (case l9 => k_is)
    (case c9 => k_is)
    (case k9 => k_is)
    (case a10 => k_is)
    (case l10 => k_is)
    (case c10 => k_is)
    (case k10 => k_is)
    (case n10 => k_is)
    (case a11 => k_is)
    (case l11 => k_is)
    (case c11 => k_is)
    (case k11 => k_is)
    (case n11 => k_is)
    (case a12 => k_is)
    (case l12 => k_is)
    (case c12 => k_is)
    (case k12 => k_is)
    (case n12 => k_is)
    (case a13 => k_is)
    (case l13 => k_is)
    (case c13 => k_is)
    (case k13 => k_is)
    (case n13 => k_is)
    (case a14 => k_is)
    (case l14 => k_is)
    (case c14 => k_is)
    (case k14 => k_is)
    (case n14 => k_is)
    (case a15 => k_is)
    (case l15 => k_is)
    (case c15 => k_is)
    (case k15 => k_is)
    (case n15 => k_is)
    (case a16 => k_is)
    (case l16 => k_is)
    (case c16 => k_is)
    (case k16 => k_is)
    (case n16 => k_is)
    (case a17 => k_is)
    (case l17 => k_is)
    (case c17 => k_is)
    (case k17 => k_is)
    (case a18 => k_is)
    (case l18 => k_is)
    (case c18 => k_is)
    (case k18 => k_is)
    (case a19 => k_is)
    (case l19 => k_is)
    (case c19 => k_is)
    (case k19 => k_is)
    (case a20 => k_is)
    (case l20 => k_is)
    (case c20 => k_is)
    (case k20 => k_is)
    (case a21 => k_is)
    (case l21 => k_is)
    (case c21 => k_is)
    (case k21 => k_is)
    (case a22 => k_is)
    (case l22 => k_is)
    (case c22 => k_is)
    (case k22 => k_is)
    (case y0 => k_is)
    (case z0 => k_is)
    (case z1 => k_is)
    (case z2 => k_is)
    (case z3 => k_is)
    (case z4 => k_is)
    (case z5 => k_is)
    (case z6 => k_is)
    (case z7 => k_is)
    (case z8 => k_is)
    (case z9 => k_is)
    (case z10 => k_is)
    (case z11 => k_is)
