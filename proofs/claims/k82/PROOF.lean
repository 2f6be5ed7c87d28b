import PyProof.Rows.All
import Wide.All
import OpenK.AllK
import Wide.FinOn
import Lean
import PyProof.EqAt
import PyProof.EqKinds
import PyProof.TupleCall
import PySem.Challenge.RW_formgrove_k82_no_changes
set_option Elab.async false
set_option linter.all false
set_option maxRecDepth 100000
/-! THE HAND LAYER, for ints, bools, texts, own classes, LISTS and tuples (index, slices, in, append, pop ..), calls, loops. Paste it whole ahead of your own text; what your proof does not reach may be deleted. -/
namespace L2
open PySem PySem.Spec PyProof.Rows

/-- a key: an int or a str -/
abbrev Key := Sum Int Str
def keyIs : Key → Value → Bool
  | .inl k, v => Value.isInt k v
  | .inr x, v => Value.isStrOf x v
def keyH (w : World) : Key → Int
  | .inl k => hashInt k
  | .inr x => hashStr w x
theorem keyIs_shape : ∀ {k : Key} {v : Value}, keyIs k v = true → (∃ i t, k = Sum.inl i ∧ v = Value.int i t) ∨ (∃ x t, k = Sum.inr x ∧ v = Value.str x t)
  | .inl i, v, h => by
    obtain ⟨t, e⟩ := Value.isInt_shape (k := i) (v := v) h
    exact .inl ⟨i, t, rfl, e⟩
  | .inr x, v, h => by
    obtain ⟨t, e⟩ := Value.isStrOf_shape (x := x) (v := v) h
    exact .inr ⟨x, t, rfl, e⟩
theorem keyIs_int (i : Int) (t : Tok) : keyIs (.inl i) (.int i t) = true := by simp [keyIs, Value.isInt]
theorem keyIs_str (x : Str) (t : Tok) : keyIs (.inr x) (.str x t) = true := by simp [keyIs, Value.isStrOf]
theorem key_ll (a b : Int) : decide ((Sum.inl a : Key) = Sum.inl b) = (a == b) := by
  by_cases e : a = b
  · subst e; simp
  · have h : ¬ (Sum.inl a : Key) = Sum.inl b := fun q => e (Sum.inl.inj q)
    rw [decide_eq_false h]
    exact (beq_eq_false_iff_ne.mpr e).symm
theorem key_rr (a b : Str) : decide ((Sum.inr a : Key) = Sum.inr b) = decide (a = b) := by
  by_cases e : a = b
  · subst e; simp
  · have h : ¬ (Sum.inr a : Key) = Sum.inr b := fun q => e (Sum.inr.inj q)
    rw [decide_eq_false h, decide_eq_false e]
theorem key_lr (a : Int) (b : Str) : decide ((Sum.inl a : Key) = Sum.inr b) = false := decide_eq_false (fun q => nomatch q)
theorem key_rl (a : Str) (b : Int) : decide ((Sum.inr a : Key) = Sum.inl b) = false := decide_eq_false (fun q => nomatch q)

def mixKind (prog : Program) (w : World) : PySem.KeyKind prog w Key where
  is := keyIs
  hash := keyH w
  inj := fun v a b ha hb => by
    rcases keyIs_shape ha with ⟨i, t, rfl, rfl⟩ | ⟨x, t, rfl, rfl⟩
    · rcases keyIs_shape hb with ⟨j, u, rfl, e⟩ | ⟨y, u, rfl, e⟩
      · injection e with e1 _; rw [e1]
      · exact nomatch e
    · rcases keyIs_shape hb with ⟨j, u, rfl, e⟩ | ⟨y, u, rfl, e⟩
      · exact nomatch e
      · injection e with e1 _; rw [e1]
  byValue := fun k v h => by
    rcases keyIs_shape h with ⟨i, t, rfl, rfl⟩ | ⟨x, t, rfl, rfl⟩ <;> rfl
  pyHash := fun hv h => by
    rcases keyIs_shape hv with ⟨i, t, rfl, rfl⟩ | ⟨x, t, rfl, rfl⟩
    · exact wpAny_pyHash_int h
    · exact wpAny_pyHash_str h
  eqBool := fun hu hv h => by
    rcases keyIs_shape hu with ⟨i, t, rfl, rfl⟩ | ⟨x, t, rfl, rfl⟩
    · rcases keyIs_shape hv with ⟨j, u, rfl, rfl⟩ | ⟨y, u, rfl, rfl⟩
      · rw [key_ll] at h; exact wpAny_eqBool_int h
      · rw [key_lr] at h; exact SeqAt.EqAt.int_str i t y u _ _ _ _ h
    · rcases keyIs_shape hv with ⟨j, u, rfl, rfl⟩ | ⟨y, u, rfl, rfl⟩
      · rw [key_rl] at h; exact SeqAt.EqAt.str_int x t j u _ _ _ _ h
      · rw [key_rr] at h; exact wpAny_eqBool_str h
  «strs» := fun k x t v h => by
    rcases keyIs_shape h with ⟨i, u, rfl, e⟩ | ⟨y, u, rfl, e⟩
    · exact nomatch e
    · injection e with e1 _
      subst e1
      cases v <;> rfl

theorem mixKind_int (prog : Program) (w : World) (i : Int) (t : Tok) : (mixKind prog w).is (.inl i) (.int i t) = true := keyIs_int i t
theorem mixKind_str (prog : Program) (w : World) (x : Str) (t : Tok) : (mixKind prog w).is (.inr x) (.str x t) = true := keyIs_str x t
end L2

namespace L2
open PySem PySem.Spec PyProof.Rows

/-- a value, without the heap -/
inductive V where
  | non | bl (b : Bool) | int (i : Int) | str (x : Str) | byt (b : Array UInt8) | flt (b : UInt64) | ref (a : Addr) | ty (n : String)
  deriving DecidableEq

def RelV : V → Value → Prop
  | .non, u => u = Value.none
  | .bl b, u => u = Value.bool b
  | .int i, u => ∃ t, u = Value.int i t
  | .str x, u => ∃ t, u = Value.str x t
  | .byt b, u => ∃ t, u = Value.bytes b t
  | .flt b, u => ∃ t, u = Value.float b t
  | .ref a, u => u = Value.ref a
  | .ty n, u => u = Value.type n

abbrev Vals : List V → List Value → Prop := Paired RelV
theorem Vals.length {xs : List V} {us : List Value} (r : Vals xs us) : xs.length = us.length := Paired.length r
theorem Vals.get : ∀ {xs : List V} {us : List Value} {i : Nat} {x : V}, Vals xs us → xs[i]? = some x → ∃ u, us[i]? = some u ∧ RelV x u
  | _, _, _, _, .nil, e => by simp at e
  | _, _, 0, _, .cons r _, e => by simp at e; subst e; exact ⟨_, rfl, r⟩
  | _, _, i + 1, x, .cons _ t, e => by
    obtain ⟨u, h1, h2⟩ := Vals.get (i := i) (x := x) t (by simpa using e)
    exact ⟨u, by simpa using h1, h2⟩
theorem Vals.set {x : V} {u : Value} (r : RelV x u) : ∀ {xs : List V} {us : List Value} (i : Nat), Vals xs us → Vals (xs.set i x) (us.set i u)
  | _, _, _, .nil => .nil
  | _, _, 0, .cons _ t => .cons r t
  | _, _, i + 1, .cons q t => .cons q (Vals.set r i t)
theorem Vals.append : ∀ {xs ys : List V} {us ws : List Value}, Vals xs us → Vals ys ws → Vals (xs ++ ys) (us ++ ws)
  | _, _, _, _, .nil, s => s
  | _, _, _, _, .cons r t, s => .cons r (Vals.append t s)
theorem Vals.take : ∀ {xs : List V} {us : List Value} (n : Nat), Vals xs us → Vals (xs.take n) (us.take n)
  | _, _, 0, _ => .nil
  | _, _, _ + 1, .nil => .nil
  | _, _, n + 1, .cons r t => .cons r (Vals.take n t)
theorem Vals.drop : ∀ {xs : List V} {us : List Value} (n : Nat), Vals xs us → Vals (xs.drop n) (us.drop n)
  | _, _, 0, r => r
  | _, _, _ + 1, .nil => .nil
  | _, _, n + 1, .cons _ t => Vals.drop n t
def RelO : Option V → Option Value → Prop
  | some v, some u => RelV v u
  | none, none => True
  | _, _ => False
def KV {κ : Type} : List (κ × V) → List (κ × Value) → Prop := Paired fun (p : κ × V) (q : κ × Value) => p.1 = q.1 ∧ RelV p.2 q.2

/-- a key of a dict (00_mix): an int or a text -/
def kV : Key → V
  | .inl i => .int i
  | .inr x => .str x

/-- what stands at a tracked address -/
inductive HO where
  /-- a list -/
  | lst (xs : List V)
  /-- a tuple (never changes) -/
  | tup (xs : List V)
  /-- a dict whose keys are ints and texts; one whose keys are tuples of ints and texts (the empty one is both) -/
  | dK (kvs : List (Key × V)) | dT (kvs : List (List Key × V))
  /-- a set of ints: its members, its size -/
  | set (S : Int → Bool) (n : Nat)
  /-- an instance of the class at C, its dict at dx, its attributes -/
  | ins (C dx : Addr) (fs : List (Str × V))
  /-- the dict of the instance at x -/
  | own (x : Addr)
  /-- the dict of an exception -/
  | xd (fs : List (Str × V))
  /-- a bound method, f of x -/
  | met (f x : Addr)
  /-- a range object lo, lo + 1, .. below hi -/
  | rng (lo hi : Int)
  /-- a thing that is known to the object (the script; a dict while a loop walks it): read, never written while it is so -/
  | frz (o : Obj) (u : HO)
  /-- a code object's table -/
  | tbl (ps : Array Value)
  /-- any other thing, by what is true of its one object (a def of one's own: SetO a S n := HO.ext fun h => ..) -/
  | ext (φ : Heap → Prop)

abbrev Hp := Addr → Option HO
def upd (H : Hp) (a : Addr) (o : HO) : Hp := fun b => if b = a then some o else H b
theorem upd_same {H : Hp} {a : Addr} {o : HO} : upd H a o a = some o := by unfold upd; rw [if_pos rfl]
theorem upd_ne {H : Hp} {a b : Addr} {o : HO} (h : b ≠ a) : upd H a o b = H b := by unfold upd; rw [if_neg h]
/-- two objects of different content stand apart -/
theorem ne_of {H : Hp} {a b : Addr} {o u : HO} (h : H a = some o) (h' : H b = some u) (d : o ≠ u) : a ≠ b := by
  intro e; subst e; rw [h] at h'; exact d (Option.some.inj h')
theorem ne_of_none {H : Hp} {a b : Addr} {o : HO} (h : H a = some o) (h' : H b = none) : a ≠ b := by
  intro e; subst e; rw [h] at h'; cases h'

section
variable (P : Program) (w : World)
def ObjOk (H : Hp) (h : Heap) (a : Addr) : HO → Prop
  | .lst xs => xs.length ≤ sizeLine ∧ ∃ (its : List Value) (n : Nat), Vals xs its ∧ h.get? a = some { cls := .type "list", data := .seq its.toArray n }
  | .tup xs => xs.length ≤ sizeLine ∧ ∃ its : List Value, Vals xs its ∧ IsTup h a its.toArray
  | .dK kvs => kvs.length ≤ sizeLine ∧ (a == sysModules) = false ∧ ∃ vs, KV kvs vs ∧ h.DictOf (mixKind P w) a vs
  | .dT kvs => kvs.length ≤ sizeLine ∧ (a == sysModules) = false ∧ ∃ xs : List (List Key × Addr × Value),
      Paired (fun (p : List Key × V) (q : List Key × Addr × Value) => p.1 = q.1 ∧ H q.2.1 = some (.tup (p.1.map kV)) ∧ RelV p.2 q.2.2) kvs xs ∧
      ∃ o es ep, h.get? a = some o ∧ o.ExactDict ∧ o.data = .dict es ep ∧ es.toList = xs.map (entryOfKey (tupleKind (mixKind P w))) ∧ (xs.map (·.1)).Nodup
  | .set S n => h.SetOf (intKind P w) a S n
  | .ins C dx fs => H dx = some (.own a) ∧ fs.length ≤ 1000 ∧ dx ≠ a ∧ h.get? a = some (PySem.W.instObj C dx) ∧
      ∃ mA, h.Ns1 dx mA ∧ (∀ f, RelO (fs.lookup f) (mA f)) ∧ PySem.Within mA (fs.map (·.1))
  | .own _ => ∃ o, h.get? a = some o
  | .xd fs => ∃ mA, h.Ns1 a mA ∧ ∀ f, RelO (fs.lookup f) (mA f)
  | .rng lo hi => ∃ t u v, h.get? a = some { cls := .type "range", data := .fields #[.int lo t, .int hi u, .int 1 v] }
  | .frz o u => h.get? a = some o ∧ ObjOk H h a u
  | .tbl ps => h.get? a = some { cls := .none, data := .fields ps }
  | .met f x => h.get? a = some (PySem.W.methodObj (.ref f) (.ref x))
  | .ext φ => φ h ∧ (∃ o, h.get? a = some o) ∧ ∀ h1 h2 : Heap, φ h1 → (∀ o, h1.get? a = some o → h2.get? a = some o) → φ h2
/-- the abstract heap is held -/
def HOk (H : Hp) (h : Heap) : Prop := ∀ a o, H a = some o → ObjOk P w H h a o
end

section
variable {P : Program} {w : World} {H H' : Hp} {h h' : Heap} {a : Addr} {o : HO}
theorem ObjOk.lt (x : ObjOk P w H h a o) : a < h.objs.size := by
  cases o with
  | lst xs => obtain ⟨_, _, _, _, e⟩ := x; exact Heap.lt_size e
  | tup xs => obtain ⟨_, _, _, p⟩ := x; exact p.lt
  | dK kvs => obtain ⟨_, _, _, _, o, _, _, e, _⟩ := x; exact Heap.lt_size e
  | dT kvs => obtain ⟨_, _, _, _, o, _, _, e, _⟩ := x; exact Heap.lt_size e
  | set S n => obtain ⟨o, _, _, _, e, _⟩ := x; exact Heap.lt_size e
  | ins C dx fs => obtain ⟨_, _, _, e, _⟩ := x; exact Heap.lt_size e
  | own y => obtain ⟨_, e⟩ := x; exact Heap.lt_size e
  | xd fs => obtain ⟨_, ⟨_, _, _, e, _⟩, _⟩ := x; exact Heap.lt_size e
  | rng lo hi => obtain ⟨_, _, _, e⟩ := x; exact Heap.lt_size e
  | frz ob u => obtain ⟨e, _⟩ := x; exact Heap.lt_size e
  | tbl ps => exact Heap.lt_size (show h.get? a = some _ from x)
  | met f y => exact Heap.lt_size (show h.get? a = some _ from x)
  | ext φ => obtain ⟨_, ⟨_, e⟩, _⟩ := x; exact Heap.lt_size e
theorem Paired.mapP {α β : Type} {F G : α → β → Prop} : ∀ {l₁ : List α} {l₂ : List β}, Paired F l₁ l₂ → (∀ a b, F a b → G a b) → Paired G l₁ l₂
  | _, _, .nil, _ => .nil
  | _, _, .cons r t, f => .cons (f _ _ r) (Paired.mapP t f)
/-- what an object's description leans on: its own object, its own dict, the tuples -/
theorem ObjOk.stay (x : ObjOk P w H h a o) (k : ∀ b u, (b = a ∨ H b = some (.own a)) → h.get? b = some u → h'.get? b = some u)
    (ho : ∀ b, H b = some (.own a) → H' b = some (.own a)) (ht : ∀ b xs, H b = some (.tup xs) → H' b = some (.tup xs)) : ObjOk P w H' h' a o := by
  induction o with
  | lst xs => obtain ⟨z, its, n, r, e⟩ := x; exact ⟨z, its, n, r, k _ _ (.inl rfl) e⟩
  | tup xs => obtain ⟨z, its, r, ob, e, c⟩ := x; exact ⟨z, its, r, ob, k _ _ (.inl rfl) e, c⟩
  | dK kvs => obtain ⟨z, y, vs, r, ob, es, ep, e, c⟩ := x; exact ⟨z, y, vs, r, ob, es, ep, k _ _ (.inl rfl) e, c⟩
  | dT kvs =>
    obtain ⟨z, y, xs, r, ob, es, ep, e, c⟩ := x
    exact ⟨z, y, xs, Paired.mapP r fun p q z => ⟨z.1, ht _ _ z.2.1, z.2.2⟩, ob, es, ep, k _ _ (.inl rfl) e, c⟩
  | set S n => obtain ⟨ob, es, ep, t, e, c⟩ := x; exact ⟨ob, es, ep, t, k _ _ (.inl rfl) e, c⟩
  | ins C dx fs =>
    obtain ⟨d, z, ne, e, mA, ⟨od, es, ep, e2, c⟩, r⟩ := x
    exact ⟨ho _ d, z, ne, k _ _ (.inl rfl) e, mA, ⟨od, es, ep, k _ _ (.inr d) e2, c⟩, r⟩
  | own y => obtain ⟨ob, e⟩ := x; exact ⟨ob, k _ _ (.inl rfl) e⟩
  | xd fs => obtain ⟨mA, ⟨od, es, ep, e, c⟩, r⟩ := x; exact ⟨mA, ⟨od, es, ep, k _ _ (.inl rfl) e, c⟩, r⟩
  | rng lo hi => obtain ⟨t, u, v, e⟩ := x; exact ⟨t, u, v, k _ _ (.inl rfl) e⟩
  | frz ob u ih => obtain ⟨e, q⟩ := x; exact ⟨k _ _ (.inl rfl) e, ih q⟩
  | tbl ps =>
    have e : h.get? a = some { cls := .none, data := .fields ps } := x
    show h'.get? a = some { cls := .none, data := .fields ps }
    exact k a _ (.inl rfl) e
  | met f y =>
    have e : h.get? a = some (PySem.W.methodObj (.ref f) (.ref y)) := x
    show h'.get? a = some (PySem.W.methodObj (.ref f) (.ref y))
    exact k a _ (.inl rfl) e
  | ext φ => obtain ⟨p, ⟨o, e⟩, st⟩ := x; exact ⟨st _ _ p fun o q => k _ _ (.inl rfl) q, ⟨o, k _ _ (.inl rfl) e⟩, st⟩
theorem HOk.lt (x : HOk P w H h) (e : H a = some o) : a < h.objs.size := (x a o e).lt
theorem HOk.fresh (x : HOk P w H h) (e : h.objs.size ≤ a) : H a = none := by
  cases q : H a with
  | none => rfl
  | some u => exact absurd (Nat.lt_of_lt_of_le (x.lt q) e) (Nat.lt_irrefl _)
/-- every object of the heap is kept -/
theorem HOk.kept (x : HOk P w H h) (k : ∀ b u, h.get? b = some u → h'.get? b = some u) : HOk P w H h' := fun a o e =>
  (x a o e).stay (fun b u _ q => k b u q) (fun _ q => q) fun _ _ q => q
/-- a new object is laid and tracked -/
theorem HOk.laid (x : HOk P w H h) (k : ∀ b u, h.get? b = some u → h'.get? b = some u) (hp : h.objs.size ≤ a) (new : ObjOk P w (upd H a o) h' a o) : HOk P w (upd H a o) h' := fun b u e => by
  have hn := x.fresh hp
  by_cases hb : b = a
  · subst hb; rw [upd_same] at e; cases e; exact new
  · rw [upd_ne hb] at e
    exact (x b u e).stay (fun c v _ q => k c v q) (fun c q => by rw [upd_ne (ne_of_none q hn)]; exact q) fun c xs q => by rw [upd_ne (ne_of_none q hn)]; exact q
end

/-- what may be read as u: it is u, or a known u -/
def Rd (H : Hp) (a : Addr) (u : HO) : Prop := H a = some u ∨ ∃ o, H a = some (.frz o u)
theorem Rd.ok {P : Program} {w : World} {H : Hp} {h : Heap} {a : Addr} {u : HO} (r : Rd H a u) (x : HOk P w H h) : ObjOk P w H h a u := by
  rcases r with r | ⟨o, r⟩
  · exact x a u r
  · obtain ⟨_, q⟩ := x a _ r
    exact q
/-- what may be written -/
def Mut : Option HO → Prop
  | some (.lst _) => True
  | some (.dK _) => True
  | some (.dT _) => True
  | some (.set _ _) => True
  | some (.ins _ _ _) => True
  | some (.ext _) => True
  | _ => False
section
variable {P : Program} {w : World} {H : Hp} {h h' : Heap} {x e : Addr} {o' : HO}
/-- the object at e is changed: x itself, or the dict of the instance x -/
theorem HOk.write (ok : HOk P w H h) (mu : Mut (H x)) (he : e = x ∨ H e = some (.own x)) (k : ∀ b u, b ≠ e → h.get? b = some u → h'.get? b = some u) (heo : ∃ u, h'.get? e = some u)
    (new : ObjOk P w (upd H x o') h' x o') : HOk P w (upd H x o') h' := fun b u q => by
  have nown : ∀ c y, H c = some (.own y) → c ≠ x := fun c y r z => by subst z; rw [r] at mu; exact mu
  have ntup : ∀ c xs, H c = some (.tup xs) → c ≠ x := fun c xs r z => by subst z; rw [r] at mu; exact mu
  by_cases hb : b = x
  · subst hb; rw [upd_same] at q; cases q; exact new
  · rw [upd_ne hb] at q
    by_cases hbe : b = e
    · have q' : H b = some (.own x) := by
        rcases he with z | z
        · exact absurd (hbe.trans z) hb
        · rw [hbe]; exact z
      rw [q] at q'; cases q'
      obtain ⟨v, hv⟩ := heo
      exact ⟨v, by rw [hbe]; exact hv⟩
    · refine (ok b u q).stay (fun c v hc r => k c v ?_ r) (fun c r => by rw [upd_ne (nown c b r)]; exact r) fun c xs r => by rw [upd_ne (ntup c xs r)]; exact r
      rcases hc with rfl | hc
      · exact hbe
      · rintro rfl
        rcases he with z | z
        · exact nown c b hc z
        · rw [hc] at z; cases z; exact hb rfl
end

/-! ### kept unless tracked; of the frames at fs (the callers') the slots may change (an exception that passes writes there); of the records at ex (iterators) nothing is said -/
structure Un (fs ex : List Addr) (H H' : Hp) (h h' : Heap) : Prop where
  keep : ∀ b o, h.get? b = some o → H b = none → b ∉ fs → b ∉ ex → h'.get? b = some o
  slot : ∀ b o, h.get? b = some o → H b = none → b ∈ fs → b ∉ ex → ∃ sl, h'.get? b = some { o with slots := sl }
  free : ∀ b o, h.get? b = some o → H b = none → b ∉ ex → H' b = none
  there : ∀ b o, h.get? b = some o → b ∉ ex → ∃ o', h'.get? b = some o'
  tups : ∀ b xs, H b = some (.tup xs) → H' b = some (.tup xs)
  frzs : ∀ b o u, H b = some (.frz o u) → H' b = some (.frz o u)
  tbls : ∀ b ps, H b = some (.tbl ps) → ∃ more, H' b = some (.tbl (ps ++ more))
section
variable {fs fs' ex ex' : List Addr} {H H1 H2 : Hp} {h h1 h2 h' : Heap} {a x e : Addr} {o : HO}
theorem Un.any (u : Un fs ex H H1 h h1) {b : Addr} {ob : Obj} (q : h.get? b = some ob) (n : H b = none) (hx : b ∉ ex) : ∃ sl, h1.get? b = some { ob with slots := sl } := by
  by_cases hb : b ∈ fs
  · exact u.slot b ob q n hb hx
  · exact ⟨ob.slots, u.keep b ob q n hb hx⟩
theorem Un.kept (k : ∀ b u, h.get? b = some u → h'.get? b = some u) : Un fs ex H H h h' :=
  ⟨fun b ob q _ _ _ => k b ob q, fun b ob q _ _ _ => ⟨ob.slots, k b ob q⟩, fun _ _ _ n _ => n, fun b ob q _ => ⟨ob, k b ob q⟩, fun _ _ q => q, fun _ _ _ q => q, fun _ ps q => ⟨#[], by rw [q]; simp⟩⟩
theorem Un.refl : Un fs ex H H h h := Un.kept fun _ _ q => q
theorem Un.laid (k : ∀ b u, h.get? b = some u → h'.get? b = some u) (hp : h.objs.size ≤ a) (hn : H a = none) : Un fs ex H (upd H a o) h h' where
  keep := fun b u q _ _ _ => k b u q
  slot := fun b u q _ _ _ => ⟨u.slots, k b u q⟩
  free := fun b u q n _ => by rw [upd_ne (Nat.ne_of_lt (Nat.lt_of_lt_of_le (Heap.lt_size q) hp))]; exact n
  there := fun b u q _ => ⟨u, k b u q⟩
  tups := fun b xs q => by rw [upd_ne (ne_of_none q hn)]; exact q
  frzs := fun b u xs q => by rw [upd_ne (ne_of_none q hn)]; exact q
  tbls := fun b ps q => ⟨#[], by rw [upd_ne (ne_of_none q hn), q]; simp⟩
theorem Un.write (mu : Mut (H x)) (he : e = x ∨ H e = some (.own x)) (k : ∀ b u, b ≠ e → h.get? b = some u → h'.get? b = some u) (heo : ∃ u, h'.get? e = some u) : Un fs ex H (upd H x o) h h' := by
  have hx : ∀ b, H b = none → b ≠ x := fun b n z => by subst z; rw [n] at mu; exact mu
  have hb : ∀ b, H b = none → b ≠ e := fun b n z => by
    subst z
    rcases he with r | r
    · exact hx b n r
    · rw [n] at r; cases r
  have hm : ∀ b u, H b = some u → ¬ Mut (some u) → b ≠ x := fun b u q nm z => by subst z; rw [q] at mu; exact nm mu
  refine ⟨fun b u q n _ _ => k b u (hb b n) q, fun b u q n _ _ => ⟨u.slots, k b u (hb b n) q⟩, fun b u q n _ => by rw [upd_ne (hx b n)]; exact n, fun b u q _ => ?_,
    fun b xs q => by rw [upd_ne (hm b _ q fun z => z)]; exact q, fun b u xs q => by rw [upd_ne (hm b _ q fun z => z)]; exact q, fun b ps q => ⟨#[], by rw [upd_ne (hm b _ q fun z => z), q]; simp⟩⟩
  by_cases hbe : b = e
  · subst hbe; exact heo
  · exact ⟨u, k b u hbe q⟩
end

/-! ### the heap without what is tracked -/
def trk (h : Heap) (H : Hp) : List Addr := (List.range h.objs.size).filter fun a => (H a).isSome
def hidT (h : Heap) (H : Hp) : Heap := PySem.W.hideAll h (trk h H)
theorem hidT_size (h : Heap) (H : Hp) : (hidT h H).objs.size = h.objs.size := PySem.W.hideAll_size _ _
theorem hidT_get {h : Heap} {H : Hp} {b : Addr} {o : Obj} (e : h.get? b = some o) (n : H b = none) : (hidT h H).get? b = some o :=
  PySem.W.hideAll_get _ e fun hm => by
    have q : (H b).isSome = true := (List.mem_filter.mp hm).2
    rw [n] at q; simp at q
theorem of_hidT {h : Heap} {H : Hp} {b : Addr} {o : Obj} (e : (hidT h H).get? b = some o) : h.get? b = some o ∧ H b = none := by
  have e' : h.get? b = some o := PySem.W.of_hideAll (trk h H) e
  refine ⟨e', ?_⟩
  cases q : H b with
  | none => rfl
  | some x =>
    have hm : b ∈ trk h H := List.mem_filter.mpr ⟨List.mem_range.mpr (Heap.lt_size e'), by simp [q]⟩
    have z : (hidT h H).get? b = none := PySem.W.hideAll_none (trk h H) hm
    rw [z] at e; cases e

/-! ### OpenK's ledger, filled with every new object but one -/
end L2

namespace L2
open PySem PySem.Spec PyProof.Rows

/-- the module's facts, over the base: the heap at the law's entry without what is tracked there -/
structure Mod (K : PySem.W.Frag) (mg : Str → Option Value) (base : Heap) : Prop where
  kin : K.In base
  glob : base.Ns mainGlobals mg
  blt : ∃ mb, base.Ns builtinsNs mb ∧ ∀ x : Str, x ≠ "__name__" → mb x = bootBuiltins x
  nolimit : base.NoLimit

/-- the context: a def's body (or a comprehension's block) running. base: fixed through the whole law; s₀, H₀: the entry; outer: the frames whose slots others may change (a def's callers); stack: all frames that run;
   ex: iterators that were made ahead of the entry and are walked here (a comprehension's); fn: the names whose cells were made at the entry (a def: all; a comprehension's block: its own); calm: not within an except suite; pn: pins that every state bears; xe: what is wanted of an exception that leaves the code -/
structure Cx where
  prog : Program
  w : World
  K : PySem.W.Frag
  mg : Str → Option Value
  base : Heap
  A : Around
  N : List Str
  s₀ : Shared
  H₀ : Hp
  env : Env
  outer : List Env
  stack : List Env
  ex : List Addr
  fn : Str → Bool
  calm : Bool
  pn : List (Addr × Obj)
  xe : Value → Shared → Prop
/-- the callers' frames -/
def frs (l : List Env) : List Addr := l.filterMap (·.frame)
abbrev Cx.fs (X : Cx) : List Addr := frs X.outer

def Vis (sc : Scope) (x : Str) : Prop := sc.names.lookup x = some .local ∨ sc.names.lookup x = some .cell ∨ sc.names.lookup x = some .free
def Loc (sc : Scope) (x : Str) : Prop := sc.names.lookup x = some .local ∨ sc.names.lookup x = some .cell
def Look (env : Env) (h : Heap) (m : Str → Option Value) (x : Str) (u : Value) : Prop :=
  (env.kindOf x = some .local ∧ m x = some u) ∨ ((env.kindOf x = some .cell ∨ env.kindOf x = some .free) ∧ ∃ c, env.cells.lookup x = some c ∧ h.IsCell c (some u))

structure Cx.Ok (X : Cx) : Prop where
  mod : Mod X.K X.mg X.base
  kind : X.env.scope.kind = .function
  glob : X.env.globals = mainGlobals
  blt : X.env.builtins = builtinsNs
  above : X.s₀.heap.objs.size ≤ X.env.locals
  inj : ∀ x y c, X.env.cells.lookup x = some c → X.env.cells.lookup y = some c → x = y
  has : ∀ x, (X.env.kindOf x = some .cell ∨ X.env.kindOf x = some .free) → ∃ c, X.env.cells.lookup x = some c
  cab : ∀ x c, X.fn x = true → X.env.cells.lookup x = some c → X.s₀.heap.objs.size ≤ c
  hd : X.calm = true → X.A.handled = none
  frames : X.A.frames = some X.stack
  stk : X.stack = X.outer ∨ (X.stack = X.env :: X.outer ∧ X.env.frame = some X.env.locals)
  exf : ∀ b ∈ X.ex, b ≠ X.env.locals ∧ ∀ x c, X.env.cells.lookup x = some c → c ≠ b
  bs : ∀ b o, X.base.get? b = some o → X.s₀.heap.get? b = some o ∧ X.H₀ b = none
  bsz : X.base.objs.size ≤ X.s₀.heap.objs.size
  noex : ∀ b o, X.base.get? b = some o → b ∉ X.ex
  exfs : ∀ b ∈ X.ex, b ∉ X.fs
  funs : X.s₀.heap.FunFrames X.base X.outer
  frf : ∀ b ∈ X.fs, X.H₀ b = none

structure Inv (X : Cx) (pins : List (Addr × Obj)) (σ : List (Option V)) (H : Hp) (s : Shared) : Prop where
  ok : X.Ok
  os : s.os = X.s₀.os
  bare : AllBare s.gens
  base : Un X.fs X.ex X.H₀ H X.s₀.heap s.heap
  loc : ∃ m, s.heap.Ns X.env.locals m ∧ ∀ (i : Nat) (x : Str) (v : V), X.N[i]? = some x → σ[i]? = some (some v) → Vis X.env.scope x → ∃ u, RelV v u ∧ Look X.env s.heap m x u
  cell : ∀ x c, X.env.cells.lookup x = some c → ∃ v, s.heap.IsCell c v
  free : H X.env.locals = none
  freeC : ∀ x c, X.env.cells.lookup x = some c → H c = none
  pin : ∀ p ∈ X.pn ++ pins, s.heap.get? p.1 = some p.2 ∧ H p.1 = none ∧ p.1 ≠ X.env.locals ∧ p.1 ∉ X.fs ∧ ∀ v, p.2.data ≠ .cell v
  hok : HOk X.prog X.w H s.heap
  len : σ.length = X.N.length

section
variable {X : Cx} {pins : List (Addr × Obj)} {σ : List (Option V)} {H H' : Hp} {s : Shared} {h' : Heap}

theorem Cx.Ok.nofr (ok : X.Ok) {b : Addr} {o : Obj} (e : X.base.get? b = some o) : b ∉ X.fs := fun hb => by
  have := (ok.funs.mem hb).1
  rw [e] at this; cases this
theorem Inv.bs (I : Inv X pins σ H s) : ∀ b o, X.base.get? b = some o → s.heap.get? b = some o ∧ H b = none := fun b o e =>
  ⟨I.base.keep b o (I.ok.bs b o e).1 (I.ok.bs b o e).2 (I.ok.nofr e) (I.ok.noex b o e), I.base.free b o (I.ok.bs b o e).1 (I.ok.bs b o e).2 (I.ok.noex b o e)⟩
theorem Inv.bk (I : Inv X pins σ H s) : ∀ b o, X.base.get? b = some o → s.heap.get? b = some o := fun b o e => (I.bs b o e).1
theorem Inv.mod (I : Inv X pins σ H s) : Mod X.K X.mg X.base := I.ok.mod
theorem Inv.kIn (I : Inv X pins σ H s) : X.K.In s.heap := I.ok.mod.kin.keeps I.bk
theorem Inv.lt (I : Inv X pins σ H s) : X.env.locals < s.heap.objs.size := let ⟨_, hn, _⟩ := I.loc; hn.lt
theorem Inv.sz (I : Inv X pins σ H s) : X.s₀.heap.objs.size ≤ s.heap.objs.size := Nat.le_trans I.ok.above (Nat.le_of_lt I.lt)
theorem Inv.nofs (I : Inv X pins σ H s) {a : Addr} (h : s.heap.objs.size ≤ a) : a ∉ X.fs := fun hb => by
  obtain ⟨_, o, ho, _⟩ := I.ok.funs.mem hb
  exact absurd (Nat.lt_of_lt_of_le (Heap.lt_size ho) (Nat.le_trans I.sz h)) (Nat.lt_irrefl _)
theorem Inv.cne (I : Inv X pins σ H s) : ∀ x c, X.env.cells.lookup x = some c → c ≠ X.env.locals := fun x c e z => by
  obtain ⟨v, o, ho, hd⟩ := I.cell x c e
  obtain ⟨m, ⟨o', es, ep, ho', hd', _⟩, _⟩ := I.loc
  rw [z, ho'] at ho; cases ho; rw [hd'] at hd; cases hd
theorem Inv.funs (I : Inv X pins σ H s) : s.heap.FunFrames X.base X.outer := by
  have all : ∀ (l : List Env), (∀ b ∈ frs l, b ∈ X.fs) → X.s₀.heap.FunFrames X.base l → s.heap.FunFrames X.base l := by
    intro l
    induction l with
    | nil => intro _ _; trivial
    | cons env r ih =>
      intro hs hl
      obtain ⟨hk, ⟨L, o, hf, hn, ho, hd⟩, hr⟩ := hl
      have hL : L ∈ X.fs := hs L (by unfold frs; rw [List.filterMap_cons, hf]; exact List.mem_cons_self)
      obtain ⟨sl, e⟩ := I.base.slot L o ho (I.ok.frf L hL) hL fun z => I.ok.exfs L z hL
      exact ⟨hk, ⟨L, _, hf, hn, e, hd⟩, ih (fun b hb => hs b (by unfold frs; rw [List.filterMap_cons, hf]; exact List.mem_cons_of_mem _ hb)) hr⟩
  exact all X.outer (fun _ hb => hb) I.ok.funs

/-- the frames that run, for a call -/
theorem Inv.stack (I : Inv X pins σ H s) : s.heap.FunFrames X.base X.stack := by
  rcases I.ok.stk with e | ⟨e, hf⟩
  · rw [e]; exact I.funs
  · rw [e]
    obtain ⟨m, hn, _⟩ := I.loc
    refine .cons (by rw [I.ok.kind]; decide) hf hn ?_ I.funs
    exact Heap.get?_none_of_le (Nat.le_trans I.ok.bsz I.ok.above)
theorem Inv.stkSub (I : Inv X pins σ H s) : ∀ b ∈ frs X.stack, b ∈ X.env.locals :: X.fs := fun b hb => by
  rcases I.ok.stk with e | ⟨e, hf⟩
  · rw [e] at hb; exact List.mem_cons_of_mem _ hb
  · rw [e] at hb
    unfold frs at hb
    rw [List.filterMap_cons, hf] at hb
    exact hb
theorem Inv.stkFree (I : Inv X pins σ H s) : ∀ b ∈ frs X.stack, H b = none := fun b hb => by
  rcases List.mem_cons.mp (I.stkSub b hb) with e | hb
  · rw [e]; exact I.free
  · obtain ⟨_, o, ho, _⟩ := I.ok.funs.mem hb
    exact I.base.free b o ho (I.ok.frf b hb) fun z => I.ok.exfs b z hb

/-- THE STEP: the untracked objects but the frame and the records at ch are kept (the callers' frames up to slots), the frame's map is kept, the new abstract heap is held -/
theorem Inv.step {g' : Array GenState} {t' : Nat} {d' : Drawn} {ch : List Addr} (I : Inv X pins σ H s)
    (hch : ∀ b ∈ ch, (b ∈ X.ex ∨ X.s₀.heap.objs.size ≤ b) ∧ b ≠ X.env.locals ∧ (∀ x c, X.env.cells.lookup x = some c → c ≠ b) ∧ ∀ p ∈ X.pn ++ pins, p.1 ≠ b)
    (keep : ∀ b o, b ≠ X.env.locals → b ∉ X.fs → b ∉ ch → s.heap.get? b = some o → H b = none → h'.get? b = some o)
    (slot : ∀ b o, b ≠ X.env.locals → b ∈ X.fs → b ∉ ch → s.heap.get? b = some o → H b = none → ∃ sl, h'.get? b = some { o with slots := sl }) (free : ∀ b o, b ∉ ch → s.heap.get? b = some o → H b = none → H' b = none)
    (there : ∀ b o, b ∉ ch → s.heap.get? b = some o → ∃ o', h'.get? b = some o')
    (tups : ∀ b xs, H b = some (.tup xs) → H' b = some (.tup xs)) (frzs : ∀ b o u, H b = some (.frz o u) → H' b = some (.frz o u)) (tbls : ∀ b ps, H b = some (.tbl ps) → ∃ more, H' b = some (.tbl (ps ++ more)))
    (ns : ∀ m, s.heap.Ns X.env.locals m → h'.Ns X.env.locals m) (hok : HOk X.prog X.w H' h') (hg : AllBare g') :
    Inv X pins σ H' { s with heap := h', gens := g', drawn := d', toks := t' } := by
  have neL : ∀ b o, X.s₀.heap.get? b = some o → b ≠ X.env.locals := fun b o e => Nat.ne_of_lt (Nat.lt_of_lt_of_le (Heap.lt_size e) I.ok.above)
  have neC : ∀ b o, X.s₀.heap.get? b = some o → b ∉ X.ex → b ∉ ch := fun b o e hx hb => by
    rcases (hch b hb).1 with z | z
    · exact hx z
    · exact absurd (Nat.lt_of_lt_of_le (Heap.lt_size e) z) (Nat.lt_irrefl _)
  have cellK : ∀ x c, X.env.cells.lookup x = some c → ∀ v, s.heap.IsCell c v → h'.IsCell c v := fun x c e v ⟨o, ho, hd⟩ => by
    have nch : c ∉ ch := fun z => (hch c z).2.2.1 x c e rfl
    by_cases hc : c ∈ X.fs
    · obtain ⟨sl, q⟩ := slot c o (I.cne x c e) hc nch ho (I.freeC x c e)
      exact ⟨_, q, hd⟩
    · exact ⟨o, keep c o (I.cne x c e) hc nch ho (I.freeC x c e), hd⟩
  refine ⟨I.ok, I.os, hg, ⟨fun b o e n hb hx => ?_, fun b o e n hb hx => ?_, fun b o e n hx => ?_, fun b o e hx => ?_, fun b xs e => tups b xs (I.base.tups b xs e), fun b o xs e => frzs b o xs (I.base.frzs b o xs e), fun b ps e => ?_⟩, ?_, fun x c e => ?_, ?_, fun x c e => ?_, fun p hp => ?_, hok, I.len⟩
  · exact keep b o (neL b o e) hb (neC b o e hx) (I.base.keep b o e n hb hx) (I.base.free b o e n hx)
  · obtain ⟨sl, e1⟩ := I.base.slot b o e n hb hx
    obtain ⟨sl', e2⟩ := slot b _ (neL b o e) hb (neC b o e hx) e1 (I.base.free b o e n hx)
    exact ⟨sl', e2⟩
  · obtain ⟨o', e1⟩ := I.base.there b o e hx
    exact free b o' (neC b o e hx) e1 (I.base.free b o e n hx)
  · obtain ⟨o', e1⟩ := I.base.there b o e hx
    exact there b o' (neC b o e hx) e1
  · obtain ⟨m1, e1⟩ := I.base.tbls b ps e
    obtain ⟨m2, e2⟩ := tbls b _ e1
    exact ⟨m1 ++ m2, by rw [e2, Array.append_assoc]⟩
  · obtain ⟨m, hn, hl⟩ := I.loc
    refine ⟨m, ns m hn, fun i x v e1 e2 e3 => ?_⟩
    obtain ⟨u, r, l⟩ := hl i x v e1 e2 e3
    refine ⟨u, r, ?_⟩
    rcases l with l | ⟨k, c, e, z⟩
    · exact .inl l
    · exact .inr ⟨k, c, e, cellK x c e _ z⟩
  · obtain ⟨v, z⟩ := I.cell x c e
    exact ⟨v, cellK x c e v z⟩
  · obtain ⟨m, ⟨o, _, _, ho, _⟩, _⟩ := I.loc
    exact free _ o (fun z => (hch _ z).2.1 rfl) ho I.free
  · obtain ⟨v, o, ho, hd⟩ := I.cell x c e
    exact free c o (fun z => (hch c z).2.2.1 x c e rfl) ho (I.freeC x c e)
  · obtain ⟨e, n, ne, nf, d⟩ := I.pin p hp
    have nch : p.1 ∉ ch := fun z => (hch p.1 z).2.2.2 p hp rfl
    exact ⟨keep p.1 p.2 ne nf nch e n, free p.1 p.2 nch e n, ne, nf, d⟩
/-- .. where the frame's own object is kept too -/
theorem Inv.un {t' : Nat} (I : Inv X pins σ H s) (u : Un X.fs [] H H' s.heap h') (hok : HOk X.prog X.w H' h') : Inv X pins σ H' { s with heap := h', toks := t' } := by
  obtain ⟨m, ⟨o, es, ep, ho, r⟩, _⟩ := id I.loc
  obtain ⟨sl, hL⟩ := u.any ho I.free (by simp)
  exact I.step (g' := s.gens) (d' := s.drawn) (ch := []) (fun _ z => nomatch z) (fun b o _ hb _ e n => u.keep b o e n hb (by simp)) (fun b o _ hb _ e n => u.slot b o e n hb (by simp)) (fun b o _ e n => u.free b o e n (by simp)) (fun b o _ e => u.there b o e (by simp)) u.tups u.frzs u.tbls (fun m' hm => by
    obtain ⟨o', es', ep', ho', r'⟩ := hm
    rw [ho] at ho'; cases ho'
    exact ⟨_, es', ep', hL, r'⟩) hok I.bare
/-- behind a call (or a comprehension's block): the slots of this frame may have changed too, the records at ch may have turned -/
theorem Inv.call {g' : Array GenState} {t' : Nat} {d' : Drawn} {ch : List Addr} (I : Inv X pins σ H s) (u : Un (frs X.stack) ch H H' s.heap h') (hok : HOk X.prog X.w H' h') (hg : AllBare g')
    (hch : ∀ b ∈ ch, (b ∈ X.ex ∨ X.s₀.heap.objs.size ≤ b) ∧ b ≠ X.env.locals ∧ (∀ x c, X.env.cells.lookup x = some c → c ≠ b) ∧ ∀ p ∈ X.pn ++ pins, p.1 ≠ b) :
    Inv X pins σ H' { s with heap := h', gens := g', drawn := d', toks := t' } := by
  obtain ⟨m, ⟨o, es, ep, ho, r⟩, _⟩ := id I.loc
  obtain ⟨sl, hL⟩ := u.any ho I.free fun z => (hch _ z).2.1 rfl
  exact I.step (ch := ch) hch (fun b o hL hb hc e n => u.keep b o e n (fun z => (List.mem_cons.mp (I.stkSub b z)).elim hL hb) hc) (fun b o _ _ hc e n => u.any e n hc) (fun b o hc e n => u.free b o e n hc) (fun b o hc e => u.there b o e hc) u.tups u.frzs u.tbls (fun m' hm => by
    obtain ⟨o', es', ep', ho', r'⟩ := hm
    rw [ho] at ho'; cases ho'
    exact ⟨_, es', ep', hL, r'⟩) hok hg
/-- an untracked record of ours (an iterator) has turned -/
theorem Inv.turned {t' : Nat} {it : Addr} (I : Inv X pins σ H s) (k : ∀ b o, b ≠ it → s.heap.get? b = some o → h'.get? b = some o) (hn : H it = none) (hL : it ≠ X.env.locals)
    (h1 : it ∈ X.ex ∨ X.s₀.heap.objs.size ≤ it) (h2 : ∀ x c, X.env.cells.lookup x = some c → c ≠ it) (h3 : ∀ p ∈ X.pn ++ pins, p.1 ≠ it) : Inv X pins σ H { s with heap := h', toks := t' } := by
  have nit : ∀ b u, H b = some u → b ≠ it := fun b u e z => by rw [z, hn] at e; cases e
  refine I.step (g' := s.gens) (d' := s.drawn) (ch := [it]) (fun b hb => ?_) (fun b o _ _ hc e _ => k b o (fun z => hc (by simp [z])) e) (fun b o _ _ hc e _ => ⟨o.slots, k b o (fun z => hc (by simp [z])) e⟩) (fun _ _ _ _ n => n)
    (fun b o hc e => ⟨o, k b o (fun z => hc (by simp [z])) e⟩) (fun _ _ e => e) (fun _ _ _ e => e) (fun b ps e => ⟨#[], by rw [e]; simp⟩) (fun m hm => ?_) (fun b u e => ?_) I.bare
  · have e : b = it := by simpa using hb
    subst e
    exact ⟨h1, hL, h2, h3⟩
  · obtain ⟨o, es, ep, ho, r⟩ := hm
    exact ⟨o, es, ep, k _ o (Ne.symm hL) ho, r⟩
  · refine (I.hok b u e).stay (fun c v hc q => k c v ?_ q) (fun _ q => q) fun _ _ q => q
    rcases hc with z | z
    · rw [z]; exact nit b u e
    · exact nit c _ z
theorem Inv.tok (I : Inv X pins σ H s) (t : Nat) : Inv X pins σ H { s with toks := t } := I.un (h' := s.heap) (t' := t) Un.refl I.hok
/-- all objects kept -/
theorem Inv.kept {t' : Nat} (I : Inv X pins σ H s) (k : ∀ b u, s.heap.get? b = some u → h'.get? b = some u) : Inv X pins σ H { s with heap := h', toks := t' } := I.un (Un.kept k) (I.hok.kept k)
/-- a new object laid and tracked -/
theorem Inv.laid {a : Addr} {o : HO} {t' : Nat} (I : Inv X pins σ H s) (k : ∀ b u, s.heap.get? b = some u → h'.get? b = some u) (hp : s.heap.objs.size ≤ a) (new : ObjOk X.prog X.w (upd H a o) h' a o) :
    Inv X pins σ (upd H a o) { s with heap := h', toks := t' } := I.un (Un.laid k hp (I.hok.fresh hp)) (I.hok.laid k hp new)
/-- an object written -/
theorem Inv.write {x e : Addr} {o : HO} {t' : Nat} (I : Inv X pins σ H s) (mu : Mut (H x)) (he : e = x ∨ H e = some (.own x)) (k : ∀ b u, b ≠ e → s.heap.get? b = some u → h'.get? b = some u) (heo : ∃ u, h'.get? e = some u)
    (new : ObjOk X.prog X.w (upd H x o) h' x o) : Inv X pins σ (upd H x o) { s with heap := h', toks := t' } := I.un (Un.write mu he k heo) (I.hok.write mu he k heo new)
theorem Inv.pins_of {pins' : List (Addr × Obj)} (I : Inv X pins σ H s) (h : ∀ p ∈ pins', s.heap.get? p.1 = some p.2 ∧ H p.1 = none ∧ p.1 ≠ X.env.locals ∧ p.1 ∉ X.fs ∧ ∀ v, p.2.data ≠ .cell v) : Inv X pins' σ H s :=
  ⟨I.ok, I.os, I.bare, I.base, I.loc, I.cell, I.free, I.freeC, fun p hp => (List.mem_append.mp hp).elim (fun z => I.pin p (List.mem_append_left _ z)) (h p), I.hok, I.len⟩

theorem nodup_ix {N : List Str} (hN : N.Nodup) {i j : Nat} {x : Str} (a : N[i]? = some x) (b : N[j]? = some x) : i = j := by
  obtain ⟨h1, e1⟩ := List.getElem?_eq_some_iff.mp a
  obtain ⟨h2, e2⟩ := List.getElem?_eq_some_iff.mp b
  exact (List.getElem_inj hN).mp (e1.trans e2.symm)

/-- a name is stored; what changed -/
theorem store_ok2 {M : Model} {A : Around} {E : Value → Shared → Prop} {i : Nat} {x : Str} {v : V} {u : Value} {Q : Unit → Shared → Prop} (I : Inv X pins σ H s) (hN : X.N.Nodup) (hi : X.N[i]? = some x) (hx : Loc X.env.scope x) (r : RelV v u)
    (h : ∀ s', Inv X pins (σ.set i (some v)) H s' → (∃ a, Heap.SameBut a s.heap s'.heap ∧ (a = X.env.locals ∨ X.env.cells.lookup x = some a)) → Q () s') (hf : X.fn x = true ∨ X.env.scope.names.lookup x = some .local := by first | exact .inl rfl | exact .inr rfl | assumption) : wpAny M A (storeName X.env x u) Q E s := by
  obtain ⟨m, hn, hl⟩ := id I.loc
  have hcls : (X.env.scope.kind == .class || (X.env.scope.kind == .module && X.env.locals != X.env.globals)) = false := by rw [I.ok.kind]; rfl
  have hiσ : i < σ.length := by rw [I.len]; exact (List.getElem?_eq_some_iff.mp hi).1
  have cne := I.cne
  have tracked : ∀ {a : Addr} {h' : Heap}, (∃ o, s.heap.get? a = some o ∧ H a = none) → Heap.SameBut a s.heap h' → HOk X.prog X.w H h' := fun {a h'} ha hs b ob e => by
    obtain ⟨_, _, hfree⟩ := ha
    refine (I.hok b ob e).stay (fun c w' hc q => (hs.2 c ?_).trans q) (fun _ q => q) fun _ _ q => q
    rintro rfl
    rcases hc with rfl | hc
    · rw [hfree] at e; cases e
    · rw [hfree] at hc; cases hc
  rcases hx with hk | hk
  · refine wpAny_storeName_local hk hn (fun h' hn' hs => ?_) hcls
    obtain ⟨oL, _, _, hoL, _⟩ := id hn
    refine h _ ⟨I.ok, I.os, I.bare, ⟨fun b o e n hb hx => ?_, fun b o e n hb hx => ?_, I.base.free, fun b o e hx => ?_, I.base.tups, I.base.frzs, I.base.tbls⟩, ⟨_, hn', fun j y v' e1 e2 e3 => ?_⟩, fun y c e => ?_, I.free, I.freeC, fun p hp => ?_, tracked ⟨oL, hoL, I.free⟩ hs, by simpa using I.len⟩ ⟨_, hs, .inl rfl⟩
    · exact (hs.2 b (Nat.ne_of_lt (Nat.lt_of_lt_of_le (Heap.lt_size e) I.ok.above))).trans (I.base.keep b o e n hb hx)
    · obtain ⟨sl, e1⟩ := I.base.slot b o e n hb hx
      exact ⟨sl, (hs.2 b (Nat.ne_of_lt (Nat.lt_of_lt_of_le (Heap.lt_size e) I.ok.above))).trans e1⟩
    · obtain ⟨o', e1⟩ := I.base.there b o e hx
      exact ⟨o', (hs.2 b (Nat.ne_of_lt (Nat.lt_of_lt_of_le (Heap.lt_size e) I.ok.above))).trans e1⟩
    · by_cases hj : j = i
      · subst hj
        rw [hi] at e1; cases e1
        rw [List.getElem?_set_self hiσ] at e2
        cases e2
        exact ⟨u, r, .inl ⟨hk, by simp⟩⟩
      · rw [List.getElem?_set_ne (Ne.symm hj)] at e2
        obtain ⟨u', r', q⟩ := hl j y v' e1 e2 e3
        refine ⟨u', r', ?_⟩
        rcases q with ⟨k, e⟩ | ⟨k, c, e, z⟩
        · refine .inl ⟨k, ?_⟩
          have : y ≠ x := fun e => hj (nodup_ix hN e1 (e ▸ hi))
          simp [this, e]
        · exact .inr ⟨k, c, e, z.sameBut hs (cne y c e)⟩
    · obtain ⟨w', z⟩ := I.cell y c e
      exact ⟨w', z.sameBut hs (cne y c e)⟩
    · obtain ⟨e, n, ne, nf, d⟩ := I.pin p hp
      exact ⟨(hs.2 p.1 ne).trans e, n, ne, nf, d⟩
  · have hfn : X.fn x = true := by
      rcases hf with z | z
      · exact z
      · rw [z] at hk; cases hk
    obtain ⟨c, hc⟩ := I.ok.has x (.inl hk)
    obtain ⟨w', z⟩ := I.cell x c hc
    refine wpAny_storeName_cell I.ok.kind hk hc z (fun h' hc' hs => ?_)
    obtain ⟨oc, hoc, hocd⟩ := id z
    refine h { s with heap := h' } ⟨I.ok, I.os, I.bare, ⟨fun b o e n hb hx => ?_, fun b o e n hb hx => ?_, I.base.free, fun b o e hx => ?_, I.base.tups, I.base.frzs, I.base.tbls⟩, ⟨m, hn.sameBut hs (Ne.symm (cne x c hc)), fun j y v' e1 e2 e3 => ?_⟩, fun y c' e => ?_, I.free, I.freeC, fun p hp => ?_, tracked ⟨oc, hoc, I.freeC x c hc⟩ hs, by simpa using I.len⟩ ⟨c, hs, .inr hc⟩
    · exact (hs.2 b (Nat.ne_of_lt (Nat.lt_of_lt_of_le (Heap.lt_size e) (I.ok.cab x c hfn hc)))).trans (I.base.keep b o e n hb hx)
    · obtain ⟨sl, e1⟩ := I.base.slot b o e n hb hx
      exact ⟨sl, (hs.2 b (Nat.ne_of_lt (Nat.lt_of_lt_of_le (Heap.lt_size e) (I.ok.cab x c hfn hc)))).trans e1⟩
    · obtain ⟨o', e1⟩ := I.base.there b o e hx
      exact ⟨o', (hs.2 b (Nat.ne_of_lt (Nat.lt_of_lt_of_le (Heap.lt_size e) (I.ok.cab x c hfn hc)))).trans e1⟩
    · by_cases hj : j = i
      · subst hj
        rw [hi] at e1; cases e1
        rw [List.getElem?_set_self hiσ] at e2
        cases e2
        exact ⟨u, r, .inr ⟨.inl hk, c, hc, hc'⟩⟩
      · rw [List.getElem?_set_ne (Ne.symm hj)] at e2
        obtain ⟨u', r', q⟩ := hl j y v' e1 e2 e3
        refine ⟨u', r', ?_⟩
        rcases q with q | ⟨k, c', e, z'⟩
        · exact .inl q
        · refine .inr ⟨k, c', e, z'.sameBut hs ?_⟩
          rintro rfl
          exact hj (nodup_ix hN e1 (I.ok.inj _ _ _ e hc ▸ hi))
    · by_cases hcc : c' = c
      · subst hcc; exact ⟨_, hc'⟩
      · obtain ⟨w2, z2⟩ := I.cell y c' e
        exact ⟨w2, z2.sameBut hs hcc⟩
    · obtain ⟨e, n, ne, nf, d⟩ := I.pin p hp
      refine ⟨(hs.2 p.1 ?_).trans e, n, ne, nf, d⟩
      intro q
      rw [q, hoc] at e
      have q' : oc = p.2 := Option.some.inj e
      exact d w' (by rw [← q']; exact hocd)
theorem store_ok {M : Model} {A : Around} {E : Value → Shared → Prop} {i : Nat} {x : Str} {v : V} {u : Value} {Q : Unit → Shared → Prop} (I : Inv X pins σ H s) (hN : X.N.Nodup) (hi : X.N[i]? = some x) (hx : Loc X.env.scope x) (r : RelV v u)
    (h : ∀ s', Inv X pins (σ.set i (some v)) H s' → Q () s') (hf : X.fn x = true ∨ X.env.scope.names.lookup x = some .local := by first | exact .inl rfl | exact .inr rfl | assumption) : wpAny M A (storeName X.env x u) Q E s :=
  store_ok2 I hN hi hx r (fun s' I' _ => h s' I') hf
/-- behind a call or a block, the state as it is -/
theorem Inv.call' {s' : Shared} {ch : List Addr} (I : Inv X pins σ H s) (ho : s'.os = s.os) (u : Un (frs X.stack) ch H H' s.heap s'.heap) (hok : HOk X.prog X.w H' s'.heap) (hg : AllBare s'.gens)
    (hch : ∀ b ∈ ch, (b ∈ X.ex ∨ X.s₀.heap.objs.size ≤ b) ∧ b ≠ X.env.locals ∧ (∀ x c, X.env.cells.lookup x = some c → c ≠ b) ∧ ∀ p ∈ X.pn ++ pins, p.1 ≠ b) : Inv X pins σ H' s' := by
  obtain ⟨h', g', d', t', o'⟩ := s'
  have e : o' = s.os := ho
  subst e
  exact I.call (g' := g') (t' := t') (d' := d') u hok hg hch
end

/-! ### the judgements -/
/-- an exception: its class, its own dict's address (where it has one), the abstract heap behind it -/
abbrev XK := Value → Option Addr → Hp → Prop
abbrev St := List (Option V)
abbrev VK := V → Hp → Prop
/-- an expression's reading; a test's; an argument list's -/
abbrev TE := St → Hp → VK → Prop
abbrev TT := St → Hp → (Bool → Hp → Prop) → Prop
abbrev TA := St → Hp → (List V → Hp → Prop) → Prop
/-- what is wanted behind a statement -/
structure Ends where
  nx : St → Hp → Prop
  rt : VK
  bk : St → Hp → Prop := fun _ _ => False
  ct : St → Hp → Prop := fun _ _ => False
abbrev TS := Ends → St → Hp → Prop

def EP (X : Cx) (pins : List (Addr × Obj)) (σ : St) (Q : VK) (u : Value) (s' : Shared) : Prop := ∃ v H', Inv X pins σ H' s' ∧ RelV v u ∧ Q v H'
def TP (X : Cx) (pins : List (Addr × Obj)) (σ : St) (Q : Bool → Hp → Prop) (b : Bool) (s' : Shared) : Prop := ∃ H', Inv X pins σ H' s' ∧ Q b H'
def AP (X : Cx) (pins : List (Addr × Obj)) (σ : St) (Q : List V → Hp → Prop) (us : List Value) (s' : Shared) : Prop := ∃ vs H', Inv X pins σ H' s' ∧ Vals vs us ∧ Q vs H'
def SP (X : Cx) (pins : List (Addr × Obj)) (D : Ends) (f : Flow) (s' : Shared) : Prop :=
  match f with
  | .next => ∃ σ' H', Inv X pins σ' H' s' ∧ D.nx σ' H'
  | .brk => ∃ σ' H', Inv X pins σ' H' s' ∧ D.bk σ' H'
  | .cont => ∃ σ' H', Inv X pins σ' H' s' ∧ D.ct σ' H'
  | .ret u => ∃ v σ' H', Inv X pins σ' H' s' ∧ RelV v u ∧ D.rt v H'

def PE (X : Cx) (e : Expr) (t : TE) : Prop :=
  ∀ (pins : List (Addr × Obj)) (s : Shared) (σ : St) (H : Hp) (Q : VK), Inv X pins σ H s → t σ H Q → wpAny (model X.prog X.w) X.A (eval e X.env) (EP X pins σ Q) X.xe s
def PT (X : Cx) (e : Expr) (t : TT) : Prop :=
  ∀ (pins : List (Addr × Obj)) (s : Shared) (σ : St) (H : Hp) (Q : Bool → Hp → Prop), Inv X pins σ H s → t σ H Q → wpAny (model X.prog X.w) X.A (isTrue e X.env (eval e X.env)) (TP X pins σ Q) X.xe s
/-- a test whatever its 'whole' is (and, or) -/
def PW (X : Cx) (e : Expr) (t : TT) : Prop :=
  ∀ (whole : Sem Value) (pins : List (Addr × Obj)) (s : Shared) (σ : St) (H : Hp) (Q : Bool → Hp → Prop), Inv X pins σ H s → t σ H Q → wpAny (model X.prog X.w) X.A (isTrue e X.env whole) (TP X pins σ Q) X.xe s
theorem PW.pt {X : Cx} {e : Expr} {t : TT} (h : PW X e t) : PT X e t := h _
/-- an argument list (no star), from the left -/
def PA (X : Cx) (es : List Expr) (t : TA) : Prop :=
  ∀ (pos : Pos) (pins : List (Addr × Obj)) (s : Shared) (σ : St) (H : Hp) (Q : List V → Hp → Prop), Inv X pins σ H s → t σ H Q → wpAny (model X.prog X.w) X.A (spliced (backTo pos (starEach es X.env))) (AP X pins σ Q) X.xe s
def PS (X : Cx) (st : Stmt) (t : TS) : Prop :=
  ∀ (pins : List (Addr × Obj)) (s : Shared) (σ : St) (H : Hp) (D : Ends), Inv X pins σ H s → t D σ H → wpAny (model X.prog X.w) X.A (exec st X.env) (SP X pins D) X.xe s
def PSs (X : Cx) (st : List Stmt) (t : TS) : Prop :=
  ∀ (pins : List (Addr × Obj)) (s : Shared) (σ : St) (H : Hp) (D : Ends), Inv X pins σ H s → t D σ H → wpAny (model X.prog X.w) X.A (execs st X.env) (SP X pins D) X.xe s
/-- weaken the end -/
theorem thn {α : Type} {t : Sem α} {Q Q' : α → Shared → Prop} {M : Model} {A : Around} {E : Value → Shared → Prop} {s : Shared} (h : wpAny M A t Q E s) (hQ : ∀ a s, Q a s → Q' a s) : wpAny M A t Q' E s := wpAny_mono h hQ fun _ _ x => x
end L2

namespace L2
open PySem PySem.Spec PyProof.Rows
section
variable {X : Cx}

/-! ### names and constants -/
def tVar (i : Nat) : TE := fun σ H Q => ∃ v, σ[i]? = some (some v) ∧ Q v H
def tC (v : V) : TE := fun _ H Q => Q v H
theorem pe_var {i : Nat} {x : Str} {pos : Pos} (hN : X.N[i]? = some x) (hv : Vis X.env.scope x) (hd : (x == ("__debug__" : Str)) = false := by decide) (hcd : (x == ("__classdict__" : Str)) = false := by decide) : PE X (.Name x pos) (tVar i) := by
  intro pins s σ H Q I h
  obtain ⟨v, e, h⟩ := h
  obtain ⟨m, hn, hl⟩ := I.loc
  obtain ⟨u, r, l⟩ := hl i x v hN e hv
  have fin : EP X pins σ Q u s := ⟨v, H, I, r, h⟩
  rcases l with ⟨hk, hm⟩ | ⟨hk, c, hc, hcell⟩
  · exact wpAny_Name (wpAny_loadName_local I.ok.kind hk hn hm fin) hd
  · rcases hk with hk | hk
    · exact wpAny_Name (wpAny_loadName_cell I.ok.kind hk hc hcell fin) hd
    · exact wpAny_Name (wpAny_loadName_free I.ok.kind hk hc hcell fin hcd) hd
theorem pe_int {i j pos} : PE X (.Constant (.int i) j pos) (tC (.int i)) := fun _ _ _ H _ I h => wpAny_Constant_int ⟨.int i, H, I.tok _, ⟨_, rfl⟩, h⟩
theorem pe_bl {b j pos} : PE X (.Constant (.bool b) j pos) (tC (.bl b)) := fun _ _ _ H _ I h => Constant_bool ⟨.bl b, H, I, rfl, h⟩
theorem pe_non {j pos} : PE X (.Constant .none j pos) (tC .non) := fun _ _ _ H _ I h => Constant_none ⟨.non, H, I, rfl, h⟩
theorem pe_str {x j pos} : PE X (.Constant (.str x) j pos) (tC (.str x)) := fun _ _ _ H _ I h => Calls.Constant_str ⟨.str x, H, I.tok _, ⟨_, rfl⟩, h⟩

/-- a global name of the def -/
def Gl (X : Cx) (x : Str) : Prop := X.env.kindOf x = some .globalImplicit
theorem ld_glob {E : Value → Shared → Prop} {pins : List (Addr × Obj)} {s : Shared} {σ : St} {H : Hp} {x : Str} {u : Value} {pos : Pos} {Q : Value → Shared → Prop} (I : Inv X pins σ H s) (hg : Gl X x) (hm : X.mg x = some u) (h : Q u s)
    (hd : (x == ("__debug__" : Str)) = false := by decide) : wpAny (model X.prog X.w) X.A (eval (.Name x pos) X.env) Q E s :=
  Calls.Name_function_global I.ok.kind hg (Calls.loadGlobal_global (by rw [I.ok.glob]; exact I.mod.glob.keeps I.bk) hm h) hd
theorem ld_blt {E : Value → Shared → Prop} {pins : List (Addr × Obj)} {s : Shared} {σ : St} {H : Hp} {x : Str} {u : Value} {pos : Pos} {Q : Value → Shared → Prop} (I : Inv X pins σ H s) (hg : Gl X x) (hm : X.mg x = none) (hv : bootBuiltins x = some u) (h : Q u s)
    (hn : x ≠ "__name__" := by decide) (hd : (x == ("__debug__" : Str)) = false := by decide) : wpAny (model X.prog X.w) X.A (eval (.Name x pos) X.env) Q E s := by
  obtain ⟨mb, h1, h2⟩ := I.mod.blt
  exact Calls.Name_function_global I.ok.kind hg (Calls.loadGlobal_builtin (by rw [I.ok.glob]; exact I.mod.glob.keeps I.bk) hm (by rw [I.ok.blt]; exact h1.keeps I.bk) ((h2 x hn).trans hv) h) hd
/-- a module's constant, a class, a function, as a value -/
theorem pe_glob {x : Str} {v : V} {u : Value} {pos : Pos} (hg : Gl X x) (hm : X.mg x = some u) (r : RelV v u) (hd : (x == ("__debug__" : Str)) = false := by decide) : PE X (.Name x pos) (tC v) :=
  fun _ _ _ H _ I h => ld_glob I hg hm ⟨v, H, I, r, h⟩ hd
theorem pe_bltn {x : Str} {v : V} {u : Value} {pos : Pos} (hg : Gl X x) (hm : X.mg x = none) (hv : bootBuiltins x = some u) (r : RelV v u) (hn : x ≠ "__name__" := by decide) (hd : (x == ("__debug__" : Str)) = false := by decide) : PE X (.Name x pos) (tC v) :=
  fun _ _ _ H _ I h => ld_blt I hg hm hv ⟨v, H, I, r, h⟩ hn hd

/-! ### arithmetic -/
variable {a b : Expr} {ta tb : TE} {pos : Pos}
/-! ### comparisons -/
def PC (X : Cx) (op : CmpOp) (a b : Expr) (t : TE) : Prop :=
  ∀ (pins : List (Addr × Obj)) (s : Shared) (σ : St) (H : Hp) (Q : VK), Inv X pins σ H s → t σ H Q →
    wpAny (model X.prog X.w) X.A (eval a X.env) (fun v s₁ => wpAny (model X.prog X.w) X.A (eval b X.env) (fun u s₂ => wpAny (model X.prog X.w) X.A (compareOp op v u) (EP X pins σ Q) X.xe s₂) X.xe s₁) X.xe s
/-- a comparison as a value, as a test -/
def tB (t : TE) : TT := fun σ H Q => t σ H fun x H1 => ∃ c, x = .bl c ∧ Q c H1
theorem pt_cmp {op : CmpOp} {t : TE} (h : PC X op a b t) (h1 : behindInMarks op b = false := by first | exact nobehind _ (by decide) (by decide) | rfl) : PT X (.Compare a [op] [b] pos) (tB t) := by
  intro pins s σ H Q I hw
  refine wpAny_isTrue_Compare1 (thn (h pins s σ H _ I hw) fun v s1 h1 => thn h1 fun u s2 h2 => thn h2 fun c s3 ⟨x, H1, I1, r1, q1⟩ => ?_) h1
  obtain ⟨d, rfl, q⟩ := q1
  cases r1
  exact wpAny_truthy_bool ⟨H1, I1, q⟩
/-! ### and, or, not -/
variable {tA tB' : TT} {rest : List Expr}
def tAnd (t u : TT) : TT := fun σ H Q => t σ H fun c H1 => if c = true then u σ H1 Q else Q false H1
def tOr (t u : TT) : TT := fun σ H Q => t σ H fun c H1 => if c = true then Q true H1 else u σ H1 Q
def tNot (t : TT) : TT := fun σ H Q => t σ H fun c H1 => Q (!c) H1
theorem pw_and1 (ha : PT X a tA) : PW X (.BoolOp .And [a] pos) tA := by
  intro wh pins s σ H Q I h
  refine isTrue_and (thn (ha pins s σ H Q I h) fun c s1 e => ?_)
  cases c with
  | true => exact isTrue_and_nil e
  | false => exact e
theorem pw_or1 (ha : PT X a tA) : PW X (.BoolOp .Or [a] pos) tA := by
  intro wh pins s σ H Q I h
  refine isTrue_or (thn (ha pins s σ H Q I h) fun c s1 e => ?_)
  cases c with
  | false => exact isTrue_or_nil e
  | true => exact e
theorem pw_and (ha : PT X a tA) (hb : PW X (.BoolOp .And (b :: rest) pos) tB') : PW X (.BoolOp .And (a :: b :: rest) pos) (tAnd tA tB') := by
  intro wh pins s σ H Q I h
  refine isTrue_and (thn (ha pins s σ H _ I h) fun c s1 ⟨H1, I1, q1⟩ => ?_)
  cases c with
  | true => exact hb wh pins s1 σ H1 Q I1 q1
  | false => exact ⟨H1, I1, q1⟩
theorem pw_or (ha : PT X a tA) (hb : PW X (.BoolOp .Or (b :: rest) pos) tB') : PW X (.BoolOp .Or (a :: b :: rest) pos) (tOr tA tB') := by
  intro wh pins s σ H Q I h
  refine isTrue_or (thn (ha pins s σ H _ I h) fun c s1 ⟨H1, I1, q1⟩ => ?_)
  cases c with
  | true => exact ⟨H1, I1, q1⟩
  | false => exact hb wh pins s1 σ H1 Q I1 q1
theorem pt_not (ha : PT X a tA) : PT X (.UnaryOp .Not a pos) (tNot tA) := by
  intro pins s σ H Q I h
  exact isTrue_not (ha pins s σ H (fun c H1 => Q (!c) H1) I h)
/-- .. as values (bools) -/
def tAndV (ta tb : TE) : TE := fun σ H Q => ta σ H fun x H1 => ∃ c, x = .bl c ∧ if c = true then tb σ H1 Q else Q (.bl false) H1
theorem pe_one {op} {t : TE} (h : PE X a t) : PE X (.BoolOp op [a] pos) t := fun pins s σ H Q I hw => BoolOp_one (h pins s σ H Q I hw)
theorem pe_and (ha : PE X a ta) (hb : PE X (.BoolOp .And (b :: rest) pos) tb) : PE X (.BoolOp .And (a :: b :: rest) pos) (tAndV ta tb) := by
  intro pins s σ H Q I h
  refine BoolOp_and (thn (ha pins s σ H _ I h) fun v s1 ⟨x, H1, I1, r1, q1⟩ => ?_)
  obtain ⟨c, rfl, q1⟩ := q1
  cases r1
  refine wpAny_truthy_bool ?_
  cases c with
  | true => exact hb pins s1 σ H1 Q I1 q1
  | false => exact ⟨.bl false, H1, I1, rfl, q1⟩
/-- a if t else b -/
def tIf (t : TT) (ta tb : TE) : TE := fun σ H Q => t σ H fun c H1 => if c = true then ta σ H1 Q else tb σ H1 Q
theorem pe_ifExp {c : Expr} (hc : PT X c tA) (ha : PE X a ta) (hb : PE X b tb) : PE X (.IfExp c a b pos) (tIf tA ta tb) := by
  intro pins s σ H Q I h
  refine wpAny_IfExp (thn (hc pins s σ H _ I h) fun d s1 ⟨H1, I1, q1⟩ => ?_)
  cases d with
  | true => exact ha pins s1 σ H1 Q I1 q1
  | false => exact hb pins s1 σ H1 Q I1 q1
end
end L2

namespace L2
open PySem PySem.Spec PyProof.Rows

/-! ### a list, a tuple that is read: tracked, frozen, or an object of the module -/
def SqL (K : PySem.W.Frag) (H : Hp) (a : Addr) (xs : List V) : Prop :=
  Rd H a (.lst xs) ∨
    ∃ (o : Obj) (its : Array Value) (n : Nat), K.lookup a = some o ∧ o.cls = .type "list" ∧ o.dict = none ∧ o.data = .seq its n ∧ its.size ≤ sizeLine ∧ Vals xs its.toList
def SqT (K : PySem.W.Frag) (H : Hp) (a : Addr) (xs : List V) : Prop :=
  Rd H a (.tup xs) ∨
    ∃ (o : Obj) (its : Array Value) (n : Nat), K.lookup a = some o ∧ o.cls = .type "tuple" ∧ o.data = .seq its n ∧ its.size ≤ sizeLine ∧ Vals xs its.toList
def absV : Value → Option V
  | .none => some .non
  | .bool b => some (.bl b)
  | .int i _ => some (.int i)
  | .str x _ => some (.str x)
  | .bytes b _ => some (.byt b)
  | .float b _ => some (.flt b)
  | .ref a => some (.ref a)
  | .type n => some (.ty n)
  | _ => none
theorem RelV.abs {x : V} {u : Value} (r : RelV x u) : absV u = some x := by
  cases x with
  | non => cases r; rfl
  | bl _ => cases r; rfl
  | int _ => obtain ⟨t, rfl⟩ := r; rfl
  | str _ => obtain ⟨t, rfl⟩ := r; rfl
  | byt _ => obtain ⟨t, rfl⟩ := r; rfl
  | flt _ => obtain ⟨t, rfl⟩ := r; rfl
  | ref _ => cases r; rfl
  | ty _ => cases r; rfl
theorem RelV.inj {x y : V} {u : Value} (r : RelV x u) (q : RelV y u) : x = y := Option.some.inj (r.abs.symm.trans q.abs)
theorem Vals.inj : ∀ {xs ys : List V} {us : List Value}, Vals xs us → Vals ys us → xs = ys
  | _, _, _, .nil, .nil => rfl
  | _, _, _, .cons r t, .cons r' t' => by rw [r.inj r', Vals.inj t t']
section
variable {X : Cx} {pins : List (Addr × Obj)} {σ : St} {H : Hp} {s : Shared} {a : Addr} {xs ys : List V}
theorem SqL.of {K : PySem.W.Frag} (h : H a = some (.lst xs)) : SqL K H a xs := .inl (.inl h)
theorem SqT.of {K : PySem.W.Frag} (h : H a = some (.tup xs)) : SqT K H a xs := .inl (.inl h)
theorem Inv.list (I : Inv X pins σ H s) (h : SqL X.K H a xs) : ∃ its : List Value, Vals xs its ∧ PlainL s.heap a its.toArray ∧ xs.length ≤ sizeLine := by
  rcases h with h | ⟨o, its, n, hk, hc, hd, hs, hz, r⟩
  · obtain ⟨z, its, n, r, e⟩ := h.ok I.hok
    exact ⟨its, r, ⟨_, n, e, rfl, rfl, rfl⟩, z⟩
  · refine ⟨its.toList, r, ⟨o, n, I.kIn a o hk, hc, hd, by simpa using hs⟩, ?_⟩
    have e := r.length
    simp only [Array.length_toList] at e
    (first | lia | omega)
theorem Inv.tuple (I : Inv X pins σ H s) (h : SqT X.K H a xs) : ∃ its : List Value, Vals xs its ∧ IsTup s.heap a its.toArray ∧ xs.length ≤ sizeLine := by
  rcases h with h | ⟨o, its, n, hk, hc, hs, hz, r⟩
  · obtain ⟨z, its, r, p⟩ := h.ok I.hok
    exact ⟨its, r, p, z⟩
  · refine ⟨its.toList, r, ⟨o, I.kIn a o hk, hc, n, by simpa using hs⟩, ?_⟩
    have e := r.length
    simp only [Array.length_toList] at e
    (first | lia | omega)
theorem Inv.list_inj (I : Inv X pins σ H s) (h : SqL X.K H a xs) (h' : SqL X.K H a ys) : xs = ys := by
  obtain ⟨its, r, ⟨o, n, e, _, _, d⟩, _⟩ := I.list h
  obtain ⟨its', r', ⟨o', n', e', _, _, d'⟩, _⟩ := I.list h'
  rw [e] at e'; cases e'
  rw [d] at d'
  injection d' with d1 _
  have : its = its' := by simpa using congrArg Array.toList d1
  subst this
  exact r.inj r'
theorem Inv.tuple_inj (I : Inv X pins σ H s) (h : SqT X.K H a xs) (h' : SqT X.K H a ys) : xs = ys := by
  obtain ⟨its, r, ⟨o, e, _, n, d⟩, _⟩ := I.tuple h
  obtain ⟨its', r', ⟨o', e', _, n', d'⟩, _⟩ := I.tuple h'
  rw [e] at e'; cases e'
  rw [d] at d'
  injection d' with d1 _
  have : its = its' := by simpa using congrArg Array.toList d1
  subst this
  exact r.inj r'
end

/-! ### another wish about exceptions -/
abbrev Cx.wish (X : Cx) (E : Value → Shared → Prop) : Cx := { X with xe := E }
/-- no exception leaves -/
abbrev Cx.nox (X : Cx) : Cx := X.wish fun _ _ => False
theorem Cx.Ok.wish {X : Cx} (ok : X.Ok) (E : Value → Shared → Prop) : (X.wish E).Ok :=
  ⟨ok.mod, ok.kind, ok.glob, ok.blt, ok.above, ok.inj, ok.has, ok.cab, ok.hd, ok.frames, ok.stk, ok.exf, ok.bs, ok.bsz, ok.noex, ok.exfs, ok.funs, ok.frf⟩
theorem Cx.Ok.unwish {X : Cx} {E : Value → Shared → Prop} (ok : (X.wish E).Ok) : X.Ok :=
  ⟨ok.mod, ok.kind, ok.glob, ok.blt, ok.above, ok.inj, ok.has, ok.cab, ok.hd, ok.frames, ok.stk, ok.exf, ok.bs, ok.bsz, ok.noex, ok.exfs, ok.funs, ok.frf⟩
section
variable {X : Cx} {pins : List (Addr × Obj)} {σ : St} {H : Hp} {s : Shared} {E : Value → Shared → Prop}
theorem Inv.wish (I : Inv X pins σ H s) (E : Value → Shared → Prop) : Inv (X.wish E) pins σ H s := ⟨I.ok.wish E, I.os, I.bare, I.base, I.loc, I.cell, I.free, I.freeC, I.pin, I.hok, I.len⟩
theorem Inv.unwish (I : Inv (X.wish E) pins σ H s) : Inv X pins σ H s := ⟨I.ok.unwish, I.os, I.bare, I.base, I.loc, I.cell, I.free, I.freeC, I.pin, I.hok, I.len⟩
theorem SP.unwish {D : Ends} {f : Flow} {s' : Shared} (h : SP (X.wish E) pins D f s') : SP X pins D f s' := by
  cases f with
  | next => obtain ⟨σ', H', I, q⟩ := h; exact ⟨σ', H', I.unwish, q⟩
  | brk => obtain ⟨σ', H', I, q⟩ := h; exact ⟨σ', H', I.unwish, q⟩
  | cont => obtain ⟨σ', H', I, q⟩ := h; exact ⟨σ', H', I.unwish, q⟩
  | ret u => obtain ⟨v, σ', H', I, r, q⟩ := h; exact ⟨v, σ', H', I.unwish, r, q⟩
theorem PSs.nox {st : List Stmt} {t : TS} (h : PSs X.nox st t) : PSs X st t := fun pins s σ H D I hw =>
  wpAny_mono (h pins s σ H D (I.wish _) hw) (fun _ _ q => q.unwish) fun _ _ z => False.elim z
end

/-! ### blocks and small statements -/
section
variable {X : Cx} {st : Stmt} {rest : List Stmt} {t u : TS} {e : Expr} {te : TE} {pos : Pos}
def tNext : TS := fun D σ H => D.nx σ H
def tSeq (t u : TS) : TS := fun D σ H => t { D with nx := u D } σ H
theorem pss_nil : PSs X [] tNext := fun _ _ σ H _ I h => wpAny_execs_nil ⟨σ, H, I, h⟩
theorem pss_cons (h1 : PS X st t) (h2 : PSs X rest u) : PSs X (st :: rest) (tSeq t u) := by
  intro pins s σ H D I h
  refine wpAny_execs_cons (thn (h1 pins s σ H { D with nx := u D } I h) fun f s1 q => ?_)
  cases f with
  | next =>
    obtain ⟨σ', H', I', q⟩ := q
    exact h2 pins s1 σ' H' D I' q
  | ret v => exact q
  | brk => exact q
  | cont => exact q
theorem pss_one (h1 : PS X st t) : PSs X [st] t := by
  intro pins s σ H D I h
  refine wpAny_execs_cons (thn (h1 pins s σ H D I h) fun f s1 q => ?_)
  cases f with
  | next => exact wpAny_execs_nil q
  | ret v => exact q
  | brk => exact q
  | cont => exact q
/-- in a def's body nothing is shown -/
theorem Inv.quiet {pins : List (Addr × Obj)} {σ : St} {H : Hp} {s : Shared} (I : Inv X pins σ H s) : interactive X.env = false := by simp [interactive, I.ok.kind]
/-- an expression whose value is dropped -/
def tDrop (te : TE) : TS := fun D σ H => te σ H fun _ H1 => D.nx σ H1
theorem ps_expr (he : PE X e te) (hs : swapsWith e none pos.line X.env = pure false := by rfl) : PS X (.Expr e pos) (tDrop te) := by
  intro pins s σ H D I h
  exact wpAny_Expr_any (thn (he pins s σ H _ I h) fun v s1 ⟨x, H1, I1, r1, q1⟩ => ⟨σ, H1, I1, q1⟩) I.quiet hs
def tRet (te : TE) : TS := fun D σ H => te σ H D.rt
theorem ps_ret (he : PE X e te) : PS X (.Return (some e) pos) (tRet te) := by
  intro pins s σ H D I h
  exact wpAny_Return_some (thn (he pins s σ H _ I h) fun v s1 ⟨x, H1, I1, r1, q1⟩ => ⟨x, σ, H1, I1, r1, q1⟩)
def tIfS (c : TT) (t u : TS) : TS := fun D σ H => c σ H fun b H1 => if b = true then t D σ H1 else u D σ H1
theorem ps_if {c : Expr} {a b : List Stmt} {tc : TT} (hc : PT X c tc) (ha : PSs X a t) (hb : PSs X b u) : PS X (.If c a b pos) (tIfS tc t u) := by
  intro pins s σ H D I h
  refine wpAny_If (thn (hc pins s σ H _ I h) fun d s1 ⟨H1, I1, q1⟩ => ?_)
  cases d with
  | true => exact ha pins s1 σ H1 D I1 q1
  | false => exact hb pins s1 σ H1 D I1 q1
/-- code that the proof never comes to -/
def tNever : TS := fun _ _ _ => False
theorem ps_never : PS X st tNever := fun _ _ _ _ _ _ h => h.elim
end

/-! ### targets -/
abbrev TG := V → St → Hp → (St → Hp → Prop) → Prop
abbrev TGs := List V → St → Hp → (St → Hp → Prop) → Prop
def PG (X : Cx) (target : Expr) (t : TG) : Prop :=
  ∀ (pins : List (Addr × Obj)) (s : Shared) (σ : St) (H : Hp) (v : V) (u : Value) (Q : St → Hp → Prop), Inv X pins σ H s → RelV v u → t v σ H Q →
    wpAny (model X.prog X.w) X.A (assign target X.env u) (fun _ s' => ∃ σ' H', Inv X pins σ' H' s' ∧ Q σ' H') X.xe s
/-- several targets, one after another -/
def PGs (X : Cx) (ts : List Expr) (t : TGs) : Prop :=
  ∀ (pins : List (Addr × Obj)) (s : Shared) (σ : St) (H : Hp) (vs : List V) (us : List Value) (Q : St → Hp → Prop), Inv X pins σ H s → Vals vs us → t vs σ H Q →
    wpAny (model X.prog X.w) X.A (assignInOrder ((assignEach ts X.env).map (·.2)) us) (fun _ s' => ∃ σ' H', Inv X pins σ' H' s' ∧ Q σ' H') X.xe s
/-- o[i] = v, by values -/
abbrev TSet := V → V → V → Hp → (Hp → Prop) → Prop
def PSet (X : Cx) (t : TSet) : Prop :=
  ∀ (pins : List (Addr × Obj)) (s : Shared) (σ : St) (H : Hp) (o i v : V) (ov iv u : Value) (Q : Hp → Prop), Inv X pins σ H s → RelV o ov → RelV i iv → RelV v u → t o i v H Q →
    wpAny (model X.prog X.w) X.A (setItem ov iv u) (fun _ s' => ∃ H', Inv X pins σ H' s' ∧ Q H') X.xe s
section
variable {X : Cx} {pos : Pos}
def gName (i : Nat) : TG := fun v σ H Q => Q (σ.set i (some v)) H
theorem pg_name {i : Nat} {x : Str} (hN : X.N.Nodup) (hi : X.N[i]? = some x) (hx : Loc X.env.scope x) (hf : X.fn x = true ∨ X.env.scope.names.lookup x = some .local := by first | exact .inl rfl | exact .inr rfl | assumption) : PG X (.Name x pos) (gName i) := by
  intro pins s σ H v u Q I r h
  exact wpAny_assign_Name (store_ok I hN hi hx r (fun s' I' => ⟨_, H, I', h⟩) hf)
def gNil : TGs := fun vs σ H Q => vs = [] ∧ Q σ H
def gCons (t : TG) (u : TGs) : TGs := fun vs σ H Q => ∃ v r, vs = v :: r ∧ t v σ H fun σ' H' => u r σ' H' Q
theorem pgs_nil : PGs X [] gNil := by
  intro pins s σ H vs us Q I r h
  obtain ⟨e, h⟩ := h
  subst e
  cases r
  exact assignInOrder_nil ⟨σ, H, I, h⟩
theorem pgs_cons {e : Expr} {es : List Expr} {t : TG} {u : TGs} (h1 : PG X e t) (h2 : PGs X es u)
    (hs : (assignEach (e :: es) X.env).map (·.2) = assign e X.env :: (assignEach es X.env).map (·.2) := by rfl) : PGs X (e :: es) (gCons t u) := by
  intro pins s σ H vs us Q I r h
  obtain ⟨v, vr, e1, h⟩ := h
  subst e1
  cases r with
  | cons r rr =>
    rw [hs]
    refine assignInOrder_cons (thn (h1 pins s σ H _ _ _ I r h) fun _ s1 ⟨σ1, H1, I1, q1⟩ => ?_)
    exact h2 pins s1 σ1 H1 _ _ Q I1 rr q1
/-- (a, b, ..) = a tuple of that length -/
def gTup (K : PySem.W.Frag) (n : Nat) (t : TGs) : TG := fun v σ H Q => ∃ a xs, v = .ref a ∧ SqT K H a xs ∧ xs.length = n ∧ t xs σ H Q
theorem pg_tup {es : List Expr} {k : Nat} {t : TGs} {n : Nat} (hc : X.calm = true) (h : PGs X es t)
    (hn : (assignEach es X.env).length = n := by rfl) (hst : (assignEach es X.env).findIdx? (·.1) = none := by rfl) : PG X (.Tuple es k pos) (gTup X.K n t) := by
  intro pins s σ H v u Q I r hw
  obtain ⟨a, xs, e1, hq, hl, hw⟩ := hw
  subst e1
  cases r
  obtain ⟨its, rv, ht, hz⟩ := I.tuple hq
  refine assign_Tuple_tuple (I.ok.hd hc) ht (by simp [hn, ← hl, rv.length]) hst fun h' hx => ?_
  have I1 : Inv X pins σ H { s with heap := h' } := I.kept (t' := s.toks) fun b o e => hx b o (Nat.ne_of_lt (Heap.lt_size e)) e
  exact h pins _ σ H xs _ Q I1 (by simpa using rv) hw
/-- o[i] = .. -/
def gSub (to ti : TE) (t : TSet) : TG := fun v σ H Q => to σ H fun o H1 => ti σ H1 fun i H2 => t o i v H2 fun H3 => Q σ H3
theorem pg_sub {o i : Expr} {to ti : TE} {t : TSet} (ho : PE X o to) (hi : PE X i ti) (hs : PSet X t)
    (ha : ∀ v, assign (.Subscript o i pos) X.env v = (do
      let ov ← holding [v] (eval o X.env)
      let iv ← holding [v, ov] (eval i X.env)
      standAt pos
      holding [v, ov, iv] (setItem ov iv v)
      release [v, ov, iv] []) := by intro _; rfl) : PG X (.Subscript o i pos) (gSub to ti t) := by
  intro pins s σ H v u Q I r h
  rw [ha]
  refine wpAny_bind (wpAny_holding (thn (ho pins s σ H _ I h) fun ov s1 ⟨x, H1, I1, r1, q1⟩ => ?_))
  refine wpAny_bind (wpAny_holding (thn (hi pins s1 σ H1 _ I1 q1) fun iv s2 ⟨y, H2, I2, r2, q2⟩ => ?_))
  refine wpAny_bind (wpAny_standAt (wpAny_bind (wpAny_holding (thn (hs pins s2 σ H2 x y v ov iv u _ I2 r1 r2 r q2) fun _ s3 ⟨H3, I3, q3⟩ => ?_))))
  exact wpAny_release ⟨σ, H3, I3, q3⟩
/-- target = value -/
def tAsg (te : TE) (g : TG) : TS := fun D σ H => te σ H fun x H1 => g x σ H1 D.nx
theorem ps_asg {tg e : Expr} {te : TE} {g : TG} (he : PE X e te) (hg : PG X tg g) (hs : swapsWithSole [tg] e pos.line X.env = pure false := by rfl) (hw : swappedStores [tg] e X.env = pure none := by rfl)
    (h1 : (assignEach [tg] X.env).map (·.2) = [assign tg X.env] := by rfl) : PS X (.Assign [tg] e pos) (tAsg te g) := by
  intro pins s σ H D I h
  refine wpAny_Assign_stores (thn (he pins s σ H _ I h) fun v s1 ⟨x, H1, I1, r1, q1⟩ => ?_) hs hw
  rw [h1]
  exact thn (hg pins s1 σ H1 x v _ I1 r1 q1) fun _ s2 q => q
/-- name = value -/
theorem ps_set {i : Nat} {x : Str} {e : Expr} {te : TE} {pos' : Pos} (hN : X.N.Nodup) (hi : X.N[i]? = some x) (hx : Loc X.env.scope x) (he : PE X e te) (hs : swapsWith e (some (.Name x pos')) pos.line X.env = pure false := by rfl) (hf : X.fn x = true ∨ X.env.scope.names.lookup x = some .local := by first | exact .inl rfl | exact .inr rfl | assumption) :
    PS X (.Assign [.Name x pos'] e pos) (tAsg te (gName i)) := by
  intro pins s σ H D I h
  refine wpAny_Assign_Name (thn (he pins s σ H _ I h) fun v s1 ⟨y, H1, I1, r1, q1⟩ => ?_) hs
  exact store_ok I1 hN hi hx r1 (fun s2 I2 => ⟨_, H1, I2, q1⟩) hf
end

/-! ### while -/
section
variable {X : Cx} {pos : Pos}
/-- the invariant W with its measure -/
def tWhile (c : TT) (tb : TS) : TS := fun D σ H => ∃ W : Nat → St → Hp → Prop, (∃ m, W m σ H) ∧ ∀ m σ H, W m σ H →
  c σ H fun b H1 => if b = true then ∃ N : St → Hp → Prop, (∀ σ' H', N σ' H' → ∃ m', m' < m ∧ W m' σ' H') ∧ tb { D with nx := N, ct := N, bk := D.nx } σ H1 else D.nx σ H1
theorem ps_while {c : Expr} {body : List Stmt} {tc : TT} {tb : TS} (hp : PassesOwn (model X.prog X.w) X.A X.env X.xe) (hc : PT X c tc) (hb : PSs X body tb) : PS X (.While c body [] pos) (tWhile tc tb) := by
  intro pins s σ H D I h
  obtain ⟨W, ⟨m0, w0⟩, turn⟩ := h
  refine wpAny_While (codeAny_whileLoop (fun n s' => ∃ σ' H', Inv X pins σ' H' s' ∧ W n σ' H') ?_ m0 ⟨σ, H, I, w0⟩)
  rintro n s1 ⟨σ1, H1, I1, w1⟩
  refine wpAny_passesOwn hp (thn (hc pins s1 σ1 H1 _ I1 (turn n σ1 H1 w1)) fun b s2 ⟨H2, I2, q2⟩ => ?_)
  cases b with
  | true =>
    obtain ⟨N, hN, q2⟩ := q2
    rw [if_pos rfl]
    refine wpAny_passesOwn hp (thn (hb pins s2 σ1 H2 _ I2 q2) fun f s3 q3 => ?_)
    cases f with
    | next =>
      obtain ⟨σ3, H3, I3, n3⟩ := q3
      obtain ⟨m', hm, w3⟩ := hN σ3 H3 n3
      exact ⟨m', hm, σ3, H3, I3, w3⟩
    | cont =>
      obtain ⟨σ3, H3, I3, n3⟩ := q3
      obtain ⟨m', hm, w3⟩ := hN σ3 H3 n3
      exact ⟨m', hm, σ3, H3, I3, w3⟩
    | brk => exact q3
    | ret v => exact q3
  | false =>
    rw [if_neg Bool.false_ne_true]
    exact wpAny_execs_nil ⟨σ1, H2, I2, q2⟩
end

/-! ### what a loop or a comprehension walks -/
/-- at turn i: it yields x (the heap may grow), or it stops -/
structure It where
  go : Nat → Hp → Prop
  yld : Nat → Hp → V → Hp → Prop
  stop : Nat → Hp → Prop
/-- the iterator's own objects may turn: they are not the frame's, not pinned, younger than the entry (or a comprehension's own) -/
def FpOk (X : Cx) (pins : List (Addr × Obj)) (H : Hp) (b : Addr) : Prop :=
  H b = none ∧ b ≠ X.env.locals ∧ b ∉ X.fs ∧ (b ∈ X.ex ∨ X.s₀.heap.objs.size ≤ b) ∧ (∀ x c, X.env.cells.lookup x = some c → c ≠ b) ∧ ∀ p ∈ X.pn ++ pins, p.1 ≠ b
theorem Inv.fpOk {X : Cx} {pins : List (Addr × Obj)} {σ : St} {H H' : Hp} {s : Shared} {b : Addr} (I : Inv X pins σ H s) (hb : s.heap.objs.size ≤ b) (hn : H' b = none) : FpOk X pins H' b := by
  refine ⟨hn, Nat.ne_of_gt (Nat.lt_of_lt_of_le I.lt hb), I.nofs hb, .inr (Nat.le_trans I.sz hb), fun x c e z => ?_, fun p hp z => ?_⟩
  · obtain ⟨v, q⟩ := I.cell x c e
    exact absurd (Nat.lt_of_lt_of_le q.lt (by rw [z]; exact hb)) (Nat.lt_irrefl _)
  · exact absurd (Nat.lt_of_lt_of_le (Heap.lt_size (I.pin p hp).1) (by rw [z]; exact hb)) (Nat.lt_irrefl _)
structure Turn (P : Program) (w : World) (K : PySem.W.Frag) (tg : Expr) (J : It) (fp : List Addr) (it : Addr) (tn : Nat → Heap → Prop) : Prop where
  mem : it ∈ fp
  obj : ∀ i h, tn i h → ∀ b ∈ fp, ∃ o, h.get? b = some o ∧ ∀ v, o.data ≠ .cell v
  keep : ∀ i h h', tn i h → (∀ b ∈ fp, ∀ o, h.get? b = some o → h'.get? b = some o) → tn i h'
  item : ∀ (X : Cx), X.prog = P → X.w = w → X.K = K → X.calm = true → ∀ (i : Nat) (pins : List (Addr × Obj)) (s : Shared) (σ : St) (H : Hp) (E : Value → Shared → Prop), Inv X pins σ H s → (∀ b ∈ fp, FpOk X pins H b) → tn i s.heap → J.go i H →
    wpAny (model P w) X.A (pyNext (.ref it)) (fun r s1 => ∃ u, r = some u ∧
      wpAny (model P w) X.A (letOwnedTupleGo tg (.ref it) u) (fun _ s2 => ∃ x H', Inv X pins σ H' s2 ∧ RelV x u ∧ J.yld i H x H' ∧ tn (i + 1) s2.heap ∧ ∀ b ∈ fp, H' b = none) E s1) E s
  done : ∀ (X : Cx), X.prog = P → X.w = w → X.K = K → X.calm = true → ∀ (i : Nat) (pins : List (Addr × Obj)) (s : Shared) (σ : St) (H : Hp) (E : Value → Shared → Prop), Inv X pins σ H s → (∀ b ∈ fp, FpOk X pins H b) → tn i s.heap → J.stop i H →
    wpAny (model P w) X.A (pyNext (.ref it)) (fun r s1 => r = none ∧ Inv X pins σ H s1) E s
  self : ∀ (A : Around) (i : Nat) (s : Shared) (Q : Value → Shared → Prop) (E : Value → Shared → Prop), tn i s.heap → Q (.ref it) s → wpAny (model P w) A (pyIter (.ref it)) Q E s
abbrev TI := St → Hp → (It → Hp → Prop) → Prop
/-- an iterator has come -/
def PIE (X : Cx) (pins : List (Addr × Obj)) (σ : St) (tg : Expr) (R : It → Hp → Prop) (itv : Value) (s2 : Shared) : Prop :=
  ∃ (it : Addr) (fp : List Addr) (tn : Nat → Heap → Prop) (J : It) (H' : Hp), itv = .ref it ∧ Inv X pins σ H' s2 ∧ Turn X.prog X.w X.K tg J fp it tn ∧ tn 0 s2.heap ∧ (∀ b ∈ fp, FpOk X pins H' b) ∧ R J H'
def PI (X : Cx) (tg iter : Expr) (wi : TI) : Prop :=
  ∀ (pins : List (Addr × Obj)) (s : Shared) (σ : St) (H : Hp) (R : It → Hp → Prop), Inv X pins σ H s → wi σ H R →
    wpAny (model X.prog X.w) X.A (eval iter X.env) (fun v s1 => wpAny (model X.prog X.w) X.A (pyIter v) (PIE X pins σ tg R) X.xe s1) X.xe s

/-- the step ahead of the store is nothing for an iterator that keeps no tuple -/
theorem go_of {M : Model} {A : Around} {E : Value → Shared → Prop} {s : Shared} {tg : Expr} {it : Addr} {u : Value} {o : Obj} {n : String} {vs : Array Value} {Q : Unit → Shared → Prop} (ho : s.heap.get? it = some o) (hc : o.cls = .type n) (hd : o.data = .fields vs)
    (hn : ["enumerate", "zip", "dict_itemiterator", "dict_reverseitemiterator", "odict_iterator", "itertools.zip_longest", "itertools.pairwise"].contains n = false) (hQ : Q () s) : wpAny M A (letOwnedTupleGo tg (.ref it) u) Q E s := by
  unfold letOwnedTupleGo
  cases tg <;> first
    | exact wpAny_pure hQ
    | (cases u <;> first
        | exact wpAny_pure hQ
        | (refine wpAny_bind (wpAny_load ho ?_)
           rw [hc, hd]
           show wpAny M A (if (["enumerate", "zip", "dict_itemiterator", "dict_reverseitemiterator", "odict_iterator", "itertools.zip_longest", "itertools.pairwise"].contains n && vs[0]? == some (rawInt _)) = true then _ else _) Q E s
           rw [if_neg (by intro h; rw [hn, Bool.false_and] at h; cases h)]
           exact wpAny_pure hQ))

/-- the list at a, as it stands at each turn (a loop may append to it) -/
def Itl (K : PySem.W.Frag) (a : Addr) : It :=
  ⟨fun i H => ∃ xs x, SqL K H a xs ∧ xs[i]? = some x, fun i H x H' => H' = H ∧ ∀ xs, SqL K H a xs → xs[i]? = some x, fun i H => ∃ xs, SqL K H a xs ∧ xs.length ≤ i⟩
def Itt (K : PySem.W.Frag) (a : Addr) : It :=
  ⟨fun i H => ∃ xs x, SqT K H a xs ∧ xs[i]? = some x, fun i H x H' => H' = H ∧ ∀ xs, SqT K H a xs → xs[i]? = some x, fun i H => ∃ xs, SqT K H a xs ∧ xs.length ≤ i⟩
/-- lo, lo + 1, .. (n of them) -/
def Itr (lo : Int) (n : Nat) : It := ⟨fun i _ => i < n, fun i H x H' => H' = H ∧ x = .int (lo + i), fun i _ => n ≤ i⟩
theorem turn_list {P : Program} {w : World} {K : PySem.W.Frag} {tg : Expr} (a it : Addr) : Turn P w K tg (Itl K a) [it] it (fun i h => h.IsListIter it a i) where
  mem := by simp
  obj := fun i h st b hb => by
    have e : b = it := by simpa using hb
    subst e
    obtain ⟨o, e, c, d⟩ := st
    exact ⟨o, e, fun v z => by rw [d] at z; cases z⟩
  keep := fun i h h' st k => st.at fun o e => k it (by simp) o e
  item := by
    intro X hP hw hK hc i pins s σ H E I hf st hg
    subst hP hw hK
    obtain ⟨xs, x, hq, hx⟩ := hg
    obtain ⟨its, rv, p, hz⟩ := I.list hq
    obtain ⟨u, hu, ru⟩ := rv.get hx
    obtain ⟨f0, f1, f2, f3, f4, f5⟩ := hf it (by simp)
    refine wpAny_pyNext_list_item st p.isList (x := u) (by simpa using hu) fun h' st' sb => ?_
    have I1 : Inv X pins σ H { s with heap := h' } := I.turned (t' := s.toks) (fun b o hb e => (sb.2 b hb).trans e) f0 f1 f3 f4 f5
    obtain ⟨o, e, c, d⟩ := id st'
    exact ⟨u, rfl, go_of (s := { s with heap := h' }) e c d (by decide) ⟨x, H, I1, ru, ⟨rfl, fun ys hy => by rw [I.list_inj hy hq]; exact hx⟩, st', fun b hb => (hf b hb).1⟩⟩
  done := by
    intro X hP hw hK hc i pins s σ H E I hf st hg
    subst hP hw hK
    obtain ⟨xs, hq, hx⟩ := hg
    obtain ⟨its, rv, p, hz⟩ := I.list hq
    obtain ⟨f0, f1, f2, f3, f4, f5⟩ := hf it (by simp)
    have hl := rv.length
    exact wpAny_pyNext_list_end (I.ok.hd hc) st p.isList (by simp; (first | lia | omega)) fun h' eb => ⟨rfl, I.turned (t' := s.toks) (fun b o hb e => eb b o hb e) f0 f1 f3 f4 f5⟩
  self := fun _ _ _ _ _ st h => wpAny_pyIter_listiter st h
theorem turn_tuple {P : Program} {w : World} {K : PySem.W.Frag} {tg : Expr} (a it : Addr) : Turn P w K tg (Itt K a) [it] it (fun i h => h.IsTupleIter it a i) where
  mem := by simp
  obj := fun i h st b hb => by
    have e : b = it := by simpa using hb
    subst e
    obtain ⟨o, e, c, d⟩ := st
    exact ⟨o, e, fun v z => by rw [d] at z; cases z⟩
  keep := fun i h h' st k => st.at fun o e => k it (by simp) o e
  item := by
    intro X hP hw hK hc i pins s σ H E I hf st hg
    subst hP hw hK
    obtain ⟨xs, x, hq, hx⟩ := hg
    obtain ⟨its, rv, p, hz⟩ := I.tuple hq
    obtain ⟨u, hu, ru⟩ := rv.get hx
    obtain ⟨f0, f1, f2, f3, f4, f5⟩ := hf it (by simp)
    refine wpAny_pyNext_tuple_item st (show s.heap.IsTuple a its.toArray from p) (x := u) (by simpa using hu) fun h' st' sb => ?_
    have I1 : Inv X pins σ H { s with heap := h' } := I.turned (t' := s.toks) (fun b o hb e => (sb.2 b hb).trans e) f0 f1 f3 f4 f5
    obtain ⟨o, e, c, d⟩ := id st'
    exact ⟨u, rfl, go_of (s := { s with heap := h' }) e c d (by decide) ⟨x, H, I1, ru, ⟨rfl, fun ys hy => by rw [I.tuple_inj hy hq]; exact hx⟩, st', fun b hb => (hf b hb).1⟩⟩
  done := by
    intro X hP hw hK hc i pins s σ H E I hf st hg
    subst hP hw hK
    obtain ⟨xs, hq, hx⟩ := hg
    obtain ⟨its, rv, p, hz⟩ := I.tuple hq
    obtain ⟨f0, f1, f2, f3, f4, f5⟩ := hf it (by simp)
    have hl := rv.length
    exact wpAny_pyNext_tuple_end (I.ok.hd hc) st (show s.heap.IsTuple a its.toArray from p) (by simp; (first | lia | omega)) fun h' eb => ⟨rfl, I.turned (t' := s.toks) (fun b o hb e => eb b o hb e) f0 f1 f3 f4 f5⟩
  self := fun _ _ _ _ _ st h => wpAny_pyIter_tupleiter st h
theorem turn_range {P : Program} {w : World} {K : PySem.W.Frag} {tg : Expr} (it : Addr) (lo : Int) (n : Nat) : Turn P w K tg (Itr lo n) [it] it (fun i h => IsRangeIter h it (lo + (i : Nat) * 1) ((n : Int) - (i : Nat)) 1) where
  mem := by simp
  obj := fun i h st b hb => by
    have e : b = it := by simpa using hb
    subst e
    exact ⟨_, st, fun v z => by
      have z' : Data.fields _ = Data.cell v := z
      cases z'⟩
  keep := fun i h h' st k => k it (by simp) _ st
  item := by
    intro X hP hw hK hc i pins s σ H E I hf st hg
    subst hP hw hK
    obtain ⟨f0, f1, f2, f3, f4, f5⟩ := hf it (by simp)
    have W := Walks.range (prog := X.prog) (w := X.w) (I.ok.hd hc) it lo 1 n
    refine W.item i s _ _ hg st fun v h' tk hv st' kk => ?_
    obtain ⟨t, rfl⟩ := hv
    have I1 : Inv X pins σ H { s with heap := h', toks := tk } := I.turned (fun b o hb e => kk b o (by simpa using hb) e) f0 f1 f3 f4 f5
    refine ⟨_, rfl, go_of (s := { s with heap := h', toks := tk }) (n := "range_iterator") st' rfl rfl (by decide) ⟨.int (lo + i), H, I1, ⟨t, ?_⟩, ⟨rfl, rfl⟩, st', fun b hb => (hf b hb).1⟩⟩
    rw [Int.mul_one]
  done := by
    intro X hP hw hK hc i pins s σ H E I hf st hg
    subst hP hw hK
    obtain ⟨f0, f1, f2, f3, f4, f5⟩ := hf it (by simp)
    exact wpAny_pyNext_range_end (I.ok.hd hc) st (by have : n ≤ i := hg; (first | lia | omega)) fun h' eb => ⟨rfl, I.turned (t' := s.toks) (fun b o hb e => eb b o hb e) f0 f1 f3 f4 f5⟩
  self := fun _ _ _ _ _ st h => wpAny_pyIter_rangeiter st h
end L2

namespace L2
open PySem PySem.Spec PyProof.Rows
section
variable {X : Cx} {tg : Expr}
def iList (K : PySem.W.Frag) (tl : TE) : TI := fun σ H R => tl σ H fun x H1 => ∃ a, x = .ref a ∧ (∃ xs, SqL K H1 a xs) ∧ R (Itl K a) H1
def iTup (K : PySem.W.Frag) (tl : TE) : TI := fun σ H R => tl σ H fun x H1 => ∃ a, x = .ref a ∧ (∃ xs, SqT K H1 a xs) ∧ R (Itt K a) H1
theorem pi_list {l : Expr} {tl : TE} (hl : PE X l tl) : PI X tg l (iList X.K tl) := by
  intro pins s σ H R I h
  refine thn (hl pins s σ H _ I h) fun v s1 ⟨x, H1, I1, r1, q1⟩ => ?_
  obtain ⟨a, e, ⟨xs, hq⟩, q⟩ := q1
  subst e
  cases r1
  obtain ⟨its, rv, p, hz⟩ := I1.list hq
  refine wpAny_pyIter_list p.isList ?_
  refine ⟨s1.heap.objs.size, [s1.heap.objs.size], _, _, H1, rfl, I1.kept (t' := s1.toks) fun b o e => Heap.get?_push_of_some _ e, turn_list a _, ⟨_, Heap.get?_push_size _ rfl, rfl, rfl⟩, fun b hb => ?_, q⟩
  have e : b = s1.heap.objs.size := by simpa using hb
  subst e
  exact I1.fpOk (Nat.le_refl _) (I1.hok.fresh (Nat.le_refl _))
theorem pi_tup {l : Expr} {tl : TE} (hl : PE X l tl) : PI X tg l (iTup X.K tl) := by
  intro pins s σ H R I h
  refine thn (hl pins s σ H _ I h) fun v s1 ⟨x, H1, I1, r1, q1⟩ => ?_
  obtain ⟨a, e, ⟨xs, hq⟩, q⟩ := q1
  subst e
  cases r1
  obtain ⟨its, rv, p, hz⟩ := I1.tuple hq
  refine wpAny_pyIter_tuple (show s1.heap.IsTuple a its.toArray from p) ?_
  refine ⟨s1.heap.objs.size, [s1.heap.objs.size], _, _, H1, rfl, I1.kept (t' := s1.toks) fun b o e => Heap.get?_push_of_some _ e, turn_tuple a _, ⟨_, Heap.get?_push_size _ rfl, rfl, rfl⟩, fun b hb => ?_, q⟩
  have e : b = s1.heap.objs.size := by simpa using hb
  subst e
  exact I1.fpOk (Nat.le_refl _) (I1.hok.fresh (Nat.le_refl _))
/-- a range object just made, walked -/
theorem range_it {pins : List (Addr × Obj)} {σ : St} {H : Hp} {s : Shared} {R : It → Hp → Prop} {E : Value → Shared → Prop} {lo hi : Int} {t u v : Tok} {tk : Nat} (I : Inv X pins σ H s) (h1 : -(2 ^ 62) ≤ lo) (h2 : lo < 2 ^ 62) (h3 : -(2 ^ 62) ≤ hi) (h4 : hi < 2 ^ 62)
    (q : R (Itr lo (hi - lo).toNat) H) : wpAny (model X.prog X.w) X.A (pyIter (.ref s.heap.objs.size)) (PIE X pins σ tg R) E { s with heap := s.heap.push { cls := .type "range", data := .fields #[.int lo t, .int hi u, .int 1 v] }, toks := tk } := by
  refine wpAny_pyIter_range (IsRange.new ..) (small_one h1 h2 h3 h4) ?_
  have I1 : Inv X pins σ H { s with heap := s.heap.push { cls := .type "range", data := .fields #[.int lo t, .int hi u, .int 1 v] }, toks := tk } := I.kept fun b o e => Heap.get?_push_of_some _ e
  refine ⟨(s.heap.push { cls := .type "range", data := .fields #[.int lo t, .int hi u, .int 1 v] }).objs.size, [(s.heap.push { cls := .type "range", data := .fields #[.int lo t, .int hi u, .int 1 v] }).objs.size], _, _, H, rfl,
    I1.kept (t' := tk) fun b o e => Heap.get?_push_of_some _ e, turn_range _ lo (hi - lo).toNat, ?_, fun b hb => ?_, q⟩
  · have e1 : lo + ((0 : Nat) : Int) * 1 = lo := by simp
    have e2 : (((hi - lo).toNat : Nat) : Int) - ((0 : Nat) : Int) = Builtin.Range.rangeSize lo hi 1 := by rw [rangeSize_one]; split <;> (first | lia | omega)
    show IsRangeIter _ _ (lo + ((0 : Nat) : Int) * 1) ((((hi - lo).toNat : Nat) : Int) - ((0 : Nat) : Int)) 1
    rw [e1, e2]
    exact Heap.get?_push_size _ rfl
  · have e : b = (s.heap.push { cls := .type "range", data := .fields #[.int lo t, .int hi u, .int 1 v] }).objs.size := by simpa using hb
    subst e
    exact I1.fpOk (Nat.le_refl _) (I1.hok.fresh (Nat.le_refl _))
def iRng1 (ta : TA) : TI := fun σ H R => ta σ H fun vs H1 => ∃ j : Int, vs = [.int j] ∧ -(2 ^ 62) ≤ j ∧ j < 2 ^ 62 ∧ R (Itr 0 j.toNat) H1
theorem pi_range1 {a : Expr} {ta : TA} {p pos : Pos} (hg : Gl X "range") (hm : X.mg "range" = none) (ha : PA X [a] ta) (hs : starEach [a] X.env = [(false, eval a X.env)] := by rfl) : PI X tg (.Call (.Name "range" p) [a] [] pos) (iRng1 ta) := by
  intro pins s σ H R I h
  refine Call_ (ld_blt I hg hm boot_range (PyProof.Rows.callWith_type1 (thn (ha pos pins s σ H _ I h) fun us s1 ⟨vs, H1, I1, r1, q1⟩ => ?_) hs rfl))
  obtain ⟨j, e, q1, q2, q⟩ := q1
  subst e
  cases r1 with
  | cons r rr =>
    cases rr
    obtain ⟨t, rfl⟩ := r
    exact call_range_1 (range_it I1 (by (first | lia | omega)) (by (first | lia | omega)) q1 q2 (by simpa using q))
/-! ### for -/
/-- W: the invariant by the turn and a measure; N: what the body is to reach -/
def tFor (wi : TI) (g : TG) (tb : TS) : TS := fun D σ H => wi σ H fun J H1 => ∃ W : Nat → Nat → St → Hp → Prop, (∃ m, W 0 m σ H1) ∧ ∀ i m σ H, W i m σ H →
  (J.stop i H ∧ D.nx σ H) ∨ (J.go i H ∧ ∃ N : St → Hp → Prop, (∀ σ' H', N σ' H' → ∃ m', m' < m ∧ W (i + 1) m' σ' H') ∧ ∀ x H', J.yld i H x H' → g x σ H' fun σ2 H2 => tb { D with nx := N, ct := N, bk := D.nx } σ2 H2)
/-- the records at fp as they stand -/
def pinsAt (fp : List Addr) (h : Heap) : List (Addr × Obj) := fp.filterMap fun b => (h.get? b).map fun o => (b, o)
theorem mem_pinsAt {fp : List Addr} {h : Heap} {b : Addr} {o : Obj} (hb : b ∈ fp) (e : h.get? b = some o) : (b, o) ∈ pinsAt fp h := List.mem_filterMap.mpr ⟨b, hb, by rw [e]; rfl⟩
theorem of_pinsAt {fp : List Addr} {h : Heap} {p : Addr × Obj} (hp : p ∈ pinsAt fp h) : p.1 ∈ fp ∧ h.get? p.1 = some p.2 := by
  obtain ⟨b, hb, e⟩ := List.mem_filterMap.mp hp
  cases q : h.get? b with
  | none => rw [q] at e; cases e
  | some o =>
    rw [q] at e
    have e' : (b, o) = p := Option.some.inj e
    subst e'
    exact ⟨hb, q⟩
theorem Inv.pinned {pins : List (Addr × Obj)} {σ : St} {H : Hp} {s : Shared} {fp : List Addr} (I : Inv X pins σ H s) (hf : ∀ b ∈ fp, FpOk X pins H b) (ho : ∀ b ∈ fp, ∃ o, s.heap.get? b = some o ∧ ∀ v, o.data ≠ .cell v) : Inv X (pins ++ pinsAt fp s.heap) σ H s :=
  I.pins_of fun p hp => (List.mem_append.mp hp).elim (fun z => I.pin p (List.mem_append_right _ z)) fun z => by
    obtain ⟨hb, e⟩ := of_pinsAt z
    obtain ⟨f0, f1, f2, _⟩ := hf p.1 hb
    obtain ⟨o, e', d⟩ := ho p.1 hb
    rw [e] at e'; cases e'
    exact ⟨e, f0, f1, f2, d⟩
theorem Inv.unpinned {pins pl : List (Addr × Obj)} {σ : St} {H : Hp} {s : Shared} (I : Inv X (pins ++ pl) σ H s) : Inv X pins σ H s := I.pins_of fun p hp => I.pin p (List.mem_append_right _ (List.mem_append_left _ hp))
theorem ps_for {iter : Expr} {body : List Stmt} {wi : TI} {g : TG} {tb : TS} {pos : Pos} (hp : PassesOwn (model X.prog X.w) X.A X.env X.xe) (hc : X.calm = true) (hi : PI X tg iter wi) (hg : PG X tg g) (hb : PSs X body tb)
    (hs : ∀ x, foldedSetIterable iter X.env x = pure x := by intro _; rfl) : PS X (.For tg iter body [] pos) (tFor wi g tb) := by
  intro pins s σ H D I h
  refine wpAny_For (thn (hi pins s σ H _ I h) fun v s1 h1 => thn h1 fun itv s2 h2 => ?_) hs
  obtain ⟨it, fp, tn, J, H2, e, I2, T, st2, f2, W, ⟨m0, w0⟩, turn⟩ := h2
  subst e
  -- what stays true of the iterator's objects through the loop
  have stat : ∀ {H' : Hp}, (∀ b ∈ fp, H' b = none) → ∀ b ∈ fp, FpOk X pins H' b := fun hn b hb => ⟨hn b hb, (f2 b hb).2⟩
  refine codeAny_forLoop_any (fun n s' => ∃ i σ' H', Inv X pins σ' H' s' ∧ tn i s'.heap ∧ (∀ b ∈ fp, H' b = none) ∧ W i n σ' H') ?_ m0 ⟨0, σ, H2, I2, st2, fun b hb => (f2 b hb).1, w0⟩
  rintro n s3 ⟨i, σ3, H3, I3, st3, fr3, w3⟩
  rcases turn i n σ3 H3 w3 with ⟨stop, qn⟩ | ⟨go, N, hN, step⟩
  · refine wpAny_passesOwn hp (thn (T.done X rfl rfl rfl hc i pins s3 σ3 H3 X.xe I3 (stat fr3) st3 stop) fun r s4 ⟨hr, I4⟩ => ?_)
    subst hr
    exact wpAny_execs_nil ⟨σ3, H3, I4, qn⟩
  · refine wpAny_passesOwn hp (thn (T.item X rfl rfl rfl hc i pins s3 σ3 H3 X.xe I3 (stat fr3) st3 go) fun r s4 ⟨u, hr, h4⟩ => ?_)
    subst hr
    refine wpAny_passesOwn hp (thn h4 fun _ s5 ⟨x, H5, I5, r5, y5, st5, fr5⟩ => ?_)
    have I5' := I5.pinned (stat fr5) (T.obj _ _ st5)
    refine wpAny_passesOwn hp (thn (hg _ s5 σ3 H5 x u _ I5' r5 (step x H5 y5)) fun _ s6 ⟨σ6, H6, I6, q6⟩ => ?_)
    refine wpAny_passesOwn hp (thn (hb _ s6 σ6 H6 _ I6 q6) fun f s7 q7 => ?_)
    have again : ∀ {σ7 : St} {H7 : Hp}, Inv X (pins ++ pinsAt fp s5.heap) σ7 H7 s7 → N σ7 H7 → ∃ m, m < n ∧ ∃ i σ' H', Inv X pins σ' H' s7 ∧ tn i s7.heap ∧ (∀ b ∈ fp, H' b = none) ∧ W i m σ' H' := fun {σ7 H7} I7 n7 => by
      obtain ⟨m', hm, w7⟩ := hN σ7 H7 n7
      refine ⟨m', hm, i + 1, σ7, H7, I7.unpinned, T.keep _ _ _ st5 fun b hb o e => (I7.pin (b, o) (List.mem_append_right _ (List.mem_append_right _ (mem_pinsAt hb e)))).1, fun b hb => ?_, w7⟩
      obtain ⟨o, e, d⟩ := T.obj _ _ st5 b hb
      exact (I7.pin (b, o) (List.mem_append_right _ (List.mem_append_right _ (mem_pinsAt hb e)))).2.1
    cases f with
    | next => obtain ⟨σ7, H7, I7, n7⟩ := q7; exact again I7 n7
    | cont => obtain ⟨σ7, H7, I7, n7⟩ := q7; exact again I7 n7
    | brk => obtain ⟨σ7, H7, I7, q7⟩ := q7; exact ⟨σ7, H7, I7.unpinned, q7⟩
    | ret v => obtain ⟨x7, σ7, H7, I7, r7, q7⟩ := q7; exact ⟨x7, σ7, H7, I7.unpinned, r7, q7⟩
end

/-! ### the forms one uses -/
/-- over a list that the body leaves as it is -/
theorem for_list {K : PySem.W.Frag} {a : Addr} {xs : List V} {g : TG} {tb : TS} {D : Ends} {σ : St} {H : Hp} (Pv : Nat → St → Hp → Prop) (h0 : Pv 0 σ H) (hl : ∀ i σ H, i ≤ xs.length → Pv i σ H → SqL K H a xs)
    (hs : ∀ i x σ H, xs[i]? = some x → Pv i σ H → g x σ H fun σ2 H2 => tb { D with nx := Pv (i + 1), ct := Pv (i + 1), bk := D.nx } σ2 H2) (hd : ∀ σ H, Pv xs.length σ H → D.nx σ H) :
    ∃ W : Nat → Nat → St → Hp → Prop, (∃ m, W 0 m σ H) ∧ ∀ i m σ H, W i m σ H →
      ((Itl K a).stop i H ∧ D.nx σ H) ∨ ((Itl K a).go i H ∧ ∃ N : St → Hp → Prop, (∀ σ' H', N σ' H' → ∃ m', m' < m ∧ W (i + 1) m' σ' H') ∧ ∀ x H', (Itl K a).yld i H x H' → g x σ H' fun σ2 H2 => tb { D with nx := N, ct := N, bk := D.nx } σ2 H2) := by
  refine ⟨fun i m σ H => m = xs.length - i ∧ i ≤ xs.length ∧ Pv i σ H, ⟨xs.length, by simp, Nat.zero_le _, h0⟩, ?_⟩
  rintro i m σ H ⟨rfl, hi, p⟩
  have q := hl i σ H hi p
  by_cases hlt : i < xs.length
  · refine .inr ⟨⟨xs, xs[i], q, by simp [hlt]⟩, Pv (i + 1), fun σ' H' p' => ⟨xs.length - (i + 1), by (first | lia | omega), rfl, hlt, p'⟩, fun x H' y => ?_⟩
    obtain ⟨e, y⟩ := y
    subst e
    exact hs i x σ _ (y xs q) p
  · have e : i = xs.length := by (first | lia | omega)
    subst e
    exact .inl ⟨⟨xs, q, Nat.le_refl _⟩, hd σ H p⟩
theorem for_tup {K : PySem.W.Frag} {a : Addr} {xs : List V} {g : TG} {tb : TS} {D : Ends} {σ : St} {H : Hp} (Pv : Nat → St → Hp → Prop) (h0 : Pv 0 σ H) (hl : ∀ i σ H, i ≤ xs.length → Pv i σ H → SqT K H a xs)
    (hs : ∀ i x σ H, xs[i]? = some x → Pv i σ H → g x σ H fun σ2 H2 => tb { D with nx := Pv (i + 1), ct := Pv (i + 1), bk := D.nx } σ2 H2) (hd : ∀ σ H, Pv xs.length σ H → D.nx σ H) :
    ∃ W : Nat → Nat → St → Hp → Prop, (∃ m, W 0 m σ H) ∧ ∀ i m σ H, W i m σ H →
      ((Itt K a).stop i H ∧ D.nx σ H) ∨ ((Itt K a).go i H ∧ ∃ N : St → Hp → Prop, (∀ σ' H', N σ' H' → ∃ m', m' < m ∧ W (i + 1) m' σ' H') ∧ ∀ x H', (Itt K a).yld i H x H' → g x σ H' fun σ2 H2 => tb { D with nx := N, ct := N, bk := D.nx } σ2 H2) := by
  refine ⟨fun i m σ H => m = xs.length - i ∧ i ≤ xs.length ∧ Pv i σ H, ⟨xs.length, by simp, Nat.zero_le _, h0⟩, ?_⟩
  rintro i m σ H ⟨rfl, hi, p⟩
  have q := hl i σ H hi p
  by_cases hlt : i < xs.length
  · refine .inr ⟨⟨xs, xs[i], q, by simp [hlt]⟩, Pv (i + 1), fun σ' H' p' => ⟨xs.length - (i + 1), by (first | lia | omega), rfl, hlt, p'⟩, fun x H' y => ?_⟩
    obtain ⟨e, y⟩ := y
    subst e
    exact hs i x σ _ (y xs q) p
  · have e : i = xs.length := by (first | lia | omega)
    subst e
    exact .inl ⟨⟨xs, q, Nat.le_refl _⟩, hd σ H p⟩
theorem for_range {lo : Int} {n : Nat} {g : TG} {tb : TS} {D : Ends} {σ : St} {H : Hp} (Pv : Nat → St → Hp → Prop) (h0 : Pv 0 σ H)
    (hs : ∀ i σ H, i < n → Pv i σ H → g (.int (lo + i)) σ H fun σ2 H2 => tb { D with nx := Pv (i + 1), ct := Pv (i + 1), bk := D.nx } σ2 H2) (hd : ∀ σ H, Pv n σ H → D.nx σ H) :
    ∃ W : Nat → Nat → St → Hp → Prop, (∃ m, W 0 m σ H) ∧ ∀ i m σ H, W i m σ H →
      ((Itr lo n).stop i H ∧ D.nx σ H) ∨ ((Itr lo n).go i H ∧ ∃ N : St → Hp → Prop, (∀ σ' H', N σ' H' → ∃ m', m' < m ∧ W (i + 1) m' σ' H') ∧ ∀ x H', (Itr lo n).yld i H x H' → g x σ H' fun σ2 H2 => tb { D with nx := N, ct := N, bk := D.nx } σ2 H2) := by
  refine ⟨fun i m σ H => m = n - i ∧ i ≤ n ∧ Pv i σ H, ⟨n, by simp, Nat.zero_le _, h0⟩, ?_⟩
  rintro i m σ H ⟨rfl, hi, p⟩
  by_cases hlt : i < n
  · refine .inr ⟨hlt, Pv (i + 1), fun σ' H' p' => ⟨n - (i + 1), by (first | lia | omega), rfl, hlt, p'⟩, fun x H' y => ?_⟩
    obtain ⟨e, y⟩ := y
    subst e y
    exact hs i σ _ hlt p
  · have e : i = n := by (first | lia | omega)
    subst e
    exact .inl ⟨Nat.le_refl _, hd σ H p⟩
end L2

namespace L2
open PySem PySem.Spec PyProof.Rows

abbrev R2 := V → V → Hp → VK → Prop
/-- a two-place operation on values: f is binaryOp op, inplaceOp op or compareOp op -/
def OpR (X : Cx) (f : Value → Value → Sem Value) (r : R2) : Prop :=
  ∀ (pins : List (Addr × Obj)) (s : Shared) (σ : St) (H : Hp) (x y : V) (v u : Value) (Q : VK), Inv X pins σ H s → RelV x v → RelV y u → r x y H Q →
    wpAny (model X.prog X.w) X.A (f v u) (EP X pins σ Q) X.xe s
/-- a one-place operation -/
def UnR (X : Cx) (f : Value → Sem Value) (r : V → Hp → VK → Prop) : Prop :=
  ∀ (pins : List (Addr × Obj)) (s : Shared) (σ : St) (H : Hp) (x : V) (v : Value) (Q : VK), Inv X pins σ H s → RelV x v → r x H Q →
    wpAny (model X.prog X.w) X.A (f v) (EP X pins σ Q) X.xe s
/-- a call of a value that is known (a builtin, a type) with values -/
def CallR (X : Cx) (f : Value) (r : List V → Hp → VK → Prop) : Prop :=
  ∀ (pins : List (Addr × Obj)) (s : Shared) (σ : St) (H : Hp) (xs : List V) (us : List Value) (Q : VK), Inv X pins σ H s → Vals xs us → r xs H Q →
    wpAny (model X.prog X.w) X.A (call f us) (EP X pins σ Q) X.xe s
/-- a value's truth -/
def TruR (X : Cx) (r : V → Hp → (Bool → Hp → Prop) → Prop) : Prop :=
  ∀ (pins : List (Addr × Obj)) (s : Shared) (σ : St) (H : Hp) (x : V) (v : Value) (Q : Bool → Hp → Prop), Inv X pins σ H s → RelV x v → r x H Q →
    wpAny (model X.prog X.w) X.A (truthy v) (TP X pins σ Q) X.xe s

def tOp (r : R2) (ta tb : TE) : TE := fun σ H Q => ta σ H fun x H1 => tb σ H1 fun y H2 => r x y H2 Q
def tUn (r : V → Hp → VK → Prop) (ta : TE) : TE := fun σ H Q => ta σ H fun x H1 => r x H1 Q
/-- ints in, under C, and a value out -/
def rI (C : Int → Int → Prop) (g : Int → Int → V) : R2 := fun x y H Q => ∃ i j, x = .int i ∧ y = .int j ∧ C i j ∧ Q (g i j) H
def rI0 (g : Int → Int → V) : R2 := fun x y H Q => ∃ i j, x = .int i ∧ y = .int j ∧ Q (g i j) H
def rU (g : Int → V) : V → Hp → VK → Prop := fun x H Q => ∃ i, x = .int i ∧ Q (g i) H

section
variable {X : Cx} {a b c : Expr} {ta tb tc : TE} {pos : Pos}

theorem binT (ha : PE X a ta) (hb : PE X b tb) {pins : List (Addr × Obj)} {s : Shared} {σ : St} {H : Hp} {R : V → V → Hp → Prop} (I : Inv X pins σ H s)
    (h : ta σ H fun x H1 => tb σ H1 fun y H2 => R x y H2) {Q : Value → Shared → Prop} {f : Value → Value → Sem Value}
    (hf : ∀ v u s2 x y H2, Inv X pins σ H2 s2 → RelV x v → RelV y u → R x y H2 → wpAny (model X.prog X.w) X.A (f v u) Q X.xe s2) :
    wpAny (model X.prog X.w) X.A (eval a X.env) (fun v s₁ => wpAny (model X.prog X.w) X.A (eval b X.env) (fun u s₂ => wpAny (model X.prog X.w) X.A (f v u) Q X.xe s₂) X.xe s₁) X.xe s := by
  refine thn (ha pins s σ H _ I h) fun v s1 ⟨x, H1, I1, r1, q1⟩ => ?_
  refine thn (hb pins s1 σ H1 _ I1 q1) fun u s2 ⟨y, H2, I2, r2, q2⟩ => ?_
  exact hf v u s2 x y H2 I2 r1 r2 q2

theorem pe_op {op : Operator} {r : R2} (ho : OpR X (binaryOp op) r) (ha : PE X a ta) (hb : PE X b tb) : PE X (.BinOp a op b pos) (tOp r ta tb) := by
  intro pins s σ H Q I h
  exact wpAny_BinOp (binT ha hb I h fun v u s2 x y H2 I2 rx ry q => ho pins s2 σ H2 x y v u Q I2 rx ry q)
theorem pe_un {op : UnaryOp} {r : V → Hp → VK → Prop} (ho : UnR X (unaryOp op) r) (ha : PE X a ta) : PE X (.UnaryOp op a pos) (tUn r ta) := by
  intro pins s σ H Q I h
  exact UnaryOp_ (thn (ha pins s σ H _ I h) fun v s1 ⟨x, H1, I1, r1, q1⟩ => ho pins s1 σ H1 x v Q I1 r1 q1)
/-! ### ints -/
theorem opI {f : Value → Value → Sem Value} {C : Int → Int → Prop} {g : Int → Int → Int}
    (rule : ∀ (i j : Int) (t u : Tok) (s : Shared) (Q : Value → Shared → Prop) (E : Value → Shared → Prop), C i j → Q (.int (g i j) s.toks) { s with toks := s.toks + 1 } → wpAny (model X.prog X.w) X.A (f (.int i t) (.int j u)) Q E s) :
    OpR X f (rI C fun i j => .int (g i j)) := by
  intro pins s σ H x y v u Q I rx ry h
  obtain ⟨i, j, rfl, rfl, hc, q⟩ := h
  obtain ⟨t, rfl⟩ := rx
  obtain ⟨t', rfl⟩ := ry
  exact rule i j t t' s _ _ hc ⟨.int (g i j), H, I.tok _, ⟨_, rfl⟩, q⟩
theorem opI0 {f : Value → Value → Sem Value} {g : Int → Int → Int}
    (rule : ∀ (i j : Int) (t u : Tok) (s : Shared) (Q : Value → Shared → Prop) (E : Value → Shared → Prop), Q (.int (g i j) s.toks) { s with toks := s.toks + 1 } → wpAny (model X.prog X.w) X.A (f (.int i t) (.int j u)) Q E s) :
    OpR X f (rI0 fun i j => .int (g i j)) := by
  intro pins s σ H x y v u Q I rx ry h
  obtain ⟨i, j, rfl, rfl, q⟩ := h
  obtain ⟨t, rfl⟩ := rx
  obtain ⟨t', rfl⟩ := ry
  exact rule i j t t' s _ _ ⟨.int (g i j), H, I.tok _, ⟨_, rfl⟩, q⟩
theorem opB0 {f : Value → Value → Sem Value} {g : Int → Int → Bool}
    (rule : ∀ (i j : Int) (t u : Tok) (s : Shared) (Q : Value → Shared → Prop) (E : Value → Shared → Prop), Q (.bool (g i j)) s → wpAny (model X.prog X.w) X.A (f (.int i t) (.int j u)) Q E s) :
    OpR X f (rI0 fun i j => .bl (g i j)) := by
  intro pins s σ H x y v u Q I rx ry h
  obtain ⟨i, j, rfl, rfl, q⟩ := h
  obtain ⟨t, rfl⟩ := rx
  obtain ⟨t', rfl⟩ := ry
  exact rule i j t t' s _ _ ⟨.bl (g i j), H, I, rfl, q⟩

def CDiv (i j : Int) : Prop := 0 < j ∧ j < 1073741824
def CMul (i j : Int) : Prop := (-(2 ^ 64) < i ∧ i < 2 ^ 64) ∨ (-(2 ^ 64) < j ∧ j < 2 ^ 64)
theorem CMul.ok {i j : Int} (h : CMul i j) : IntMulOk i j := by
  rcases h with ⟨h1, h2⟩ | ⟨h1, h2⟩
  · exact .of_left (intBits_le_64 h1 h2)
  · exact .of_right (intBits_le_64 h1 h2)
theorem op_add : OpR X (binaryOp .Add) (rI0 fun i j => .int (i + j)) := opI0 fun _ _ _ _ _ _ _ q => add_int q
theorem op_sub : OpR X (binaryOp .Sub) (rI0 fun i j => .int (i - j)) := opI0 fun _ _ _ _ _ _ _ q => sub_int q
theorem op_mul : OpR X (binaryOp .Mult) (rI CMul fun i j => .int (i * j)) := opI fun _ _ _ _ _ _ _ hc q => mul_int q hc.ok
/-- // by a positive divisor -/
theorem op_fdiv : OpR X (binaryOp .FloorDiv) (rI CDiv fun i j => .int (i / j)) := opI fun i j _ _ _ _ _ hc q => by
  have h1 : (0 : Int) < j := hc.1
  have h2 : j < 1073741824 := hc.2
  exact floordiv_int (by (first | lia | omega)) (by rw [Int.fdiv_eq_ediv_of_nonneg i (by (first | lia | omega))]; exact q) (.inl (PyProof.noPylong_small (by (first | lia | omega))))
/-- % by a positive divisor of any size -/
theorem op_mod : OpR X (binaryOp .Mod) (rI (fun _ j => 0 < j) fun i j => .int (i % j)) := opI fun i j _ _ _ _ _ hc q => by
  have h1 : (0 : Int) < j := hc
  exact mod_int' (by (first | lia | omega)) (by rw [Int.fmod_eq_emod_of_nonneg i (by (first | lia | omega))]; exact q)
theorem unI {f : Value → Sem Value} {g : Int → Int}
    (rule : ∀ (i : Int) (t : Tok) (s : Shared) (Q : Value → Shared → Prop) (E : Value → Shared → Prop), Q (.int (g i) s.toks) { s with toks := s.toks + 1 } → wpAny (model X.prog X.w) X.A (f (.int i t)) Q E s) :
    UnR X f (rU fun i => .int (g i)) := by
  intro pins s σ H x v Q I rx h
  obtain ⟨i, rfl, q⟩ := h
  obtain ⟨t, rfl⟩ := rx
  exact rule i t s _ _ ⟨.int (g i), H, I.tok _, ⟨_, rfl⟩, q⟩
theorem un_neg : UnR X (unaryOp .USub) (rU fun i => .int (-i)) := unI fun _ _ _ _ _ q => neg_int q
/-! ### bools among ints: n += (a < b) -/
end

/-! ### comparisons -/
/-- the scalars that == tells apart as data does -/
def scal : V → V → Bool
  | .non, .non => true | .non, .int _ => true | .int _, .non => true | .non, .bl _ => true | .bl _, .non => true | .non, .str _ => true | .str _, .non => true
  | .int _, .int _ => true | .bl _, .bl _ => true | .str _, .str _ => true | .byt _, .byt _ => true
  | .int _, .str _ => true | .str _, .int _ => true | .bl _, .str _ => true | .str _, .bl _ => true
  | _, _ => false
def rEq : R2 := fun x y H Q => scal x y = true ∧ Q (.bl (decide (x = y))) H
def rNe : R2 := fun x y H Q => scal x y = true ∧ Q (.bl (!decide (x = y))) H

theorem dec_int {i j : Int} : decide (V.int i = V.int j) = (i == j) := by
  rw [Bool.eq_iff_iff]
  simp
theorem dec_bl {i j : Bool} : decide (V.bl i = V.bl j) = (i == j) := by
  rw [Bool.eq_iff_iff]
  simp
theorem dec_str {i j : Str} : decide (V.str i = V.str j) = (i == j) := by
  rw [Bool.eq_iff_iff]
  simp
theorem dec_byt {i j : Array UInt8} : decide (V.byt i = V.byt j) = (i.toList == j.toList) := by
  rw [Bool.eq_iff_iff]
  cases i
  cases j
  simp

section
variable {X : Cx} {a b c : Expr} {ta tb tc : TE} {pos : Pos}
theorem fin_bl {pins : List (Addr × Obj)} {σ : St} {H : Hp} {s : Shared} {Q : VK} {k k' : Bool} (I : Inv X pins σ H s) (q : Q (.bl k) H) (e : k = k') : EP X pins σ Q (.bool k') s := by
  subst e
  exact ⟨.bl k, H, I, rfl, q⟩
theorem op_eq : OpR X (compareOp .Eq) rEq := by
  intro pins s σ H x y v u Q I rx ry h
  obtain ⟨hs, q⟩ := h
  cases x with
  | non =>
    cases rx
    cases y with
    | non => cases ry; exact PySem.EqNone.eq_none_none (fin_bl I q (by simp))
    | bl j => cases ry; exact PySem.EqNone.eq_none_bool (fin_bl I q (by simp))
    | int j => obtain ⟨t', rfl⟩ := ry; exact PySem.EqNone.eq_none_int (fin_bl I q (by simp))
    | str j => obtain ⟨t', rfl⟩ := ry; exact PySem.EqNone.eq_none_str (fin_bl I q (by simp))
    | _ => exact absurd (show false = true from hs) Bool.false_ne_true
  | bl i =>
    cases rx
    cases y with
    | non => cases ry; exact PySem.EqNone.eq_bool_none (fin_bl I q (by simp))
    | bl j => cases ry; exact eq_bool (fin_bl I q dec_bl)
    | str j => obtain ⟨t', rfl⟩ := ry; exact PySem.EqMixed.eq_bool_str (fin_bl I q (by simp))
    | _ => exact absurd (show false = true from hs) Bool.false_ne_true
  | int i =>
    obtain ⟨t, rfl⟩ := rx
    cases y with
    | non => cases ry; exact PySem.EqNone.eq_int_none (fin_bl I q (by simp))
    | int j => obtain ⟨t', rfl⟩ := ry; exact eq_int (fin_bl I q dec_int)
    | str j => obtain ⟨t', rfl⟩ := ry; exact PySem.EqMixed.eq_int_str (fin_bl I q (by simp))
    | _ => exact absurd (show false = true from hs) Bool.false_ne_true
  | str i =>
    obtain ⟨t, rfl⟩ := rx
    cases y with
    | non => cases ry; exact PySem.EqNone.eq_str_none (fin_bl I q (by simp))
    | bl j => cases ry; exact PySem.EqMixed.eq_str_bool (fin_bl I q (by simp))
    | int j => obtain ⟨t', rfl⟩ := ry; exact PySem.EqMixed.eq_str_int (fin_bl I q (by simp))
    | str j => obtain ⟨t', rfl⟩ := ry; exact eq_str (fin_bl I q dec_str)
    | _ => exact absurd (show false = true from hs) Bool.false_ne_true
  | byt i =>
    obtain ⟨t, rfl⟩ := rx
    cases y with
    | byt j => obtain ⟨t', rfl⟩ := ry; exact PySem.W.eq_bytes (fin_bl I q dec_byt)
    | _ => exact absurd (show false = true from hs) Bool.false_ne_true
  | _ => cases y <;> exact absurd (show false = true from hs) Bool.false_ne_true
theorem op_ne : OpR X (compareOp .NotEq) rNe := by
  intro pins s σ H x y v u Q I rx ry h
  obtain ⟨hs, q⟩ := h
  cases x with
  | non =>
    cases rx
    cases y with
    | non => cases ry; exact PySem.EqNone.ne_none_none (fin_bl I q (by simp))
    | bl j => cases ry; exact PySem.EqNone.ne_none_bool (fin_bl I q (by simp))
    | int j => obtain ⟨t', rfl⟩ := ry; exact PySem.EqNone.ne_none_int (fin_bl I q (by simp))
    | str j => obtain ⟨t', rfl⟩ := ry; exact PySem.EqNone.ne_none_str (fin_bl I q (by simp))
    | _ => exact absurd (show false = true from hs) Bool.false_ne_true
  | bl i =>
    cases rx
    cases y with
    | non => cases ry; exact PySem.EqNone.ne_bool_none (fin_bl I q (by simp))
    | bl j => cases ry; exact ne_bool (fin_bl I q (congrArg not dec_bl))
    | str j => obtain ⟨t', rfl⟩ := ry; exact PySem.EqMixed.ne_bool_str (fin_bl I q (by simp))
    | _ => exact absurd (show false = true from hs) Bool.false_ne_true
  | int i =>
    obtain ⟨t, rfl⟩ := rx
    cases y with
    | non => cases ry; exact PySem.EqNone.ne_int_none (fin_bl I q (by simp))
    | int j => obtain ⟨t', rfl⟩ := ry; exact ne_int (fin_bl I q (congrArg not dec_int))
    | str j => obtain ⟨t', rfl⟩ := ry; exact PySem.EqMixed.ne_int_str (fin_bl I q (by simp))
    | _ => exact absurd (show false = true from hs) Bool.false_ne_true
  | str i =>
    obtain ⟨t, rfl⟩ := rx
    cases y with
    | non => cases ry; exact PySem.EqNone.ne_str_none (fin_bl I q (by simp))
    | bl j => cases ry; exact PySem.EqMixed.ne_str_bool (fin_bl I q (by simp))
    | int j => obtain ⟨t', rfl⟩ := ry; exact PySem.EqMixed.ne_str_int (fin_bl I q (by simp))
    | str j => obtain ⟨t', rfl⟩ := ry; exact ne_str (fin_bl I q (congrArg not dec_str))
    | _ => exact absurd (show false = true from hs) Bool.false_ne_true
  | byt i =>
    obtain ⟨t, rfl⟩ := rx
    cases y with
    | byt j => obtain ⟨t', rfl⟩ := ry; exact PySem.W.ne_bytes (fin_bl I q (congrArg not dec_byt))
    | _ => exact absurd (show false = true from hs) Bool.false_ne_true
  | _ => cases y <;> exact absurd (show false = true from hs) Bool.false_ne_true

theorem op_lt : OpR X (compareOp .Lt) (rI0 fun i j => .bl (decide (i < j))) := opB0 fun _ _ _ _ _ _ _ q => lt_int q
theorem op_le : OpR X (compareOp .LtE) (rI0 fun i j => .bl (decide (i ≤ j))) := opB0 fun _ _ _ _ _ _ _ q => le_int q
theorem op_gt : OpR X (compareOp .Gt) (rI0 fun i j => .bl (decide (j < i))) := opB0 fun _ _ _ _ _ _ _ q => gt_int q
theorem op_ge : OpR X (compareOp .GtE) (rI0 fun i j => .bl (decide (j ≤ i))) := opB0 fun _ _ _ _ _ _ _ q => ge_int q
theorem op_notN : OpR X (compareOp .IsNot) (fun x y H Q => y = .non ∧ Q (.bl (!decide (x = .non))) H) := by
  intro pins s σ H x y v u Q I rx ry h
  obtain ⟨rfl, q⟩ := h
  cases ry
  refine isnot_none_gen (fin_bl I q ?_)
  cases x <;> first
    | (cases rx; rfl)
    | (obtain ⟨t, rfl⟩ := rx; rfl)

/-- two rules for one operation: by cases -/
theorem OpR.or {f : Value → Value → Sem Value} {r r' : R2} (h : OpR X f r) (h' : OpR X f r') : OpR X f (fun x y H Q => r x y H Q ∨ r' x y H Q) := by
  intro pins s σ H x y v u Q I rx ry q
  rcases q with q | q
  · exact h pins s σ H x y v u Q I rx ry q
  · exact h' pins s σ H x y v u Q I rx ry q

theorem nomark (b : Expr) {op : CmpOp} (h : op ≠ .In := by decide) (h2 : op ≠ .NotIn := by decide) : behindInMarks op b = false := by
  have e1 : (op == CmpOp.In) = false := by cases op <;> first | rfl | exact absurd rfl h
  have e2 : (op == CmpOp.NotIn) = false := by cases op <;> first | rfl | exact absurd rfl h2
  cases b <;> simp [behindInMarks, e1, e2]
/-- a comparison as a value; hm: nomark b, or (for in, not in) by with_unfolding_all rfl -/
theorem pe_cmpR {op : CmpOp} {r : R2} (ho : OpR X (compareOp op) r) (ha : PE X a ta) (hb : PE X b tb) (hm : behindInMarks op b = false) : PE X (.Compare a [op] [b] pos) (tOp r ta tb) := by
  intro pins s σ H Q I h
  exact wpAny_Compare1 (binT ha hb I h fun v u s2 x y H2 I2 rx ry q => ho pins s2 σ H2 x y v u Q I2 rx ry q) hm
/-- a reading of a value as a test -/
def tTest (t : TE) : TT := fun σ H Q => t σ H fun x H' => ∃ k, x = .bl k ∧ Q k H'
theorem pt_cmpR {op : CmpOp} {r : R2} (ho : OpR X (compareOp op) r) (ha : PE X a ta) (hb : PE X b tb) (hm : behindInMarks op b = false) : PT X (.Compare a [op] [b] pos) (tTest (tOp r ta tb)) := by
  intro pins s σ H Q I h
  refine wpAny_isTrue_Compare1 (thn (ha pins s σ H _ I h) fun v s1 ⟨x, H1, I1, r1, q1⟩ => thn (hb pins s1 σ H1 _ I1 q1) fun u s2 ⟨y, H2, I2, r2, q2⟩ =>
    thn (ho pins s2 σ H2 x y v u _ I2 r1 r2 q2) fun c s3 ⟨z, H3, I3, r3, k, e, q3⟩ => ?_) hm
  subst e
  cases r3
  exact wpAny_truthy_bool ⟨H3, I3, q3⟩
/-- a op1 b op2 c -/
def tChain (r r' : R2) (ta tb tc : TE) : TE := fun σ H Q => ta σ H fun x H1 => tb σ H1 fun y H2 => r x y H2 fun z H3 => ∃ k, z = .bl k ∧
  (if k = true then tc σ H3 fun w' H4 => r' y w' H4 Q else Q (.bl false) H3)
theorem pe_chain {op op' : CmpOp} {r r' : R2} (ho : OpR X (compareOp op) r) (ho' : OpR X (compareOp op') r') (ha : PE X a ta) (hb : PE X b tb) (hc : PE X c tc)
    (hm : lastMarks [op, op'] [b, c] = false := by with_unfolding_all rfl) : PE X (.Compare a [op, op'] [b, c] pos) (tChain r r' ta tb tc) := by
  intro pins s σ H Q I h
  refine Compare_chain (thn (ha pins s σ H _ I h) fun v s1 ⟨x, H1, I1, r1, q1⟩ => chain_link (thn (hb pins s1 σ H1 _ I1 q1) fun u s2 ⟨y, H2, I2, r2, q2⟩ =>
    thn (ho pins s2 σ H2 x y v u _ I2 r1 r2 q2) fun d s3 ⟨z, H3, I3, r3, k, e, q3⟩ => ?_)) hm
  subst e
  cases r3
  refine wpAny_truthy_bool ?_
  cases k with
  | false => exact ite_ff ⟨.bl false, H3, I3, rfl, q3⟩
  | true => exact ite_tt (chain_last (thn (hc pins s3 σ H3 _ I3 q3) fun w' s4 ⟨z', H4, I4, r4, q4⟩ => ho' pins s4 σ H4 y z' u w' Q I4 r2 r4 q4))
theorem pt_chain {op op' : CmpOp} {r r' : R2} (ho : OpR X (compareOp op) r) (ho' : OpR X (compareOp op') r') (ha : PE X a ta) (hb : PE X b tb) (hc : PE X c tc)
    (hm : lastMarks [op, op'] [b, c] = false := by with_unfolding_all rfl) : PT X (.Compare a [op, op'] [b, c] pos) (tTest (tChain r r' ta tb tc)) := by
  intro pins s σ H Q I h
  refine isTrue_chain (thn (ha pins s σ H _ I h) fun v s1 ⟨x, H1, I1, r1, q1⟩ => test_link (thn (hb pins s1 σ H1 _ I1 q1) fun u s2 ⟨y, H2, I2, r2, q2⟩ =>
    thn (ho pins s2 σ H2 x y v u _ I2 r1 r2 q2) fun d s3 ⟨z, H3, I3, r3, k, e, q3⟩ => ?_)) hm
  subst e
  cases r3
  refine wpAny_truthy_bool ?_
  cases k with
  | false =>
    obtain ⟨k', e', q'⟩ := q3
    cases e'
    exact ite_ff ⟨H3, I3, q'⟩
  | true =>
    refine ite_tt (test_last (thn (hc pins s3 σ H3 _ I3 q3) fun w' s4 ⟨z', H4, I4, r4, q4⟩ => thn (ho' pins s4 σ H4 y z' u w' _ I4 r2 r4 q4) fun d' s5 ⟨z2, H5, I5, r5, k2, e2, q5⟩ => ?_))
    subst e2
    cases r5
    exact wpAny_truthy_bool ⟨H5, I5, q5⟩

/-! ### truth -/
/-- a value's truth by the abstract heap -/
def TruV (K : PySem.W.Frag) (x : V) (H : Hp) (k : Bool) : Prop :=
  match x with
  | .non => k = false
  | .bl b => k = b
  | .int i => k = (i != 0)
  | .str y => y.length ≤ sizeLine ∧ k = ((y.length : Int) != 0)
  | .byt y => y.size ≤ sizeLine ∧ k = ((y.size : Int) != 0)
  | .ref p => (∃ xs, SqL K H p xs ∧ k = !xs.isEmpty) ∨ (∃ xs, SqT K H p xs ∧ k = !xs.isEmpty) ∨ ∃ kvs, H p = some (.dK kvs) ∧ k = !kvs.isEmpty
  | _ => False
theorem isEmpty_kv {κ : Type} {kvs : List (κ × V)} {vs : List (κ × Value)} (r : KV kvs vs) : (!vs.isEmpty) = !kvs.isEmpty := by
  cases r <;> rfl
theorem isEmpty_of {xs : List V} {its : List Value} (r : Vals xs its) : (!its.toArray.isEmpty) = !xs.isEmpty := by
  cases r <;> simp
theorem line63 : (sizeLine : Nat) < 2 ^ 63 := by rw [sizeLine_eq]; decide
theorem tru_ok : TruR X (fun x H Q => ∃ k, TruV X.K x H k ∧ Q k H) := by
  intro pins s σ H x v Q I rx h
  obtain ⟨k, e, q⟩ := h
  have hl := line63
  have hs : sizeLine = 16777216 := sizeLine_eq
  cases x with
  | non =>
    cases rx
    have e' : k = false := e
    subst e'
    exact truthy_none ⟨H, I, q⟩
  | bl b =>
    cases rx
    have e' : k = b := e
    subst e'
    exact wpAny_truthy_bool ⟨H, I, q⟩
  | int i =>
    obtain ⟨t, rfl⟩ := rx
    have e' : k = (i != 0) := e
    subst e'
    exact PySem.P.truthy_int ⟨H, I, q⟩
  | str y =>
    obtain ⟨t, rfl⟩ := rx
    obtain ⟨hy, e'⟩ : y.length ≤ sizeLine ∧ k = ((y.length : Int) != 0) := e
    subst e'
    exact PySem.P.truthy_str (by (first | lia | omega)) ⟨H, I.tok _, q⟩
  | byt y =>
    obtain ⟨t, rfl⟩ := rx
    obtain ⟨hy, e'⟩ : y.size ≤ sizeLine ∧ k = ((y.size : Int) != 0) := e
    subst e'
    exact PySem.W.truthy_bytes (by (first | lia | omega)) ⟨H, I.tok _, q⟩
  | ref p =>
    cases rx
    have e' : (∃ xs, SqL X.K H p xs ∧ k = !xs.isEmpty) ∨ (∃ xs, SqT X.K H p xs ∧ k = !xs.isEmpty) ∨ ∃ kvs, H p = some (.dK kvs) ∧ k = !kvs.isEmpty := e
    rcases e' with ⟨xs, hx, e'⟩ | ⟨xs, hx, e'⟩ | ⟨kvs, hx, e'⟩
    · subst e'
      obtain ⟨its, r, pl, hz⟩ := I.list hx
      have hlen := r.length
      exact wpAny_truthy_list pl.isList (by simp only [List.size_toArray]; (first | lia | omega)) ⟨H, I.tok _, by rw [isEmpty_of r]; exact q⟩
    · subst e'
      obtain ⟨its, r, pl, hz⟩ := I.tuple hx
      have hlen := r.length
      exact truthy_tuple pl (by simp only [List.size_toArray]; (first | lia | omega)) ⟨H, I.tok _, by rw [isEmpty_of r]; exact q⟩
    · subst e'
      obtain ⟨hz, hS, vs, r, m⟩ : kvs.length ≤ sizeLine ∧ (p == sysModules) = false ∧ ∃ vs, KV kvs vs ∧ s.heap.DictOf (mixKind X.prog X.w) p vs := I.hok p _ hx
      have hlen : kvs.length = vs.length := Paired.length r
      exact wpAny_truthy_dict hS m (by (first | lia | omega)) ⟨H, I.tok _, by rw [isEmpty_kv r]; exact q⟩
  | _ => exact (show False from e).elim
/-- any expression whose test is its value's truth (a name, a call, a subscript, a field ..: he by fun _ => rfl) -/
theorem pt_truth (ha : PE X a ta) (he : ∀ whole, isTrue a X.env whole = (do let v ← whole; standAt a.pos; holding [v] (truthy v))) :
    PT X a (fun σ H Q => ta σ H fun x H' => ∃ k, TruV X.K x H' k ∧ Q k H') := by
  intro pins s σ H Q I h
  exact isTrue_plain (thn (ha pins s σ H _ I h) fun v s1 ⟨x, H1, I1, r1, q1⟩ => tru_ok pins s1 σ H1 x v Q I1 r1 q1) (he _)

/-! ### strs and bytes -/
theorem op_add_str : OpR X (binaryOp .Add) (fun x y H Q => ∃ i j, x = .str i ∧ y = .str j ∧ i.length + j.length ≤ sizeLine ∧ Q (.str (i ++ j)) H) := by
  intro pins s σ H x y v u Q I rx ry h
  obtain ⟨i, j, rfl, rfl, hz, q⟩ := h
  obtain ⟨t, rfl⟩ := rx
  obtain ⟨t', rfl⟩ := ry
  exact add_str (fun t' tk => ⟨.str (i ++ j), H, I.tok _, ⟨_, rfl⟩, q⟩) hz
/-! ### scalar builtins, by CallR -/
theorem vals1 {x : V} {us : List Value} (r : Vals [x] us) : ∃ u, us = [u] ∧ RelV x u := by
  cases r with
  | cons r1 r2 => cases r2; exact ⟨_, rfl, r1⟩
theorem vals2 {x y : V} {us : List Value} (r : Vals [x, y] us) : ∃ u w', us = [u, w'] ∧ RelV x u ∧ RelV y w' := by
  cases r with
  | cons r1 r2 =>
    cases r2 with
    | cons r3 r4 => cases r4; exact ⟨_, _, rfl, r1, r3⟩
theorem call_max2 (hc : X.calm = true) : CallR X (.builtin "max") (fun xs H Q => ∃ i j, xs = [.int i, .int j] ∧ Q (.int (if j > i then j else i)) H) := by
  intro pins s σ H xs us Q I r h
  obtain ⟨i, j, rfl, q⟩ := h
  obtain ⟨u, w', rfl, ⟨t, rfl⟩, ⟨t', rfl⟩⟩ := vals2 r
  refine max_two_ints (I.ok.hd hc) fun h' tk k => ⟨_, H, I.kept k, ?_, q⟩
  by_cases hj : j > i
  · rw [if_pos hj, if_pos hj]; exact ⟨_, rfl⟩
  · rw [if_neg hj, if_neg hj]; exact ⟨_, rfl⟩
theorem call_min2 (hc : X.calm = true) : CallR X (.builtin "min") (fun xs H Q => ∃ i j, xs = [.int i, .int j] ∧ Q (.int (if j < i then j else i)) H) := by
  intro pins s σ H xs us Q I r h
  obtain ⟨i, j, rfl, q⟩ := h
  obtain ⟨u, w', rfl, ⟨t, rfl⟩, ⟨t', rfl⟩⟩ := vals2 r
  refine min_two_ints (I.ok.hd hc) fun h' tk k => ⟨_, H, I.kept k, ?_, q⟩
  by_cases hj : j < i
  · rw [if_pos hj, if_pos hj]; exact ⟨_, rfl⟩
  · rw [if_neg hj, if_neg hj]; exact ⟨_, rfl⟩
end
end L2

namespace L2
open PySem PySem.Spec PyProof.Rows

/-! ### an instance, its attributes a map -/
structure ObjM (h : Heap) (x dx C : Addr) (mA : Str → Option Value) : Prop where
  obj : h.get? x = some (PySem.W.instObj C dx)
  ns : h.Ns1 dx mA
  ne : dx ≠ x

theorem lookIn_ns {h : Heap} {dx : Addr} {mA : Str → Option Value} (n : h.Ns1 dx mA) : ∃ od, h.get? dx = some od ∧ ∀ name, PySem.W.lookIn name od = some (mA name) := by
  obtain ⟨o, es, ep, ho, hd, hk, _, hm⟩ := n
  refine ⟨o, ho, fun name => ?_⟩
  have e := hm name
  unfold nsFind findBy at e
  rw [← Array.find?_toList] at e
  unfold PySem.W.lookIn
  rw [hd]
  dsimp only
  split
  · rename_i y q
    rw [q] at e
    exact congrArg some e
  · rename_i q
    rw [q] at e
    have a : es.toList.any (·.refKey) = false := by
      rw [List.any_eq_false]
      intro y hy
      obtain ⟨z, t, hkey⟩ := hk y (Array.mem_toList_iff.mp hy)
      simp [DictEntry.refKey, hkey]
    have a' : ¬ es.toList.any (·.refKey) = true := by rw [a]; exact Bool.false_ne_true
    rw [if_neg a']
    exact congrArg some e

theorem ObjM.look {h : Heap} {x dx C : Addr} {mA : Str → Option Value} (I : ObjM h x dx C mA) : ∃ od, PySem.W.InstAt h x (PySem.W.instObj C dx) C (some od) ∧ ∀ name, PySem.W.lookIn name od = some (mA name) :=
  let ⟨od, ho, hl⟩ := lookIn_ns I.ns
  ⟨od, ⟨I.obj, rfl, rfl, ho⟩, hl⟩


/-! ### the attributes as a list of pairs -/
theorem RelO.some_of {v : V} {o : Option Value} (r : RelO (some v) o) : ∃ u, o = some u ∧ RelV v u := by
  cases o with
  | none => exact (show False from r).elim
  | some u => exact ⟨u, rfl, r⟩
section
variable {P : Program} {w : World} {H H' : Hp} {h h' : Heap} {a C dx : Addr} {fs fs' : List (Str × V)}
theorem ins_get (hok : HOk P w H h) (e : H a = some (.ins C dx fs)) : ∃ mA, ObjM h a dx C mA ∧ (∀ f, RelO (fs.lookup f) (mA f)) ∧ PySem.Within mA (fs.map (·.1)) ∧ fs.length ≤ 1000 ∧ H dx = some (.own a) := by
  obtain ⟨d, z, ne, ob, mA, n, r, q⟩ := (show ObjOk P w H h a (.ins C dx fs) from hok a _ e)
  exact ⟨mA, ⟨ob, n, ne⟩, r, q, z, d⟩
end

/-! ### what of the text a class must have -/
structure Cls (K : PySem.W.Frag) (C : Addr) : Prop where
  pg : PySem.W.plainGet K C Str.empty = true
  hd : PySem.W.hasDictIn K C = true
  po : PySem.W.plainOver K C = true
  sa : PySem.W.findIn K (.ref C) "__setattr__" = some (some (.builtin "object.__setattr__"))
theorem Cls.get {K : PySem.W.Frag} {C : Addr} (c : Cls K C) (f : Str) : PySem.W.plainGet K C f = true := c.pg

/-! ### readings and rules -/

/-! ### isinstance -/
section
variable {X : Cx} {pins : List (Addr × Obj)} {σ : St} {H : Hp} {s : Shared} {A : Around} {E : Value → Shared → Prop} {Q : Value → Shared → Prop} {c : Value} {b : Bool}
/-- the type of a value, as the fragment's deciders take it; for an instance its class -/
inductive TyOf (K : PySem.W.Frag) (H : Hp) : V → Value → Prop where
  | non : TyOf K H .non (.type "NoneType")
  | bl (x : Bool) : TyOf K H (.bl x) (.type "bool")
  | int (i : Int) : TyOf K H (.int i) (.type "int")
  | str (x : Str) : TyOf K H (.str x) (.type "str")
  | flt (x : UInt64) : TyOf K H (.flt x) (.type "float")
  | lst {a : Addr} {xs : List V} (e : H a = some (.lst xs)) : TyOf K H (.ref a) (.type "list")
  | frz {a : Addr} {o : Obj} {xs : List V} (e : H a = some (.frz o (.lst xs))) : TyOf K H (.ref a) (.type "list")
  | tup {a : Addr} {xs : List V} (e : H a = some (.tup xs)) : TyOf K H (.ref a) (.type "tuple")
  | dK {a : Addr} {kvs : List (Key × V)} (e : H a = some (.dK kvs)) : TyOf K H (.ref a) (.type "dict")
  | dT {a : Addr} {kvs : List (List Key × V)} (e : H a = some (.dT kvs)) : TyOf K H (.ref a) (.type "dict")
  | ins {a C dx : Addr} {fs : List (Str × V)} (e : H a = some (.ins C dx fs)) (cl : Cls K C) (ha : PySem.W.findIn K (.ref C) "__class__" = some (some (.builtin "object.__class__")))
      (hn : PySem.W.specialIn K (.builtin "object.__class__") "__get__" = some (some (.builtin "getset_descriptor.__get__"))) (htk : PySem.W.takesIn K (.builtin "object.__class__") = some true)
      (hm : PySem.W.mroIn K C (.type "object") = some true) : TyOf K H (.ref a) (.ref C)
/-- isinstance(x, c) for one class c, a built-in or an own one: kitOne's answer -/
theorem isinst_ok {x : V} {u t : Value} (I : Inv X pins σ H s) (rx : RelV x u) (ty : TyOf X.K H x t) (e : PySem.W.kitOne X.K t c = some b) (h : ∀ tk, Q (.bool b) { s with toks := tk }) :
    wpAny (model X.prog X.w) A (call (.builtin "isinstance") [u, c]) Q E s := by
  cases ty with
  | non => cases (show u = Value.none from rx); exact PySem.W.kia_one PySem.W.kitx_none I.kIn True.intro e (fun z => nomatch z) h
  | bl y => cases (show u = Value.bool y from rx); exact PySem.W.kia_one PySem.W.kitx_bool I.kIn True.intro e (fun z => nomatch z) h
  | int i => obtain ⟨t, q⟩ := (show ∃ t, u = Value.int i t from rx); cases q; exact PySem.W.kia_one PySem.W.kitx_int I.kIn True.intro e (fun z => nomatch z) h
  | str y => obtain ⟨t, q⟩ := (show ∃ t, u = Value.str y t from rx); cases q; exact PySem.W.kia_one PySem.W.kitx_str I.kIn True.intro e (fun z => nomatch z) h
  | flt y => obtain ⟨t, q⟩ := (show ∃ t, u = Value.float y t from rx); cases q; exact PySem.W.kia_one PySem.W.kitx_float I.kIn True.intro e (fun z => nomatch z) h
  | @lst a xs ea =>
    cases (show u = Value.ref a from rx)
    obtain ⟨_, _, n, _, h1⟩ := (show ObjOk X.prog X.w H s.heap a (.lst xs) from I.hok a _ ea)
    exact PySem.W.kia_one PySem.W.kitx_list I.kIn ⟨_, h1, rfl⟩ e (fun z => nomatch z) h
  | @frz a ob xs ea =>
    cases (show u = Value.ref a from rx)
    obtain ⟨_, _, _, n, _, h1⟩ := (show ObjOk X.prog X.w H s.heap a (.frz ob (.lst xs)) from I.hok a _ ea)
    exact PySem.W.kia_one PySem.W.kitx_list I.kIn ⟨_, h1, rfl⟩ e (fun z => nomatch z) h
  | @tup a xs ea =>
    cases (show u = Value.ref a from rx)
    obtain ⟨_, _, _, p⟩ := (show ObjOk X.prog X.w H s.heap a (.tup xs) from I.hok a _ ea)
    obtain ⟨o, h1, h2, _⟩ := p
    exact PySem.W.kia_one PySem.W.kitx_tuple I.kIn ⟨o, h1, h2⟩ e (fun z => nomatch z) h
  | @dK a kvs ea =>
    cases (show u = Value.ref a from rx)
    obtain ⟨_, _, vs, _, p⟩ := (show ObjOk X.prog X.w H s.heap a (.dK kvs) from I.hok a _ ea)
    obtain ⟨o, es, ep, h1, h2, _⟩ := p
    exact PySem.W.kia_one PySem.W.kitx_dict I.kIn ⟨o, h1, h2.1⟩ e (fun z => nomatch z) h
  | @dT a kvs ea =>
    cases (show u = Value.ref a from rx)
    obtain ⟨_, _, xs, _, o, es, ep, h1, h2, _⟩ := (show ObjOk X.prog X.w H s.heap a (.dT kvs) from I.hok a _ ea)
    exact PySem.W.kia_one PySem.W.kitx_dict I.kIn ⟨o, h1, h2.1⟩ e (fun z => nomatch z) h
  | @ins a C dx fs ea cl ha hn htk hm =>
    cases (show u = Value.ref a from rx)
    obtain ⟨mA, O, _⟩ := ins_get I.hok ea
    obtain ⟨od, J, _⟩ := O.look
    exact PySem.W.kia_one (PySem.W.kitx_own (cl.get _) cl.hd ha hn htk hm) I.kIn J e (fun z => nomatch z) h
end
end L2

namespace L2
open PySem PySem.Spec PyProof.Rows

/-! ### room -/
structure Room (k : Nat) (A : Around) : Prop where
  hd : A.handled = none
  dp : A.depth + 2 * k + 5 < recursionLimit
  un : A.units + 16 * k + 200 < cLine
theorem Room.mono {j k : Nat} {A : Around} (r : Room k A) (h : j ≤ k) : Room j A := ⟨r.hd, by have := r.dp; (first | lia | omega), by have := r.un; (first | lia | omega)⟩
theorem Room.deeper {k : Nat} {A : Around} (r : Room (k + 1) A) (env : Env) : Room k (A.deeper env) :=
  ⟨r.hd, by have := r.dp; show A.depth + 1 + 2 * k + 5 < _; (first | lia | omega), by have := r.un; show A.units + 3 + 16 * k + 200 < _; (first | lia | omega)⟩
theorem Room.depth {k : Nat} {A : Around} (r : Room k A) : A.depth < recursionLimit := by have := r.dp; (first | lia | omega)
/-! ### argument lists and displays -/
def tNil : TA := fun _ H Q => Q [] H
def tCons (ta : TE) (tr : TA) : TA := fun σ H Q => ta σ H fun x H1 => tr σ H1 fun xs H2 => Q (x :: xs) H2
section
variable {X : Cx} {e : Expr} {es : List Expr} {te : TE} {t : TA} {pos : Pos}
theorem pa_nil : PA X [] tNil := fun _ _ _ _ H Q I h => Calls.spliced_nil ⟨[], H, I, .nil, h⟩
theorem pa_cons (ha : PE X e te) (hr : PA X es t) (hs : starEach (e :: es) X.env = (false, eval e X.env) :: starEach es X.env := by rfl) : PA X (e :: es) (tCons te t) := by
  intro pos pins s σ H Q I h
  rw [hs]
  show wpAny _ _ (spliced ((false, eval e X.env) :: backTo pos (starEach es X.env))) _ _ s
  refine Calls.spliced_cons (thn (ha pins s σ H _ I h) fun u s1 ⟨x, H1, I1, r1, q1⟩ => ?_)
  exact thn (hr pos pins s1 σ H1 _ I1 q1) fun us s2 ⟨xs, H2, I2, r2, q2⟩ => ⟨x :: xs, H2, I2, .cons r1 r2, q2⟩

/-- a tuple, a list of written items -/
def tTup (t : TA) : TE := fun σ H Q => t σ H fun xs H1 => xs.length ≤ sizeLine ∧ ∀ p, H1 p = none → Q (.ref p) (upd H1 p (.tup xs))
def tLst (t : TA) : TE := fun σ H Q => t σ H fun xs H1 => xs.length ≤ sizeLine ∧ ∀ p, H1 p = none → Q (.ref p) (upd H1 p (.lst xs))
theorem pe_tup {x1} (h : PA X es t) : PE X (.Tuple es x1 pos) (tTup t) := by
  intro pins s σ H Q I hq
  refine wpAny_Tuple_spliced (thn (h pos pins s σ H _ I hq) fun us s1 ⟨xs, H1, I1, r, z, q⟩ => ⟨by rw [← r.length]; exact z, ?_⟩)
  have hf : H1 s1.heap.objs.size = none := I1.hok.fresh (Nat.le_refl _)
  refine ⟨.ref s1.heap.objs.size, upd H1 s1.heap.objs.size (.tup xs), I1.laid (t' := s1.toks) (fun b u e => Heap.get?_push_of_some _ e) (Nat.le_refl _) ?_, rfl, q _ hf⟩
  exact ⟨z, us, r, ⟨_, Heap.get?_push_size _ rfl, rfl, _, rfl⟩⟩
theorem pe_lst (h : PA X es t) : PE X (.List es pos) (tLst t) := by
  intro pins s σ H Q I hq
  refine wpAny_List_spliced (thn (h pos pins s σ H _ I hq) fun us s1 ⟨xs, H1, I1, r, z, q⟩ => ⟨by rw [← r.length]; exact z, ?_⟩)
  have hf : H1 s1.heap.objs.size = none := I1.hok.fresh (Nat.le_refl _)
  refine ⟨.ref s1.heap.objs.size, upd H1 s1.heap.objs.size (.lst xs), I1.laid (t' := s1.toks) (fun b u e => Heap.get?_push_of_some _ e) (Nat.le_refl _) ?_, rfl, q _ hf⟩
  exact ⟨z, us, 0, r, Heap.get?_push_size _ rfl⟩
end

/-! ### what a def promises -/
/-- a def's promise: the bound arguments in the parameters' order, the heap, the wanted end, the wanted exception -/
abbrev Sp := List V → Hp → VK → XK → Prop
/-- how an exception lies behind a call (file 08 gives it): the callers' frames, abstract heap and state ahead of the call, the wish, the exception, the state -/
abbrev CXT := List Env → Hp → Shared → XK → Value → Shared → Prop

/-- the state at a call -/
structure Env0 (P : Program) (w : World) (K : PySem.W.Frag) (mg : Str → Option Value) (base : Heap) (A : Around) (outer : List Env) (s : Shared) (H : Hp) : Prop where
  frames : A.frames = some outer
  mod : Mod K mg base
  bs : ∀ b o, base.get? b = some o → s.heap.get? b = some o ∧ H b = none
  bsz : base.objs.size ≤ s.heap.objs.size
  funs : s.heap.FunFrames base outer
  frf : ∀ b ∈ frs outer, H b = none
  hok : HOk P w H s.heap
  bare : AllBare s.gens
/-- a call's end -/
def CE (outer : List Env) (P : Program) (w : World) (H : Hp) (s : Shared) (Q : VK) (u : Value) (s' : Shared) : Prop :=
  ∃ v H', s'.os = s.os ∧ AllBare s'.gens ∧ Un (frs outer) [] H H' s.heap s'.heap ∧ HOk P w H' s'.heap ∧ RelV v u ∧ Q v H'
def CR (CX : CXT) (outer : List Env) (P : Program) (w : World) (H : Hp) (s : Shared) (Q : VK) (E : XK) (r : Result) (s' : Shared) : Prop :=
  match r with
  | .ok (.ret u) => CE outer P w H s Q u s'
  | .ok _ => False
  | .error e => CX outer H s E e s'
structure FnOk (P : Program) (w : World) (K : PySem.W.Frag) (mg : Str → Option Value) (base : Heap) (CX : CXT) (k : Nat) (f : Addr) (fd : FuncData) (ps : List Str) (sp : Sp) : Prop where
  len : ∀ vs H Q E, sp vs H Q E → vs.length = ps.length
  run : ∀ (A : Around) (outer : List Env) (s : Shared) (H : Hp) (args : Args) (us : List Value) (vs : List V) (Q : VK) (E : XK), Room k A → Env0 P w K mg base A outer s H → BindsTo s fd args (ps.zip us) → Vals vs us → sp vs H Q E →
    codeAny (model P w) A (.call (.ref f) args) (CR CX outer P w H s Q E) s
section
variable {X : Cx} {pins : List (Addr × Obj)} {σ : St} {H : Hp} {s s' : Shared}
/-- from a body: what a callee wants -/
theorem Inv.env0 (I : Inv X pins σ H s) : Env0 X.prog X.w X.K X.mg X.base X.A X.stack s H :=
  ⟨I.ok.frames, I.ok.mod, I.bs, Nat.le_trans I.ok.bsz I.sz, I.stack, I.stkFree, I.hok, I.bare⟩
/-- behind a call -/
theorem Inv.after {Q : VK} {u : Value} (I : Inv X pins σ H s) (h : CE X.stack X.prog X.w H s Q u s') : EP X pins σ Q u s' := by
  obtain ⟨v, H', os, bare, un, hok, r, q⟩ := h
  obtain ⟨hh, g, d, t, os'⟩ := s'
  obtain rfl : os' = s.os := os
  exact ⟨v, H', I.call (h' := hh) (g' := g) (d' := d) (t' := t) (ch := []) un hok bare (fun b z => absurd z (by simp)), r, q⟩
end

/-! ### calls -/
/-- f(..): the written arguments, then the defaults dvs; E: what is wanted of an exception -/
def tCall (sp : Sp) (dvs : List V) (E : XK) (t : TA) : TE := fun σ H Q => t σ H fun vs H1 => sp (vs ++ dvs) H1 Q E
/-- how the parameters are bound: us the positional arguments, kw the keywords' values by name, ds the defaults that fill up -/
def Binds (K : PySem.W.Frag) (fd : FuncData) (ps : List Str) (ds : List Value) : Prop :=
  ∀ (s : Shared) (us : List Value), K.In s.heap → (us ++ ds).length = ps.length → BindsTo s fd ⟨us, []⟩ (ps.zip (us ++ ds))
/-- every parameter is given -/
theorem Binds.all {K : PySem.W.Frag} {fd : FuncData} {ps : List Str} (h : ∀ us : List Value, us.length = ps.length → bindArgs fd ⟨us, []⟩ = pure (ps.zip us)) : Binds K fd ps [] := fun s us _ hl => by
  rw [List.append_nil] at hl ⊢
  exact .of_eq (h us hl)

/-- an exception of a callee reaches what this body wants of exceptions -/
def Passes (CX : CXT) (X : Cx) (E : XK) : Prop := ∀ (pins : List (Addr × Obj)) (σ : St) (H : Hp) (s : Shared) (e : Value) (s' : Shared), Inv X pins σ H s → CX X.stack H s E e s' → X.xe e s'

section
variable {X : Cx} {CX : CXT} {k : Nat} {f C : Addr} {fd : FuncData} {ps : List Str} {sp : Sp} {dvs : List V} {ds : List Value} {E : XK} {x m : Str} {p pos apos : Pos} {e o : Expr} {es : List Expr} {ta : TE} {t : TA}

/-- the callee runs -/
theorem run_fn {pins : List (Addr × Obj)} {σ : St} {H : Hp} {s : Shared} {Q : VK} {us : List Value} {vs : List V} (F : FnOk X.prog X.w X.K X.mg X.base CX k f fd ps sp) (hr : Room k X.A) (hb : Binds X.K fd ps ds) (hd : Vals dvs ds) (hx : Passes CX X E)
    (I : Inv X pins σ H s) (r : Vals vs us) (h : sp (vs ++ dvs) H Q E) : wpAny (model X.prog X.w) X.A (call (.ref f) us) (EP X pins σ Q) X.xe s := by
  have r2 : Vals (vs ++ dvs) (us ++ ds) := r.append hd
  have hl : (us ++ ds).length = ps.length := by rw [← r2.length]; exact F.len _ _ _ _ h
  refine wpAny_call (codeAny_mono (F.run X.A X.stack s H ⟨us, []⟩ (us ++ ds) (vs ++ dvs) Q E hr I.env0 (hb s us I.kIn hl) r2 h) fun r s' hq => ?_)
  cases r with
  | error e => exact hx pins σ H s e s' I hq
  | ok fl =>
    cases fl with
    | ret u => exact I.after hq
    | next => exact False.elim hq
    | brk => exact False.elim hq
    | cont => exact False.elim hq

theorem pe_call (F : FnOk X.prog X.w X.K X.mg X.base CX k f fd ps sp) (hr : Room k X.A) (hg : Gl X x) (hm : X.mg x = some (.ref f)) (hk : PySem.W.keepIn X.K (.ref f) = true) (hb : Binds X.K fd ps ds) (hd : Vals dvs ds) (hx : Passes CX X E)
    (ha : PA X (e :: es) t) (hdb : (x == ("__debug__" : Str)) = false := by decide) (he : starEach (e :: es) X.env = (false, eval e X.env) :: starEach es X.env := by rfl) (hpl : (backTo pos (starEach es X.env)).any (·.1) = false := by rfl) :
    PE X (.Call (.Name x p) (e :: es) [] pos) (tCall sp dvs E t) := by
  intro pins s σ H Q I h
  refine wpAny_Call_Name_kw (ld_glob I hg hm ?_ hdb)
  refine PySem.W.callWith_K (h₀ := X.base) I.ok.mod.kin hk (thn (ha pos pins s σ H _ I h) fun us s1 ⟨vs, H1, I1, r, q⟩ => ⟨I1.kIn, ?_⟩) he hpl
  exact run_fn F hr hb hd hx I1 r q
end

/-! ### keywords -/

/-! ### a def's body keeps its promise -/
/-- names: the parameters first -/
structure FnScope (N P : List Str) (sc : Scope) : Prop where
  kind : sc.kind = .function
  co : sc.isCoroutine = false
  gen : sc.isGenerator = false
  nd : N.Nodup
  pre : N.take P.length = P
  par : ∀ x ∈ P, sc.names.lookup x = some .local ∨ sc.names.lookup x = some .cell
  nofree : ∀ y ∈ sc.names, y.2 ≠ .free

theorem bindL_out {kindOf : Str → Option NameKind} {x : Str} : ∀ {binds : List (Str × Value)} {m : Str → Option Value}, (∀ v, (x, v) ∉ binds) → bindL kindOf binds m x = m x
  | [], _, _ => rfl
  | (n, v) :: r, m, h => by
    unfold bindL
    rw [bindL_out fun w hw => h w (List.mem_cons_of_mem _ hw)]
    split
    · have : x ≠ n := by rintro rfl; exact h v List.mem_cons_self
      simp [this]
    · rfl
theorem bindC_out {kindOf : Str → Option NameKind} {x : Str} : ∀ {binds : List (Str × Value)} {m : Str → Option Value}, (∀ v, (x, v) ∉ binds) → bindC kindOf binds m x = m x
  | [], _, _ => rfl
  | (n, v) :: r, m, h => by
    unfold bindC
    rw [bindC_out fun w hw => h w (List.mem_cons_of_mem _ hw)]
    split
    · rfl
    · have : x ≠ n := by rintro rfl; exact h v List.mem_cons_self
      simp [this]
theorem bindL_get {kindOf : Str → Option NameKind} {x : Str} {v : Value} : ∀ {P : List Str} {vs : List Value} {i : Nat} {m : Str → Option Value}, P.Nodup → P[i]? = some x → vs[i]? = some v → kindOf x = some .local →
    bindL kindOf (P.zip vs) m x = some v
  | [], _, _, _, _, h, _, _ => by simp at h
  | _ :: _, [], _, _, _, _, h, _ => by simp at h
  | p :: P, w :: vs, 0, m, nd, h1, h2, hk => by
    simp at h1 h2; subst h1; subst h2
    show bindL kindOf ((p, w) :: P.zip vs) m p = _
    unfold bindL
    rw [bindL_out fun v hv => (List.nodup_cons.mp nd).1 (List.of_mem_zip hv).1, if_pos hk]
    simp
  | p :: P, w :: vs, i + 1, m, nd, h1, h2, hk => by
    show bindL kindOf ((p, w) :: P.zip vs) m x = _
    unfold bindL
    exact bindL_get (i := i) (List.nodup_cons.mp nd).2 (by simpa using h1) (by simpa using h2) hk
theorem bindC_get {kindOf : Str → Option NameKind} {x : Str} {v : Value} : ∀ {P : List Str} {vs : List Value} {i : Nat} {m : Str → Option Value}, P.Nodup → P[i]? = some x → vs[i]? = some v → kindOf x ≠ some .local →
    bindC kindOf (P.zip vs) m x = some v
  | [], _, _, _, _, h, _, _ => by simp at h
  | _ :: _, [], _, _, _, _, h, _ => by simp at h
  | p :: P, w :: vs, 0, m, nd, h1, h2, hk => by
    simp at h1 h2; subst h1; subst h2
    show bindC kindOf ((p, w) :: P.zip vs) m p = _
    unfold bindC
    rw [bindC_out fun v hv => (List.nodup_cons.mp nd).1 (List.of_mem_zip hv).1, if_neg hk]
    simp
  | p :: P, w :: vs, i + 1, m, nd, h1, h2, hk => by
    show bindC kindOf ((p, w) :: P.zip vs) m x = _
    unfold bindC
    exact bindC_get (i := i) (List.nodup_cons.mp nd).2 (by simpa using h1) (by simpa using h2) hk

/-- the names' values at the entry -/
def start (N : List Str) (vs : List V) : St := vs.map some ++ List.replicate (N.length - vs.length) none

/-- the context of a def's body, at its entry; an exception leaves the frame, then lies as CX says -/
def cxOf (CX : CXT) (P : Program) (w : World) (K : PySem.W.Frag) (mg : Str → Option Value) (base : Heap) (N : List Str) (qual : Str) (scope : Scope) (f : Addr) (cd : Value) (A : Around) (outer : List Env) (s : Shared) (H : Hp) (E : XK) : Cx where
  prog := P
  w := w
  K := K
  mg := mg
  base := base
  A := A.deeper (envOfC qual scope s.heap.objs.size f cd)
  N := N
  s₀ := s
  H₀ := H
  env := envOfC qual scope s.heap.objs.size f cd
  outer := outer
  stack := envOfC qual scope s.heap.objs.size f cd :: outer
  ex := []
  calm := true
  fn := fun _ => true
  pn := []
  xe := fun e s' => wpAny (model P w) (A.deeper (envOfC qual scope s.heap.objs.size f cd)) (leaving (envOfC qual scope s.heap.objs.size f cd) e) (fun _ s'' => CX outer H s E e s'') (fun e' s'' => CX outer H s E e' s'') s'

theorem cell_has {sc : Scope} {n : Nat} {x : Str} (h : sc.names.lookup x = some .cell) : ∃ c, (cellsFrom n sc.names []).lookup x = some c := by
  have q := PySem.W.cellsFrom_some sc.names n [] (.inl h)
  exact Option.isSome_iff_exists.mp q

theorem inv_start {CX : CXT} {P : Program} {w : World} {K : PySem.W.Frag} {mg : Str → Option Value} {base : Heap} {N ps : List Str} {qual : Str} {scope : Scope} {f : Addr} {cd : Value} {A : Around} {outer : List Env} {s s1 : Shared} {H : Hp} {E : XK} {us : List Value} {vs : List V}
    (S : FnScope N ps scope) (hd : A.handled = none) (e0 : Env0 P w K mg base A outer s H) (hl : vs.length = ps.length) (r : Vals vs us)
    (x : InCallC s s.heap.objs.size (bindL (envOfC qual scope s.heap.objs.size f cd).kindOf (ps.zip us) fun _ => none) (cellsFrom (s.heap.objs.size + 1) scope.names []) (bindC (envOfC qual scope s.heap.objs.size f cd).kindOf (ps.zip us) fun _ => none) s1) :
    Inv (cxOf CX P w K mg base N qual scope f cd A outer s H E) [] (start N vs) H s1 := by
  have hpl : ps.length ≤ N.length := by have := congrArg List.length S.pre; rw [List.length_take] at this; (first | lia | omega)
  obtain ⟨h1, tk, rfl, hk⟩ := x.done
  have noA : ∀ b : Addr, b ∉ (cxOf CX P w K mg base N qual scope f cd A outer s H E).ex := fun b z => absurd (show b ∈ ([] : List Addr) from z) (by simp)
  refine ⟨⟨e0.mod, S.kind, rfl, rfl, Nat.le_refl _, fun y z c h1 h2 => ?_, fun y hy => ?_, fun y c _ h => ?_, fun _ => hd, Around.frames_deeper e0.frames, .inr ⟨rfl, rfl⟩, fun b z => absurd z (noA b), e0.bs, e0.bsz, fun b _ _ => noA b, fun b z => absurd z (noA b), e0.funs, e0.frf⟩,
    rfl, e0.bare, Un.kept hk, ⟨_, x.toInCall.ns, fun i y v h1 h2 h3 => ?_⟩, fun y c h => ⟨_, x.cell y c h⟩, e0.hok.fresh (Nat.le_refl _), fun y c h => ?_, fun p hp => absurd (show p ∈ ([] : List (Addr × Obj)) from hp) (by simp), e0.hok.kept hk, ?_⟩
  · exact name_of_addr x.apart (PySem.mem_of_lookup h1) (PySem.mem_of_lookup h2)
  · have hy : scope.names.lookup y = some .cell ∨ scope.names.lookup y = some .free := hy
    rcases hy with hy | hy
    · exact cell_has hy
    · exact absurd rfl (S.nofree _ (PySem.mem_of_lookup hy))
  · exact Nat.le_of_lt (x.above y c (PySem.mem_of_lookup h))
  · have hi : i < vs.length := by
      unfold start at h2
      by_cases hi : i < vs.length
      · exact hi
      · rw [List.getElem?_append_right (by simpa using hi)] at h2
        rw [List.getElem?_replicate] at h2
        split at h2 <;> cases h2
    have ha : vs[i]? = some v := by
      unfold start at h2
      rw [List.getElem?_append_left (by simpa using hi), List.getElem?_map] at h2
      cases e : vs[i]? with
      | none => rw [e] at h2; cases h2
      | some a => rw [e] at h2; cases h2; rfl
    obtain ⟨u, hu, rv⟩ := r.get ha
    have hp : ps[i]? = some y := by
      rw [← S.pre, List.getElem?_take_of_lt (by (first | lia | omega))]; exact h1
    have ndP : ps.Nodup := by rw [← S.pre]; exact S.nd.sublist (List.take_sublist _ _)
    refine ⟨u, rv, ?_⟩
    rcases S.par y (List.mem_of_getElem? hp) with k | k
    · exact .inl ⟨k, bindL_get ndP hp hu k⟩
    · obtain ⟨c, e⟩ := cell_has (n := s.heap.objs.size + 1) k
      refine .inr ⟨.inl k, c, e, ?_⟩
      have q := x.cell y c e
      rw [bindC_get ndP hp hu (by show scope.names.lookup y ≠ _; rw [k]; decide)] at q
      exact q
  · exact e0.hok.fresh (Nat.le_of_lt (x.above y c (PySem.mem_of_lookup h)))
  · unfold start
    show _ = N.length
    rw [List.length_append, List.length_map, List.length_replicate]
    (first | lia | omega)

/-- THE RULE: a def (or a method) of the text, by its body. The body's reading t is chosen for each entry; it is run at the parameters' values -/
theorem fn_of {CX : CXT} {P : Program} {w : World} {K : PySem.W.Frag} {mg : Str → Option Value} {base : Heap} {k : Nat} {f : Addr} {name qual : Str} {params : Arguments} {body : List Stmt} {scope : Scope} {dV kV doc pm cdv ct oc : Value} {an od : Option Addr}
    {osl : Array (Option Value)} {N ps : List Str} {sp : Sp} (lk : K.lookup f = some ⟨oc, od, .func (PySem.W.fnOf name qual params body scope dV kV doc pm an cdv ct), osl⟩) (hcd : PySem.W.codeIn K cdv qual = true) (S : FnScope N ps scope)
    (len : ∀ vs H Q E, sp vs H Q E → vs.length = ps.length)
    (hbody : ∀ (A : Around) (outer : List Env) (s : Shared) (H : Hp) (vs : List V) (Q : VK) (E : XK), Room k (A.deeper (envOfC qual scope s.heap.objs.size f cdv)) → sp vs H Q E →
      ∃ t, PSs (cxOf CX P w K mg base N qual scope f cdv A outer s H E) body t ∧ t { nx := fun _ H' => Q .non H', rt := Q } (start N vs) H) :
    FnOk P w K mg base CX (k + 1) f (PySem.W.fnOf name qual params body scope dV kV doc pm an cdv ct) ps sp := by
  refine ⟨len, fun A outer s H args us vs Q E hr e0 hb r hsp => ?_⟩
  have hl := len _ _ _ _ hsp
  have KX : K.In s.heap := e0.mod.kin.keeps fun b o e => (e0.bs b o e).1
  have lim : s.heap.NoLimit := e0.mod.nolimit.keeps fun b o e => (e0.bs b o e).1
  have hkind : ∀ y ∈ ps.zip us, scope.names.lookup y.1 = some .local ∨ (scope.names.lookup y.1 = some .cell ∧ ((cellsFrom (s.heap.objs.size + 1) scope.names []).lookup y.1).isSome = true) := fun ⟨n, v⟩ hy => by
    rcases S.par n (List.of_mem_zip hy).1 with q | q
    · exact .inl q
    · exact .inr ⟨q, PySem.W.cellsFrom_some _ _ _ (.inl q)⟩
  refine codeAny_call_function hr.depth (KX _ _ lk) rfl S.co S.gen rfl (PySem.W.codeRec_of KX hcd) (hb _ _ _ _ ?_)
  refine wpAny_newFunctionEnv_cells S.kind hkind fun env he s1 x => ?_
  subst he
  refine ⟨lim.keeps x.toInCall.keep, codeAny_func ?_⟩
  obtain ⟨t, ht, hq⟩ := hbody A outer s H vs Q E (hr.deeper _) hsp
  have I : Inv (cxOf CX P w K mg base N qual scope f cdv A outer s H E) [] (start N vs) H s1 := inv_start S hr.hd e0 hl r x
  refine wpAny_mono (ht [] s1 (start N vs) H _ I hq) (fun fl s' hs => ?_) fun e s' hs => hs
  have fin : ∀ {σ' : St} {H' : Hp} {v : V} {u : Value}, Inv (cxOf CX P w K mg base N qual scope f cdv A outer s H E) [] σ' H' s' → RelV v u → Q v H' → CE outer P w H s Q u s' :=
    fun {σ' H' v u} J rv q => ⟨v, H', J.os, J.bare, J.base, J.hok, rv, q⟩
  cases fl with
  | ret u =>
    obtain ⟨v, σ', H', J, rv, q⟩ := hs
    exact fin J rv q
  | next =>
    obtain ⟨σ', H', J, q⟩ := hs
    exact fin (v := V.non) (u := Value.none) J rfl q
  | brk =>
    obtain ⟨_, _, _, q⟩ := hs
    exact False.elim q
  | cont =>
    obtain ⟨_, _, _, q⟩ := hs
    exact False.elim q
end L2

namespace L2
open PySem PySem.Spec PyProof.Rows
section
variable {X : Cx} {x : Str} {p pos : Pos} {e : Expr} {es : List Expr} {t : TA} {id T : String} {r : List V → Hp → VK → Prop}

def tCB (r : List V → Hp → VK → Prop) (t : TA) : TE := fun σ H Q => t σ H fun vs H1 => r vs H1 Q
/-- f(e, ..), f a built-in function -/
theorem pe_callB (hc : CallR X (.builtin id) r) (hg : Gl X x) (hm : X.mg x = none) (hv : bootBuiltins x = some (.builtin id)) (ha : PA X (e :: es) t) (hn : x ≠ "__name__" := by decide) (hdb : (x == ("__debug__" : Str)) = false := by decide)
    (he : starEach (e :: es) X.env = (false, eval e X.env) :: starEach es X.env := by rfl) (hpl : (backTo pos (starEach es X.env)).any (·.1) = false := by rfl) : PE X (.Call (.Name x p) (e :: es) [] pos) (tCB r t) := by
  intro pins s σ H Q I h
  refine wpAny_Call_Name_kw (ld_blt I hg hm hv ?_ hn hdb)
  exact PyProof.Rows.callWith_builtin1 (thn (ha pos pins s σ H _ I h) fun us s1 ⟨vs, H1, I1, r1, q1⟩ => hc pins s1 σ H1 vs us Q I1 r1 q1) he hpl
/-- T(e, ..), T a built-in type -/
theorem pe_callTy (hc : CallR X (.type T) r) (hg : Gl X x) (hm : X.mg x = none) (hv : bootBuiltins x = some (.type T)) (ha : PA X (e :: es) t) (hn : x ≠ "__name__" := by decide) (hdb : (x == ("__debug__" : Str)) = false := by decide)
    (he : starEach (e :: es) X.env = (false, eval e X.env) :: starEach es X.env := by rfl) (hpl : (backTo pos (starEach es X.env)).any (·.1) = false := by rfl) : PE X (.Call (.Name x p) (e :: es) [] pos) (tCB r t) := by
  intro pins s σ H Q I h
  refine wpAny_Call_Name_kw (ld_blt I hg hm hv ?_ hn hdb)
  exact PyProof.Rows.callWith_type1 (thn (ha pos pins s σ H _ I h) fun us s1 ⟨vs, H1, I1, r1, q1⟩ => hc pins s1 σ H1 vs us Q I1 r1 q1) he hpl
end
end L2

namespace HT
open PySem PyProof.Rows


section
variable {prog : Program} {w : World} {A : Around} {E : Value → Shared → Prop} {s : Shared}

/-! ### t[a:b], not the whole -/
/-- a slice's bound as a place among n (d where it is left out) -/
def sIx (n d : Nat) : Option Int → Nat
  | none => d
  | some v => if v < 0 then (v + (n : Int)).toNat else min v.toNat n
theorem sIx_none (n d : Nat) : sIx n d none = d := rfl
theorem sIx_nat (n d k : Nat) : sIx n d (some (k : Int)) = min k n := by
  show (if (k : Int) < 0 then ((k : Int) + (n : Int)).toNat else min (k : Int).toNat n) = min k n
  rw [if_neg (by (first | lia | omega)), Int.toNat_natCast]
theorem sIx_le (n d : Nat) (hd : d ≤ n) (o : Option Int) : sIx n d o ≤ n := by
  cases o with
  | none => exact hd
  | some v =>
    show (if v < 0 then (v + (n : Int)).toNat else min v.toNat n) ≤ n
    by_cases hv : v < 0
    · rw [if_pos hv]; (first | lia | omega)
    · rw [if_neg hv]; exact Nat.min_le_right _ _
theorem clip_eq (v : Int) (n d : Nat) : (if v < 0 then max (v + (n : Int)) 0 else min v (n : Int)) = ((sIx n d (some v) : Nat) : Int) := by
  show (if v < 0 then max (v + (n : Int)) 0 else min v (n : Int)) = (((if v < 0 then (v + (n : Int)).toNat else min v.toNat n) : Nat) : Int)
  by_cases hv : v < 0
  · simp only [if_pos hv]; (first | lia | omega)
  · simp only [if_neg hv]; (first | lia | omega)
theorem adjust_gen (lo hi : Option Int) (n : Nat) : Builtin.Slice.sliceAdjust lo hi 1 (n : Int) = (((sIx n 0 lo : Nat) : Int), ((sIx n n hi : Nat) : Int)) := by
  have h1 : ¬ ((1 : Int) < 0) := by (first | lia | omega)
  unfold Builtin.Slice.sliceAdjust
  simp only [h1, if_false]
  refine Prod.ext ?_ ?_
  · cases lo with
    | none => rfl
    | some v => exact clip_eq v n 0
  · cases hi with
    | none => rfl
    | some v => exact clip_eq v n n
theorem places_gen (i j : Nat) : Builtin.Slice.slicePlaces (i : Int) (j : Int) 1 = j - i := by
  unfold Builtin.Slice.slicePlaces
  have h1 : (1 : Int) > 0 := by (first | lia | omega)
  simp only [h1, if_true, Int.ediv_one]
  split <;> (first | lia | omega)
theorem slicePart_ {v : Value} {o : Option Int} {Q : Option Int → Shared → Prop} (p : IsPart v o) (h : Q o s) : wpAny (model prog w) A (Builtin.Slice.slicePartIndex v) Q E s := by
  cases p with
  | none => exact slicePart_none h
  | int i t => exact slicePart_int h
theorem sliceApplied_gen {sl : Addr} {vl vu : Value} {lo hi : Option Int} {n : Nat} {Q : Int × Int × Nat → Shared → Prop} (hs : s.heap.IsSliceOf sl vl vu .none) (pl : IsPart vl lo) (pu : IsPart vu hi)
    (h : Q (((sIx n 0 lo : Nat) : Int), 1, sIx n n hi - sIx n 0 lo) s) : wpAny (model prog w) A (Builtin.Slice.sliceApplied (.ref sl) (pure (n : Int))) Q E s := by
  obtain ⟨os, hos, hcs, hds⟩ := id hs
  unfold Builtin.Slice.sliceApplied Builtin.Slice.sliceFields
  refine wpAny_bind (wpAny_bind (wpAny_field hos hds (x := vl) rfl (wpAny_bind (wpAny_field hos hds (x := vu) rfl (wpAny_bind (wpAny_field hos hds (x := .none) rfl (wpAny_pure ?_)))))))
  refine wpAny_bind (slicePart_none ?_)
  show wpAny _ _ (if ((1 : Int) == 0) = true then _ else _) _ _ s
  rw [if_neg (by decide)]
  refine wpAny_bind (slicePart_ pl (wpAny_bind (slicePart_ pu (wpAny_bind (wpAny_pure ?_)))))
  show wpAny _ _ (match Builtin.Slice.sliceAdjust lo hi 1 (n : Int) with | (lo, hi) => pure (lo, (1 : Int), Builtin.Slice.slicePlaces lo hi 1)) _ _ s
  rw [adjust_gen lo hi n]
  show wpAny _ _ (pure (((sIx n 0 lo : Nat) : Int), (1 : Int), Builtin.Slice.slicePlaces ((sIx n 0 lo : Nat) : Int) ((sIx n n hi : Nat) : Int) 1)) _ _ s
  rw [places_gen]
  exact wpAny_pure h
theorem pick_gen (xs : Array Value) (i k : Nat) : ((List.range k).filterMap fun (m : Nat) => xs[((i : Int) + (m : Int) * 1).toNat]?).toArray = ((xs.toList.drop i).take k).toArray := by
  have e : (fun (m : Nat) => xs[((i : Int) + (m : Int) * 1).toNat]?) = fun m => xs[i + m]? := by
    funext m
    have : ((i : Int) + (m : Int) * 1).toNat = i + m := by (first | lia | omega)
    rw [this]
  rw [e]
  have := pick_run xs i k
  rw [List.filterMap_map] at this
  have e2 : ((fun x => xs[x]?) ∘ fun x => i + x) = fun m => xs[i + m]? := rfl
  rw [e2] at this
  rw [this]

theorem getItem_tuple_cut {t sl : Addr} {items : Array Value} {vl vu : Value} {lo hi : Option Int} {Q : Value → Shared → Prop} (ht : IsTup s.heap t items) (hs : s.heap.IsSliceOf sl vl vu .none) (pl : IsPart vl lo) (pu : IsPart vu hi)
    (hw : ¬ (sIx items.size 0 lo = 0 ∧ sIx items.size items.size hi = items.size))
    (h : Q (.ref s.heap.objs.size) { s with heap := s.heap.push { cls := .type "tuple", data := .seq ((items.toList.drop (sIx items.size 0 lo)).take (sIx items.size items.size hi - sIx items.size 0 lo)).toArray } })
    (hsz : items.size ≤ sizeLine) : wpAny (model prog w) A (getItem (.ref t) (.ref sl)) Q E s := by
  have htake : sizeOk (.seq ((items.toList.drop (sIx items.size 0 lo)).take (sIx items.size items.size hi - sIx items.size 0 lo)).toArray) := by
    show ((items.toList.drop (sIx items.size 0 lo)).take (sIx items.size items.size hi - sIx items.size 0 lo)).toArray.size ≤ sizeLine
    rw [List.size_toArray, List.length_take, List.length_drop, Array.length_toList]
    (first | lia | omega)
  have hj : sIx items.size items.size hi ≤ items.size := sIx_le _ _ (Nat.le_refl _) hi
  obtain ⟨os, hos, hcs, hds⟩ := id hs
  have hTs : s.TypeIs (.ref sl) "slice" := ⟨os, hos, hcs⟩
  unfold getItem
  try with_reducible refine wpAny_holding ?_
  first | refine wpAny_bind (wpAny_pure ?_) | skip
  refine wpAny_bind (wpAny_sequenceKey ht.typeIs (by decide) ?_)
  refine wpAny_bind (wpAny_callSpecial?_slot (name := Str.ofString "__getitem__") ht.typeIs PyProof.Rows.slot_tuple_getitem
    (wpAny_call_entry PyProof.Rows.slot_tuple_getitem ht.typeIs entry_tuple_getitem ?_ (args_tuple_getitem _ _)))
  show wpAny _ _ (Builtin.Tuple.tupleItemsOf (.ref t) >>= _) _ _ s
  refine wpAny_bind (tupleItemsOf_ ht ?_)
  refine wpAny_bind (wpAny_typeOf hTs ?_)
  rw [if_pos (by decide)]
  refine wpAny_bind (sliceApplied_gen hs pl pu ?_)
  have hno : ¬ ((((sIx items.size 0 lo : Nat) : Int) == 0 && (1 : Int) == 1 && (sIx items.size items.size hi - sIx items.size 0 lo) == items.size) = true) := by
    intro q
    rw [Bool.and_eq_true, Bool.and_eq_true] at q
    have q1 : ((sIx items.size 0 lo : Nat) : Int) = 0 := eq_of_beq q.1.1
    have q2 : sIx items.size items.size hi - sIx items.size 0 lo = items.size := eq_of_beq q.2
    exact hw ⟨by (first | lia | omega), by (first | lia | omega)⟩
  show wpAny _ _ (if (((sIx items.size 0 lo : Nat) : Int) == 0 && (1 : Int) == 1 && (sIx items.size items.size hi - sIx items.size 0 lo) == items.size) = true then _ else _) _ _ s
  rw [if_neg hno, pick_gen]
  first
    | exact wpAny_bind (m := Builtin.Tuple.tupleExact _) (wpAny_newObj_type (wpAny_pure ⟨_, rfl, wpAny_pure h⟩) htake)
    | exact wpAny_bind (m := Builtin.Tuple.tupleExact _) (wpAny_newObj_type (wpAny_bind (wpAny_pure (wpAny_pure ⟨_, rfl, wpAny_pure h⟩))) htake)
    | exact wpAny_bind (wpAny_bind (m := Builtin.Tuple.tupleExact _) (wpAny_newObj_type (wpAny_pure (wpAny_pure ⟨_, rfl, wpAny_pure h⟩)) htake))
    | exact wpAny_bind (wpAny_bind (m := Builtin.Tuple.tupleExact _) (wpAny_newObj_type (wpAny_pure ⟨_, rfl, wpAny_pure h⟩) htake))
end
end HT

namespace L2
open PySem PySem.Spec PyProof.Rows

/-! ### the parts of a slice -/
abbrev TO := St → Hp → (Option Int → Hp → Prop) → Prop
/-- a slice's part (left out, or an int) -/
def PO (X : Cx) (e : Option Expr) (t : TO) : Prop :=
  ∀ (pins : List (Addr × Obj)) (s : Shared) (σ : St) (H : Hp) (Q : Option Int → Hp → Prop), Inv X pins σ H s → t σ H Q →
    wpAny (model X.prog X.w) X.A (evalPart e X.env) (fun u s' => ∃ o H', Inv X pins σ H' s' ∧ IsPart u o ∧ Q o H') X.xe s
def tNoPart : TO := fun _ H Q => Q none H
def tPart (t : TE) : TO := fun σ H Q => t σ H fun x H1 => ∃ i, x = .int i ∧ Q (some i) H1

section
variable {X : Cx} {e : Expr} {te : TE} {lo hi : Option Expr} {tl th : TO} {pos p2 : Pos}

theorem po_none : PO X none tNoPart := by
  intro pins s σ H Q I h
  rw [evalPart_none]
  exact wpAny_pure ⟨none, H, I, .none, h⟩
theorem po_some (h : PE X e te) : PO X (some e) (tPart te) := by
  intro pins s σ H Q I hw
  rw [evalPart_some]
  refine thn (h pins s σ H _ I hw) fun u s1 ⟨x, H1, I1, r1, q1⟩ => ?_
  obtain ⟨i, rfl, q⟩ := q1
  obtain ⟨t, rfl⟩ := r1
  exact ⟨some i, H1, I1, .int i t, q⟩

/-- what a slice of a value is, by values: the slice object stands at sl -/
def SlR (X : Cx) (r : V → Option Int → Option Int → Hp → VK → Prop) : Prop :=
  ∀ (pins : List (Addr × Obj)) (s : Shared) (σ : St) (H : Hp) (x : V) (v vl vu : Value) (lo hi : Option Int) (sl : Addr) (Q : VK), Inv X pins σ H s → RelV x v → s.heap.IsSliceOf sl vl vu .none → IsPart vl lo → IsPart vu hi → r x lo hi H Q →
    ∃ T id, typeLookup (.type T) "__getitem__" = pure (some (.builtin id)) ∧ s.TypeIs v T ∧ wpAny (model X.prog X.w) X.A (getItem v (.ref sl)) (EP X pins σ Q) X.xe s
def tSl (r : V → Option Int → Option Int → Hp → VK → Prop) (te : TE) (tl th : TO) : TE := fun σ H Q => te σ H fun x H1 => tl σ H1 fun l H2 => th σ H2 fun u H3 => r x l u H3 Q
/-- a[lo:hi], any a -/
theorem pe_slice {r : V → Option Int → Option Int → Hp → VK → Prop} (hr : SlR X r) (he : PE X e te) (hl : PO X lo tl) (hu : PO X hi th) : PE X (.Subscript e (.Slice lo hi none p2) pos) (tSl r te tl th) := by
  intro pins s σ H Q I h
  refine Subscript_ (thn (he pins s σ H _ I h) fun v s1 ⟨x, H1, I1, r1, q1⟩ => ?_)
  refine wpAny_Slice (thn (hl pins s1 σ H1 _ I1 q1) fun vl s2 ⟨l, H2, I2, pl, q2⟩ => thn (hu pins s2 σ H2 _ I2 q2) fun vu s3 ⟨u, H3, I3, pu, q3⟩ => ?_)
  rw [evalPart_none]
  refine wpAny_pure ?_
  have I4 : Inv X pins σ H3 { s3 with heap := s3.heap.push { cls := .type "slice", data := .fields #[vl, vu, .none] } } := I3.kept (t' := s3.toks) fun b ob q => Heap.get?_push_of_some _ q
  obtain ⟨T, id, hT, ht, hg⟩ := hr pins { s3 with heap := s3.heap.push { cls := .type "slice", data := .fields #[vl, vu, .none] } } σ H3 x v vl vu l u s3.heap.objs.size Q I4 r1 (Heap.IsSliceOf.new ..) pl pu q3
  show wpAny (model X.prog X.w) X.A (subscriptTail e (.Slice lo hi none p2) v (.ref s3.heap.objs.size)) (EP X pins σ Q) X.xe { s3 with heap := s3.heap.push { cls := .type "slice", data := .fields #[vl, vu, .none] } }
  exact tail_any (ops := [.ref s3.heap.objs.size, v]) ht hT hg (by with_unfolding_all rfl)

/-- the items of xs[lo:hi] -/
def cutV (xs : List V) (lo hi : Option Int) : List V := (xs.drop (HT.sIx xs.length 0 lo)).take (HT.sIx xs.length xs.length hi - HT.sIx xs.length 0 lo)
theorem cutV_length (xs : List V) (lo hi : Option Int) : (cutV xs lo hi).length ≤ xs.length := by
  unfold cutV
  rw [List.length_take, List.length_drop]
  (first | lia | omega)
/-- t[lo:hi], not the whole of it (the whole would be t itself) -/
def rSlT (K : PySem.W.Frag) : V → Option Int → Option Int → Hp → VK → Prop := fun x lo hi H Q => ∃ a xs, x = .ref a ∧ SqT K H a xs ∧
  ¬ (HT.sIx xs.length 0 lo = 0 ∧ HT.sIx xs.length xs.length hi = xs.length) ∧ ∀ p, H p = none → Q (.ref p) (upd H p (.tup (cutV xs lo hi)))
theorem sl_tup : SlR X (rSlT X.K) := by
  intro pins s σ H x v vl vu lo hi sl Q I rx hs pl pu h
  obtain ⟨a, xs, rfl, hx, hw, q⟩ := h
  cases rx
  obtain ⟨its, r, ht, hz⟩ := I.tuple hx
  have hlen : its.toArray.size = xs.length := by rw [List.size_toArray]; exact r.length.symm
  refine ⟨"tuple", _, PyProof.Rows.slot_tuple_getitem.lookup, ht.typeIs, ?_⟩
  refine HT.getItem_tuple_cut ht hs pl pu (by rw [hlen]; exact hw) ?_ (by rw [hlen]; exact hz)
  rw [hlen]
  refine ⟨.ref s.heap.objs.size, _, I.laid (t' := s.toks) (o := .tup (cutV xs lo hi)) (fun b ob q => Heap.get?_push_of_some _ q) (Nat.le_refl _) ?_, rfl, q _ (I.hok.fresh (Nat.le_refl _))⟩
  exact ⟨Nat.le_trans (cutV_length xs lo hi) hz, _, (r.drop (HT.sIx xs.length 0 lo)).take (HT.sIx xs.length xs.length hi - HT.sIx xs.length 0 lo), IsTup.new _ _⟩

/-! ### t < u, t + u -/
end
end L2

namespace L2
open PySem PySem.Spec PyProof.Rows

/-! ### places -/
/-- the place that an index of any sign means -/
def ixN (n : Nat) (i : Int) : Option Nat := if 0 ≤ i then (if i < n then some i.toNat else none) else if -(n : Int) ≤ i then some (i + n).toNat else none
def atI {α : Type} (xs : List α) (i : Int) : Option α := (ixN xs.length i).bind fun j => xs[j]?
theorem ixN_seq {n : Nat} {i : Int} {j : Nat} (h : ixN n i = some j) : seqIndex? i n = some j ∧ j < n ∧ -(n : Int) ≤ i ∧ i < n := by
  unfold ixN at h
  by_cases h0 : 0 ≤ i
  · rw [if_pos h0] at h
    by_cases h1 : i < n
    · rw [if_pos h1] at h
      have e : i.toNat = j := Option.some.inj h
      exact ⟨by rw [seqIndex_of h0 h1, e], by (first | lia | omega), by (first | lia | omega), h1⟩
    · rw [if_neg h1] at h; cases h
  · rw [if_neg h0] at h
    by_cases h1 : -(n : Int) ≤ i
    · rw [if_pos h1] at h
      have e : (i + n).toNat = j := Option.some.inj h
      exact ⟨by rw [seqIndex_neg (by (first | lia | omega)) h1, e], by (first | lia | omega), h1, by (first | lia | omega)⟩
    · rw [if_neg h1] at h; cases h
theorem atI_get {α : Type} {xs : List α} {i : Int} {v : α} (h : atI xs i = some v) : ∃ j, seqIndex? i xs.length = some j ∧ xs[j]? = some v ∧ j < xs.length ∧ -(xs.length : Int) ≤ i ∧ i < xs.length := by
  unfold atI at h
  cases e : ixN xs.length i with
  | none => rw [e] at h; cases h
  | some j =>
    rw [e] at h
    obtain ⟨h1, h2, h3, h4⟩ := ixN_seq e
    exact ⟨j, h1, h, h2, h3, h4⟩
theorem atI_nat {α : Type} {xs : List α} {j : Nat} {v : α} (h : xs[j]? = some v) : atI xs (j : Int) = some v := by
  have hj : j < xs.length := (List.getElem?_eq_some_iff.mp h).1
  have e : ixN xs.length (j : Int) = some j := by
    unfold ixN
    rw [if_pos (by (first | lia | omega)), if_pos (by (first | lia | omega))]; simp
  unfold atI; rw [e]; exact h
theorem atI_last {α : Type} (xs : List α) (v : α) : atI (xs ++ [v]) (-1) = some v := by
  have hl : (xs ++ [v]).length = xs.length + 1 := by simp
  have e : ixN (xs ++ [v]).length (-1) = some xs.length := by
    unfold ixN
    rw [hl, if_neg (by decide), if_pos (by (first | lia | omega))]
    congr 1
    (first | lia | omega)
  unfold atI
  rw [e]
  show (xs ++ [v])[xs.length]? = some v
  simp

/-! ### what may be subscripted -/
/-- what stands as an index of a plain subscript -/
def PlainIx (b : Expr) : Prop := ∀ o i, subscripted b false o i = operate [o, i] (getItem o i)
/-- a subscript by values -/
def IxR (X : Cx) (r : R2) : Prop :=
  ∀ (value slice : Expr) (pins : List (Addr × Obj)) (s : Shared) (σ : St) (H : Hp) (x y : V) (v u : Value) (Q : VK), Inv X pins σ H s → RelV x v → RelV y u → r x y H Q →
    subscripted slice false v u = operate [v, u] (getItem v u) → wpAny (model X.prog X.w) X.A (subscriptTail value slice v u) (EP X pins σ Q) X.xe s
/-- a call of a builtin's method by values: the receiver, the arguments -/
def MtR (X : Cx) (id : String) (r : V → List V → Hp → VK → Prop) : Prop :=
  ∀ (pins : List (Addr × Obj)) (s : Shared) (σ : St) (H : Hp) (x : V) (xs : List V) (v : Value) (us : List Value) (Q : VK), Inv X pins σ H s → RelV x v → Vals xs us → r x xs H Q →
    wpAny (model X.prog X.w) X.A (call (.builtin id) (v :: us)) (EP X pins σ Q) X.xe s
section
variable {X : Cx} {a b : Expr} {ta tb : TE} {pos : Pos}
/-- a[b] -/
theorem pe_ix {r : R2} (hr : IxR X r) (ha : PE X a ta) (hb : PE X b tb) (hs : PlainIx b) : PE X (.Subscript a b pos) (tOp r ta tb) := by
  intro pins s σ H Q I h
  exact Subscript_ (binT ha hb I h fun v u s2 x y H2 I2 rx ry q => hr a b pins s2 σ H2 x y v u Q I2 rx ry q (hs _ _))

def rIxL (K : PySem.W.Frag) : R2 := fun x y H Q => ∃ p xs i v, x = .ref p ∧ y = .int i ∧ SqL K H p xs ∧ atI xs i = some v ∧ Q v H
def rIxT (K : PySem.W.Frag) : R2 := fun x y H Q => ∃ p xs i v, x = .ref p ∧ y = .int i ∧ SqT K H p xs ∧ atI xs i = some v ∧ Q v H
def rIxS : R2 := fun x y H Q => ∃ z i c, x = .str z ∧ y = .int i ∧ z.length ≤ sizeLine ∧ atI z.cps.toList i = some c ∧ Q (.str ⟨#[c]⟩) H
theorem ix_list : IxR X (rIxL X.K) := by
  intro value slice pins s σ H x y v u Q I rx ry h hs
  obtain ⟨p, xs, i, z, rfl, rfl, hq, he, q⟩ := h
  cases rx
  obtain ⟨t, rfl⟩ := ry
  obtain ⟨its, r, pl, hz⟩ := I.list hq
  obtain ⟨j, h1, h2, h3, h4, h5⟩ := atI_get he
  obtain ⟨w, ew, rw'⟩ := r.get h2
  have hl := r.length
  have hn := line63
  have fin : EP X pins σ Q w s := ⟨z, H, I, rw', q⟩
  by_cases h0 : 0 ≤ i
  · have hj : i.toNat = j := by
      rw [seqIndex_of h0 h5] at h1
      exact Option.some.inj h1
    exact item_listR pl.isList h0 (by (first | lia | omega)) (by rw [hj]; simpa using ew) fin hs
  · have hj : (i + (its.toArray.size : Int)).toNat = j := by
      rw [seqIndex_neg (by (first | lia | omega)) h4] at h1
      rw [List.size_toArray, ← hl]
      exact Option.some.inj h1
    exact subscriptTail_builtinR (x := w) pl.isList.typeIs slot_list_getitem.lookup
      (wpAny_getItem_list_neg (Q := fun r s' => r = w ∧ EP X pins σ Q r s') pl.isList (by (first | lia | omega)) (by rw [List.size_toArray] <;> (first | lia | omega)) (by (first | lia | omega)) (by rw [hj]; simpa using ew) ⟨rfl, fin⟩) hs
theorem ix_tup : IxR X (rIxT X.K) := by
  intro value slice pins s σ H x y v u Q I rx ry h hs
  obtain ⟨p, xs, i, z, rfl, rfl, hq, he, q⟩ := h
  cases rx
  obtain ⟨t, rfl⟩ := ry
  obtain ⟨its, r, pl, hz⟩ := I.tuple hq
  obtain ⟨j, h1, h2, h3, h4, h5⟩ := atI_get he
  obtain ⟨w, ew, rw'⟩ := r.get h2
  have hl := r.length
  have hn := line63
  have fin : EP X pins σ Q w s := ⟨z, H, I, rw', q⟩
  exact subscriptTail_builtinR (x := w) pl.typeIs slot_tuple_getitem.lookup
    (getItem_tuple (j := j) (Q := fun r s' => r = w ∧ EP X pins σ Q r s') pl (by (first | lia | omega)) (by (first | lia | omega)) (by rw [List.size_toArray, ← hl]; exact h1) (by simpa using ew) ⟨rfl, fin⟩) hs
theorem ix_str : IxR X rIxS := by
  intro value slice pins s σ H x y v u Q I rx ry h hs
  obtain ⟨z, i, c, rfl, rfl, hz, he, q⟩ := h
  obtain ⟨t, rfl⟩ := rx
  obtain ⟨t', rfl⟩ := ry
  obtain ⟨j, h1, h2, h3, h4, h5⟩ := atI_get he
  have hl : z.cps.toList.length = z.length := by simp [Str.length]
  rw [hl] at h1 h4 h5
  have hn := line63
  exact tail_any (typeIs_str s z t) slot_str_getitem.lookup (getItem_str (c := c) (by
    have e1 : decide (i < -(2 ^ 63 : Int)) = false := decide_eq_false (by (first | lia | omega))
    have e2 : decide (i ≥ 2 ^ 63) = false := decide_eq_false (by (first | lia | omega))
    rw [e1, e2, Bool.or_false]) (by rw [h1]; simpa using h2) ⟨.str ⟨#[c]⟩, H, I.tok _, ⟨_, rfl⟩, q⟩) hs
/-! ### xs[i] = v, any sign -/
/-- the list's object behind a store -/
theorem mapSeq_set (its : List Value) (n j : Nat) (u : Value) : Obj.mapSeq (·.setIfInBounds j u) { cls := .type "list", data := .seq its.toArray n } = { cls := .type "list", data := .seq (its.set j u).toArray n } := by
  simp [Obj.mapSeq]
theorem Inv.lst {pins : List (Addr × Obj)} {σ : St} {H : Hp} {s : Shared} {p : Addr} {xs : List V} (I : Inv X pins σ H s) (h : H p = some (.lst xs)) :
    ∃ (its : List Value) (n : Nat), Vals xs its ∧ s.heap.get? p = some { cls := .type "list", data := .seq its.toArray n } ∧ xs.length ≤ sizeLine := by
  obtain ⟨z, its, n, r, e⟩ := I.hok p _ h
  exact ⟨its, n, r, e, z⟩
/-- the list at p is written by an update of its object -/
theorem Inv.lstUpd {pins : List (Addr × Obj)} {σ : St} {H : Hp} {s : Shared} {p : Addr} {xs ys : List V} {its its' : List Value} {n n' : Nat} {f : Obj → Obj} (I : Inv X pins σ H s) (h : H p = some (.lst xs))
    (ho : s.heap.get? p = some { cls := .type "list", data := .seq its.toArray n }) (hf : f { cls := .type "list", data := .seq its.toArray n } = { cls := .type "list", data := .seq its'.toArray n' }) (r : Vals ys its') (hz : ys.length ≤ sizeLine) (t : Nat) :
    Inv X pins σ (upd H p (.lst ys)) { s with heap := s.heap.update p f, toks := t } := by
  have e : (s.heap.update p f).get? p = some { cls := .type "list", data := .seq its'.toArray n' } := by
    rw [Heap.get?_update_self f ho (by rw [hf] <;> rfl), hf]
  refine I.write (x := p) (e := p) (by rw [h]; trivial) (.inl rfl) (fun b u hb q => (Heap.get?_update_other _ _ (Ne.symm hb)).trans q) ⟨_, e⟩ ?_
  exact ⟨hz, its', n', r, e⟩
def rSetL : V → V → V → Hp → (Hp → Prop) → Prop := fun o i v H Q => ∃ p xs k j, o = .ref p ∧ i = .int k ∧ H p = some (.lst xs) ∧ ixN xs.length k = some j ∧ Q (upd H p (.lst (xs.set j v)))
theorem set_list : PSet X rSetL := by
  intro pins s σ H o i v ov iv u Q I ro ri rv h
  obtain ⟨p, xs, k, j, rfl, rfl, hp, hj, q⟩ := h
  cases ro
  obtain ⟨t, rfl⟩ := ri
  obtain ⟨its, n, r, ho, hz⟩ := I.lst hp
  obtain ⟨h1, h2, h3, h4⟩ := ixN_seq hj
  have hl := r.length
  have hn := line63
  have I' : Inv X pins σ (upd H p (.lst (xs.set j v))) { s with heap := s.heap.update p (Obj.mapSeq (·.setIfInBounds j u)) } :=
    I.lstUpd hp ho (mapSeq_set its n j u) (r.set rv j) (by rw [List.length_set]; exact hz) s.toks
  by_cases h0 : 0 ≤ k
  · have hk : k.toNat = j := by
      rw [seqIndex_of h0 h4] at h1
      exact Option.some.inj h1
    exact PySem.W.ki_setAt ho h0 (by (first | lia | omega)) (by rw [List.size_toArray, ← hl]; exact h4) (by rw [hk]; exact ⟨_, I', q⟩)
  · have hk : (k + (its.toArray.size : Int)).toNat = j := by
      rw [seqIndex_neg (by (first | lia | omega)) h3] at h1
      rw [List.size_toArray, ← hl]
      exact Option.some.inj h1
    exact PySem.W.ki_setBack ho (by (first | lia | omega)) (by rw [List.size_toArray, ← hl]; exact h3) (by (first | lia | omega)) (by rw [hk]; exact ⟨_, I', q⟩)

/-! ### slices -/
theorem slice_bounds (lo hi : Option Int) (n : Nat) : (sliceBounds lo hi none n).1 = ((HT.sIx n 0 lo : Nat) : Int) ∧ (sliceBounds lo hi none n).2.1 = ((HT.sIx n n hi : Nat) : Int) ∧ (sliceBounds lo hi none n).2.2 = 1 := by
  refine ⟨?_, ?_, rfl⟩
  · cases lo with
    | none => simp [sliceBounds, HT.sIx]
    | some i =>
      simp only [sliceBounds, HT.sIx, Option.getD_none, show (1 : Int) > 0 by decide, if_true]
      by_cases h : i < 0
      · simp only [h, if_true] <;> (first | lia | omega)
      · simp only [h, if_false] <;> (first | lia | omega)
  · cases hi with
    | none => simp [sliceBounds, HT.sIx]
    | some i =>
      simp only [sliceBounds, HT.sIx, Option.getD_none, show (1 : Int) > 0 by decide, if_true]
      by_cases h : i < 0
      · simp only [h, if_true] <;> (first | lia | omega)
      · simp only [h, if_false] <;> (first | lia | omega)
theorem slicePick_cut (its : List Value) (lo hi : Option Int) : slicePick its.toArray lo hi none = ((its.drop (HT.sIx its.length 0 lo)).take (HT.sIx its.length its.length hi - HT.sIx its.length 0 lo)).toArray := by
  obtain ⟨h1, h2, h3⟩ := slice_bounds lo hi its.toArray.size
  unfold slicePick
  rw [h1, h2, h3]
  simp only [sliceRange_one, pick_run, List.size_toArray] <;> rfl
/-- xs[lo:hi] of a list: a new list -/
def rSlL (K : PySem.W.Frag) : V → Option Int → Option Int → Hp → VK → Prop := fun x lo hi H Q => ∃ a xs, x = .ref a ∧ SqL K H a xs ∧ ∀ p, H p = none → Q (.ref p) (upd H p (.lst (cutV xs lo hi)))
theorem sl_list : SlR X (rSlL X.K) := by
  intro pins s σ H x v vl vu lo hi sl Q I rx hs pl pu h
  obtain ⟨a, xs, rfl, hx, q⟩ := h
  cases rx
  obtain ⟨its, r, ht, hz⟩ := I.list hx
  have hlen := r.length
  refine ⟨"list", _, slot_list_getitem.lookup, ht.isList.typeIs, ?_⟩
  refine wpAny_getItem_list_slice ht.isList hs pl pu .none (by simp) ?_ (by rw [List.size_toArray] <;> (first | lia | omega))
  rw [slicePick_cut, ← hlen]
  refine ⟨.ref s.heap.objs.size, _, I.laid (t' := s.toks) (o := .lst (cutV xs lo hi)) (fun b ob q => Heap.get?_push_of_some _ q) (Nat.le_refl _) ?_, rfl, q _ (I.hok.fresh (Nat.le_refl _))⟩
  exact ⟨Nat.le_trans (cutV_length xs lo hi) hz, _, 0, (r.drop (HT.sIx xs.length 0 lo)).take (HT.sIx xs.length xs.length hi - HT.sIx xs.length 0 lo), Heap.get?_push_size _ rfl⟩

/-! ### in, not in: flat items -/
theorem op_notIn_str : OpR X (compareOp .NotIn) (fun x y H Q => ∃ i j, x = .str i ∧ y = .str j ∧ Q (.bl (!(!(Builtin.Str.occurrences j i 0 j.length 1).isEmpty))) H) := by
  intro pins s σ H x y v u Q I rx ry h
  obtain ⟨i, j, rfl, rfl, q⟩ := h
  obtain ⟨t, rfl⟩ := rx
  obtain ⟨t', rfl⟩ := ry
  exact notIn_str ⟨.bl _, H, I, rfl, q⟩

/-! ### len, list(x), tuple(x) of any list or tuple that is read -/
theorem call_len_seq : CallR X (.builtin "len") (fun xs H Q => ∃ p ys, xs = [.ref p] ∧ (SqL X.K H p ys ∨ SqT X.K H p ys) ∧ Q (.int ys.length) H) := by
  intro pins s σ H xs us Q I r h
  obtain ⟨p, ys, rfl, hq, q⟩ := h
  obtain ⟨u, rfl, rx⟩ := vals1 r
  cases rx
  have hn := line63
  rcases hq with hq | hq
  · obtain ⟨its, r', pl, hz⟩ := I.list hq
    have hlen := r'.length
    exact Calls.call_len_list pl.isList (by simp only [List.size_toArray] <;> (first | lia | omega)) ⟨.int ys.length, H, I.tok _, ⟨s.toks + 1, by rw [List.size_toArray, hlen]⟩, q⟩
  · obtain ⟨its, r', pl, hz⟩ := I.tuple hq
    have hlen := r'.length
    exact len_tuple pl (by simp only [List.size_toArray] <;> (first | lia | omega)) ⟨.int ys.length, H, I.tok _, ⟨s.toks + 1, by rw [List.size_toArray, hlen]⟩, q⟩
theorem call_len_str : CallR X (.builtin "len") (fun xs H Q => ∃ z, xs = [.str z] ∧ z.length ≤ sizeLine ∧ Q (.int z.length) H) := by
  intro pins s σ H xs us Q I r h
  obtain ⟨z, rfl, hz, q⟩ := h
  obtain ⟨u, rfl, t, rfl⟩ := vals1 r
  have hn := line63
  exact len_str (by (first | lia | omega)) ⟨.int z.length, H, I.tok _, ⟨_, rfl⟩, q⟩
theorem call_list_of : CallR X (.type "list") (fun xs H Q => ∃ p ys, xs = [.ref p] ∧ (SqL X.K H p ys ∨ SqT X.K H p ys) ∧ ∀ l, H l = none → Q (.ref l) (upd H l (.lst ys))) := by
  intro pins s σ H xs us Q I r h
  obtain ⟨p, ys, rfl, hq, q⟩ := h
  obtain ⟨u, rfl, rx⟩ := vals1 r
  cases rx
  have fin : ∀ (its : List Value), Vals ys its → ys.length ≤ sizeLine → ∀ (h' : Heap) (c' : Nat), (∀ b o', s.heap.get? b = some o' → h'.get? b = some o') →
      h'.get? s.heap.objs.size = some { cls := .type "list", dict := none, data := .seq its.toArray c', slots := #[] } → EP X pins σ Q (.ref s.heap.objs.size) { s with heap := h' } := fun its r' hz h' c' kp e =>
    ⟨.ref s.heap.objs.size, _, I.laid (t' := s.toks) kp (Nat.le_refl _) (show ObjOk X.prog X.w _ h' _ (.lst ys) from ⟨hz, its, c', r', e⟩), rfl, q _ (I.hok.fresh (Nat.le_refl _))⟩
  rcases hq with hq | hq
  · obtain ⟨its, r', pl, hz⟩ := I.list hq
    have hlen := r'.length
    obtain ⟨o, ho, hc, n, hd⟩ := pl.isList
    exact call_list_seq p (.inl rfl) ho hc hd (fun h' c' kp e => fin its r' hz h' c' kp e) (by simp only [List.size_toArray] <;> (first | lia | omega))
  · obtain ⟨its, r', pl, hz⟩ := I.tuple hq
    have hlen := r'.length
    obtain ⟨o, ho, hc, n, hd⟩ := pl
    exact call_list_seq p (.inr rfl) ho hc hd (fun h' c' kp e => fin its r' hz h' c' kp e) (by simp only [List.size_toArray] <;> (first | lia | omega))
theorem call_tuple_of : CallR X (.type "tuple") (fun xs H Q => ∃ p ys, xs = [.ref p] ∧ ((SqL X.K H p ys ∧ ∀ l, H l = none → Q (.ref l) (upd H l (.tup ys))) ∨ (SqT X.K H p ys ∧ Q (.ref p) H))) := by
  intro pins s σ H xs us Q I r h
  obtain ⟨p, ys, rfl, h⟩ := h
  obtain ⟨u, rfl, rx⟩ := vals1 r
  cases rx
  rcases h with ⟨hq, q⟩ | ⟨hq, q⟩
  · obtain ⟨its, r', pl, hz⟩ := I.list hq
    have hlen := r'.length
    refine call_tuple_list pl.isList (fun h' kp => ?_) (by simp only [List.size_toArray] <;> (first | lia | omega))
    have I1 : Inv X pins σ H { s with heap := h' } := I.kept (t' := s.toks) kp
    have I2 : Inv X pins σ (upd H h'.objs.size (.tup ys)) { s with heap := h'.push { cls := .type "tuple", data := .seq its.toArray } } :=
      I1.laid (t' := s.toks) (fun b o e => Heap.get?_push_of_some _ e) (Nat.le_refl _) (show ObjOk X.prog X.w _ _ _ (.tup ys) from ⟨hz, its, r', IsTup.new _ _⟩)
    exact ⟨.ref h'.objs.size, _, I2, rfl, q _ (I1.hok.fresh (Nat.le_refl _))⟩
  · obtain ⟨its, r', pl, hz⟩ := I.tuple hq
    exact call_tuple_same pl ⟨.ref p, H, I, rfl, q⟩

/-! ### the call of a builtin's method: o.m(..) -/
/-- the value is of that builtin type -/
def tyV (K : PySem.W.Frag) (T : String) (x : V) (H : Hp) : Prop := match x with
  | .str _ => T = "str"
  | .int _ => T = "int"
  | .ref p => (T = "list" ∧ ∃ xs, SqL K H p xs) ∨ (T = "tuple" ∧ ∃ o, K.lookup p = some o ∧ o.cls = .type "tuple" ∧ o.dict = none) ∨
      (T = "dict" ∧ ((∃ kvs, H p = some (.dK kvs)) ∨ ∃ kvs, H p = some (.dT kvs))) ∨ (T = "set" ∧ ∃ S n, H p = some (.set S n))
  | _ => False
theorem tyV_is {pins : List (Addr × Obj)} {σ : St} {H : Hp} {s : Shared} {T : String} {x : V} {v : Value} (I : Inv X pins σ H s) (r : RelV x v) (ty : tyV X.K T x H) :
    s.TypeIs v T ∧ ∀ a, v = .ref a → ∃ ob, s.heap.get? a = some ob ∧ ob.dict = none := by
  cases x with
  | str z =>
    obtain ⟨t, rfl⟩ := r
    cases (show T = "str" from ty)
    exact ⟨typeIs_str s z t, fun _ e => nomatch e⟩
  | int i =>
    obtain ⟨t, rfl⟩ := r
    cases (show T = "int" from ty)
    exact ⟨typeIs_int s i t, fun _ e => nomatch e⟩
  | ref p =>
    cases r
    rcases ty with ⟨rfl, xs, hq⟩ | ⟨rfl, o, hk, hc, hd⟩ | ⟨rfl, hk⟩ | ⟨rfl, S, n, hk⟩
    · obtain ⟨its, _, pl, _⟩ := I.list hq
      refine ⟨pl.isList.typeIs, fun a e => ?_⟩
      cases e
      obtain ⟨o, n, e, c, hd, _⟩ := pl
      exact ⟨o, e, hd⟩
    · refine ⟨⟨o, I.kIn p o hk, hc⟩, fun a e => ?_⟩
      cases e
      exact ⟨o, I.kIn _ o hk, hd⟩
    · have z : ∃ o, s.heap.get? p = some o ∧ o.ExactDict := by
        rcases hk with ⟨kvs, hk⟩ | ⟨kvs, hk⟩
        · obtain ⟨_, _, _, _, o, _, _, e, ex, _⟩ := I.hok p _ hk
          exact ⟨o, e, ex⟩
        · obtain ⟨_, _, _, _, o, _, _, e, ex, _⟩ := I.hok p _ hk
          exact ⟨o, e, ex⟩
      obtain ⟨o, e, ex⟩ := z
      refine ⟨⟨o, e, ex.1⟩, fun a e2 => ?_⟩
      cases e2
      exact ⟨o, e, ex.2.1⟩
    · obtain ⟨o, _, _, _, e, ex, _⟩ := I.hok p _ hk
      refine ⟨⟨o, e, ex.1⟩, fun a e2 => ?_⟩
      cases e2
      exact ⟨o, e, ex.2.1⟩
  | _ => exact False.elim ty
def tBM0 (K : PySem.W.Frag) (T : String) (r : V → List V → Hp → VK → Prop) (to : TE) : TE := fun σ H Q => to σ H fun x H1 => tyV K T x H1 ∧ r x [] H1 Q
def tBM (K : PySem.W.Frag) (T : String) (r : V → List V → Hp → VK → Prop) (to : TE) (t : TA) : TE := fun σ H Q => to σ H fun x H1 => tyV K T x H1 ∧ t σ H1 fun xs H2 => r x xs H2 Q
variable {o e : Expr} {es : List Expr} {to : TE} {t : TA} {name : Str} {apos cpos : Pos} {T id : String} {r : V → List V → Hp → VK → Prop}
theorem pe_bm0 (pa : PlainAttrs T) (slot : Slot T name id) (hty : typeOf (.builtin id) = pure (.type "method_descriptor")) (hm : MtR X id r) (ho : PE X o to)
    (hbase : attributeBase o name X.env (eval o X.env) = eval o X.env := by rfl) (hline : (apos.endLine == cpos.line) = true := by rfl) : PE X (.Call (.Attribute o name apos) [] [] cpos) (tBM0 X.K T r to) := by
  intro pins s σ H Q I h
  refine wpAny_Call_method0_late hbase hline (thn (ho pins s σ H _ I h) fun v s1 ⟨x, H1, I1, r1, ty, q1⟩ => ?_)
  obtain ⟨h1, h2⟩ := tyV_is I1 r1 ty
  exact ⟨T, id, pa, slot, hty, h1, h2, Calls.callWith_builtin rfl (PySem.evalArgs_none (hm pins s1 σ H1 x [] v [] Q I1 r1 .nil q1))⟩
theorem pe_bm (pa : PlainAttrs T) (slot : Slot T name id) (hty : typeOf (.builtin id) = pure (.type "method_descriptor")) (hm : MtR X id r) (ho : PE X o to) (ha : PA X (e :: es) t)
    (hbase : attributeBase o name X.env (eval o X.env) = eval o X.env := by rfl)
    (hfew : ((backTo cpos (starEach (e :: es) X.env)).all (fun x => !x.1) && (backToKw cpos (keywordEach [] X.env)).all (fun x => x.1.isSome)
      && decide ((e :: es).length + ([] : List Keyword).length + (if ([] : List Keyword).isEmpty then 0 else 1) < 30)) = true := by rfl)
    (hline : (apos.endLine == cpos.line) = true := by rfl) (hs : starEach (e :: es) X.env = (false, eval e X.env) :: starEach es X.env := by rfl) (hplain : (backTo cpos (starEach es X.env)).any (·.1) = false := by rfl) :
    PE X (.Call (.Attribute o name apos) (e :: es) [] cpos) (tBM X.K T r to t) := by
  intro pins s σ H Q I h
  refine wpAny_Call_method_late hbase hfew hline rfl (thn (ho pins s σ H _ I h) fun v s1 ⟨x, H1, I1, r1, ty, q1⟩ => ?_)
  obtain ⟨h1, h2⟩ := tyV_is I1 r1 ty
  refine ⟨T, id, pa, slot, hty, h1, h2, ?_⟩
  have hA := ha cpos pins s1 σ H1 _ I1 q1
  rw [hs] at hA ⊢
  refine Calls.callWith_builtin (by show (false || (backTo cpos (starEach es X.env)).any (·.1)) = false; rw [hplain] <;> rfl) (Calls.evalArgs_plain ?_)
  exact thn hA fun us s2 ⟨vs, H2, I2, r2, q2⟩ => hm pins s2 σ H2 x vs v us Q I2 r1 r2 q2
/- xs.append(e), list.index on a module's tuple .. are MtR facts of 06m -/
end
end L2

namespace L2
open PySem PySem.Spec PyProof.Rows

def MtM (X : Cx) (id : String) (r : V → List V → Hp → VK → Prop) : Prop :=
  ∀ (pins : List (Addr × Obj)) (s : Shared) (σ : St) (H : Hp) (x : V) (xs : List V) (v : Value) (us : List Value) (Q : VK), Inv X pins σ H s → RelV x v → Vals xs us → r x xs H Q →
    wpAny (model X.prog X.w) X.A (call (.builtin id) (v :: us)) (EP X pins σ Q) X.xe s

/-! ### lists of values -/
theorem Vals.one : ∀ {x : V} {us : List Value}, Vals [x] us → ∃ u, us = [u] ∧ RelV x u
  | _, _, .cons r .nil => ⟨_, rfl, r⟩
theorem Vals.two : ∀ {x y : V} {us : List Value}, Vals [x, y] us → ∃ u v, us = [u, v] ∧ RelV x u ∧ RelV y v
  | _, _, _, .cons r (.cons q .nil) => ⟨_, _, rfl, r, q⟩
theorem Vals.zero : ∀ {us : List Value}, Vals [] us → us = []
  | _, .nil => rfl
theorem Vals.dropLast {xs : List V} {us : List Value} (h : Vals xs us) : Vals xs.dropLast us.dropLast := by
  induction h with
  | nil => exact .nil
  | cons r t ih =>
    cases t with
    | nil => exact .nil
    | cons q t' => exact .cons r ih
theorem Vals.reverse {xs : List V} {us : List Value} (h : Vals xs us) : Vals xs.reverse us.reverse := by
  induction h with
  | nil => exact .nil
  | cons r t ih => rw [List.reverse_cons, List.reverse_cons]; exact Vals.append ih (.cons r .nil)
theorem Vals.rep {xs : List V} {us : List Value} (h : Vals xs us) : ∀ k : Nat, Vals (List.replicate k xs).flatten (List.replicate k us).flatten
  | 0 => .nil
  | k + 1 => by
    rw [List.replicate_succ, List.replicate_succ, List.flatten_cons, List.flatten_cons]
    exact Vals.append h (Vals.rep h k)
theorem erase_last {α : Type} (l : List α) : l.eraseIdx (l.length - 1) = l.dropLast := by
  induction l with
  | nil => rfl
  | cons a r ih =>
    cases r with
    | nil => rfl
    | cons b r =>
      have e : (a :: b :: r).length - 1 = ((b :: r).length - 1) + 1 := by
        have h1 : (a :: b :: r).length = r.length + 2 := rfl
        have h2 : (b :: r).length = r.length + 1 := rfl
        (first | lia | omega)
      rw [e, List.eraseIdx_cons_succ, ih]
      all_goals rfl
theorem foldl_rep (its : List Value) : ∀ (k : Nat) (acc : List Value),
    List.foldl (fun x1 x2 => x1 ++ x2) acc.toArray (List.replicate k its.toArray) = (acc ++ (List.replicate k its).flatten).toArray
  | 0, acc => by simp
  | k + 1, acc => by
    have e : acc.toArray ++ its.toArray = (acc ++ its).toArray := by simp
    have e2 : (acc ++ its) ++ (List.replicate k its).flatten = acc ++ (List.replicate (k + 1) its).flatten := by
      rw [List.replicate_succ, List.flatten_cons, List.append_assoc]
    rw [← e2, ← foldl_rep its k (acc ++ its), ← e, List.replicate_succ, List.foldl_cons]

section
variable {X : Cx} {pins : List (Addr × Obj)} {σ : St} {H : Hp} {s : Shared} {l b : Addr} {xs ys zs : List V}

/-! ### the two steps: a tracked list is rewritten, a new list is laid -/
theorem Inv.lset {its its' : List Value} {n : Nat} {f : Array Value → Array Value} {t' : Nat} (I : Inv X pins σ H s) (hH : H l = some (.lst xs))
    (e : s.heap.get? l = some { cls := .type "list", data := .seq its.toArray n }) (hf : f its.toArray = its'.toArray) (hv : Vals ys its') (hz : ys.length ≤ sizeLine) :
    Inv X pins σ (upd H l (.lst ys)) { s with heap := s.heap.update l (Obj.mapSeq f), toks := t' } := by
  have q := PySem.IsL.update e f
  rw [hf] at q
  refine I.write (x := l) (e := l) (by rw [hH]; exact trivial) (.inl rfl) (fun b' u hb hu => (Heap.get?_update_other s.heap (Obj.mapSeq f) (Ne.symm hb)).trans hu) ⟨_, q⟩ ?_
  exact ⟨hz, its', _, hv, q⟩
theorem Inv.lnew {its : List Value} {t' : Nat} (I : Inv X pins σ H s) (hv : Vals ys its) (hz : ys.length ≤ sizeLine) :
    Inv X pins σ (upd H s.heap.objs.size (.lst ys)) { s with heap := s.heap.push { cls := .type "list", data := .seq its.toArray }, toks := t' } :=
  I.laid (fun _ _ q => Heap.get?_push_of_some _ q) (Nat.le_refl _) ⟨hz, its, 0, hv, Heap.get?_push_size _ rfl⟩
theorem Inv.fresh (I : Inv X pins σ H s) : H s.heap.objs.size = none := I.hok.fresh (Nat.le_refl _)
theorem Inv.lstM (I : Inv X pins σ H s) (hH : H l = some (.lst xs)) : xs.length ≤ sizeLine ∧ ∃ (its : List Value) (n : Nat), Vals xs its ∧ xs.length = its.length ∧ s.heap.get? l = some { cls := .type "list", data := .seq its.toArray n } := by
  obtain ⟨z, its, n, r, e⟩ := I.hok l _ hH
  exact ⟨z, its, n, r, r.length, e⟩

theorem notLongL {n : Nat} (h : n ≤ sizeLine) : Builtin.List.listTooLong n = false := by
  unfold Builtin.List.listTooLong
  exact decide_eq_false (by (first | lia | omega))
end

section
variable {X : Cx}

/-! ### methods -/
def rAppend : V → List V → Hp → VK → Prop := fun x vs H Q => ∃ l xs y, x = .ref l ∧ vs = [y] ∧ H l = some (.lst xs) ∧ xs.length < sizeLine ∧ Q .non (upd H l (.lst (xs ++ [y])))
theorem mt_append : MtM X "list.append" rAppend := by
  intro pins s σ H x vs v us Q I rx rv h
  obtain ⟨l, xs, y, rfl, rfl, hH, hz, q⟩ := h
  cases rx
  obtain ⟨u, rfl, ru⟩ := rv.one
  obtain ⟨z, its, n, r, hl, e⟩ := I.lstM hH
  refine call_meets F.slot_list_append ⟨_, e, rfl⟩ F.entry_list_append (F.args_list_append_2 _ _) (PySem.list_append l its.toArray n u (by rw [List.size_toArray]; (first | lia | omega))) ⟨e, ?_⟩
  refine ⟨.non, _, I.lset (its' := its ++ [u]) hH e (by simp) (r.append (.cons ru .nil)) ?_, rfl, q⟩
  rw [List.length_append, List.length_singleton]
  (first | lia | omega)

def rExtend : V → List V → Hp → VK → Prop := fun x vs H Q => ∃ l b xs zs, x = .ref l ∧ vs = [.ref b] ∧ H l = some (.lst xs) ∧ H b = some (.lst zs) ∧ xs.length + zs.length ≤ sizeLine ∧ Q .non (upd H l (.lst (xs ++ zs)))
theorem mt_extend : MtM X "list.extend" rExtend := by
  intro pins s σ H x vs v us Q I rx rv h
  obtain ⟨l, b, xs, zs, rfl, rfl, hH, hB, hz, q⟩ := h
  cases rx
  obtain ⟨u, rfl, ru⟩ := rv.one
  cases ru
  obtain ⟨z, its, n, r, hl, e⟩ := I.lstM hH
  obtain ⟨z2, its2, n2, r2, hl2, e2⟩ := I.lstM hB
  have hsz : its.toArray.size + its2.toArray.size ≤ sizeLine := by rw [List.size_toArray, List.size_toArray]; (first | lia | omega)
  have hlong : ¬ (!its.toArray.isEmpty && Builtin.List.listTooLong (its.toArray.size + its2.toArray.size)) = true := by
    rw [notLongL hsz, Bool.and_false]
    exact Bool.false_ne_true
  refine call_meets F.slot_list_extend ⟨_, e, rfl⟩ F.entry_list_extend (F.args_list_extend_2 _ _)
    (AutoSeq1.list_extend_list_list_0 l its.toArray n b its2.toArray n2 hlong (by rw [List.size_toArray]; (first | lia | omega)) (by (first | lia | omega))) ⟨e, e2, ?_⟩
  refine ⟨.non, _, I.lset (its' := its ++ its2) hH e (by simp) (r.append r2) ?_, rfl, q⟩
  rw [List.length_append]
  (first | lia | omega)

def rPop : V → List V → Hp → VK → Prop := fun x vs H Q => ∃ l xs y, x = .ref l ∧ vs = [] ∧ H l = some (.lst xs) ∧ xs[xs.length - 1]? = some y ∧ Q y (upd H l (.lst xs.dropLast))
theorem mt_pop : MtM X "list.pop" rPop := by
  intro pins s σ H x vs v us Q I rx rv h
  obtain ⟨l, xs, y, rfl, rfl, hH, hy, q⟩ := h
  cases rx
  have hus := rv.zero
  subst hus
  obtain ⟨z, its, n, r, hl, e⟩ := I.lstM hH
  obtain ⟨u, hu, ru⟩ := r.get hy
  have hy' : its.toArray[its.toArray.size - 1]? = some u := by
    show its.toArray[its.length - 1]? = some u
    rw [← Array.getElem?_toList, ← hl]
    exact hu
  refine call_meets F.slot_list_pop ⟨_, e, rfl⟩ F.entry_list_pop (F.args_list_pop_1 _) (MeetsSeq.list_pop_last l its.toArray n u hy' (by rw [List.size_toArray]; (first | lia | omega))) ⟨e, ?_⟩
  refine ⟨y, _, I.lset (its' := its.dropLast) hH e ?_ r.dropLast ?_, ru, q⟩
  · show its.toArray.eraseIdxIfInBounds (its.toArray.size - 1) = its.dropLast.toArray
    rw [List.size_toArray, List.eraseIdxIfInBounds_toArray, erase_last]
  · rw [List.length_dropLast]
    (first | lia | omega)

/-! ### list + list, list += list, list * int -/
def rCat : R2 := fun x y H Q => ∃ l b xs zs, x = .ref l ∧ y = .ref b ∧ H l = some (.lst xs) ∧ H b = some (.lst zs) ∧ xs.length + zs.length ≤ sizeLine ∧ ∀ p, H p = none → Q (.ref p) (upd H p (.lst (xs ++ zs)))
theorem op_cat : OpR X (binaryOp .Add) rCat := by
  intro pins s σ H x y v u Q I rx ry h
  obtain ⟨l, b, xs, zs, rfl, rfl, hH, hB, hz, q⟩ := h
  cases rx
  cases ry
  obtain ⟨z, its, n, r, hl, e⟩ := I.lstM hH
  obtain ⟨z2, its2, n2, r2, hl2, e2⟩ := I.lstM hB
  refine PySem.P.add_list e e2 ?_ (by rw [List.size_toArray, List.size_toArray]; (first | lia | omega))
  have ea : its.toArray ++ its2.toArray = (its ++ its2).toArray := by simp
  rw [ea]
  exact ⟨.ref _, _, I.lnew (t' := s.toks) (r.append r2) (by rw [List.length_append]; (first | lia | omega)), rfl, q _ I.fresh⟩
theorem len_rep {α : Type} (xs : List α) (k : Nat) : (List.replicate k xs).flatten.length = k * xs.length := by
  induction k with
  | zero => simp
  | succ k ih => rw [List.replicate_succ, List.flatten_cons, List.length_append, ih, Nat.succ_mul, Nat.add_comm]
/-! ### del xs[i] -/
end

/-! ### xs[a:b] = ys -/

end L2

namespace Att
open PySem PySem.W PySem.Calls PyProof.Rows

/-! ### the script -/
theorem ints_of_wellAll {P : Params} {h : Heap} : ∀ (ns : List Int) (vs : List Value), WellAll P h vs (ns.map WData.int) → IntsAre vs ns := by
  intro ns
  induction ns with
  | nil =>
    intro vs w
    rw [List.map_nil] at w
    cases w
    exact .nil
  | cons n ns ih =>
    intro vs w
    rw [List.map_cons] at w
    cases w with
    | cons a b =>
      cases a
      exact .cons _ _ (ih _ b)

theorem script_of {l : OpenLaw} {n : Nat} (hn : l.most = some n) {P : Params} {h : Heap} {args : List WData} {vals : List Value}
    (hpre : l.row.toRowW.claim.pre args = true) (hwl : WellAll P h vals args) :
    ∃ a vs ns, vals = [Value.ref a] ∧ args = [WData.list (ns.map WData.int)] ∧ h.get? a = some { cls := .type "list", data := .seq vs.toArray } ∧ IntsAre vs ns ∧ ns.length ≤ n := by
  have hsh : WShape.hasAll [] args [.list .int] = true := (pre_splitW hpre).1
  have hc : l.pre.holds [] { args := args } = true := (pre_splitW hpre).2
  obtain ⟨d, r, rfl, h1, h2⟩ := hasAllW_cons hsh
  obtain rfl := hasAllW_nil h2
  obtain ⟨xs, rfl, h3⟩ := hasW_list h1
  obtain ⟨ns, rfl⟩ := items_int h3
  have hlen : ns.length ≤ n := by
    unfold OpenLaw.pre at hc
    have h4 : (WTm.not (.lt (.lit (.int (n : Int))) (.len (.arg 0)))).holds [] { args := [.list (ns.map .int)] } = true := by
      have h4 := (holds_andW hc).1
      rw [hn] at h4
      exact h4
    have h5 := condW_of h4 (w_not (w_lt w_lit (w_len_list (w_arg rfl))))
    rw [List.length_map] at h5
    refine Nat.le_of_not_lt fun q => ?_
    have q' : (n : Int) < ((ns.length : Nat) : Int) := by (first | lia | omega)
    first
      | (rw [decide_eq_true q'] at h5; exact absurd h5 (by decide))
      | (simp at h5; (first | lia | omega))
  cases hwl with
  | cons w1 w2 =>
    cases w2
    cases w1 with
    | list ho hall => exact ⟨_, _, ns, rfl, rfl, ho, ints_of_wellAll ns _ hall, hlen⟩

theorem post_true (l : OpenLaw) (args : List WData) : l.row.toRowW.claim.post args (.bool true) args = true :=
  postW_of (r := l.row.toRowW) (X := (true == true))
    (show WShape.has [] (.bool true) .bool = true by first | rfl | decide | simp [WShape.has, WShape.arms, WShape.armsAll])
    (show (WTm.eq .res (.lit (.bool true))).value [] { args := args, res := some (.bool true), after := args } = some (.bool (true == true)) from w_eq_bool (w_res rfl) w_lit) rfl

/-! ### the attachment: holds_open's last premise (the goal 'hc' behind k_head) from a wpAny of the law's body -/
/-- the same from a codeAny of the CALL (for a layer whose function contracts speak of calls) -/
theorem attach_call {l : OpenLaw} {n : Nat} {q : Program} {loose : List Str} {XP : (Str → Option Value) → Heap → Prop} {YP : World → Heap → Prop} {d : DefRec}
    (hn : l.most = some n) (hdf : d.params.defaults = [])
    (call : ∀ (w : World) (s₀ s₁ : Shared) (mg mb : Str → Option Value) (fa : Addr) (o : Obj) (pm cd doc : Value) (a : Addr) (vs : List Value) (ns : List Int),
      Ground q loose [] XP w s₀ mg mb s₁.heap → YP w s₁.heap →
      s₁.heap.get? fa = some o → o.data = .func (docDef d.name d.params d.body d.scope pm cd doc) → s₁.heap.CodeRec cd d.name → mg d.name = some (.ref fa) →
      s₁.heap.get? a = some { cls := .type "list", data := .seq vs.toArray } → IntsAre vs ns → ns.length ≤ n → s₁.gens = #[] →
      codeAny (model l.prog w) callerA (.call (.ref fa) ⟨[.ref a], []⟩) (fun r s' => r = .ok (.ret (.bool true)) ∧ OldK s₁.heap s'.heap ∧ s'.os = s₁.os ∧ AllBare s'.gens) s₁) :
    WalkO q loose XP YP l.row.toRowW d [] (fun f vs => PySem.call f vs) := by
  intro w s₀ s₁ mg mb G Y fa o pm cd doc dV kV ho hd hcd hD hmg hg args vals as hpre hlay hrd hwl hlo
  obtain rfl : dV = .none := Dflts.none hD hdf
  obtain rfl : kV = .none := Dflts.noKw hD
  obtain ⟨a, vs, ns, rfl, rfl, hobj, hints, hlen⟩ := script_of hn hpre hwl
  refine enter_call (codeAny_mono (call w s₀ s₁ mg mb fa o pm cd doc a vs ns G Y ho (fd_plain hd) hcd hmg hobj hints hlen hg) fun r s' hq => ?_)
  obtain ⟨rfl, h2, h3, h4⟩ := hq
  exact ⟨.inl ⟨.bool true, .bool true, [], rfl, fun _ => rfl, .bool true, post_true l _, fun _ => ⟨List.Pairwise.nil, fun _ hm => (nomatch hm)⟩⟩, h2, h3, h4⟩

/-! ### rules over ANY heap (no ledger) from facts about the written part K: the library's own take a ledger (News) for what they write -/
end Att

namespace L2
open PySem PySem.Spec PyProof.Rows

theorem vals_ints : ∀ {vs : List Value} {ns : List Int}, IntsAre vs ns → Vals (ns.map V.int) vs
  | _, _, .nil => .nil
  | _, _, .cons n t h => .cons ⟨t, rfl⟩ (vals_ints h)

/-- nothing is tracked but the script, known to the object (or it is an object of the module) -/
def Only (H : Hp) : Prop := ∀ b, H b = none ∨ ∃ o xs, H b = some (.frz o (.lst xs))

/-- THE HEAD: the law's promise, at the heap behind the top. F, the promise of the law's def, may use that base is part of the heap (so K.In base, base.Ns mainGlobals mg stand in Mod) -/
theorem law_call {P : Program} {w : World} {K : PySem.W.Frag} {mg mb : Str → Option Value} {CX : CXT} {k : Nat} {fa a : Addr} {fd : FuncData} {x : Str} {sp : Sp} {s₁ : Shared} {vs : List Value} {ns : List Int}
    (KX : K.In s₁.heap) (hns : s₁.heap.Ns mainGlobals mg) (hb : s₁.heap.Ns builtinsNs mb) (hbb : ∀ x : Str, x ≠ "__name__" → mb x = bootBuiltins x) (hlim : s₁.heap.NoLimit) (hg : s₁.gens = #[])
    (ha : s₁.heap.get? a = some { cls := .type "list", data := .seq vs.toArray }) (hi : IntsAre vs ns) (hl : ns.length ≤ sizeLine) (hr : Room k callerA)
    (F : ∀ base : Heap, K.In base → base.Ns mainGlobals mg → FnOk P w K mg base CX k fa fd [x] sp) (hbind : ∀ (s : Shared) (u : Value), BindsTo s fd ⟨[u], []⟩ [(x, u)])
    (hsp : ∀ H : Hp, Only H → SqL K H a (ns.map V.int) → sp [.ref a] H (fun v _ => v = .bl true) fun _ _ _ => False)
    (hCX : ∀ H e s', CX [] H s₁ (fun _ _ _ => False) e s' → False) :
    codeAny (model P w) callerA (.call (.ref fa) ⟨[.ref a], []⟩) (fun r s' => r = .ok (.ret (.bool true)) ∧ OldK s₁.heap s'.heap ∧ s'.os = s₁.os ∧ AllBare s'.gens) s₁ := by
  have rv := vals_ints hi
  have lenV := hi.length
  -- from an abstract heap in which nothing but the script may be tracked
  have core : ∀ H : Hp, Only H → SqL K H a (ns.map V.int) → HOk P w H s₁.heap → (∀ b, H b ≠ none → b = a) → (H a ≠ none → K.lookup a = none) →
      codeAny (model P w) callerA (.call (.ref fa) ⟨[.ref a], []⟩) (fun r s' => r = .ok (.ret (.bool true)) ∧ OldK s₁.heap s'.heap ∧ s'.os = s₁.os ∧ AllBare s'.gens) s₁ := by
    intro H hO hS hok hA hK
    have base_of : ∀ {b : Addr} {o : Obj}, s₁.heap.get? b = some o → H b = none → (hidT s₁.heap H).get? b = some o := fun e n => hidT_get e n
    have noA : ∀ {b : Addr} {o : Obj} {es : Array DictEntry} {ep : Nat}, s₁.heap.get? b = some o → o.data = .dict es ep → H b = none := fun {b o es ep} e d => by
      cases q : H b with
      | none => rfl
      | some u =>
        have e' : b = a := hA b (by rw [q]; simp)
        subst e'
        rw [ha] at e; cases e
        have d' : Data.seq vs.toArray _ = Data.dict es ep := d
        cases d'
    have nsK : ∀ {b : Addr} {m : Str → Option Value}, s₁.heap.Ns b m → (hidT s₁.heap H).Ns b m := fun {b m} ⟨o, es, ep, e, d, r⟩ => ⟨o, es, ep, base_of e (noA e d), d, r⟩
    have hKb : K.In (hidT s₁.heap H) := fun b o e => base_of (KX b o e) (by
      cases q : H b with
      | none => rfl
      | some u =>
        have e' : b = a := hA b (by rw [q]; simp)
        subst e'
        rw [hK (by rw [q]; simp)] at e; cases e)
    have hM : Mod K mg (hidT s₁.heap H) := ⟨hKb, nsK hns, ⟨mb, nsK hb, hbb⟩, let ⟨mc, h1, h2⟩ := hlim; ⟨mc, nsK h1, h2⟩⟩
    have e0 : Env0 P w K mg (hidT s₁.heap H) callerA [] s₁ H := ⟨rfl, hM, fun b o e => of_hidT e, Nat.le_of_eq (hidT_size _ _), trivial, fun b hb => absurd (show b ∈ ([] : List Addr) from hb) (by simp), hok, .of_eq hg⟩
    refine codeAny_mono ((F _ hKb (nsK hns)).run callerA [] s₁ H ⟨[.ref a], []⟩ [.ref a] [.ref a] _ _ hr e0 (hbind s₁ (.ref a)) (.cons rfl .nil) (hsp H hO hS)) fun r s' h => ?_
    cases r with
    | error e => exact (hCX H e s' h).elim
    | ok fl =>
      cases fl with
      | next => exact False.elim h
      | brk => exact False.elim h
      | cont => exact False.elim h
      | ret u =>
        obtain ⟨v, H', os, bare, un, hok', r', q⟩ := h
        have q' : v = .bl true := q
        subst q'
        obtain rfl : u = Value.bool true := r'
        refine ⟨rfl, OldK.of_keep fun b o e => ?_, os, bare⟩
        cases q : H b with
        | none => exact un.keep b o e q (by intro z; exact absurd (show b ∈ ([] : List Addr) from z) (by simp)) (by simp)
        | some u =>
          rcases hO b with z | ⟨ob, xs, z⟩
          · rw [q] at z; cases z
          · have z2 := un.frzs b ob _ z
            obtain ⟨e1, _⟩ := hok b _ z
            obtain ⟨e2, _⟩ := hok' b _ z2
            rw [e] at e1; cases e1
            exact e2
  cases hk : K.lookup a with
  | some o =>
    -- the script is one of the module's own objects
    have e := KX a o hk
    rw [ha] at e
    cases e
    refine core (fun _ => none) (fun _ => .inl rfl) (.inr ⟨_, vs.toArray, _, hk, rfl, rfl, rfl, by rw [List.size_toArray, lenV]; exact hl, by simpa using rv⟩) (fun b u z => by have z' : (none : Option HO) = some u := z; cases z') (fun b z => absurd rfl z) fun z => absurd rfl z
  | none =>
    refine core (fun b => if b = a then some (.frz { cls := .type "list", data := .seq vs.toArray } (.lst (ns.map V.int))) else none) (fun b => ?_) (.inl (.inr ⟨{ cls := .type "list", data := .seq vs.toArray }, if_pos rfl⟩)) (fun b u z => ?_) (fun b z => ?_) fun _ => hk
    · by_cases hb : b = a
      · exact .inr ⟨_, _, if_pos hb⟩
      · exact .inl (if_neg hb)
    · by_cases hb : b = a
      · have z' := (if_pos hb).symm.trans z
        cases z'
        subst hb
        exact ⟨ha, by rw [List.length_map]; exact hl, vs, _, rv, ha⟩
      · have z' := (if_neg hb).symm.trans z
        cases z'
    · by_cases hb : b = a
      · exact hb
      · exact absurd (if_neg hb) z
end L2

namespace L2
open PySem PySem.Spec PyProof.Rows

/-- the goal that k_head leaves (case hc), from the law's promise. F gives the function object fd (K's own) once, then the promise over every base -/
theorem walk_of {l : PySem.W.OpenLaw} {n k : Nat} {q : Program} {loose : List Str} {XP : (Str → Option Value) → Heap → Prop} {YP : World → Heap → Prop} {d : DefRec} {K : Params → PySem.W.Frag} {CX : World → CXT} {sp : World → Sp} {x : Str}
    (hn : l.most = some n) (hn2 : n ≤ sizeLine) (hdf : d.params.defaults = []) (hr : Room k callerA)
    (hY : ∀ (w : World) (h : Heap), YP w h → (K w.params).In h)
    (F : ∀ (w : World) (mg : Str → Option Value) (fa : Addr) (h : Heap), (K w.params).In h → h.Ns mainGlobals mg → mg d.name = some (.ref fa) →
      ∃ fd : FuncData, (∀ (s : Shared) (u : Value), BindsTo s fd ⟨[u], []⟩ [(x, u)]) ∧
        ∀ base : Heap, (K w.params).In base → base.Ns mainGlobals mg → FnOk l.prog w (K w.params) mg base (CX w) k fa fd [x] (sp w))
    (hsp : ∀ (w : World) (H : Hp) (a : Addr) (ns : List Int), ns.length ≤ n → Only H → SqL (K w.params) H a (ns.map V.int) → sp w [.ref a] H (fun v _ => v = .bl true) fun _ _ _ => False)
    (hCX : ∀ (w : World) (H : Hp) (s : Shared) (e : Value) (s' : Shared), CX w [] H s (fun _ _ _ => False) e s' → False) :
    PySem.W.WalkO q loose XP YP l.row.toRowW d [] (fun f vs => PySem.call f vs) := by
  refine Att.attach_call hn hdf fun w s₀ s₁ mg mb fa o pm cd doc a vs ns G Y ho hd hcd hmg hobj hints hlen hg => ?_
  have KX := hY w _ Y
  obtain ⟨fd, hb, hF⟩ := F w mg fa _ KX G.T.g hmg
  exact law_call KX G.T.g G.T.b G.T.builtins G.T.nolimit hg hobj hints (Nat.le_trans hlen hn2) hr hF hb (fun H hO hS => hsp w H a ns hlen hO hS) fun H e s' => hCX w H s₁ e s'
end L2

/- THE LAST THEOREM (shape; LID, My.* are yours):
   My.Adr: a structure of the addresses that your layer names (classes, functions); My.Txt K t: a structure (Prop) of the equations over K;
   My.txt_mk : {K} {implicit addresses ..} (e1 : nsIn K mainGlobals "law" = some (some (.ref f))) (e2 : K.lookup f = some ⟨oc, od, .func (fnOf "law" "law" params body scope dV kV doc pm an cdv ct), sl⟩) (e3 : codeIn K cdv "law" = true) .. : ∃ t, My.Txt K t

set_option maxRecDepth 100000 in
set_option maxHeartbeats 0 in
theorem PySem.Challenge.cw_LID_holds : PySem.Challenge.rw_LID.Holds := by
  w_on; o_law; k_head; (case hw => w_witness2)
  k_fill
  refine L2.walk_of (l := PySem.Challenge.rw_LID) (n := 63) (k := 40) (x := "script") (CX := fun w => ..) (sp := fun _ => My.sp_law) rfl (by decide) rfl ⟨rfl, by decide, by decide⟩ (fun w h Y => PySem.W.kIn_of Y) ?F ?S ?C
  case F =>
    intro w mg fa h KX G hmg
    have T : ∃ t, My.Txt (L2.KOf KX) t := by
      dsimp only [L2.KOf]                          -- K must stand as «<heap const> w.params» for k_is
      refine' My.txt_mk ?e1 ?e2 ?e3 ..
      (case e1 => PySem.W.k_is)                    -- in the order: a name -> its address -> its object -> its parts
      (case e2 => PySem.W.k_is)
      ..
    obtain ⟨t, T⟩ := T
    have e0 := hmg.symm.trans (PySem.W.mg_of KX G T.law)
    cases e0                                       -- fa is the law's own address
    exact ⟨_, fun s u => .of_eq rfl, fun base kb nb => My.law_fn T kb nb⟩     -- if «.of_eq rfl» comes too early: refine' ⟨_, ?b, fun base kb nb => My.law_fn T kb nb⟩; exact fun s u => .of_eq rfl
  case S => exact fun w H a ns hl hO hS => ..
  case C => exact ..
(the tactic k_is has no namespace: write k_is) -/

/-! SHORT WORDS over the layer: a def of the text, its body, what a loop and a test want. -/
namespace L2
open PySem PySem.Spec PyProof.Rows

/-! ### the text by places -/
def defArgs (s : Stmt) : Arguments := match s with
  | .FunctionDef _ a _ _ _ _ _ _ _ _ => a
  | _ => { posonlyargs := [], args := [], vararg := none, kwonlyargs := [], kw_defaults := [], kwarg := none, defaults := [] }
def defBody (s : Stmt) : List Stmt := match s with
  | .FunctionDef _ _ b _ _ _ _ _ _ _ => b
  | _ => []
def defScope (s : Stmt) : Scope := match s with
  | .FunctionDef _ _ _ _ _ _ sc _ _ _ => sc
  | _ => { kind := .function, names := [], isGenerator := false, isCoroutine := false }

/-! ### no exception leaves a def -/
abbrev CX0 : CXT := fun _ _ _ _ _ _ => False
abbrev E0 : XK := fun _ _ _ => False
theorem pass0 {X : Cx} : Passes CX0 X E0 := fun _ _ _ _ _ _ _ h => h.elim

/-! ### a def (or method) of the text as it stands behind the top -/
structure Fun (K : PySem.W.Frag) (x qual : Str) (st : Stmt) (f : Addr) (fd : FuncData) : Prop where
  ex : ∃ (oc : Value) (od : Option Addr) (kV doc pm : Value) (an : Option Addr) (cdv ct : Value) (osl : Array (Option Value)),
    fd = PySem.W.fnOf x qual (defArgs st) (defBody st) (defScope st) .none kV doc pm an cdv ct ∧ K.lookup f = some ⟨oc, od, .func fd, osl⟩ ∧ PySem.W.codeIn K cdv qual = true
  kp : PySem.W.keepIn K (.ref f) = true
section
variable {P : Program} {w : World} {K : PySem.W.Frag} {mg : Str → Option Value} {base : Heap}
/-- THE RULE for a def: its body as a term of rules, and the reading of that term -/
theorem Fun.ok {x qual : Str} {st : Stmt} {f : Addr} {fd : FuncData} {N ps : List Str} {k : Nat} {sp : Sp} (F : Fun K x qual st f fd) (S : FnScope N ps (defScope st)) (len : ∀ vs H Q E, sp vs H Q E → vs.length = ps.length)
    (hbody : ∀ (cdv : Value) (A : Around) (outer : List Env) (s : Shared) (H : Hp) (vs : List V) (Q : VK) (E : XK), Room k (A.deeper (envOfC qual (defScope st) s.heap.objs.size f cdv)) → sp vs H Q E →
      ∃ t, PSs (cxOf CX0 P w K mg base N qual (defScope st) f cdv A outer s H E).nox (defBody st) t ∧ t { nx := fun _ H' => Q .non H', rt := Q } (start N vs) H) : FnOk P w K mg base CX0 (k + 1) f fd ps sp := by
  obtain ⟨oc, od, kV, doc, pm, an, cdv, ct, osl, rfl, lk, hcd⟩ := F.ex
  refine fn_of lk hcd S len fun A outer s H vs Q E hr hsp => ?_
  obtain ⟨t, h, q⟩ := hbody cdv A outer s H vs Q E hr hsp
  exact ⟨t, h.nox, q⟩
/-- how its arguments bind (no defaults): h is «fun _ _ _ _ _ _ us hl => match us, hl with | [_, _], _ => rfl», one _ a parameter -/
theorem Fun.binds {x qual : Str} {st : Stmt} {f : Addr} {fd : FuncData} {ps : List Str} (F : Fun K x qual st f fd)
    (h : ∀ (kV doc pm : Value) (an : Option Addr) (cdv ct : Value) (us : List Value), us.length = ps.length → bindArgs (PySem.W.fnOf x qual (defArgs st) (defBody st) (defScope st) .none kV doc pm an cdv ct) ⟨us, []⟩ = pure (ps.zip us)) : Binds K fd ps [] := by
  obtain ⟨oc, od, kV, doc, pm, an, cdv, ct, osl, rfl, lk, hcd⟩ := F.ex
  exact .all (h kV doc pm an cdv ct)
theorem fun_mk {x qual : Str} {st : Stmt} {f : Addr} {oc : Value} {od an : Option Addr} {osl : Array (Option Value)} {kV doc pm cdv ct : Value} (l : K.lookup f = some ⟨oc, od, .func (PySem.W.fnOf x qual (defArgs st) (defBody st) (defScope st) .none kV doc pm an cdv ct), osl⟩)
    (c : PySem.W.codeIn K cdv qual = true) (k : PySem.W.keepIn K (.ref f) = true) : Fun K x qual st f (PySem.W.fnOf x qual (defArgs st) (defBody st) (defScope st) .none kV doc pm an cdv ct) := ⟨⟨oc, od, kV, doc, pm, an, cdv, ct, osl, rfl, l, c⟩, k⟩
end
/-! ### expressions in short: the name that stands in the i-th slot -/
section
variable {X : Cx}
theorem pv (i : Nat) {x : Str} {pos : Pos} (hN : X.N[i]? = some x := by rfl) (hv : Vis X.env.scope x := by first | exact Or.inl rfl | exact Or.inr (Or.inl rfl) | exact Or.inr (Or.inr rfl)) (hd : (x == ("__debug__" : Str)) = false := by decide)
    (hcd : (x == ("__classdict__" : Str)) = false := by decide) : PE X (.Name x pos) (tVar i) := pe_var hN hv hd hcd
end

/-! ### tests -/
theorem iteF {A B : Prop} (h : B) : if false = true then A else B := by
  rw [if_neg Bool.false_ne_true]
  exact h
theorem iteT {A B : Prop} (h : A) : if true = true then A else B := by
  rw [if_pos rfl]
  exact h
theorem ite2 {c A B : Prop} [Decidable c] (h1 : c → A) (h2 : ¬ c → B) : if c then A else B := by
  by_cases h : c
  · rw [if_pos h]
    exact h1 h
  · rw [if_neg h]
    exact h2 h
/-! ### heaps -/
/-- all that was tracked is as it was -/
def Same (H H' : Hp) : Prop := ∀ b o, H b = some o → H' b = some o
theorem Same.refl (H : Hp) : Same H H := fun _ _ h => h
theorem Same.trans {H H1 H2 : Hp} (a : Same H H1) (b : Same H1 H2) : Same H H2 := fun c o h => b c o (a c o h)
theorem Same.free {H H' : Hp} (e : Same H H') {l : Addr} (h : H' l = Option.none) : H l = Option.none := by
  cases q : H l with
  | none => rfl
  | some o =>
    rw [e l o q] at h
    cases h
theorem Same.seq {K : PySem.W.Frag} {H H' : Hp} {a : Addr} {xs : List V} (e : Same H H') (h : SqL K H a xs) : SqL K H' a xs := by
  rcases h with (h | ⟨o, h⟩) | h
  · exact .inl (.inl (e _ _ h))
  · exact .inl (.inr ⟨o, e _ _ h⟩)
  · exact .inr h

end L2

/-! Groves as data: a grove is nil, or a first tree (tag, what is within) and the others. Words with an end sl. -/
namespace FgM
inductive Gr (A : Type) where
  | nil
  | cons (t : A) (w o : Gr A)
section
variable {A : Type}
def words (sl : A) : Gr A → List A
  | .nil => []
  | .cons t w o => t :: (words sl w ++ sl :: words sl o)
def snoc : Gr A → A → Gr A → Gr A
  | .nil, t, w => .cons t w .nil
  | .cons t' w' o, t, w => .cons t' w' (snoc o t w)
theorem words_snoc (sl : A) (t : A) (w : Gr A) : ∀ g : Gr A, words sl (snoc g t w) = words sl g ++ t :: (words sl w ++ [sl])
  | .nil => by simp [snoc, words]
  | .cons t' w' o => by simp [snoc, words, words_snoc sl t w o]
/-- rows (the innermost first) with the open tags (the innermost first): the words so far -/
def flatR (sl : A) : List (Gr A) → List A → List A
  | [r], [] => words sl r
  | r :: rs, t :: ts => flatR sl rs ts ++ t :: words sl r
  | _, _ => []
theorem flatR_open (sl : A) (t : A) {rs : List (Gr A)} {ts : List A} : flatR sl (.nil :: rs) (t :: ts) = flatR sl rs ts ++ [t] := by
  cases rs <;> simp [flatR, words]
theorem flatR_grow (sl : A) (t : A) (w : Gr A) {r : Gr A} {rs : List (Gr A)} {ts : List A} (h : rs.length = ts.length) :
    flatR sl (snoc r t w :: rs) ts = flatR sl (r :: rs) ts ++ t :: (words sl w ++ [sl]) := by
  cases ts with
  | nil =>
    have : rs = [] := List.eq_nil_of_length_eq_zero (by simpa using h)
    subst this
    simp [flatR, words_snoc]
  | cons t' ts =>
    cases rs with
    | nil => simp at h
    | cons r' rs => simp [flatR, words_snoc]
theorem flatR_close (sl : A) (t : A) {w r : Gr A} {rs : List (Gr A)} {ts : List A} (h : rs.length = ts.length) :
    flatR sl (snoc r t w :: rs) ts = flatR sl (w :: r :: rs) (t :: ts) ++ [sl] := by
  rw [flatR_grow sl t w h]
  simp [flatR]
theorem flatR_ge (sl : A) {r : Gr A} {rs : List (Gr A)} {ts : List A} (h : rs.length = ts.length) : (words sl r).length ≤ (flatR sl (r :: rs) ts).length := by
  cases ts with
  | nil =>
    have : rs = [] := List.eq_nil_of_length_eq_zero (by simpa using h)
    subst this
    simp [flatR]
  | cons t' ts =>
    cases rs with
    | nil => simp at h
    | cons r' rs => simp [flatR]; (first | lia | omega)
theorem flatR_len (sl : A) : ∀ {ts : List A} {rs : List (Gr A)}, rs.length = ts.length + 1 → ts.length ≤ (flatR sl rs ts).length
  | [], _, _ => Nat.zero_le _
  | t :: ts, [], h => by simp at h
  | t :: ts, [r], h => by simp at h
  | t :: ts, r :: r' :: rs, h => by
    have := flatR_len sl (ts := ts) (rs := r' :: rs) (by simpa using h)
    simp only [flatR, List.length_append, List.length_cons]
    (first | lia | omega)
section
variable [DecidableEq A]
/-- from h open tags on these words end all tags and no more -/
def Can (sl : A) : Nat → List A → Prop
  | h, [] => h = 0
  | h, w :: ws => if w = sl then 1 ≤ h ∧ Can sl (h - 1) ws else Can sl (h + 1) ws
theorem can_tag {sl w : A} (hw : w ≠ sl) {h : Nat} {ws : List A} : Can sl h (w :: ws) ↔ Can sl (h + 1) ws := by
  simp [Can, hw]
theorem can_end {sl : A} {h : Nat} {ws : List A} : Can sl h (sl :: ws) ↔ 1 ≤ h ∧ Can sl (h - 1) ws := by
  simp [Can]
/-- the words of a grove leave the open tags as they were -/
def Clean (sl : A) : Gr A → Prop
  | .nil => True
  | .cons t w o => t ≠ sl ∧ Clean sl w ∧ Clean sl o
theorem clean_snoc {sl t : A} {w : Gr A} (ht : t ≠ sl) (hw : Clean sl w) : ∀ {g : Gr A}, Clean sl g → Clean sl (snoc g t w)
  | .nil, _ => ⟨ht, hw, trivial⟩
  | .cons _ _ _, ⟨a, b, c⟩ => ⟨a, b, clean_snoc ht hw c⟩
/-- one more open by a tag, one fewer by an end -/
def hgt (sl : A) : List A → Int
  | [] => 0
  | w :: ws => (if w = sl then -1 else 1) + hgt sl ws
theorem hgt_append (sl : A) : ∀ xs ys : List A, hgt sl (xs ++ ys) = hgt sl xs + hgt sl ys
  | [], ys => by simp [hgt]
  | x :: xs, ys => by simp only [List.cons_append, hgt, hgt_append sl xs ys]; (first | lia | omega)
theorem hgt_words {sl : A} : ∀ {g : Gr A}, Clean sl g → hgt sl (words sl g) = 0
  | .nil, _ => rfl
  | .cons t w o, ⟨h1, h2, h3⟩ => by
    simp only [words, hgt, hgt_append, hgt_words h2, hgt_words h3, if_neg h1, if_true]
    (first | lia | omega)
end
/-- how many tags -/
def tagsN [DecidableEq A] (sl : A) : List A → Nat
  | [] => 0
  | w :: ws => (if w = sl then 0 else 1) + tagsN sl ws
theorem tagsN_hgt [DecidableEq A] (sl : A) : ∀ ws : List A, (ws.length : Int) = 2 * (tagsN sl ws : Int) - hgt sl ws
  | [] => rfl
  | w :: ws => by
    have := tagsN_hgt sl ws
    simp only [List.length_cons, tagsN, hgt]
    split <;> (first | lia | omega)
theorem tagsN_words [DecidableEq A] {sl : A} {g : Gr A} (h : Clean sl g) : (words sl g).length = 2 * tagsN sl (words sl g) := by
  have := tagsN_hgt sl (words sl g)
  rw [hgt_words h] at this
  (first | lia | omega)
/-- the stack of words_of: none is an end, some a tree -/
abbrev Item (A : Type) := Option (A × Gr A)
def wi (sl : A) : Item A → List A
  | none => [sl]
  | some (t, w) => t :: (words sl w ++ [sl])
def items : Gr A → List (Item A)
  | .nil => []
  | .cons t w o => some (t, w) :: items o
theorem items_words (sl : A) : ∀ g : Gr A, (items g).flatMap (wi sl) = words sl g
  | .nil => rfl
  | .cons t w o => by simp [items, wi, words, items_words sl o]
/-- what is still to come of a stack, its last one first -/
def toCome (sl : A) (st : List (Item A)) : List A := st.reverse.flatMap (wi sl)
theorem toCome_nil (sl : A) : toCome sl ([] : List (Item A)) = [] := rfl
theorem toCome_snoc (sl : A) (st : List (Item A)) (x : Item A) : toCome sl (st ++ [x]) = wi sl x ++ toCome sl st := by
  simp [toCome]
theorem toCome_grove (sl : A) (g : Gr A) : toCome sl (items g).reverse = words sl g := by
  simp [toCome, items_words]
theorem toCome_tree (sl : A) (st : List (Item A)) (w : Gr A) : toCome sl (st ++ [none] ++ (items w).reverse) = words sl w ++ sl :: toCome sl st := by
  simp [toCome, items_words, wi]
theorem toCome_len (sl : A) : ∀ st : List (Item A), st.length ≤ (toCome sl st).length := by
  intro st
  have h : ∀ l : List (Item A), l.length ≤ (l.flatMap (wi sl)).length := by
    intro l
    induction l with
    | nil => exact Nat.le_refl _
    | cons x l ih =>
      rw [List.flatMap_cons, List.length_append, List.length_cons]
      have : 1 ≤ (wi sl x).length := by cases x with
        | none => exact Nat.le_refl _
        | some p => obtain ⟨t, w⟩ := p; simp [wi]
      (first | lia | omega)
  have := h st.reverse
  rw [List.length_reverse] at this
  exact this
end
end FgM

/-! RULES OF OUR OWN over the layer: isinstance, t[::-1], whole slices of tuples, extend by a tuple, text * int, == of data at any depth, calls of own defs in short. -/
namespace L2
open PySem PySem.Spec PyProof.Rows
theorem bt_list : bootBuiltins "list" = some (.type "list") := by decide +kernel
theorem bt_tuple : bootBuiltins "tuple" = some (.type "tuple") := by decide +kernel
theorem bt_int : bootBuiltins "int" = some (.type "int") := by decide +kernel
theorem bt_bool : bootBuiltins "bool" = some (.type "bool") := by decide +kernel
theorem bt_max : bootBuiltins "max" = some (.builtin "max") := by decide +kernel
theorem bt_min : bootBuiltins "min" = some (.builtin "min") := by decide +kernel
theorem bt_isinstance : bootBuiltins "isinstance" = some (.builtin "isinstance") := by decide +kernel
section
variable {X : Cx}
/-- the name of a built-in type -/
theorem pe_ty {x : Str} {n : String} {pos : Pos} (hg : Gl X x) (hm : X.mg x = none) (hv : bootBuiltins x = some (.type n)) (hn : x ≠ "__name__" := by decide) (hd : (x == ("__debug__" : Str)) = false := by decide) : PE X (.Name x pos) (tC (.ty n)) :=
  pe_bltn (v := .ty n) hg hm hv rfl hn hd
/-- isinstance(x, T), T a built-in type -/
theorem call_isinst : CallR X (.builtin "isinstance") (fun xs H Q => ∃ x n t b, xs = [x, .ty n] ∧ TyOf X.K H x t ∧ PySem.W.kitOne X.K t (.type n) = some b ∧ Q (.bl b) H) := by
  intro pins s σ H xs us Q I r h
  obtain ⟨x, n, t, b, rfl, ty, e, q⟩ := h
  obtain ⟨u, v, rfl, rx, ry⟩ := Vals.two r
  obtain rfl : v = Value.type n := ry
  exact isinst_ok I rx ty e fun tk => ⟨.bl b, H, I.tok tk, rfl, q⟩
end
/-! ### calls of own defs -/
structure Has (P : Program) (w : World) (K : PySem.W.Frag) (mg : Str → Option Value) (base : Heap) (x : Str) (ps : List Str) (k : Nat) (sp : Sp) : Prop where
  ex : ∃ (f : Addr) (fd : FuncData), FnOk P w K mg base CX0 k f fd ps sp ∧ Binds K fd ps [] ∧ PySem.W.keepIn K (.ref f) = true ∧ mg x = some (.ref f)
section
variable {X : Cx} {x : Str} {ps : List Str} {j k : Nat} {sp : Sp} {e : Expr} {es : List Expr} {t : TA} {p pos : Pos}
theorem FnOk.room {P : Program} {w : World} {K : PySem.W.Frag} {mg : Str → Option Value} {base : Heap} {CX : CXT} {f : Addr} {fd : FuncData} (F : FnOk P w K mg base CX j f fd ps sp) (h : j ≤ k) : FnOk P w K mg base CX k f fd ps sp :=
  ⟨F.len, fun A outer s H args us vs Q E hr => F.run A outer s H args us vs Q E (hr.mono h)⟩
theorem pe_has (G : Has X.prog X.w X.K X.mg X.base x ps j sp) (hr : Room k X.A) (hg : Gl X x) (ha : PA X (e :: es) t) (hk : j ≤ k := by decide) (hdb : (x == ("__debug__" : Str)) = false := by decide)
    (he : starEach (e :: es) X.env = (false, eval e X.env) :: starEach es X.env := by rfl) (hpl : (backTo pos (starEach es X.env)).any (·.1) = false := by rfl) :
    PE X (.Call (.Name x p) (e :: es) [] pos) (tCall sp [] E0 t) := by
  obtain ⟨f, fd, F, b, kp, m⟩ := G.ex
  exact pe_call (F.room hk) hr hg m kp b .nil pass0 ha hdb he hpl
end
/-! ### extend by a tuple -/
section
variable {X : Cx}
theorem list_extend_tup (l : Addr) (items : Array Value) (n : Nat) (b : Addr) (items2 : Array Value) (n2 : Nat) (dd2 : Option Addr) (sl2 : Array (Option Value))
    (hs0 : ¬(!items.isEmpty && Builtin.List.listTooLong (items.size + items2.size)) = true) (hs1 : items.size ≤ sizeLine) (hs2 : items.size + items2.size ≤ sizeLine + 1) :
    Meets (Builtin.«list.extend» ⟨[.ref l, .ref b], []⟩) (fun _ R s => s.heap.get? l = some { cls := .type "list", dict := none, data := .seq items n, slots := #[] }
      ∧ s.heap.get? b = some { cls := .type "tuple", dict := dd2, data := .seq items2 n2, slots := sl2 } ∧ R (.ok (.ret Value.none)) { s with heap := s.heap.update l (Obj.mapSeq fun x => x ++ items2), toks := s.toks }) :=
  .of_wp fun prog w A R s h => by
    obtain ⟨hp, g, d, tk, os⟩ := s
    obtain ⟨hl, hb, h⟩ := h
    have f2 := AutoSeq1.sub_tuple_tuple
    have f3 := AutoSeq1.sub_list_list
    have f4 := AutoSeq1.sub_tuple_list
    have f5 := AutoSeq1.sub_list_tuple
    have hz' : (items ++ items2).size ≤ sizeLine + 1 := by
      rw [Array.size_append]
      exact hs2
    wp_walk using (wpAny_updateSeq hl rfl (hz := hs1) (_hz' := hz')), AutoSeq1.wpAny_loadPart' hl, AutoSeq1.wpAny_loadPart' hb
    exact ⟨_, rfl, h⟩
def rExtendT (K : PySem.W.Frag) : V → List V → Hp → VK → Prop := fun x vs H Q => ∃ l b xs zs, x = .ref l ∧ vs = [.ref b] ∧ H l = some (.lst xs) ∧ SqT K H b zs ∧ xs.length + zs.length ≤ sizeLine ∧ Q .non (upd H l (.lst (xs ++ zs)))
theorem mt_extendT : MtM X "list.extend" (rExtendT X.K) := by
  intro pins s σ H x vs v us Q I rx rv h
  obtain ⟨l, b, xs, zs, rfl, rfl, hH, hB, hz, q⟩ := h
  cases rx
  obtain ⟨u, rfl, ru⟩ := rv.one
  cases ru
  obtain ⟨z, its, n, r, hl, e⟩ := I.lstM hH
  obtain ⟨its2, r2, tup, z2⟩ := I.tuple hB
  obtain ⟨⟨cls, dd, data, sl⟩, ho, hc, n2, hd⟩ := tup
  simp only at hc hd
  subst hc hd
  have hl2 := r2.length
  have hsz : its.toArray.size + its2.toArray.size ≤ sizeLine := by
    rw [List.size_toArray, List.size_toArray, ← hl, ← hl2]
    exact hz
  have hlong : ¬ (!its.toArray.isEmpty && Builtin.List.listTooLong (its.toArray.size + its2.toArray.size)) = true := by
    rw [notLongL hsz, Bool.and_false]
    exact Bool.false_ne_true
  refine call_meets F.slot_list_extend ⟨_, e, rfl⟩ F.entry_list_extend (F.args_list_extend_2 _ _)
    (list_extend_tup l its.toArray n b its2.toArray n2 dd sl hlong (by rw [List.size_toArray]; (first | lia | omega)) (by (first | lia | omega))) ⟨e, ho, ?_⟩
  refine ⟨.non, _, I.lset (its' := its ++ its2) hH e (by simp) (r.append r2) ?_, rfl, q⟩
  rw [List.length_append]
  (first | lia | omega)
end
/-! ### text * int -/
end L2
namespace HT
open PySem PyProof.Rows
section
variable {prog : Program} {w : World} {A : Around} {E : Value → Shared → Prop} {s : Shared}
theorem adjust_rev (n : Nat) : Builtin.Slice.sliceAdjust none none (-1) (n : Int) = ((n : Int) - 1, -1) := by
  unfold Builtin.Slice.sliceAdjust
  rfl
theorem places_rev (n : Nat) : Builtin.Slice.slicePlaces ((n : Int) - 1) (-1) (-1) = n := by
  unfold Builtin.Slice.slicePlaces
  have h1 : ¬ ((-1 : Int) > 0) := by (first | lia | omega)
  have h2 : (-(-1 : Int)) = 1 := rfl
  simp only [h1, if_false, h2, Int.ediv_one]
  split <;> (first | lia | omega)
theorem sliceApplied_rev {sl : Addr} {vl vu vs : Value} {n : Nat} {Q : Int × Int × Nat → Shared → Prop} (hs : s.heap.IsSliceOf sl vl vu vs) (pl : IsPart vl none) (pu : IsPart vu none) (ps : IsPart vs (some (-1)))
    (h : Q ((n : Int) - 1, -1, n) s) : wpAny (model prog w) A (Builtin.Slice.sliceApplied (.ref sl) (pure (n : Int))) Q E s := by
  obtain ⟨os, hos, hcs, hds⟩ := id hs
  unfold Builtin.Slice.sliceApplied Builtin.Slice.sliceFields
  refine wpAny_bind (wpAny_bind (wpAny_field hos hds (x := vl) rfl (wpAny_bind (wpAny_field hos hds (x := vu) rfl (wpAny_bind (wpAny_field hos hds (x := vs) rfl (wpAny_pure ?_)))))))
  refine wpAny_bind (slicePart_ ps ?_)
  show wpAny _ _ (if ((-1 : Int) == 0) = true then _ else _) _ _ s
  rw [if_neg (by decide)]
  refine wpAny_bind (slicePart_ pl (wpAny_bind (slicePart_ pu (wpAny_bind (wpAny_pure ?_)))))
  show wpAny _ _ (match Builtin.Slice.sliceAdjust none none (-1) (n : Int) with | (lo, hi) => pure (lo, (-1 : Int), Builtin.Slice.slicePlaces lo hi (-1))) _ _ s
  rw [adjust_rev n]
  show wpAny _ _ (pure ((n : Int) - 1, (-1 : Int), Builtin.Slice.slicePlaces ((n : Int) - 1) (-1) (-1))) _ _ s
  rw [places_rev]
  exact wpAny_pure h
theorem pick_rev {α : Type} (l : List α) : ∀ k : Nat, k ≤ l.length → ((List.range k).filterMap fun (m : Nat) => l.toArray[((l.length : Int) - 1 + (m : Int) * (-1)).toNat]?) = l.reverse.take k
  | 0, _ => by simp
  | k + 1, hk => by
    rw [List.range_succ, List.filterMap_append, pick_rev l k (by (first | lia | omega)), List.take_succ]
    congr 1
    have e : ((l.length : Int) - 1 + (k : Int) * (-1)).toNat = l.length - 1 - k := by (first | lia | omega)
    simp only [List.filterMap_cons, List.filterMap_nil, e, List.getElem?_toArray]
    rw [List.getElem?_reverse (by (first | lia | omega))]
    cases l[l.length - 1 - k]? <;> rfl
theorem getItem_tuple_rev {t sl : Addr} {its : List Value} {vl vu vs : Value} {Q : Value → Shared → Prop} (ht : IsTup s.heap t its.toArray) (hs : s.heap.IsSliceOf sl vl vu vs) (pl : IsPart vl none) (pu : IsPart vu none) (ps : IsPart vs (some (-1)))
    (h : Q (.ref s.heap.objs.size) { s with heap := s.heap.push { cls := .type "tuple", data := .seq its.reverse.toArray } })
    (hsz : its.length ≤ sizeLine) : wpAny (model prog w) A (getItem (.ref t) (.ref sl)) Q E s := by
  have hok : sizeOk (.seq its.reverse.toArray) := by
    show its.reverse.toArray.size ≤ sizeLine
    rw [List.size_toArray, List.length_reverse]
    exact hsz
  obtain ⟨os, hos, hcs, hds⟩ := id hs
  have hTs : s.TypeIs (.ref sl) "slice" := ⟨os, hos, hcs⟩
  unfold getItem
  try with_reducible refine wpAny_holding ?_
  first | refine wpAny_bind (wpAny_pure ?_) | skip
  refine wpAny_bind (wpAny_sequenceKey ht.typeIs (by decide) ?_)
  refine wpAny_bind (wpAny_callSpecial?_slot (name := Str.ofString "__getitem__") ht.typeIs PyProof.Rows.slot_tuple_getitem
    (wpAny_call_entry PyProof.Rows.slot_tuple_getitem ht.typeIs entry_tuple_getitem ?_ (args_tuple_getitem _ _)))
  show wpAny _ _ (Builtin.Tuple.tupleItemsOf (.ref t) >>= _) _ _ s
  refine wpAny_bind (tupleItemsOf_ ht ?_)
  refine wpAny_bind (wpAny_typeOf hTs ?_)
  rw [if_pos (by decide)]
  refine wpAny_bind (sliceApplied_rev (n := its.toArray.size) hs pl pu ps ?_)
  have hno : ¬ (((its.toArray.size : Int) - 1 == 0 && (-1 : Int) == 1 && its.toArray.size == its.toArray.size) = true) := by
    intro q
    rw [Bool.and_eq_true, Bool.and_eq_true] at q
    exact absurd q.1.2 (by decide)
  show wpAny _ _ (if ((its.toArray.size : Int) - 1 == 0 && (-1 : Int) == 1 && its.toArray.size == its.toArray.size) = true then _ else _) _ _ s
  have hp := pick_rev its its.length (Nat.le_refl _)
  rw [List.take_of_length_le (by simp)] at hp
  rw [if_neg hno]
  simp only [List.size_toArray]
  rw [hp]
  first
    | exact wpAny_bind (m := Builtin.Tuple.tupleExact _) (wpAny_newObj_type (wpAny_pure ⟨_, rfl, wpAny_pure h⟩) hok)
    | exact wpAny_bind (m := Builtin.Tuple.tupleExact _) (wpAny_newObj_type (wpAny_bind (wpAny_pure (wpAny_pure ⟨_, rfl, wpAny_pure h⟩))) hok)
    | exact wpAny_bind (wpAny_bind (m := Builtin.Tuple.tupleExact _) (wpAny_newObj_type (wpAny_pure (wpAny_pure ⟨_, rfl, wpAny_pure h⟩)) hok))
    | exact wpAny_bind (wpAny_bind (m := Builtin.Tuple.tupleExact _) (wpAny_newObj_type (wpAny_pure ⟨_, rfl, wpAny_pure h⟩) hok))
/-- t[a:b], the whole: t itself -/
theorem getItem_tuple_whole {t sl : Addr} {items : Array Value} {vl vu : Value} {lo hi : Option Int} {Q : Value → Shared → Prop} (ht : IsTup s.heap t items) (hs : s.heap.IsSliceOf sl vl vu .none) (pl : IsPart vl lo) (pu : IsPart vu hi)
    (h1 : sIx items.size 0 lo = 0) (h2 : sIx items.size items.size hi = items.size) (h : Q (.ref t) s) : wpAny (model prog w) A (getItem (.ref t) (.ref sl)) Q E s := by
  obtain ⟨os, hos, hcs, hds⟩ := id hs
  have hTs : s.TypeIs (.ref sl) "slice" := ⟨os, hos, hcs⟩
  unfold getItem
  try with_reducible refine wpAny_holding ?_
  first | refine wpAny_bind (wpAny_pure ?_) | skip
  refine wpAny_bind (wpAny_sequenceKey ht.typeIs (by decide) ?_)
  refine wpAny_bind (wpAny_callSpecial?_slot (name := Str.ofString "__getitem__") ht.typeIs PyProof.Rows.slot_tuple_getitem
    (wpAny_call_entry PyProof.Rows.slot_tuple_getitem ht.typeIs entry_tuple_getitem ?_ (args_tuple_getitem _ _)))
  show wpAny _ _ (Builtin.Tuple.tupleItemsOf (.ref t) >>= _) _ _ s
  refine wpAny_bind (tupleItemsOf_ ht ?_)
  refine wpAny_bind (wpAny_typeOf hTs ?_)
  rw [if_pos (by decide)]
  refine wpAny_bind (sliceApplied_gen hs pl pu ?_)
  rw [h1, h2]
  have hyes : ((((0 : Nat) : Int) == 0 && (1 : Int) == 1 && (items.size - 0) == items.size) = true) := by simp
  show wpAny _ _ (if (((0 : Nat) : Int) == 0 && (1 : Int) == 1 && (items.size - 0) == items.size) = true then _ else _) _ _ s
  rw [if_pos hyes]
  refine wpAny_bind (m := Builtin.Tuple.tupleIsExact (.ref t)) ?_
  unfold Builtin.Tuple.tupleIsExact
  refine wpAny_bind (wpAny_typeOf ht.typeIs (wpAny_pure ?_))
  show wpAny _ _ (if ((Value.type "tuple") == .type "tuple") = true then _ else _) _ _ s
  rw [if_pos (by decide)]
  refine wpAny_bind (wpAny_rule ?_)
  first
    | exact wpAny_pure ⟨_, rfl, wpAny_pure h⟩
    | exact wpAny_bind (wpAny_pure (wpAny_pure ⟨_, rfl, wpAny_pure h⟩))
end
end HT

namespace L2
open PySem PySem.Spec PyProof.Rows
/-! ### == and != of data at any depth -/
mutual
inductive Dp (K : PySem.W.Frag) (H : Hp) : V → PyData → Prop
  | non : Dp K H .non .none
  | bl (b : Bool) : Dp K H (.bl b) (.bool b)
  | int (i : Int) : Dp K H (.int i) (.int i)
  | str (x : Str) : Dp K H (.str x) (.str x)
  | lst {a : Addr} {xs : List V} {ds : List PyData} : SqL K H a xs → DpAll K H xs ds → Dp K H (.ref a) (.list ds)
  | tup {a : Addr} {xs : List V} {ds : List PyData} : SqT K H a xs → DpAll K H xs ds → Dp K H (.ref a) (.tuple ds)
inductive DpAll (K : PySem.W.Frag) (H : Hp) : List V → List PyData → Prop
  | nil : DpAll K H [] []
  | cons {v : V} {vs : List V} {d : PyData} {ds : List PyData} : Dp K H v d → DpAll K H vs ds → DpAll K H (v :: vs) (d :: ds)
end
section
variable {X : Cx} {pins : List (Addr × Obj)} {σ : St} {H : Hp} {s : Shared}
mutual
theorem Dp.reads (I : Inv X pins σ H s) : ∀ {v : V} {d : PyData} {u : Value}, Dp X.K H v d → RelV v u → ∃ as, Reads s.heap u d as
  | _, _, u, .non, r => by
    obtain rfl : u = Value.none := r
    exact ⟨_, .none⟩
  | _, _, u, .bl b, r => by
    obtain rfl : u = Value.bool b := r
    exact ⟨_, .bool b⟩
  | _, _, _, .int i, ⟨t, e⟩ => by
    subst e
    exact ⟨_, .int i t⟩
  | _, _, _, .str x, ⟨t, e⟩ => by
    subst e
    exact ⟨_, .str x t⟩
  | _, _, u, @Dp.lst _ _ a xs ds hq hall, r => by
    obtain rfl : u = Value.ref a := r
    obtain ⟨its, rv, ⟨o, n, e, hc, _, hd⟩, _⟩ := I.list hq
    obtain ⟨as, ha⟩ := DpAll.reads I hall rv
    exact ⟨_, .list e hc hd (by simpa using ha)⟩
  | _, _, u, @Dp.tup _ _ a xs ds hq hall, r => by
    obtain rfl : u = Value.ref a := r
    obtain ⟨its, rv, ⟨o, e, hc, n, hd⟩, _⟩ := I.tuple hq
    obtain ⟨as, ha⟩ := DpAll.reads I hall rv
    exact ⟨_, .tuple e hc hd (by simpa using ha)⟩
theorem DpAll.reads (I : Inv X pins σ H s) : ∀ {vs : List V} {ds : List PyData} {us : List Value}, DpAll X.K H vs ds → Vals vs us → ∃ as, ReadsAll s.heap us ds as
  | _, _, _, .nil, .nil => ⟨_, .nil⟩
  | _, _, _, .cons h t, .cons r rs => by
    obtain ⟨as, ha⟩ := Dp.reads I h r
    obtain ⟨bs, hb⟩ := DpAll.reads I t rs
    exact ⟨_, .cons ha hb⟩
end
end
section
variable {X : Cx}
def rEqD (K : PySem.W.Frag) (neg : Bool) : R2 := fun x y H Q => ∃ d e, Dp K H x d ∧ Dp K H y e ∧ d.canLay0 = true ∧ e.canLay0 = true ∧ min d.depth e.depth ≤ 200 ∧ Q (.bl (if neg then !PyData.eqv d e else PyData.eqv d e)) H
theorem op_eqD (hu : X.A.units + 200 < cLine) : OpR X (compareOp .Eq) (rEqD X.K false) := by
  intro pins s σ H x y v u Q I rx ry h
  obtain ⟨d, e, hx, hy, h1, h2, hd, q⟩ := h
  obtain ⟨as, ra⟩ := hx.reads I rx
  obtain ⟨bs, rb⟩ := hy.reads I ry
  exact PySem.SeqAt.compareEq_reads ra rb h1 h2 (by (first | lia | omega)) ⟨.bl _, H, I, rfl, q⟩
theorem op_neD (hu : X.A.units + 200 < cLine) : OpR X (compareOp .NotEq) (rEqD X.K true) := by
  intro pins s σ H x y v u Q I rx ry h
  obtain ⟨d, e, hx, hy, h1, h2, hd, q⟩ := h
  obtain ⟨as, ra⟩ := hx.reads I rx
  obtain ⟨bs, rb⟩ := hy.reads I ry
  exact PySem.SeqAt.compareNe_reads ra rb h1 h2 (by (first | lia | omega)) ⟨.bl _, H, I, rfl, q⟩
theorem hu_room {A : Around} {k : Nat} (hr : Room k A) : A.units + 200 < cLine := by
  have := hr.un
  (first | lia | omega)
end
/-! ### t[::-1], slices of tuples whole or not -/
section
variable {X : Cx} {e : Expr} {te : TE} {pos p2 p3 p4 : Pos} {j : Nat}
def rRevT (K : PySem.W.Frag) : V → Hp → VK → Prop := fun x H Q => ∃ a xs, x = .ref a ∧ SqT K H a xs ∧ ∀ p, H p = none → Q (.ref p) (upd H p (.tup xs.reverse))
theorem pe_revT (he : PE X e te) : PE X (.Subscript e (.Slice none none (some (.UnaryOp .USub (.Constant (.int 1) j p4) p3)) p2) pos) (tUn (rRevT X.K) te) := by
  intro pins s σ H Q I h
  refine Subscript_ (thn (he pins s σ H _ I h) fun v s1 ⟨x, H1, I1, r1, q1⟩ => ?_)
  obtain ⟨a, xs, rfl, hx, q⟩ := q1
  cases r1
  refine wpAny_Slice (thn (po_none pins s1 σ H1 (fun o H' => o = none ∧ H' = H1) I1 ⟨rfl, rfl⟩) fun vl s2 ⟨l, H2, I2, pl, el, eh⟩ => ?_)
  subst el eh
  refine thn (po_none pins s2 σ H2 (fun o H' => o = none ∧ H' = H2) I2 ⟨rfl, rfl⟩) fun vu s3 ⟨u, H3, I3, pu, el, eh⟩ => ?_
  subst el eh
  refine thn (po_some (pe_un un_neg pe_int) pins s3 σ H3 (fun o H' => o = some (-1) ∧ H' = H3) I3 ⟨1, rfl, -1, rfl, rfl, rfl⟩) fun vt s4 ⟨o, H4, I4, pt, el, eh⟩ => ?_
  subst el eh
  have I5 : Inv X pins σ H4 { s4 with heap := s4.heap.push { cls := .type "slice", data := .fields #[vl, vu, vt] } } := I4.kept (t' := s4.toks) fun b ob q => Heap.get?_push_of_some _ q
  obtain ⟨its, r, ht, hz⟩ := I5.tuple hx
  have hlen := r.length
  show wpAny (model X.prog X.w) X.A (subscriptTail e (.Slice none none (some (.UnaryOp .USub (.Constant (.int 1) j p4) p3)) p2) (.ref a) (.ref s4.heap.objs.size)) (EP X pins σ Q) X.xe { s4 with heap := s4.heap.push { cls := .type "slice", data := .fields #[vl, vu, vt] } }
  refine tail_any (ops := [.ref a, .ref s4.heap.objs.size]) ht.typeIs PyProof.Rows.slot_tuple_getitem.lookup (HT.getItem_tuple_rev ht (Heap.IsSliceOf.new ..) pl pu pt ?_ (by (first | lia | omega))) (by with_unfolding_all rfl)
  refine ⟨.ref _, _, I5.laid (t' := s4.toks) (o := .tup xs.reverse) (fun b ob q => Heap.get?_push_of_some _ q) (Nat.le_refl _) ?_, rfl, q _ (I5.hok.fresh (Nat.le_refl _))⟩
  exact ⟨by rw [List.length_reverse]; exact hz, _, r.reverse, IsTup.new _ _⟩
def rSlTW (K : PySem.W.Frag) : V → Option Int → Option Int → Hp → VK → Prop := fun x lo hi H Q => ∃ a xs, x = .ref a ∧ SqT K H a xs ∧
  ((HT.sIx xs.length 0 lo = 0 ∧ HT.sIx xs.length xs.length hi = xs.length) → Q (.ref a) H) ∧ ∀ p, H p = none → Q (.ref p) (upd H p (.tup (cutV xs lo hi)))
theorem sl_tupW : SlR X (rSlTW X.K) := by
  intro pins s σ H x v vl vu lo hi sl Q I rx hs pl pu h
  obtain ⟨a, xs, rfl, hx, q1, q2⟩ := h
  by_cases c : HT.sIx xs.length 0 lo = 0 ∧ HT.sIx xs.length xs.length hi = xs.length
  · cases rx
    obtain ⟨its, r, ht, hz⟩ := I.tuple hx
    have hlen : its.toArray.size = xs.length := by rw [List.size_toArray]; exact r.length.symm
    refine ⟨"tuple", _, PyProof.Rows.slot_tuple_getitem.lookup, ht.typeIs, ?_⟩
    exact HT.getItem_tuple_whole ht hs pl pu (by rw [hlen]; exact c.1) (by rw [hlen]; exact c.2) ⟨.ref a, H, I, rfl, q1 c⟩
  · exact sl_tup pins s σ H (.ref a) v vl vu lo hi sl Q I rx hs pl pu ⟨a, xs, rfl, hx, c, q2⟩
end
/-! ### heaps: tuples are kept -/
/-- what is no list that may change: the tuples stay -/
def TK (H H' : Hp) : Prop := ∀ b xs, H b = some (.tup xs) → H' b = some (.tup xs)
theorem TK.trans {H H1 H2 : Hp} (a : TK H H1) (b : TK H1 H2) : TK H H2 := fun c xs h => b c xs (a c xs h)
theorem TK.new {H : Hp} {p : Addr} {o : HO} (h : H p = none) : TK H (upd H p o) := fun b xs q => by
  rw [upd_ne (ne_of_none q h)]
  exact q
theorem TK.lst {H : Hp} {p : Addr} {xs : List V} {o : HO} (h : H p = some (.lst xs)) : TK H (upd H p o) := fun b ys q => by
  by_cases e : b = p
  · subst e
    rw [h] at q
    cases q
  · rw [upd_ne e]
    exact q
theorem Same.tk {H H' : Hp} (h : Same H H') : TK H H' := fun b xs q => h b _ q
theorem Same.new {H : Hp} {p : Addr} {o : HO} (h : H p = none) : Same H (upd H p o) := fun b u q => by
  rw [upd_ne (ne_of_none q h)]
  exact q
theorem Same.upd_new {H H' : Hp} {p : Addr} {o : HO} (h : Same H H') (hp : H p = none) : Same H (upd H' p o) := fun b u q => by
  rw [upd_ne (ne_of_none q hp)]
  exact h b u q
end L2
namespace L2
open PySem PySem.Spec PyProof.Rows
theorem Same.seqT {K : PySem.W.Frag} {H H' : Hp} {a : Addr} {xs : List V} (e : Same H H') (h : SqT K H a xs) : SqT K H' a xs := by
  rcases h with (h | ⟨o, h⟩) | h
  · exact .inl (.inl (e _ _ h))
  · exact .inl (.inr ⟨o, e _ _ h⟩)
  · exact .inr h
theorem upd_none {H : Hp} {p b : Addr} {o : HO} (h : upd H p o b = none) : b ≠ p ∧ H b = none := by
  by_cases e : b = p
  · subst e
    rw [upd_same] at h
    cases h
  · rw [upd_ne e] at h
    exact ⟨e, h⟩
end L2
namespace L2
open PySem PySem.Spec PyProof.Rows
end L2
namespace L2
open PySem PySem.Spec PyProof.Rows
section
variable {X : Cx}
/-- t[lo:hi] of a tuple that is tracked, whole or not -/
def rSlTU : V → Option Int → Option Int → Hp → VK → Prop := fun x lo hi H Q => ∃ a xs, x = .ref a ∧ H a = some (.tup xs) ∧ ∀ p H', Same H H' → H' p = some (.tup (cutV xs lo hi)) → Q (.ref p) H'
theorem sl_tupU : SlR X rSlTU := by
  intro pins s σ H x v vl vu lo hi sl Q I rx hs pl pu h
  obtain ⟨a, xs, rfl, hx, q⟩ := h
  refine sl_tupW pins s σ H (.ref a) v vl vu lo hi sl Q I rx hs pl pu ⟨a, xs, rfl, SqT.of hx, fun c => q a H (Same.refl H) ?_, fun p hp => q p _ (Same.new hp) upd_same⟩
  rw [hx]
  unfold cutV
  rw [c.1, c.2, List.drop_zero, Nat.sub_zero, List.take_length]
end
end L2
namespace L2
end L2

namespace L2
open PySem PySem.Spec PyProof.Rows
section
variable {X : Cx}
/-- a tuple is no text -/
theorem op_eq_tupstr (hu : X.A.units + 200 < cLine) : OpR X (compareOp .Eq) (fun x y H Q => ∃ a xs z, x = .ref a ∧ y = .str z ∧ SqT X.K H a xs ∧ Q (.bl false) H) := by
  intro pins s σ H x y v u Q I rx ry h
  obtain ⟨a, xs, z, rfl, rfl, hx, q⟩ := h
  cases rx
  obtain ⟨t, rfl⟩ := ry
  obtain ⟨its, r, ⟨o, e, hc, n, hd⟩, _⟩ := I.tuple hx
  exact PySem.SeqAt.RcAt.tuple_str z t ⟨o, e, hc, n, hd⟩ (by (first | lia | omega)) X.prog X.w X.xe _ ⟨.bl false, H, I, rfl, q⟩
theorem op_eqTS (hu : X.A.units + 200 < cLine) : OpR X (compareOp .Eq) (fun x y H Q => (∃ a xs z, x = .ref a ∧ y = .str z ∧ SqT X.K H a xs ∧ Q (.bl false) H) ∨ rEq x y H Q) := (op_eq_tupstr hu).or op_eq
end
theorem Paired.app {α β : Type} {F : α → β → Prop} : ∀ {l₁ k₁ : List α} {l₂ k₂ : List β}, Paired F l₁ l₂ → Paired F k₁ k₂ → Paired F (l₁ ++ k₁) (l₂ ++ k₂)
  | _, _, _, _, .nil, s => s
  | _, _, _, _, .cons r t, s => .cons r (Paired.app t s)
theorem Paired.unsnoc {α β : Type} {F : α → β → Prop} : ∀ {l : List α} {a : α} {l₂ : List β}, Paired F (l ++ [a]) l₂ → ∃ k b, l₂ = k ++ [b] ∧ Paired F l k ∧ F a b
  | [], _, _, .cons r .nil => ⟨[], _, rfl, .nil, r⟩
  | x :: l, a, _, .cons r t => by
    obtain ⟨k, b, e, p, f⟩ := Paired.unsnoc (l := l) t
    exact ⟨_ :: k, b, by rw [e]; rfl, .cons r p, f⟩
theorem snoc_of {α : Type} {l : List α} (h : l ≠ []) : ∃ k a, l = k ++ [a] := ⟨l.dropLast, l.getLast h, (List.dropLast_concat_getLast h).symm⟩
theorem snoc_last {α : Type} (l : List α) (a : α) : (l ++ [a])[(l ++ [a]).length - 1]? = some a := by
  simp
theorem snoc_drop {α : Type} (l : List α) (a : α) : (l ++ [a]).dropLast = l := by
  simp
end L2
namespace Fg
open PySem L2 FgM
abbrev SL : Str := "/"
/-- the tuples bear a grove -/
inductive RepG (H : Hp) : List V → Gr Str → Prop
  | nil : RepG H [] .nil
  | cons {p q : Addr} {t : Str} {ys vs : List V} {w o : Gr Str} : H p = some (.tup [.str t, .ref q]) → H q = some (.tup ys) → RepG H ys w → RepG H vs o → RepG H (.ref p :: vs) (.cons t w o)
theorem RepG.mono {H H' : Hp} (k : TK H H') : ∀ {vs : List V} {g : Gr Str}, RepG H vs g → RepG H' vs g
  | _, _, .nil => .nil
  | _, _, .cons h1 h2 h3 h4 => .cons (k _ _ h1) (k _ _ h2) (h3.mono k) (h4.mono k)
theorem RepG.snoc {H : Hp} {p q : Addr} {t : Str} {ys : List V} {w : Gr Str} (h1 : H p = some (.tup [.str t, .ref q])) (h2 : H q = some (.tup ys)) (h3 : RepG H ys w) :
    ∀ {vs : List V} {g : Gr Str}, RepG H vs g → RepG H (vs ++ [.ref p]) (snoc g t w)
  | _, _, .nil => .cons h1 h2 h3 .nil
  | _, _, .cons a b c d => .cons a b c (RepG.snoc h1 h2 h3 d)
theorem RepG.length {H : Hp} : ∀ {vs : List V} {g : Gr Str}, RepG H vs g → vs.length ≤ (words SL g).length
  | _, _, .nil => Nat.le_refl _
  | _, _, .cons _ _ _ d => by
    have := d.length
    simp only [List.length_cons, words, List.length_append]
    (first | lia | omega)
/-- an item of the stack -/
def RepI (H : Hp) (v : V) : Item Str → Prop
  | none => v = .str SL
  | some (t, w) => ∃ p q ys, v = .ref p ∧ H p = some (.tup [.str t, .ref q]) ∧ H q = some (.tup ys) ∧ RepG H ys w
theorem RepI.mono {H H' : Hp} (k : TK H H') {v : V} : ∀ {x : Item Str}, RepI H v x → RepI H' v x
  | none, h => h
  | some _, ⟨p, q, ys, e, a, b, c⟩ => ⟨p, q, ys, e, k _ _ a, k _ _ b, c.mono k⟩
theorem RepG.items {H : Hp} : ∀ {vs : List V} {g : Gr Str}, RepG H vs g → Paired (RepI H) vs (items g)
  | _, _, .nil => .nil
  | _, _, .cons a b c d => .cons ⟨_, _, _, rfl, a, b, c⟩ d.items
theorem paired_rev {α β : Type} {F : α → β → Prop} : ∀ {l₁ : List α} {l₂ : List β}, Paired F l₁ l₂ → Paired F l₁.reverse l₂.reverse
  | _, _, .nil => .nil
  | _, _, .cons r t => by
    rw [List.reverse_cons, List.reverse_cons]
    exact Paired.app (paired_rev t) (.cons r .nil)
theorem stk_mono {H H' : Hp} (k : TK H H') {vs : List V} {st : List (Item Str)} (h : Paired (RepI H) vs st) : Paired (RepI H') vs st := Paired.mapP h fun _ _ r => r.mono k
/-- rows under way, the innermost first -/
abbrev RowsR (H : Hp) : List Addr → List (Gr Str) → Prop := Paired fun a g => ∃ vs, H a = some (.lst vs) ∧ RepG H vs g
theorem rows_mono {H H' : Hp} (k : TK H H') : ∀ {as : List Addr} {gs : List (Gr Str)}, RowsR H as gs → (∀ b ∈ as, ∀ o, H b = some o → H' b = some o) → RowsR H' as gs
  | _, _, .nil, _ => .nil
  | _, _, .cons ⟨vs, h1, h2⟩ t, hk => .cons ⟨vs, hk _ (List.mem_cons_self ..) _ h1, h2.mono k⟩ (rows_mono k t fun b hb => hk b (List.mem_cons_of_mem _ hb))
theorem rows_there {H : Hp} : ∀ {as : List Addr} {gs : List (Gr Str)}, RowsR H as gs → ∀ b ∈ as, ∃ o, H b = some o
  | _, _, .nil, _, hb => nomatch hb
  | _, _, .cons ⟨vs, h1, _⟩ t, b, hb => by
    rcases List.mem_cons.mp hb with rfl | hb
    · exact ⟨_, h1⟩
    · exact rows_there t b hb
/-- small letters, one or more -/
def Lets (t : Str) : Prop := t.cps.toList ≠ [] ∧ ∀ c ∈ t.cps.toList, 97 ≤ c ∧ c ≤ 122
def Let0 (t : Str) : Prop := ∀ c ∈ t.cps.toList, 97 ≤ c ∧ c ≤ 122
theorem app_cps (x y : Str) : (x ++ y).cps.toList = x.cps.toList ++ y.cps.toList := by
  show (x.cps ++ y.cps).toList = _
  simp
theorem let0_app {x y : Str} (hx : Let0 x) (hy : Let0 y) : Let0 (x ++ y) := fun c hc => by
  rw [app_cps] at hc
  exact (List.mem_append.mp hc).elim (hx c) (hy c)
theorem Lets.let0 {t : Str} (h : Lets t) : Let0 t := h.2
theorem Let0.ok {t : Str} (h : Let0 t) : PyData.strOk t = true := by
  unfold PyData.strOk
  rw [Array.all_eq_true_iff_forall_mem]
  intro c hc
  have := h c (by simpa using hc)
  exact decide_eq_true (by (first | lia | omega))
theorem sl_ok : PyData.strOk SL = true := by decide +kernel
def ABC : Str := "abcdefghijklmnopqrstuvwxyz"
theorem abc_all : ∀ n : _root_.Fin 26, 97 ≤ ABC.cps.toList.getD n.val 0 ∧ ABC.cps.toList.getD n.val 0 ≤ 122 ∧ n.val < ABC.cps.toList.length := by decide
theorem abc_at {i : Int} (h0 : 0 ≤ i) (h1 : i < 26) : ∃ c, atI ABC.cps.toList i = some c ∧ 97 ≤ c ∧ c ≤ 122 := by
  obtain ⟨n, rfl⟩ := Int.eq_ofNat_of_zero_le h0
  obtain ⟨a, b, c⟩ := abc_all ⟨n, by (first | lia | omega)⟩
  refine ⟨_, atI_nat (List.getElem?_eq_getElem c), ?_, ?_⟩
  · rw [List.getD_eq_getElem?_getD, List.getElem?_eq_getElem c] at a
    exact a
  · rw [List.getD_eq_getElem?_getD, List.getElem?_eq_getElem c] at b
    exact b
theorem ints_at {ns : List Int} {k : Int} (h0 : 0 ≤ k) (h : k < (ns.length : Int)) : ∃ v : Int, atI (ns.map V.int) k = some (.int v) := by
  obtain ⟨n, rfl⟩ := Int.eq_ofNat_of_zero_le h0
  have hn : n < ns.length := by (first | lia | omega)
  exact ⟨ns[n], atI_nat (by rw [List.getElem?_map, List.getElem?_eq_getElem hn]; rfl)⟩
theorem strs_at {ws : List Str} {n : Nat} (h : n < ws.length) : atI (ws.map V.str) ((n : Nat) : Int) = some (.str ws[n]) := atI_nat (by rw [List.getElem?_map, List.getElem?_eq_getElem h]; rfl)
end Fg

namespace Fg
open PySem L2 FgM
/-! ### what the laws' own helpers promise -/
/-- script[k], or 0: some int -/
def spCell (K : PySem.W.Frag) : Sp := fun vs H Q _ => ∃ (a : Addr) (ns : List Int) (k : Int), vs = [.ref a, .int k] ∧ SqL K H a (ns.map V.int) ∧ ns.length ≤ 63 ∧ 0 ≤ k ∧ ∀ v : Int, Q (.int v) H
/-- the words of a grove -/
def spWords (K : PySem.W.Frag) : Sp := fun vs H Q _ => ∃ (a : Addr) (xs : List V) (g : Gr Str), vs = [.ref a] ∧ SqT K H a xs ∧ RepG H xs g ∧ (words SL g).length ≤ 1000 ∧
  ∀ (r : Addr) (H' : Hp), Same H H' → H r = none → H' r = some (.lst ((words SL g).map V.str)) → Q (.ref r) H'
def spLaw (K : PySem.W.Frag) : Sp := fun vs H Q _ => ∃ (a : Addr) (ns : List Int), vs = [.ref a] ∧ SqL K H a (ns.map V.int) ∧ ns.length ≤ 63 ∧ ∀ H', Q (.bl true) H'
theorem len1000 {n : Nat} (h : n ≤ 100000) : n ≤ sizeLine := Nat.le_trans h (by decide)
theorem len1000' {n : Nat} (h : n ≤ 100000) : n < sizeLine := Nat.lt_of_le_of_lt h (by decide)
end Fg
namespace Fg
open PySem L2 FgM
theorem app_len (x y : Str) : (x ++ y).length = x.length + y.length := by
  show (x.cps ++ y.cps).size = _
  rw [Array.size_append]
  rfl
end Fg
namespace Fg
open PySem L2 FgM
theorem max_pos (j : Int) : (0 : Int) < if j > 1 then j else 1 := by
  split
  · rename_i h
    exact Int.lt_trans (by decide) h
  · decide
end Fg
namespace Fg
open PySem L2 FgM
theorem cut_from (xs : List V) (n : Nat) : cutV xs (some (n : Int)) none = xs.drop n := by
  unfold cutV
  rw [HT.sIx_nat, HT.sIx_none]
  rw [List.take_of_length_le (by rw [List.length_drop]; exact Nat.le_refl _)]
  by_cases h : n ≤ xs.length
  · rw [Nat.min_eq_left h]
  · rw [Nat.min_eq_right (by (first | lia | omega)), List.drop_length, List.drop_eq_nil_of_le (by (first | lia | omega))]
end Fg
namespace Fg
open PySem L2 FgM
def spSize (K : PySem.W.Frag) : Sp := fun vs H Q _ => ∃ (a : Addr) (xs : List V) (g : Gr Str), vs = [.ref a] ∧ SqT K H a xs ∧ RepG H xs g ∧ Clean SL g ∧ (words SL g).length ≤ 1000 ∧ ∀ H', Same H H' → Q (.int (tagsN SL (words SL g) : Nat)) H'
theorem cut_upto (xs : List V) (n : Nat) : cutV xs none (some (n : Int)) = xs.take n := by
  unfold cutV
  rw [HT.sIx_nat, HT.sIx_none, List.drop_zero, Nat.sub_zero]
  by_cases h : n ≤ xs.length
  · rw [Nat.min_eq_left h]
  · rw [Nat.min_eq_right (by (first | lia | omega)), List.take_length, List.take_of_length_le (by (first | lia | omega))]
end Fg

namespace L2
open PySem PySem.Spec PyProof.Rows
section
variable {X : Cx}
/-- xs != [] -/
theorem op_ne_nil (hu : X.A.units + 200 < cLine) : OpR X (compareOp .NotEq) (fun x y H Q => ∃ a b xs, x = .ref a ∧ y = .ref b ∧ SqL X.K H a xs ∧ SqL X.K H b [] ∧ Q (.bl (!xs.isEmpty)) H) := by
  intro pins s σ H x y v u Q I rx ry h
  obtain ⟨a, b, xs, rfl, rfl, ha, hb, q⟩ := h
  cases xs with
  | nil => exact op_neD hu pins s σ H _ _ v u Q I rx ry ⟨.list [], .list [], .lst ha .nil, .lst hb .nil, rfl, rfl, by decide, q⟩
  | cons x xs =>
    cases rx
    cases ry
    obtain ⟨its, r, pl, _⟩ := I.list ha
    obtain ⟨its2, r2, pl2, _⟩ := I.list hb
    have l1 := r.length
    have l2 := r2.length
    refine PySem.SeqAt.RcNeAt.lists_lengths pl.isList pl2.isList ?_ (by (first | lia | omega)) X.prog X.w X.xe _ ⟨.bl _, H, I, rfl, q⟩
    rw [List.size_toArray, List.size_toArray, ← l1, ← l2]
    rfl
/-- xs == [] -/
theorem op_eq_nil (hu : X.A.units + 200 < cLine) : OpR X (compareOp .Eq) (fun x y H Q => ∃ a b xs, x = .ref a ∧ y = .ref b ∧ SqL X.K H a xs ∧ SqL X.K H b [] ∧ Q (.bl xs.isEmpty) H) := by
  intro pins s σ H x y v u Q I rx ry h
  obtain ⟨a, b, xs, rfl, rfl, ha, hb, q⟩ := h
  cases xs with
  | nil => exact op_eqD hu pins s σ H _ _ v u Q I rx ry ⟨.list [], .list [], .lst ha .nil, .lst hb .nil, rfl, rfl, by decide, q⟩
  | cons x xs =>
    cases rx
    cases ry
    obtain ⟨its, r, pl, _⟩ := I.list ha
    obtain ⟨its2, r2, pl2, _⟩ := I.list hb
    have l1 := r.length
    have l2 := r2.length
    refine PySem.SeqAt.RcAt.lists_lengths pl.isList pl2.isList ?_ (by (first | lia | omega)) X.prog X.w X.xe _ ⟨.bl _, H, I, rfl, q⟩
    rw [List.size_toArray, List.size_toArray, ← l1, ← l2]
    rfl
end
end L2
namespace Fg
open PySem L2 FgM
/-! ### groves as texts -/
/-! ### what the laws want of texts -/
end Fg

/-! Texts: their signs walked, cut and compared; all(..) of truths; the comprehension of a tag's test. -/
namespace L2
open PySem PySem.Spec PyProof.Rows
section
variable {P : Program} {w : World} {H : Hp} {h h' : Heap} {a : Addr} {o : HO}
theorem ObjOk.there (x : ObjOk P w H h a o) : ∃ ob, h.get? a = some ob := by
  cases o with
  | lst xs => obtain ⟨_, _, _, _, e⟩ := x; exact ⟨_, e⟩
  | tup xs => obtain ⟨_, _, _, ob, e, _⟩ := x; exact ⟨_, e⟩
  | dK kvs => obtain ⟨_, _, _, _, ob, _, _, e, _⟩ := x; exact ⟨_, e⟩
  | dT kvs => obtain ⟨_, _, _, _, ob, _, _, e, _⟩ := x; exact ⟨_, e⟩
  | set S n => obtain ⟨ob, _, _, _, e, _⟩ := x; exact ⟨_, e⟩
  | ins C dx fs => obtain ⟨_, _, _, e, _⟩ := x; exact ⟨_, e⟩
  | own y => obtain ⟨_, e⟩ := x; exact ⟨_, e⟩
  | xd fs => obtain ⟨_, ⟨_, _, _, e, _⟩, _⟩ := x; exact ⟨_, e⟩
  | rng lo hi => obtain ⟨_, _, _, e⟩ := x; exact ⟨_, e⟩
  | frz ob u => obtain ⟨e, _⟩ := x; exact ⟨_, e⟩
  | tbl ps => exact ⟨_, (show h.get? a = some _ from x)⟩
  | met f y => exact ⟨_, (show h.get? a = some _ from x)⟩
  | ext φ => obtain ⟨_, ⟨_, e⟩, _⟩ := x; exact ⟨_, e⟩
theorem HOk.freshN (x : HOk P w H h) (e : h.get? a = none) : H a = none := by
  cases q : H a with
  | none => rfl
  | some u =>
    obtain ⟨ob, e'⟩ := (x a u q).there
    rw [e] at e'
    cases e'
end
section
variable {X : Cx} {pins : List (Addr × Obj)} {σ : St} {H : Hp} {s : Shared} {h' : Heap}
/-- a new object laid at an address where none stood -/
theorem Inv.laidN {a : Addr} {o : HO} {t' : Nat} (I : Inv X pins σ H s) (k : ∀ b u, s.heap.get? b = some u → h'.get? b = some u) (hp : s.heap.get? a = none) (new : ObjOk X.prog X.w (upd H a o) h' a o) :
    Inv X pins σ (upd H a o) { s with heap := h', toks := t' } := by
  have hn := I.hok.freshN hp
  have ne : ∀ b u, s.heap.get? b = some u → b ≠ a := fun b u e z => by
    rw [z, hp] at e
    cases e
  refine I.un ⟨fun b u q _ _ _ => k b u q, fun b u q _ _ _ => ⟨u.slots, k b u q⟩, fun b u q n _ => by rw [upd_ne (ne b u q)]; exact n, fun b u q _ => ⟨u, k b u q⟩,
    fun b xs q => by rw [upd_ne (ne_of_none q hn)]; exact q, fun b u xs q => by rw [upd_ne (ne_of_none q hn)]; exact q, fun b ps q => ⟨#[], by rw [upd_ne (ne_of_none q hn), q]; simp⟩⟩ fun b u e => ?_
  by_cases hb : b = a
  · subst hb
    rw [upd_same] at e
    cases e
    exact new
  · rw [upd_ne hb] at e
    exact (I.hok b u e).stay (fun c v _ q => k c v q) (fun c q => by rw [upd_ne (ne_of_none q hn)]; exact q) fun c xs q => by rw [upd_ne (ne_of_none q hn)]; exact q
end
/-! ### for x in text -/
def Its (z : Str) : It := ⟨fun i _ => i < z.cps.size, fun i H x H' => H' = H ∧ ∃ c, z.cps[i]? = some c ∧ x = .str ⟨#[c]⟩, fun i _ => z.cps.size ≤ i⟩
def Asc (z : Str) : Prop := z.cps.all (· < 128) = true
theorem turn_str {P : Program} {w : World} {K : PySem.W.Frag} {tg : Expr} (z : Str) (t : Tok) (it : Addr) : Turn P w K tg (Its z) [it] it (fun i h => h.IsStrIter it "str_ascii_iterator" z t i) where
  mem := by simp
  obj := fun i h st b hb => by
    have e : b = it := by simpa using hb
    subst e
    obtain ⟨o, e, c, d⟩ := st
    exact ⟨o, e, fun v y => by rw [d] at y; cases y⟩
  keep := fun i h h' st k => by
    obtain ⟨o, e, r⟩ := st
    exact ⟨o, k it (by simp) o e, r⟩
  item := by
    intro X hP hw hK hc i pins s σ H E I hf st hg
    subst hP hw hK
    have hg' : i < z.cps.size := hg
    obtain ⟨f0, f1, f2, f3, f4, f5⟩ := hf it (by simp)
    have hx : z.cps[i]? = some z.cps[i] := Array.getElem?_eq_getElem hg'
    refine wpAny_pyNext_ascii_item st hx fun h' st' sb => ?_
    have I1 : Inv X pins σ H { s with heap := h', toks := s.toks + 1 } := I.turned (t' := s.toks + 1) (fun b o hb e => (sb.2 b hb).trans e) f0 f1 f3 f4 f5
    obtain ⟨o, e, c, d⟩ := id st'
    exact ⟨_, rfl, go_of (s := { s with heap := h', toks := s.toks + 1 }) e c d (by decide) ⟨.str _, H, I1, ⟨_, rfl⟩, ⟨rfl, _, hx, rfl⟩, st', fun b hb => (hf b hb).1⟩⟩
  done := by
    intro X hP hw hK hc i pins s σ H E I hf st hg
    subst hP hw hK
    have hg' : z.cps.size ≤ i := hg
    obtain ⟨f0, f1, f2, f3, f4, f5⟩ := hf it (by simp)
    exact wpAny_pyNext_ascii_end (I.ok.hd hc) st (Array.getElem?_eq_none hg') fun h' eb => ⟨rfl, I.turned (t' := s.toks) (fun b o hb e => eb b o hb e) f0 f1 f3 f4 f5⟩
  self := fun _ _ _ _ _ st h => wpAny_pyIter_striter_ascii st h
section
variable {X : Cx} {tg : Expr}
def iStr (tl : TE) : TI := fun σ H R => tl σ H fun x H1 => ∃ z, x = .str z ∧ Asc z ∧ R (Its z) H1
theorem pi_str {l : Expr} {tl : TE} (hl : PE X l tl) : PI X tg l (iStr tl) := by
  intro pins s σ H R I h
  refine thn (hl pins s σ H _ I h) fun v s1 ⟨x, H1, I1, r1, q1⟩ => ?_
  obtain ⟨z, e, ha, q⟩ := q1
  subst e
  obtain ⟨t, rfl⟩ := r1
  refine wpAny_pyIter_ascii ha ⟨s1.heap.objs.size, [s1.heap.objs.size], _, _, H1, rfl, I1.kept (t' := s1.toks) fun b o e => Heap.get?_push_of_some _ e, turn_str z t _, ⟨_, Heap.get?_push_size _ rfl, rfl, rfl⟩, fun b hb => ?_, q⟩
  have e : b = s1.heap.objs.size := by simpa using hb
  subst e
  exact I1.fpOk (Nat.le_refl _) (I1.hok.fresh (Nat.le_refl _))
end
theorem for_str {z : Str} {g : TG} {tb : TS} {D : Ends} {σ : St} {H : Hp} (Pv : Nat → St → Hp → Prop) (h0 : Pv 0 σ H)
    (hs : ∀ i c σ H, z.cps.toList[i]? = some c → Pv i σ H → g (.str ⟨#[c]⟩) σ H fun σ2 H2 => tb { D with nx := Pv (i + 1), ct := Pv (i + 1), bk := D.nx } σ2 H2) (hd : ∀ σ H, Pv z.cps.toList.length σ H → D.nx σ H) :
    ∃ W : Nat → Nat → St → Hp → Prop, (∃ m, W 0 m σ H) ∧ ∀ i m σ H, W i m σ H →
      ((Its z).stop i H ∧ D.nx σ H) ∨ ((Its z).go i H ∧ ∃ N : St → Hp → Prop, (∀ σ' H', N σ' H' → ∃ m', m' < m ∧ W (i + 1) m' σ' H') ∧ ∀ x H', (Its z).yld i H x H' → g x σ H' fun σ2 H2 => tb { D with nx := N, ct := N, bk := D.nx } σ2 H2) := by
  have hlen : z.cps.toList.length = z.cps.size := Array.length_toList
  refine ⟨fun i m σ H => m = z.cps.size - i ∧ i ≤ z.cps.size ∧ Pv i σ H, ⟨z.cps.size, by simp, Nat.zero_le _, h0⟩, ?_⟩
  rintro i m σ H ⟨rfl, hi, p⟩
  by_cases hlt : i < z.cps.size
  · refine .inr ⟨hlt, Pv (i + 1), fun σ' H' p' => ⟨z.cps.size - (i + 1), by (first | lia | omega), rfl, hlt, p'⟩, fun x H' y => ?_⟩
    obtain ⟨e, c, hc, hx⟩ := y
    subst e hx
    exact hs i c σ _ (by rw [Array.getElem?_toList]; exact hc) p
  · have e : i = z.cps.size := by (first | lia | omega)
    subst e
    refine .inl ⟨Nat.le_refl _, hd σ H ?_⟩
    rw [hlen]
    exact p
/-! ### all(..), texts compared and cut -/
section
variable {X : Cx}
theorem boolsGet : ∀ {bs : List Bool} {us : List Value}, Vals (bs.map V.bl) us → ∀ (i : Nat) (v : Value), us[i]? = some v → ∃ b, bs[i]? = some b ∧ v = .bool b
  | [], _, .nil, i, v, e => by simp at e
  | b :: bs, _, .cons r t, 0, v, e => by
    obtain rfl : _ = Value.bool b := r
    simp at e
    exact ⟨b, rfl, e.symm⟩
  | b :: bs, _, .cons r t, i + 1, v, e => by
    obtain ⟨c, h1, h2⟩ := boolsGet t i v (by simpa using e)
    exact ⟨c, by simpa using h1, h2⟩
theorem all_range : ∀ (bs : List Bool), ((List.range bs.length).all fun i => (bs[i]?).getD true) = bs.all id := by
  intro bs
  rw [Bool.eq_iff_iff, List.all_eq_true, List.all_eq_true]
  constructor
  · intro h b hb
    obtain ⟨i, hi, rfl⟩ := List.getElem_of_mem hb
    have := h i (List.mem_range.mpr hi)
    rw [List.getElem?_eq_getElem hi] at this
    exact this
  · intro h i hi
    have hi' := List.mem_range.mp hi
    rw [List.getElem?_eq_getElem hi']
    exact h _ (List.getElem_mem hi')
theorem call_all (hc : X.calm = true) : CallR X (.builtin "all") (fun xs H Q => ∃ (p : Addr) (bs : List Bool), xs = [.ref p] ∧ SqL X.K H p (bs.map V.bl) ∧ Q (.bl (bs.all id)) H) := by
  intro pins s σ H xs us Q I r h
  obtain ⟨p, bs, rfl, hS, q⟩ := h
  obtain ⟨u, rfl, ru⟩ := Vals.one r
  cases ru
  obtain ⟨its, rv, pl, hz⟩ := I.list hS
  have hl := pl.isList
  have hlen : bs.length = its.length := by
    have := rv.length
    rw [List.length_map] at this
    exact this
  refine call_all_walk (wpAny_pyIter_list hl ⟨s.heap.objs.size, [s.heap.objs.size, p], [s.heap.objs.size], its.toArray.size, _, _, fun i => (bs[i]?).getD true, rfl,
    Walks.list (A := X.A.in1) (I.ok.hd hc) _ p (Nat.ne_of_lt pl.lt) its.toArray, ⟨⟨_, Heap.get?_push_size _ rfl, rfl, rfl⟩, hl.push _⟩, fun i v s' Q' E' hP hQ => ?_, fun h' tk hk => ?_⟩)
  · obtain ⟨b, e, e2⟩ := boolsGet rv i v (by simpa using hP)
    subst e2
    simp only [e, Option.getD_some] at hQ
    exact wpAny_truthy_bool hQ
  · rw [List.size_toArray, ← hlen, all_range]
    refine ⟨.bl _, H, I.kept (t' := tk) fun b o e => hk b o (fun hm => ?_) (Heap.get?_push_of_some _ e), rfl, q⟩
    rw [List.mem_singleton.mp hm] at e
    exact Nat.lt_irrefl _ (Heap.lt_size e)
theorem sl_str : SlR X (fun x lo hi H Q => ∃ z, x = .str z ∧ z.length ≤ sizeLine ∧ Q (.str (PySem.StrLaws.sliceText z lo hi)) H) := by
  intro pins s σ H x v vl vu lo hi sl Q I rx hs pl pu h
  obtain ⟨z, rfl, hz, q⟩ := h
  obtain ⟨t, rfl⟩ := rx
  refine ⟨"str", _, F.slot_str_getitem.lookup, typeIs_str s z t, ?_⟩
  have key : ∀ l u : Option (Int × Tok), s.heap.IsSlice sl l u none → l.map (·.1) = lo → u.map (·.1) = hi → wpAny (model X.prog X.w) X.A (getItem (.str z t) (.ref sl)) (EP X pins σ Q) X.xe s := by
    intro l u hsl el eu
    refine wpAny_getItem_str_slice hsl rfl ?_
    unfold sliceMade slicePicked
    rw [el, eu]
    unfold PySem.StrLaws.sliceText at q
    by_cases c : ((1 : Int) == 1 && (Builtin.Str.strSliceIndices lo hi 1 z.length).length == z.length) = true
    · rw [if_pos c] at q
      rw [if_pos (show ((((none : Option (Int × Tok)).map (·.1)).getD 1 == 1) && (Builtin.Str.strSliceIndices lo hi (((none : Option (Int × Tok)).map (·.1)).getD 1) z.length).length == z.length) = true from c)]
      exact ⟨.str z, H, I, ⟨_, rfl⟩, q⟩
    · rw [if_neg c] at q
      rw [if_neg (show ¬ ((((none : Option (Int × Tok)).map (·.1)).getD 1 == 1) && (Builtin.Str.strSliceIndices lo hi (((none : Option (Int × Tok)).map (·.1)).getD 1) z.length).length == z.length) = true from c)]
      refine ⟨?_, .str _, H, I.tok _, ⟨_, rfl⟩, q⟩
      show (((Builtin.Str.strSliceIndices lo hi 1 z.length).filterMap (z.cps[·]?)).toArray).size ≤ sizeLine
      rw [List.size_toArray]
      refine Nat.le_trans (List.length_filterMap_le _ _) (Nat.le_trans ?_ hz)
      refine sliceRange_length_le _ _ _ _ (fun _ => ?_) (fun z => absurd (by decide) z)
      cases lo with
      | none =>
        cases hi with
        | none => exact ⟨Int.le_refl 0, Int.le_refl _⟩
        | some j => exact ⟨Int.le_refl 0, by simp only [show (1 : Int) > 0 by decide, if_true]; (first | lia | omega)⟩
      | some i =>
        cases hi with
        | none => exact ⟨by simp only [show (1 : Int) > 0 by decide, if_true]; (first | lia | omega), Int.le_refl _⟩
        | some j => exact ⟨by simp only [show (1 : Int) > 0 by decide, if_true]; (first | lia | omega), by simp only [show (1 : Int) > 0 by decide, if_true]; (first | lia | omega)⟩
  cases pl with
  | none =>
    cases pu with
    | none => exact key none none hs rfl rfl
    | int j tj => exact key none (some (j, tj)) hs rfl rfl
  | int i ti =>
    cases pu with
    | none => exact key (some (i, ti)) none hs rfl rfl
    | int j tj => exact key (some (i, ti)) (some (j, tj)) hs rfl rfl
end
/-! ### ['a' <= x <= 'z' for x in text] -/
def azB (c : Nat) : Bool := decide (97 ≤ c) && decide (c ≤ 122)
theorem lt_one (a b : Nat) : decide (([a] : List Nat) < [b]) = decide (a < b) := by
  have h : (([a] : List Nat) < [b]) ↔ a < b := by
    constructor
    · intro h
      cases h with
      | rel h => exact h
      | cons h => cases h
    · intro h
      exact List.Lex.rel h
  exact decide_eq_decide.mpr h
section
variable {prog : Program} {w : World} {A : Around} {E : Value → Shared → Prop} {s : Shared}
theorem le_az {x y : Str} {t u : Tok} {Q : Value → Shared → Prop} (h : Q (.bool (!decide (y.cps.toList < x.cps.toList))) s) : wpAny (model prog w) A (compareOp .LtE (.str x t) (.str y u)) Q E s := PySem.P.le_str h
theorem ld_az {s₂ : Shared} {C : Addr} {m : Str → Option Value} {sc : Scope} {env : Env} {n : Str} {pos : Pos} {v : Value} {Q : Value → Shared → Prop} (x : InComp s₂ C m s) (hk : sc.kind = .function) (hl : sc.names.lookup n = some .local)
    (hv : m n = some v) (hd : (n == ("__debug__" : Str)) = false) (h : Q v s) : wpAny (model prog w) A (eval (.Name n pos) (compEnv sc C env)) Q E s := PySem.ldK x hk hl hv h hd
theorem elt_az {scope : Scope} {C : Addr} {env : Env} {m : Str → Option Value} {x : Str} {c : Nat} {u : Tok} {j j2 : Nat} {p1 p2 p3 pos : Pos} (hk : scope.kind = .function) (hx : scope.names.lookup x = some .local) (hd : (x == ("__debug__" : Str)) = false)
    (hn : s.heap.Ns C m) (hm : m x = some (.str ⟨#[c]⟩ u)) :
    wpAny (model prog w) A (eval (.Compare (.Constant (.str "a") j p1) [.LtE, .LtE] [.Name x p2, .Constant (.str "z") j2 p3] pos) (compEnv scope C env)) (fun r s' => r = .bool (azB c) ∧ Keeps s s') E s := by
  have I0 := (InComp.start hn).tok (s.toks + 1)
  have ea : ("a" : Str).cps.toList = [97] := by decide +kernel
  have ez : ("z" : Str).cps.toList = [122] := by decide +kernel
  have e1 : decide (([c] : List Nat) < [97]) = decide (c < 97) := lt_one c 97
  have e2 : decide (([122] : List Nat) < [c]) = decide (122 < c) := lt_one 122 c
  refine Compare_chain (Calls.Constant_str ?_)
  refine chain_link ?_
  refine ld_az I0 hk hx hm hd ?_
  refine le_az ?_
  rw [ea]
  show wpAny (model prog w) A (truthy (.bool (!decide (([c] : List Nat) < [97])))) _ _ _
  rw [e1]
  refine wpAny_truthy_bool ?_
  by_cases h1 : c < 97
  · rw [decide_eq_true h1]
    refine ite_ff ⟨?_, I0.done⟩
    unfold azB
    rw [decide_eq_false (by (first | lia | omega) : ¬ 97 ≤ c)]
    rfl
  · rw [decide_eq_false h1]
    refine ite_tt ?_
    refine chain_last ?_
    refine Calls.Constant_str ?_
    refine le_az ?_
    rw [ez]
    refine ⟨?_, (I0.tok _).done⟩
    show Value.bool (!decide (([122] : List Nat) < [c])) = _
    rw [e2]
    unfold azB
    rw [decide_eq_true (by (first | lia | omega) : 97 ≤ c)]
    by_cases h2 : c ≤ 122
    · rw [decide_eq_true h2, decide_eq_false (by (first | lia | omega))]
      rfl
    · rw [decide_eq_false h2, decide_eq_true (by (first | lia | omega))]
      rfl
end
theorem azVals : ∀ {cs : List Nat} {vs us : List Value}, (∀ (j : Nat) (v : Value), vs[j]? = some v → ∃ (c : Nat) (u : Tok), cs[j]? = some c ∧ v = Value.str ⟨#[c]⟩ u) → vs.length = cs.length → Paired (fun v r => ∃ c u, v = Value.str ⟨#[c]⟩ u ∧ r = Value.bool (azB c)) vs us →
    Vals (cs.map fun c => .bl (azB c)) us
  | [], [], _, _, _, .nil => .nil
  | [], v :: vs, _, _, h, _ => by simp at h
  | c :: cs, [], _, _, h, _ => by simp at h
  | c :: cs, v :: vs, _, hP, hl, .cons hr t => by
    obtain ⟨c', u', e1, e2⟩ := hP 0 v rfl
    obtain ⟨c2, u2, e3, e4⟩ := hr
    simp at e1
    subst e1
    rw [e2] at e3
    injection e3 with e5 _
    injection e5 with e6
    simp at e6
    subst e6
    refine .cons e4 (azVals (fun j v hv => ?_) (by simpa using hl) t)
    obtain ⟨c3, u3, f1, f2⟩ := hP (j + 1) v (by simpa using hv)
    exact ⟨c3, u3, by simpa using f1, f2⟩
section
variable {X : Cx} {iter : Expr} {te : TE} {scope : Scope} {x : Str} {px p1 p2 p3 p4 pos : Pos} {j j2 : Nat}
theorem pe_comp_az (hi : PE X iter te) (hc : X.calm = true) (hfree : ∀ y ∈ scope.names, y.2 ≠ .free) (hcell : ∀ y ∈ scope.names, y.2 ≠ .cell) (hk : scope.kind = .function)
    (hnames : ∀ y ∈ scope.names, y.2 = .local → scope.names.lookup y.1 = some .local) (hx : scope.names.lookup x = some .local) (hd : (x == ("__debug__" : Str)) = false) (hs : ∀ v, foldedSetIterable iter X.env v = pure v) :
    PE X (.ListComp (.Compare (.Constant (.str "a") j p1) [.LtE, .LtE] [.Name x p2, .Constant (.str "z") j2 p3] p4) [⟨.Name x px, iter, [], 0⟩] scope pos)
      (fun σ H Q => te σ H fun v H1 => ∃ z, v = .str z ∧ z.length ≤ sizeLine ∧ ∀ p, H1 p = none → Q (.ref p) (upd H1 p (.lst (z.cps.toList.map fun c => .bl (azB c))))) := by
  intro pins s σ H Q I h
  refine wpAny_ListComp_walk (fun _ => true) (fun v r => ∃ c u, v = Value.str ⟨#[c]⟩ u ∧ r = Value.bool (azB c)) hfree hcell hk hnames hx (thn (hi pins s σ H _ I h) fun v s1 ⟨xv, H1, I1, r1, q1⟩ => ?_) hs
  obtain ⟨z, rfl, hz, q⟩ := q1
  obtain ⟨t, rfl⟩ := r1
  refine wpAny_pyIter_str fun o St W hst => ⟨s1.heap.objs.size, [s1.heap.objs.size], [s1.heap.objs.size], z.cps.size, SignAt z, St, rfl, W X.A (I1.ok.hd hc), hz, hst, fun b hb => ?_, ⟨?_, ?_⟩, ?_⟩
  · show b < (s1.heap.push o).objs.size
    rw [Heap.size_push, List.mem_singleton.mp hb]
    exact Nat.lt_succ_self _
  · intro C i v s3 m3 E' hP hn hm _ _
    exact wpAny_pure ⟨rfl, (InComp.start hn).done⟩
  · intro C i v s3 m3 E' hP hp hn hm _ _
    obtain ⟨c, u, _, e⟩ := hP
    subst e
    exact wpAny_mono (elt_az hk hx hd hn hm) (fun r s4 h4 => ⟨⟨c, u, rfl, h4.1⟩, h4.2⟩) fun _ _ e => e
  · intro D h' tk ys vs hnew hlD hplD hlen hP hF hkp
    have hF' : Paired (fun v r => ∃ c u, v = Value.str ⟨#[c]⟩ u ∧ r = Value.bool (azB c)) vs ys.toList := by
      rw [List.filter_eq_self.mpr (fun _ _ => rfl)] at hF
      exact hF
    have hV := azVals (cs := z.cps.toList) (fun j v hv => by
      obtain ⟨c, u, e1, e2⟩ := hP j v hv
      exact ⟨c, u, by rw [Array.getElem?_toList]; exact e1, e2⟩) (by rw [hlen, Array.length_toList]) hF'
    have up : ∀ b ob, s1.heap.get? b = some ob → h'.get? b = some ob := fun b ob e => hkp b ob (fun hm => by
      rw [List.mem_singleton.mp hm] at e
      exact Nat.lt_irrefl _ (Heap.lt_size e)) (Heap.get?_push_of_some _ e)
    have hD : s1.heap.get? D = none := by
      cases e : s1.heap.get? D with
      | none => rfl
      | some ob =>
        rw [Heap.get?_push_of_some _ e] at hnew
        cases hnew
    obtain ⟨nD, eD⟩ := hplD
    refine ⟨.ref D, _, I1.laidN (a := D) (o := .lst (z.cps.toList.map fun c => .bl (azB c))) (t' := tk) up hD ⟨?_, ys.toList, nD, hV, by rw [Array.toArray_toList]; exact eD⟩, rfl, q D (I1.hok.freshN hD)⟩
    rw [List.length_map, Array.length_toList]
    exact hz
end
end L2

namespace L2
open PySem
theorem bt_all : bootBuiltins "all" = some (.builtin "all") := by decide +kernel
end L2
namespace Fg
open PySem L2 FgM
def tagB (z : Str) : Bool := decide (1 ≤ z.length) && decide (z.length ≤ 8) && z.cps.toList.all azB
def spIsTag : Sp := fun vs H Q _ => ∃ z : Str, vs = [.str z] ∧ z.length ≤ 100000 ∧ ∀ H', Same H H' → Q (.bl (tagB z)) H'
def AscL (z : Str) : Prop := ∀ c ∈ z.cps.toList, c < 128
theorem AscL.asc {z : Str} (h : AscL z) : Asc z := by
  unfold Asc
  rw [Array.all_eq_true_iff_forall_mem]
  intro c hc
  exact decide_eq_true (h c (by simpa using hc))
theorem notin_all : ∀ c : _root_.Fin 128, (Builtin.Str.occurrences ABC ⟨#[c.val]⟩ 0 ABC.length 1).isEmpty = !azB c.val := by decide +kernel
theorem notin_az {c : Nat} (h : c < 128) : (Builtin.Str.occurrences ABC ⟨#[c]⟩ 0 ABC.length 1).isEmpty = !azB c := notin_all ⟨c, h⟩
theorem all_take_succ {l : List Nat} {i c : Nat} (h : l[i]? = some c) : (l.take (i + 1)).all azB = ((l.take i).all azB && azB c) := by
  obtain ⟨hi, e⟩ := List.getElem?_eq_some_iff.mp h
  rw [List.take_succ_eq_append_getElem hi, List.all_append, e]
  simp
end Fg

/-! for i, x in enumerate(xs) -/
namespace L2
open PySem PySem.Spec PyProof.Rows
theorem bt_enumerate : bootBuiltins "enumerate" = some (.type "enumerate") := by decide +kernel
def Ite (K : PySem.W.Frag) (l : Addr) : It :=
  ⟨fun i H => ∃ xs x, SqL K H l xs ∧ xs[i]? = some x, fun i H x H' => ∃ p, H p = none ∧ x = .ref p ∧ ∀ xs, SqL K H l xs → ∃ y, xs[i]? = some y ∧ H' = upd H p (.tup [.int i, y]), fun i H => ∃ xs, SqL K H l xs ∧ xs.length ≤ i⟩
theorem turn_enum {P : Program} {w : World} {K : PySem.W.Frag} {elts : List Expr} {x1} {tp : Pos} (l e it : Addr) (hne : e ≠ it) :
    Turn P w K (.Tuple elts x1 tp) (Ite K l) [e, it] e (fun i h => (∃ old, IsEnum h e it (i : Int) old) ∧ h.IsListIter it l i) where
  mem := by simp
  obj := fun i h st b hb => by
    obtain ⟨⟨old, he⟩, o, ho, hc, hd⟩ := st
    rcases List.mem_cons.mp hb with rfl | hb
    · exact ⟨_, he, fun v z => by cases z⟩
    · obtain rfl := List.mem_singleton.mp hb
      exact ⟨o, ho, fun v z => by rw [hd] at z; cases z⟩
  keep := fun i h h' st k => by
    obtain ⟨⟨old, he⟩, o, ho, r⟩ := st
    exact ⟨⟨old, k e (by simp) _ he⟩, o, k it (by simp) o ho, r⟩
  item := by
    intro X hP hw hK hc i pins s σ H E I hf st hg
    subst hP hw hK
    obtain ⟨⟨old, he⟩, hit⟩ := st
    obtain ⟨xs, x, hq, hx⟩ := hg
    obtain ⟨its, rv, pl, hz⟩ := I.list hq
    obtain ⟨u, hu, ru⟩ := rv.get hx
    have fe := hf e (by simp)
    have fi := hf it (by simp)
    refine wpAny_pyNext_enum_item he hit pl.isList (x := u) (by simpa using hu) hne fun h1 he1 hit1 ht1 hz1 hk1 => ⟨_, rfl, wpAny_letOwnedTupleGo_enum he1 fun h2 he2 hs2 => ?_⟩
    have hfresh : H s.heap.objs.size = none := I.hok.fresh (Nat.le_refl _)
    have nee : s.heap.objs.size ≠ e := Nat.ne_of_gt (Heap.lt_size he)
    obtain ⟨oi, hoi, _⟩ := id hit
    have nei : s.heap.objs.size ≠ it := Nat.ne_of_gt (Heap.lt_size hoi)
    have kp : ∀ b o, b ∉ [e, it] → s.heap.get? b = some o → h2.get? b = some o := fun b o hb q => by
      have b1 : b ≠ e := fun z => hb (by rw [z]; simp)
      have b2 : b ≠ it := fun z => hb (by rw [z]; simp)
      exact (hs2.2 b b1).trans (hk1 b o b1 b2 q)
    have hp2 : h2.get? s.heap.objs.size = some { cls := .type "tuple", data := .seq #[.int i s.toks, u] } := (hs2.2 _ nee).trans ht1
    have nb : ∀ b o, s.heap.get? b = some o → b ≠ s.heap.objs.size := fun b o q => Nat.ne_of_lt (Heap.lt_size q)
    have tracked : ∀ b o, H b = some o → b ∉ [e, it] := fun b o q hb => by
      rcases List.mem_cons.mp hb with rfl | hb
      · rw [fe.1] at q
        cases q
      · obtain rfl := List.mem_singleton.mp hb
        rw [fi.1] at q
        cases q
    have it2 : h2.IsListIter it l (i + 1) := by
      obtain ⟨o, ho, r⟩ := hit1
      exact ⟨o, (hs2.2 it hne.symm).trans ho, r⟩
    have hok2 : HOk X.prog X.w (upd H s.heap.objs.size (.tup [.int i, x])) h2 := fun b o q => by
      by_cases hb : b = s.heap.objs.size
      · subst hb
        rw [upd_same] at q
        cases q
        exact ⟨by show 2 ≤ sizeLine; decide, [.int i s.toks, u], .cons ⟨_, rfl⟩ (.cons ru .nil), _, hp2, rfl, _, rfl⟩
      · rw [upd_ne hb] at q
        refine (I.hok b o q).stay (fun c v hcv r => kp c v ?_ r) (fun c r => by rw [upd_ne (ne_of_none r hfresh)]; exact r) fun c ys r => by rw [upd_ne (ne_of_none r hfresh)]; exact r
        rcases hcv with rfl | hcv
        · exact tracked _ _ q
        · exact tracked _ _ hcv
    have I2 : Inv X pins σ (upd H s.heap.objs.size (.tup [.int i, x])) { s with heap := h2, gens := s.gens, drawn := s.drawn, toks := s.toks + 1 } := by
      refine I.step (ch := [e, it]) (fun b hb => ?_) (fun b o _ _ hb q _ => kp b o hb q) (fun b o _ _ hb q _ => ⟨o.slots, kp b o hb q⟩) (fun b o _ q n => by rw [upd_ne (nb b o q)]; exact n) (fun b o hb q => ⟨o, kp b o hb q⟩)
        (fun b ys q => by rw [upd_ne (ne_of_none q hfresh)]; exact q) (fun b o ys q => by rw [upd_ne (ne_of_none q hfresh)]; exact q) (fun b ps q => ⟨#[], by rw [upd_ne (ne_of_none q hfresh), q]; simp⟩) (fun m hm => ?_) hok2 I.bare
      · have f : FpOk X pins H b := hf b hb
        exact ⟨f.2.2.2.1, f.2.1, f.2.2.2.2.1, f.2.2.2.2.2⟩
      · obtain ⟨o, es, ep, ho, r⟩ := hm
        refine ⟨o, es, ep, kp _ o (fun hb => ?_) ho, r⟩
        exact (hf _ hb).2.1 rfl
    refine ⟨.ref s.heap.objs.size, _, I2, rfl, ⟨_, hfresh, rfl, fun ys hy => ⟨x, by rw [I.list_inj hy hq]; exact hx, rfl⟩⟩, ⟨⟨_, he2⟩, it2⟩, fun b hb => ?_⟩
    rcases List.mem_cons.mp hb with rfl | hb
    · rw [upd_ne nee.symm]
      exact fe.1
    · obtain rfl := List.mem_singleton.mp hb
      rw [upd_ne nei.symm]
      exact fi.1
  done := by
    intro X hP hw hK hc i pins s σ H E I hf st hg
    subst hP hw hK
    obtain ⟨⟨old, he⟩, hit⟩ := st
    obtain ⟨xs, hq, hx⟩ := hg
    obtain ⟨its, rv, pl, hz⟩ := I.list hq
    obtain ⟨f0, f1, f2, f3, f4, f5⟩ := hf it (by simp)
    have hlen := rv.length
    exact wpAny_pyNext_enum_end (I.ok.hd hc) he hit pl.isList (by simp; (first | lia | omega)) fun h' eb => ⟨rfl, I.turned (t' := s.toks) (fun b o hb q => eb b o hb q) f0 f1 f3 f4 f5⟩
  self := fun _ _ _ _ _ st h => by
    obtain ⟨⟨old, he⟩, _⟩ := st
    exact wpAny_pyIter_enum he h
section
variable {X : Cx} {elts : List Expr} {x1 : Nat} {tp : Pos}
def iEnum (K : PySem.W.Frag) (tl : TA) : TI := fun σ H R => tl σ H fun vs H1 => ∃ a xs, vs = [.ref a] ∧ SqL K H1 a xs ∧ R (Ite K a) H1
theorem pi_enum {l : Expr} {ta : TA} {p pos : Pos} (hg : Gl X "enumerate") (hm : X.mg "enumerate" = none) (ha : PA X [l] ta) (hs : starEach [l] X.env = [(false, eval l X.env)] := by rfl) :
    PI X (.Tuple elts x1 tp) (.Call (.Name "enumerate" p) [l] [] pos) (iEnum X.K ta) := by
  intro pins s σ H R I h
  refine Call_ (ld_blt I hg hm bt_enumerate (PyProof.Rows.callWith_type1 (thn (ha pos pins s σ H _ I h) fun us s1 ⟨vs, H1, I1, r1, q1⟩ => ?_) hs rfl))
  obtain ⟨a, xs, e, hq, q⟩ := q1
  subst e
  obtain ⟨u, rfl, ru⟩ := Vals.one r1
  cases ru
  obtain ⟨its, rv, pl, hz⟩ := I1.list hq
  refine call_enumerate_list pl.isList fun h' he hit hz' hk => wpAny_pyIter_enum he ?_
  refine ⟨s1.heap.objs.size + 1, [s1.heap.objs.size + 1, s1.heap.objs.size], _, _, H1, rfl, I1.kept (t' := s1.toks) hk, turn_enum a _ _ (Nat.succ_ne_self _), ⟨⟨_, he⟩, hit⟩, fun b hb => ?_, q⟩
  have hb' : s1.heap.objs.size ≤ b := by
    rcases List.mem_cons.mp hb with rfl | hb
    · exact Nat.le_succ _
    · rw [List.mem_singleton.mp hb]
      exact Nat.le_refl _
  exact I1.fpOk hb' (I1.hok.fresh hb')
end
theorem for_enum {K : PySem.W.Frag} {a : Addr} {xs : List V} {g : TG} {tb : TS} {D : Ends} {σ : St} {H : Hp} (Pv : Nat → St → Hp → Prop) (h0 : Pv 0 σ H) (hl : ∀ i σ H, i ≤ xs.length → Pv i σ H → SqL K H a xs)
    (hs : ∀ i y p σ H, xs[i]? = some y → Pv i σ H → H p = none → g (.ref p) σ (upd H p (.tup [.int i, y])) fun σ2 H2 => tb { D with nx := Pv (i + 1), ct := Pv (i + 1), bk := D.nx } σ2 H2) (hd : ∀ σ H, Pv xs.length σ H → D.nx σ H) :
    ∃ W : Nat → Nat → St → Hp → Prop, (∃ m, W 0 m σ H) ∧ ∀ i m σ H, W i m σ H →
      ((Ite K a).stop i H ∧ D.nx σ H) ∨ ((Ite K a).go i H ∧ ∃ N : St → Hp → Prop, (∀ σ' H', N σ' H' → ∃ m', m' < m ∧ W (i + 1) m' σ' H') ∧ ∀ x H', (Ite K a).yld i H x H' → g x σ H' fun σ2 H2 => tb { D with nx := N, ct := N, bk := D.nx } σ2 H2) := by
  refine ⟨fun i m σ H => m = xs.length - i ∧ i ≤ xs.length ∧ Pv i σ H, ⟨xs.length, by simp, Nat.zero_le _, h0⟩, ?_⟩
  rintro i m σ H ⟨rfl, hi, p⟩
  have q := hl i σ H hi p
  by_cases hlt : i < xs.length
  · refine .inr ⟨⟨xs, xs[i], q, by simp [hlt]⟩, Pv (i + 1), fun σ' H' p' => ⟨xs.length - (i + 1), by (first | lia | omega), rfl, hlt, p'⟩, fun x H' y => ?_⟩
    obtain ⟨b, hb, hx, hy⟩ := y
    obtain ⟨z, hz, hH⟩ := hy xs q
    subst hx hH
    exact hs i z b σ H hz p hb
  · have e : i = xs.length := by (first | lia | omega)
    subst e
    exact .inl ⟨⟨xs, q, Nat.le_refl _⟩, hd σ H p⟩
end L2

/-! [elt for tg in iter]: the block as a context of its own -/
namespace L2
open PySem PySem.Spec PyProof.Rows
section
variable {prog : Program} {w : World} {A : Around} {s : Shared} {R : Result → Shared → Prop}
abbrev no0 : Value → Shared → Prop := fun _ _ => False
theorem comp_loop0 {elt target iter : Expr} {scope : Scope} {pos : Pos} {it acc : Value} {env : Env} (I : Nat → Shared → Prop)
    (turn : ∀ n s, I n s → wpAny (model prog w) A (pyNext it) (fun r s1 => match r with
      | none => R (.ok .next) s1
      | some v => wpAny (model prog w) A (letOwnedTupleGo target it v) (fun _ s2 => wpAny (model prog w) A (assign target env v) (fun _ s3 => wpAny (model prog w) A (eval elt env) (fun x s4 =>
          wpAny (model prog w) A (call (.builtin "list.append") [acc, x]) (fun _ s5 => ∃ m, m < n ∧ I m s5) no0 s4) no0 s3) no0 s2) no0 s1) no0 s)
    (n : Nat) (h : I n s) : codeAny (model prog w) A (.compLoop (.ListComp elt [⟨target, iter, [], 0⟩] scope pos) 0 it acc env) R s := by
  refine codeAny_loop rfl I (fun n s hI => ?_) n h
  show wpAny _ _ ((compTurn (.ListComp elt [⟨target, iter, [], 0⟩] scope pos) 0 it acc env).onRaise (fun x => do noteFrame x env; theTreesLotGoes x)) _ _ s
  refine wpAny_noted ?_
  rw [compTurn_list1]
  refine wpAny_bind (wpAny_standAt (wpAny_bind (wpAny_mono (turn n s hI) (fun r s1 h1 => ?_) fun _ _ h' => h'.elim)))
  cases r with
  | none => exact wpAny_pure h1
  | some v =>
    refine wpAny_bind (wpAny_mono h1 (fun _ s2 h2 => ?_) fun _ _ h' => h'.elim)
    refine wpAny_bind (wpAny_mono h2 (fun _ s3 h3 => ?_) fun _ _ h' => h'.elim)
    refine wpAny_bind (wpAny_bind (wpAny_mono h3 (fun x s4 h4 => ?_) fun _ _ h' => h'.elim))
    exact wpAny_bind (wpAny_mono h4 (fun _ s5 h5 => wpAny_pure (wpAny_pure ⟨rfl, h5⟩)) fun _ _ h' => h'.elim)
end
/-- the context of a comprehension's block: its frame at C, the cells cl of captured names, the iterator's records fp -/
def cxComp (X : Cx) (N : List Str) (scope : Scope) (cl : List (Str × Addr)) (C : Addr) (fp : List Addr) (s : Shared) (H : Hp) : Cx where
  prog := X.prog
  w := X.w
  K := X.K
  mg := X.mg
  base := X.base
  A := X.A
  N := N
  s₀ := s
  H₀ := H
  env := compEnvC scope cl C X.env
  outer := X.stack
  stack := X.stack
  ex := fp
  fn := fun _ => false
  calm := X.calm
  pn := []
  xe := no0
section
variable {X : Cx} {pins : List (Addr × Obj)} {σ : St} {H : Hp} {s : Shared}
theorem cxComp_ok {N : List Str} {scope : Scope} {cl : List (Str × Addr)} {C : Addr} {fp : List Addr} (I : Inv X pins σ H s) (hk : scope.kind = .function) (hC : s.heap.objs.size ≤ C) (hcl : ∀ x c, cl.lookup x = some c → X.env.cells.lookup x = some c)
    (hhas : ∀ x, ((compEnvC scope cl C X.env).kindOf x = some .cell ∨ (compEnvC scope cl C X.env).kindOf x = some .free) → ∃ c, cl.lookup x = some c)
    (hf : ∀ b ∈ fp, FpOk X pins H b) (hlt : ∀ b ∈ fp, b < s.heap.objs.size) : (cxComp X N scope cl C fp s H).Ok where
  mod := I.ok.mod
  kind := hk
  glob := I.ok.glob
  blt := I.ok.blt
  above := hC
  inj := fun x y c e1 e2 => I.ok.inj x y c (hcl x c e1) (hcl y c e2)
  has := hhas
  cab := fun x c e => by cases e
  hd := I.ok.hd
  frames := I.ok.frames
  stk := .inl rfl
  exf := fun b hb => ⟨fun z => absurd (Nat.lt_of_lt_of_le (hlt b hb) hC) (by rw [show b = C from z]; exact Nat.lt_irrefl _), fun x c e => (hf b hb).2.2.2.2.1 x c (hcl x c e)⟩
  bs := fun b o e => ⟨(I.bs b o e).1, (I.bs b o e).2⟩
  bsz := Nat.le_trans I.ok.bsz I.sz
  noex := fun b o e hb => by
    rcases (hf b hb).2.2.2.1 with z | z
    · exact I.ok.noex b o e z
    · exact absurd (Nat.lt_of_lt_of_le (Heap.lt_size e) (Nat.le_trans I.ok.bsz z)) (Nat.lt_irrefl _)
  exfs := fun b hb hm => by
    rcases List.mem_cons.mp (I.stkSub b hm) with z | z
    · exact (hf b hb).2.1 z
    · exact (hf b hb).2.2.1 z
  funs := I.stack
  frf := I.stkFree
/-- the values of the block's names at its start: the targets' none, the captured ones' as they stand -/
def capσ (σ : St) (k : Nat) (cap : List (Str × Nat)) : St := List.replicate k none ++ cap.map fun p => (σ[p.2]?).getD none
theorem cxComp_start {scope : Scope} {cl : List (Str × Addr)} {fp : List Addr} {tn : List Str} {cap : List (Str × Nat)} {h1 : Heap} (I : Inv X pins σ H s) (hk : scope.kind = .function) (hcl : ∀ x c, cl.lookup x = some c → X.env.cells.lookup x = some c)
    (hhas : ∀ x, ((compEnvC scope cl s.heap.objs.size X.env).kindOf x = some .cell ∨ (compEnvC scope cl s.heap.objs.size X.env).kindOf x = some .free) → ∃ c, cl.lookup x = some c)
    (hf : ∀ b ∈ fp, FpOk X pins H b) (hlt : ∀ b ∈ fp, b < s.heap.objs.size)
    (hcap : ∀ p ∈ cap, X.N[p.2]? = some p.1 ∧ X.env.scope.names.lookup p.1 = some .cell ∧ ((compEnvC scope cl s.heap.objs.size X.env).kindOf p.1 = some .cell ∨ (compEnvC scope cl s.heap.objs.size X.env).kindOf p.1 = some .free))
    (hns : h1.Ns s.heap.objs.size (fun _ => none)) (hkp : ∀ b o, s.heap.get? b = some o → h1.get? b = some o) :
    Inv (cxComp X (tn ++ cap.map (·.1)) scope cl s.heap.objs.size fp s H) [] (capσ σ tn.length cap) H { s with heap := h1 } where
  ok := cxComp_ok I hk (Nat.le_refl _) hcl hhas hf hlt
  os := rfl
  bare := I.bare
  base := Un.kept hkp
  loc := by
    refine ⟨fun _ => none, hns, fun i x v e1 e2 hv => ?_⟩
    unfold capσ at e2
    by_cases hi : i < tn.length
    · rw [List.getElem?_append_left (by rw [List.length_replicate]; exact hi), List.getElem?_replicate, if_pos hi] at e2
      cases e2
    · have hN : (cap.map (·.1))[i - tn.length]? = some x := by
        have : (tn ++ cap.map (·.1))[i]? = some x := e1
        rw [List.getElem?_append_right (by (first | lia | omega))] at this
        exact this
      rw [List.getElem?_append_right (by rw [List.length_replicate]; (first | lia | omega)), List.length_replicate, List.getElem?_map] at e2
      rw [List.getElem?_map] at hN
      cases hp : cap[i - tn.length]? with
      | none => rw [hp] at hN; cases hN
      | some p =>
        rw [hp] at hN e2
        have hx : p.1 = x := Option.some.inj hN
        have he : (σ[p.2]?).getD none = some v := Option.some.inj e2
        obtain ⟨c1, c2, c3⟩ := hcap p (List.mem_of_getElem? hp)
        subst hx
        have hs : σ[p.2]? = some (some v) := by
          cases q : σ[p.2]? with
          | none => rw [q] at he; cases he
          | some z => rw [q] at he; rw [show z = some v from he]
        obtain ⟨m, hn, hl⟩ := I.loc
        obtain ⟨u, r, l⟩ := hl p.2 p.1 v c1 hs (.inr (.inl c2))
        refine ⟨u, r, .inr ⟨c3, ?_⟩⟩
        obtain ⟨c, hc⟩ := hhas p.1 c3
        refine ⟨c, hc, ?_⟩
        rcases l with ⟨l1, _⟩ | ⟨_, c', l2, o, ho, hd⟩
        · have : X.env.kindOf p.1 = some .cell := c2
          rw [this] at l1
          cases l1
        · have : c = c' := Option.some.inj ((hcl p.1 c hc).symm.trans l2)
          subst this
          exact ⟨o, hkp _ _ ho, hd⟩
  cell := fun x c e => by
    obtain ⟨v, o, ho, hd⟩ := I.cell x c (hcl x c e)
    exact ⟨v, o, hkp _ _ ho, hd⟩
  free := I.hok.fresh (Nat.le_refl _)
  freeC := fun x c e => I.freeC x c (hcl x c e)
  pin := fun p hp => by cases hp
  hok := I.hok.kept hkp
  len := by
    unfold capσ
    show _ = (tn ++ cap.map (·.1)).length
    rw [List.length_append, List.length_append, List.length_replicate, List.length_map, List.length_map]
end
end L2

namespace L2
open PySem PySem.Spec PyProof.Rows
/-- a comprehension's reading: W by the turn, a measure, the items so far, the block's names, the heap; p: the list under way -/
def tComp (wi : TI) (k : Nat) (cap : List (Str × Nat)) (g : TG) (te : TE) : TE := fun σ H Q => wi σ H fun J H1 => ∀ p, H1 p = none → ∃ W : Nat → Nat → List V → St → Hp → Prop, (∃ m, W 0 m [] (capσ σ k cap) (upd H1 p (.lst []))) ∧
  ∀ i m ys σc H2, W i m ys σc H2 → H2 p = some (.lst ys) ∧ ((J.stop i H2 ∧ Q (.ref p) H2) ∨ (J.go i H2 ∧ ∀ x H3, J.yld i H2 x H3 → g x σc H3 fun σ3 H4 => te σ3 H4 fun v H5 =>
    H5 p = some (.lst ys) ∧ ys.length < sizeLine ∧ ∃ m', m' < m ∧ W (i + 1) m' (ys ++ [v]) σ3 (upd H5 p (.lst (ys ++ [v])))))
section
variable {X : Cx} {elt iter tg : Expr} {scope : Scope} {pos : Pos} {wi : TI} {g : TG} {te : TE} {cl : List (Str × Addr)}
theorem comp_core0 {pins : List (Addr × Obj)} {σ : St} {H2 : Hp} {s2 : Shared} {it : Addr} {fp : List Addr} {tnn : Nat → Heap → Prop} {J : It} {R : Addr → Hp → Prop} {use : Option (Value → Sem Unit)} {Qp : Value → Shared → Prop} (tn : List Str) (cap : List (Str × Nat)) (hg : ∀ C fp s H, PG (cxComp X (tn ++ cap.map (·.1)) scope cl C fp s H) tg g) (he : ∀ C fp s H, PE (cxComp X (tn ++ cap.map (·.1)) scope cl C fp s H) elt te) (hc : X.calm = true) (hcell : ∀ y ∈ scope.names, y.2 ≠ .cell) (hk : scope.kind = .function) (hcl : ∀ x c, cl.lookup x = some c → X.env.cells.lookup x = some c) (hhas : ∀ C x, ((compEnvC scope cl C X.env).kindOf x = some .cell ∨ (compEnvC scope cl C X.env).kindOf x = some .free) → ∃ c, cl.lookup x = some c) (hcap : ∀ C, ∀ p ∈ cap, X.N[p.2]? = some p.1 ∧ X.env.scope.names.lookup p.1 = some .cell ∧ ((compEnvC scope cl C X.env).kindOf p.1 = some .cell ∨ (compEnvC scope cl C X.env).kindOf p.1 = some .free))
    (I2 : Inv X pins σ H2 s2) (T : Turn X.prog X.w X.K tg J fp it tnn) (st2 : tnn 0 s2.heap) (f2 : ∀ b ∈ fp, FpOk X pins H2 b) (q2 : ∀ p, H2 p = none → ∃ W : Nat → Nat → List V → St → Hp → Prop, (∃ m, W 0 m [] (capσ σ tn.length cap) (upd H2 p (.lst []))) ∧
  ∀ i m ys σc H2, W i m ys σc H2 → H2 p = some (.lst ys) ∧ ((J.stop i H2 ∧ R p H2) ∨ (J.go i H2 ∧ ∀ x H3, J.yld i H2 x H3 → g x σc H3 fun σ3 H4 => te σ3 H4 fun v H5 => H5 p = some (.lst ys) ∧ ys.length < sizeLine ∧ ∃ m', m' < m ∧ W (i + 1) m' (ys ++ [v]) σ3 (upd H5 p (.lst (ys ++ [v]))))))
    (hfin : ∀ (s3 : Shared) (H3 : Hp), Inv X pins σ H3 s3 → (∀ b ∈ fp, FpOk X pins H3 b) → ∀ (acc : Addr) (σ6 : St) (H6 : Hp) (s6 : Shared), Inv (cxComp X (tn ++ cap.map (·.1)) scope cl s3.heap.objs.size fp s3 H3) [] σ6 H6 s6 → R acc H6 → compPost (model X.prog X.w) X.A X.xe use Qp (.ref acc) s3.heap.objs.size (.ok .next) s6) :
    wpAny (model X.prog X.w) X.A (newList []) (fun acc s₃ => wpAny (model X.prog X.w) X.A (newFunctionEnv scope X.env.globals cl [] X.env.qual none Value.none (some X.env)) (fun cenv s₄ => codeAny (model X.prog X.w) X.A (Code.compStart (.ListComp elt [⟨tg, iter, [], 0⟩] scope pos) 0 (Value.ref it) acc { cenv with scope := relabel scope X.env }) (compPost (model X.prog X.w) X.A X.xe use Qp acc cenv.locals) s₄) X.xe s₃) X.xe s2 := by
  have fresh : H2 s2.heap.objs.size = none := I2.fresh
  obtain ⟨W, ⟨m0, w0⟩, turn⟩ := q2 s2.heap.objs.size fresh
  have lt2 : ∀ b ∈ fp, b < s2.heap.objs.size := fun b hb => by
    obtain ⟨o, ho, _⟩ := T.obj _ _ st2 b hb
    exact Heap.lt_size ho
  have I3 : Inv X pins σ (upd H2 s2.heap.objs.size (.lst [])) { s2 with heap := s2.heap.push { cls := .type "list", data := .seq ([] : List Value).toArray } } := I2.lnew (its := []) (t' := s2.toks) .nil (Nat.zero_le _)
  refine wpAny_newObj_type (wpAny_newFunctionEnv hcell (by intro y hy; simp at hy) (fun h1 hns1 hsb1 => ?_) hk)
  dsimp only at hns1 hsb1 ⊢
  generalize hS3 : ({ s2 with heap := s2.heap.push { cls := .type "list", dict := none, data := .seq ([] : List Value).toArray } } : Shared) = s3 at I3
  have hh3 : s2.heap.push { cls := .type "list", dict := none, data := .seq ([] : List Value).toArray } = s3.heap := by rw [← hS3]
  rw [hh3] at hns1 hsb1 ⊢
  have sz3 : s3.heap.objs.size = s2.heap.objs.size + 1 := by rw [← hh3, Heap.size_push]
  have lt3 : ∀ b ∈ fp, b < s3.heap.objs.size := fun b hb => Nat.lt_of_lt_of_le (lt2 b hb) (by rw [sz3]; exact Nat.le_succ _)
  have f3 : ∀ b ∈ fp, FpOk X pins (upd H2 s2.heap.objs.size (.lst [])) b := fun b hb => ⟨by rw [upd_ne (Nat.ne_of_lt (lt2 b hb))]; exact (f2 b hb).1, (f2 b hb).2⟩
  have keep3 : ∀ b o, s3.heap.get? b = some o → h1.get? b = some o := fun b o q => hsb1.extBut b o (Nat.ne_of_lt (Heap.lt_size q)) (Heap.get?_push_of_some _ q)
  have st3 : tnn 0 h1 := T.keep _ _ _ st2 fun b hb o q => keep3 b o (by rw [← hh3]; exact Heap.get?_push_of_some _ q)
  have I4 := (cxComp_start (tn := tn) I3 hk hcl (hhas _) f3 lt3 (hcap _) hns1 keep3).tok (s2.toks + ([] : List (Str × Value)).length)
  have loop : codeAny (model X.prog X.w) X.A (.compLoop (.ListComp elt [⟨tg, iter, [], 0⟩] scope pos) 0 (.ref it) (.ref s2.heap.objs.size) (compEnvC scope cl s3.heap.objs.size X.env))
      (compPost (model X.prog X.w) X.A X.xe use Qp (.ref s2.heap.objs.size) s3.heap.objs.size) { s3 with heap := h1, toks := s2.toks + ([] : List (Str × Value)).length } := by
    refine comp_loop0 (fun n s' => ∃ i ys σ' H', Inv (cxComp X (tn ++ cap.map (·.1)) scope cl s3.heap.objs.size fp s3 (upd H2 s2.heap.objs.size (.lst []))) [] σ' H' s' ∧ tnn i s'.heap ∧ (∀ b ∈ fp, H' b = none) ∧ W i n ys σ' H') ?_ m0
      ⟨0, [], _, _, I4, st3, fun b hb => (f3 b hb).1, w0⟩
    rintro n s5 ⟨i, ys, σ5, H5, I5, st5, fr5, w5⟩
    obtain ⟨hD, alt⟩ := turn i n ys σ5 H5 w5
    have stat : ∀ {H' : Hp}, (∀ b ∈ fp, H' b = none) → ∀ b ∈ fp, FpOk (cxComp X (tn ++ cap.map (·.1)) scope cl s3.heap.objs.size fp s3 (upd H2 s2.heap.objs.size (.lst []))) [] H' b :=
      fun hn b hb => ⟨hn b hb, (I4.ok.exf b hb).1, I4.ok.exfs b hb, .inl hb, (I4.ok.exf b hb).2, fun p hp => by cases hp⟩
    rcases alt with ⟨stop, qn⟩ | ⟨go, step⟩
    · refine thn (T.done (cxComp X (tn ++ cap.map (·.1)) scope cl s3.heap.objs.size fp s3 (upd H2 s2.heap.objs.size (.lst []))) rfl rfl rfl hc i [] s5 σ5 H5 no0 I5 (stat fr5) st5 stop) fun r s6 ⟨hr, I6⟩ => ?_
      subst hr
      exact hfin s3 _ I3 f3 _ σ5 H5 s6 I6 qn
    · refine thn (T.item (cxComp X (tn ++ cap.map (·.1)) scope cl s3.heap.objs.size fp s3 (upd H2 s2.heap.objs.size (.lst []))) rfl rfl rfl hc i [] s5 σ5 H5 no0 I5 (stat fr5) st5 go) fun r s6 ⟨u, hr, h6⟩ => ?_
      subst hr
      refine thn h6 fun _ s7 ⟨x, H7, I7, r7, y7, st7, fr7⟩ => ?_
      have I7' := I7.pinned (stat fr7) (T.obj _ _ st7)
      refine thn (hg _ _ _ _ _ s7 σ5 H7 x u _ I7' r7 (step x H7 y7)) fun _ s8 ⟨σ8, H8, I8, q8⟩ => ?_
      refine thn (he _ _ _ _ _ s8 σ8 H8 _ I8 q8) fun xv s9 ⟨v9, H9, I9, r9, q9⟩ => ?_
      obtain ⟨hD9, hl9, m', hm', w9⟩ := q9
      refine thn (mt_append _ s9 σ8 H9 (.ref s2.heap.objs.size) [v9] (.ref s2.heap.objs.size) [xv] (fun z H' => z = .non ∧ H' = upd H9 s2.heap.objs.size (.lst (ys ++ [v9]))) I9 rfl (.cons r9 .nil)
        ⟨s2.heap.objs.size, ys, v9, rfl, rfl, hD9, hl9, rfl, rfl⟩) fun z s10 ⟨zv, H10, I10, _, _, eH⟩ => ?_
      subst eH
      refine ⟨m', hm', i + 1, ys ++ [v9], σ8, _, I10.unpinned, T.keep _ _ _ st7 fun b hb o q => (I10.pin (b, o) (List.mem_append_right _ (List.mem_append_right _ (mem_pinsAt hb q)))).1, fun b hb => ?_, w9⟩
      obtain ⟨o, q, d⟩ := T.obj _ _ st7 b hb
      exact (I10.pin (b, o) (List.mem_append_right _ (List.mem_append_right _ (mem_pinsAt hb q)))).2.1
  subst hS3
  exact codeAny_compStart_list loop (T.self X.A 0 _ _ _ st3 loop)
theorem pe_comp (tn : List Str) (cap : List (Str × Nat)) (hi : PI X tg iter wi) (hg : ∀ C fp s H, PG (cxComp X (tn ++ cap.map (·.1)) scope cl C fp s H) tg g) (he : ∀ C fp s H, PE (cxComp X (tn ++ cap.map (·.1)) scope cl C fp s H) elt te)
    (hc : X.calm = true) (hclos : closureFor scope X.env = pure cl) (hcell : ∀ y ∈ scope.names, y.2 ≠ .cell) (hk : scope.kind = .function) (hnames : ∀ y ∈ scope.names, y.2 = .local → scope.names.lookup y.1 = some .local)
    (hcl : ∀ x c, cl.lookup x = some c → X.env.cells.lookup x = some c)
    (hhas : ∀ C x, ((compEnvC scope cl C X.env).kindOf x = some .cell ∨ (compEnvC scope cl C X.env).kindOf x = some .free) → ∃ c, cl.lookup x = some c)
    (hcap : ∀ C, ∀ p ∈ cap, X.N[p.2]? = some p.1 ∧ X.env.scope.names.lookup p.1 = some .cell ∧ ((compEnvC scope cl C X.env).kindOf p.1 = some .cell ∨ (compEnvC scope cl C X.env).kindOf p.1 = some .free))
    (hs : ∀ v, foldedSetIterable iter X.env v = pure v) : PE X (.ListComp elt [⟨tg, iter, [], 0⟩] scope pos) (tComp wi tn.length cap g te) := by
  intro pins s σ H Q I h
  rw [eval_ListComp]
  refine wpAny_comprehension_free (use := none) rfl hs hclos hk hnames (thn (hi pins s σ H _ I h) fun v s1 h1 => thn h1 fun itv s2 h2 => ?_)
  obtain ⟨it, fp, tnn, J, H2, e, I2, T, st2, f2, q2⟩ := h2
  subst e
  refine comp_core0 (R := fun p H6 => Q (.ref p) H6) tn cap hg he hc hcell hk hcl hhas hcap I2 T st2 f2 q2 fun s3 H3 I3 f3 acc σ6 H6 s6 I6 q6 => ?_
  obtain ⟨m, hn, _⟩ := I6.loc
  refine ⟨m, hn, fun h' sb => ?_⟩
  have nC : ∀ b o, s3.heap.get? b = some o → b ≠ s3.heap.objs.size := fun b o q => Nat.ne_of_lt (Heap.lt_size q)
  have u : Un (frs X.stack) fp H3 H6 s3.heap h' := by
    have u0 := I6.base
    refine ⟨fun b o q n hb hx => (sb.2 b (nC b o q)).trans (u0.keep b o q n hb hx), fun b o q n hb hx => ?_, u0.free, fun b o q hx => ?_, u0.tups, u0.frzs, u0.tbls⟩
    · obtain ⟨sl, e⟩ := u0.slot b o q n hb hx
      exact ⟨sl, (sb.2 b (nC b o q)).trans e⟩
    · obtain ⟨o', e⟩ := u0.there b o q hx
      exact ⟨o', (sb.2 b (nC b o q)).trans e⟩
  have free6 : H6 s3.heap.objs.size = none := I6.free
  have ok6 : HOk X.prog X.w H6 h' := fun b o q => (I6.hok b o q).stay (fun c v hcv r => (sb.2 c (by
    rcases hcv with z | z
    · rw [z]
      exact ne_of_none q free6
    · exact ne_of_none z free6)).trans r) (fun _ q => q) fun _ _ q => q
  have I' := I3.call (g' := s6.gens) (d' := s6.drawn) (t' := s6.toks) (ch := fp) u ok6 I6.bare fun b hb => ⟨(f3 b hb).2.2.2.1, (f3 b hb).2.1, (f3 b hb).2.2.2.2.1, (f3 b hb).2.2.2.2.2⟩
  have e : ({ s6 with heap := h' } : Shared) = { s3 with heap := h', gens := s6.gens, drawn := s6.drawn, toks := s6.toks } := by
    have ho : s6.os = s3.os := I6.os
    obtain ⟨a1, a2, a3, a4, a5⟩ := s6
    obtain ⟨b1, b2, b3, b4, b5⟩ := s3
    simp only at ho
    subst ho
    rfl
  rw [e]
  exact ⟨.ref _, H6, I', rfl, q6⟩
end
end L2

/-! [elt for tg in iter if ct] -/
namespace L2
open PySem PySem.Spec PyProof.Rows
end L2

/-! < of lists and of tuples, place by place, of data at any depth -/
namespace PySem.SeqAt
open AutoSeq1 (wpAny_loadPart')
open MeetsSeq MeetsSeq2 MeetsSeq3 SeqRoads2
end PySem.SeqAt

/-! < of data: one relation for ints, texts, lists and tuples of them -/
namespace L2
open PySem PySem.Spec PyProof.Rows PySem.SeqAt
end L2

/-! min(l, key=f, default=d) over a list, the key a def of the text -/
namespace L2
open PySem PySem.Spec PyProof.Rows PySem.SeqAt
end L2
namespace L2
open PySem PySem.Spec PyProof.Rows PySem.SeqAt
end L2
namespace L2
open PySem PySem.Spec PyProof.Rows PySem.SeqAt
end L2
namespace L2
open PySem PySem.Spec PyProof.Rows PySem.SeqAt
end L2

/-! the order of groves: the promises of rank, before, least_among -/
namespace Fg
open PySem L2 FgM PySem.SeqAt
def OkW (ws : List Str) : Prop := ∀ x ∈ ws, PyData.strOk x = true
end Fg

/-! == of groves, whatever their depth: the data of a grove -/
namespace L2
open PySem PySem.Spec PyProof.Rows
end L2
namespace Fg
open PySem L2 FgM
def dataG : Gr Str → List PyData
  | .nil => []
  | .cons t w o => .tuple [.str t, .tuple (dataG w)] :: dataG o
theorem dpG {K : PySem.W.Frag} {H : Hp} : ∀ {xs : List V} {g : Gr Str}, RepG H xs g → DpAll K H xs (dataG g)
  | _, _, .nil => .nil
  | _, _, .cons a b c d => .cons (.tup (SqT.of a) (.cons (.str _) (.cons (.tup (SqT.of b) (dpG c)) .nil))) (dpG d)
theorem depthG : ∀ g : Gr Str, PyData.depthAll (dataG g) ≤ (words SL g).length
  | .nil => Nat.zero_le _
  | .cons t w o => by
    have h1 := depthG w
    have h2 := depthG o
    show max (max 0 (max (PyData.depthAll (dataG w) + 1) 0) + 1) (PyData.depthAll (dataG o)) ≤ (words SL (.cons t w o)).length
    simp only [words, List.length_cons, List.length_append]
    (first | lia | omega)
theorem layG : ∀ g : Gr Str, OkW (words SL g) → PyData.canLayAll0 (dataG g) = true
  | .nil, _ => rfl
  | .cons t w o, h => by
    have ht : PyData.strOk t = true := h t (by simp [words])
    have hw : OkW (words SL w) := fun x hx => h x (by simp [words, hx])
    have ho : OkW (words SL o) := fun x hx => h x (by simp [words, hx])
    show ((PyData.strOk t && ((PyData.canLayAll0 (dataG w)) && true)) && PyData.canLayAll0 (dataG o)) = true
    rw [ht, layG w hw, layG o ho]
    rfl
end Fg

namespace L2
open PySem PySem.Spec PyProof.Rows PySem.SeqAt
/-! list(reversed(l)) -/
end L2

/-! the reading of [e for x in l], and what a block without captured names is -/
namespace L2
open PySem PySem.Spec PyProof.Rows
def CW (n : Nat) (Pv : Nat → List V → St → Hp → Prop) : Nat → Nat → List V → St → Hp → Prop := fun i m ys σ H => m = n - i ∧ i ≤ n ∧ Pv i ys σ H
theorem CW.next {n i : Nat} {Pv : Nat → List V → St → Hp → Prop} {ys : List V} {σ : St} {H : Hp} (hi : i < n) (h : Pv (i + 1) ys σ H) : ∃ m', m' < n - i ∧ CW n Pv (i + 1) m' ys σ H := ⟨_, by (first | lia | omega), rfl, hi, h⟩
theorem comp_list {K : PySem.W.Frag} {a p : Addr} {xs : List V} {g : TG} {te : TE} {R : Hp → Prop} {σ0 : St} {H0 : Hp} (Pv : Nat → List V → St → Hp → Prop) (h0 : Pv 0 [] σ0 H0)
    (hl : ∀ i ys σ H, i ≤ xs.length → Pv i ys σ H → SqL K H a xs ∧ H p = some (.lst ys))
    (hs : ∀ i ys x σ H, i < xs.length → xs[i]? = some x → Pv i ys σ H → g x σ H fun σ3 H4 => te σ3 H4 fun v H5 => H5 p = some (.lst ys) ∧ ys.length < sizeLine ∧ ∃ m', m' < xs.length - i ∧ CW xs.length Pv (i + 1) m' (ys ++ [v]) σ3 (upd H5 p (.lst (ys ++ [v]))))
    (hd : ∀ ys σ H, Pv xs.length ys σ H → R H) :
    ∃ W : Nat → Nat → List V → St → Hp → Prop, (∃ m, W 0 m [] σ0 H0) ∧ ∀ i m ys σc H2, W i m ys σc H2 → H2 p = some (.lst ys) ∧ (((Itl K a).stop i H2 ∧ R H2) ∨ ((Itl K a).go i H2 ∧ ∀ x H3, (Itl K a).yld i H2 x H3 → g x σc H3 fun σ3 H4 => te σ3 H4 fun v H5 =>
      H5 p = some (.lst ys) ∧ ys.length < sizeLine ∧ ∃ m', m' < m ∧ W (i + 1) m' (ys ++ [v]) σ3 (upd H5 p (.lst (ys ++ [v]))))) := by
  refine ⟨CW xs.length Pv, ⟨_, rfl, Nat.zero_le _, h0⟩, ?_⟩
  rintro i m ys σ H ⟨rfl, hi, hp⟩
  obtain ⟨h1, h2⟩ := hl i ys σ H hi hp
  refine ⟨h2, ?_⟩
  by_cases hlt : i < xs.length
  · refine .inr ⟨⟨xs, xs[i], h1, List.getElem?_eq_getElem hlt⟩, ?_⟩
    rintro x H3 ⟨rfl, hx⟩
    exact hs i ys x σ _ hlt (hx xs h1) hp
  · refine .inl ⟨⟨xs, h1, by (first | lia | omega)⟩, hd ys σ H ?_⟩
    have e : i = xs.length := by (first | lia | omega)
    rw [← e]
    exact hp
end L2
namespace FgM
theorem can_words {A : Type} [DecidableEq A] {sl : A} : ∀ {g : Gr A} {n : Nat} {ws : List A}, Clean sl g → Can sl n ws → Can sl n (words sl g ++ ws)
  | .nil, _, _, _, h => h
  | .cons t w o, n, ws, ⟨h1, h2, h3⟩, h => by
    have e : words sl (.cons t w o) ++ ws = t :: (words sl w ++ sl :: (words sl o ++ ws)) := by simp [words]
    rw [e, can_tag h1]
    exact can_words h2 (can_end.mpr ⟨by (first | lia | omega), can_words h3 (by simpa using h)⟩)
end FgM

/-! x = [elt for tg in iter], x = [elt for tg in iter if ct]: the name is bound ahead of the block's end -/
namespace L2
open PySem PySem.Spec PyProof.Rows
end L2
namespace L2
open PySem PySem.Spec PyProof.Rows
end L2

namespace L2
open PySem PySem.Spec PyProof.Rows

/-! ### lists of pairs as tables -/
section
variable {κ : Type} [DecidableEq κ]
def valV (kvs : List (κ × V)) (k : κ) : Option V := (kvs.find? fun kv => decide (kv.1 = k)).map (·.2)
/-- in its place, or at the end -/
def putK (kvs : List (κ × V)) (k : κ) (v : V) : List (κ × V) :=
  if (kvs.any fun kv => decide (kv.1 = k)) = true then kvs.map (fun kv => if kv.1 = k then (kv.1, v) else kv) else kvs ++ [(k, v)]
theorem valV_pos {p : κ × V} {r : List (κ × V)} {k : κ} (e : p.1 = k) : valV (p :: r) k = some p.2 := by simp [valV, List.find?_cons, e]
theorem valV_neg {p : κ × V} {r : List (κ × V)} {k : κ} (e : ¬ p.1 = k) : valV (p :: r) k = valV r k := by simp [valV, List.find?_cons, e]
theorem valV_any (k : κ) : ∀ kvs : List (κ × V), (kvs.any fun kv => decide (kv.1 = k)) = (valV kvs k).isSome
  | [] => rfl
  | p :: r => by
    rw [List.any_cons]
    by_cases e : p.1 = k
    · simp only [valV_pos e, decide_eq_true e, Bool.true_or, Option.isSome_some]
    · rw [valV_neg e, decide_eq_false e, Bool.false_or]; exact valV_any k r
theorem length_putK (kvs : List (κ × V)) (k : κ) (v : V) : (putK kvs k v).length ≤ kvs.length + 1 := by
  unfold putK
  split
  · rw [List.length_map]; (first | lia | omega)
  · rw [List.length_append, List.length_cons, List.length_nil]; (first | lia | omega)
theorem putK_new {kvs : List (κ × V)} {k : κ} (v : V) (h : valV kvs k = none) : putK kvs k v = kvs ++ [(k, v)] := by
  unfold putK
  rw [valV_any, h]
  exact if_neg (by decide)

theorem RelO.isSome_eq {o : Option V} {u : Option Value} (r : RelO o u) : o.isSome = u.isSome := by
  cases o with
  | none => cases u with
    | none => rfl
    | some _ => exact (show False from r).elim
  | some _ => cases u with
    | none => exact (show False from r).elim
    | some _ => rfl
/-- raw tables of the same keys -/
theorem KV.val {kvs : List (κ × V)} {vs : List (κ × Value)} (r : KV kvs vs) (k : κ) : RelO (valV kvs k) (valueAt vs k) := by
  unfold KV at r
  induction r with
  | nil => exact True.intro
  | @cons p q ps qs h t ih =>
    obtain ⟨h1, h2⟩ := h
    by_cases e : p.1 = k
    · have e' : q.1 = k := h1.symm.trans e
      have b : valueAt (q :: qs) k = some q.2 := by simp [valueAt, List.find?_cons, e']
      rw [valV_pos e, b]; exact h2
    · have e' : ¬ q.1 = k := fun z => e (h1.trans z)
      have b : valueAt (q :: qs) k = valueAt qs k := by simp [valueAt, List.find?_cons, e']
      rw [valV_neg e, b]; exact ih
theorem KV.any {kvs : List (κ × V)} {vs : List (κ × Value)} (r : KV kvs vs) (k : κ) : (kvs.any fun kv => decide (kv.1 = k)) = vs.any fun kv => decide (kv.1 = k) := by
  unfold KV at r
  induction r with
  | nil => rfl
  | cons h t ih => rw [List.any_cons, List.any_cons, ih, h.1]
theorem KV.repl {kvs : List (κ × V)} {vs : List (κ × Value)} (r : KV kvs vs) (k : κ) {y : V} {u : Value} (ry : RelV y u) :
    KV (kvs.map fun kv => if kv.1 = k then (kv.1, y) else kv) (vs.map fun kv => if kv.1 = k then (kv.1, u) else kv) := by
  unfold KV at r ⊢
  induction r with
  | nil => exact .nil
  | @cons p q ps qs h t ih =>
    rw [List.map_cons, List.map_cons]
    refine .cons ?_ ih
    obtain ⟨h1, h2⟩ := h
    by_cases e : p.1 = k
    · rw [if_pos e, if_pos (h1.symm.trans e)]; exact ⟨h1, ry⟩
    · rw [if_neg e, if_neg (fun z => e (h1.trans z))]; exact ⟨h1, h2⟩
theorem KV.put {kvs : List (κ × V)} {vs : List (κ × Value)} (r : KV kvs vs) (k : κ) {y : V} {u : Value} (ry : RelV y u) : KV (putK kvs k y) (stored vs k u) := by
  unfold putK stored
  rw [r.any k]
  by_cases e : (vs.any fun kv => decide (kv.1 = k)) = true
  · rw [if_pos e, if_pos e]; exact r.repl k ry
  · rw [if_neg e, if_neg e]; exact Paired.snoc r ⟨rfl, ry⟩
theorem KV.length {kvs : List (κ × V)} {vs : List (κ × Value)} (r : KV kvs vs) : kvs.length = vs.length := Paired.length r
end


/-! ### a tracked dict, its keys ints and texts or tuples of these -/
theorem kV_is {P : Program} {w : World} {k : Key} {u : Value} (r : RelV (kV k) u) : (mixKind P w).is k u = true := by
  cases k with
  | inl i => obtain ⟨t, e⟩ := (show ∃ t, u = Value.int i t from r); subst e; exact mixKind_int P w i t
  | inr x => obtain ⟨t, e⟩ := (show ∃ t, u = Value.str x t from r); subst e; exact mixKind_str P w x t
theorem items_are {P : Program} {w : World} : ∀ {ks : List Key} {us : List Value}, Vals (ks.map kV) us → ItemsAre (mixKind P w) ks us
  | [], _, r => by rw [List.map_nil] at r; cases r; exact .nil
  | k :: ks, _, r => by
    rw [List.map_cons] at r
    cases r with
    | cons h t => exact .cons (kV_is h) (items_are t)

/-- raw entries of a dict with tuple keys -/
abbrev KT (H : Hp) : List (List Key × V) → List (List Key × Addr × Value) → Prop := Paired fun p q => p.1 = q.1 ∧ H q.2.1 = some (.tup (p.1.map kV)) ∧ RelV p.2 q.2.2
theorem KT.val {H : Hp} {kvs : List (List Key × V)} {xs : List (List Key × Addr × Value)} (r : KT H kvs xs) (k : List Key) : RelO (valV kvs k) ((atKey xs k).map (·.2)) := by
  induction r with
  | nil => exact True.intro
  | @cons p q ps qs h t ih =>
    obtain ⟨h1, _, h2⟩ := h
    by_cases e : p.1 = k
    · have e' : q.1 = k := h1.symm.trans e
      have b : atKey (q :: qs) k = some q.2 := by simp [atKey, List.find?_cons, e']
      rw [valV_pos e, b]; exact h2
    · have e' : ¬ q.1 = k := fun z => e (h1.trans z)
      have b : atKey (q :: qs) k = atKey qs k := by simp [atKey, List.find?_cons, e']
      rw [valV_neg e, b]; exact ih
theorem KT.repl {H : Hp} {kvs : List (List Key × V)} {xs : List (List Key × Addr × Value)} (r : KT H kvs xs) (k : List Key) {y : V} {u : Value} (ry : RelV y u) :
    KT H (kvs.map fun kv => if kv.1 = k then (kv.1, y) else kv) (xs.map (putAt k u)) := by
  induction r with
  | nil => exact .nil
  | @cons p q ps qs h t ih =>
    rw [List.map_cons, List.map_cons]
    refine .cons ?_ ih
    obtain ⟨h1, h2, h3⟩ := h
    unfold putAt
    by_cases e : p.1 = k
    · rw [if_pos e, if_pos (h1.symm.trans e)]; exact ⟨h1, h2, ry⟩
    · rw [if_neg e, if_neg (fun z => e (h1.trans z))]; exact ⟨h1, h2, h3⟩
theorem KT.put {H : Hp} {kvs : List (List Key × V)} {xs : List (List Key × Addr × Value)} (r : KT H kvs xs) (k : List Key) {b : Addr} {y : V} {u : Value} (hb : H b = some (.tup (k.map kV))) (ry : RelV y u) :
    KT H (putK kvs k y) (storedH xs k b u) := by
  have e : (kvs.any fun kv => decide (kv.1 = k)) = (atKey xs k).isSome := by
    rw [valV_any, (r.val k).isSome_eq, Option.isSome_map]
  unfold putK storedH
  rw [e]
  by_cases q : (atKey xs k).isSome = true
  · rw [if_pos q, if_pos q]; exact r.repl k ry
  · rw [if_neg q, if_neg q]; exact Paired.snoc r ⟨rfl, hb, ry⟩
theorem KT.keeps {H H' : Hp} {kvs : List (List Key × V)} {xs : List (List Key × Addr × Value)} (r : KT H kvs xs) (ht : ∀ b ys, H b = some (.tup ys) → H' b = some (.tup ys)) : KT H' kvs xs :=
  Paired.mapP r fun _ _ z => ⟨z.1, ht _ _ z.2.1, z.2.2⟩

section
variable {P : Program} {w : World} {H : Hp} {h : Heap} {a : Addr}
theorem rd_of {u : HO} (ok : HOk P w H h) (e : Rd H a u) : ObjOk P w H h a u := e.ok ok
theorem dk_rd {kvs : List (Key × V)} (ok : HOk P w H h) (e : Rd H a (.dK kvs)) : kvs.length ≤ sizeLine ∧ (a == sysModules) = false ∧ ∃ vs, KV kvs vs ∧ h.DictOf (mixKind P w) a vs :=
  show ObjOk P w H h a (.dK kvs) from rd_of ok e
theorem dk_of {kvs : List (Key × V)} (ok : HOk P w H h) (e : H a = some (.dK kvs)) : kvs.length ≤ sizeLine ∧ (a == sysModules) = false ∧ ∃ vs, KV kvs vs ∧ h.DictOf (mixKind P w) a vs := dk_rd ok (.inl e)
/-- a tracked tuple of ints and texts is a key -/
theorem key_of {ks : List Key} (ok : HOk P w H h) (e : H a = some (.tup (ks.map kV))) : (tupleKind (mixKind P w)).is h ks a := by
  obtain ⟨_, its, r, o, h1, h2, n, h3⟩ := (show ObjOk P w H h a (.tup (ks.map kV)) from ok a _ e)
  exact ⟨o, its.toArray, n, h1, h2, h3, by simpa using items_are r⟩
theorem dt_rd {kvs : List (List Key × V)} (ok : HOk P w H h) (e : Rd H a (.dT kvs)) : kvs.length ≤ sizeLine ∧ (a == sysModules) = false ∧
    ∃ xs, KT H kvs xs ∧ h.DictOfH (tupleKind (mixKind P w)) a xs := by
  obtain ⟨z, y, xs, r, o, es, ep, h1, h2, h3, h4, h5⟩ := (show ObjOk P w H h a (.dT kvs) from rd_of ok e)
  refine ⟨z, y, xs, r, o, es, ep, h1, h2, h3, h4, fun x hx => ?_, h5⟩
  have all : ∀ {l : List (List Key × V)} {m : List (List Key × Addr × Value)}, KT H l m → ∀ x ∈ m, (tupleKind (mixKind P w)).is h x.1 x.2.1 := by
    intro l m q
    induction q with
    | nil => intro x hx; exact nomatch hx
    | @cons p q ps qs hq t ih =>
      intro x hx
      rcases List.mem_cons.mp hx with e | hx
      · subst e
        exact key_of ok (by rw [← hq.1]; exact hq.2.1)
      · exact ih x hx
  exact all r x hx
theorem dt_of {kvs : List (List Key × V)} (ok : HOk P w H h) (e : H a = some (.dT kvs)) : kvs.length ≤ sizeLine ∧ (a == sysModules) = false ∧
    ∃ xs, KT H kvs xs ∧ h.DictOfH (tupleKind (mixKind P w)) a xs := dt_rd ok (.inl e)
end

/-- what the dict at a holds at the key y -/
def DGet (H : Hp) (a : Addr) (y : V) (r : Option V) : Prop :=
  (∃ kvs k, Rd H a (.dK kvs) ∧ y = kV k ∧ r = valV kvs k) ∨ ∃ kvs k b, Rd H a (.dT kvs) ∧ y = .ref b ∧ H b = some (.tup (k.map kV)) ∧ r = valV kvs k
/-- the heap behind a[y] = v -/
def DPut (H : Hp) (a : Addr) (y v : V) (H' : Hp) : Prop :=
  (∃ kvs k, H a = some (.dK kvs) ∧ y = kV k ∧ kvs.length < sizeLine ∧ H' = upd H a (.dK (putK kvs k v))) ∨
  ∃ kvs k b, H a = some (.dT kvs) ∧ y = .ref b ∧ H b = some (.tup (k.map kV)) ∧ kvs.length < sizeLine ∧ H' = upd H a (.dT (putK kvs k v))
theorem DGet.k {H : Hp} {a : Addr} {kvs : List (Key × V)} {k : Key} (e : H a = some (.dK kvs)) : DGet H a (kV k) (valV kvs k) := .inl ⟨kvs, k, .inl e, rfl, rfl⟩
theorem DPut.k {H : Hp} {a : Addr} {kvs : List (Key × V)} {k : Key} {v : V} (e : H a = some (.dK kvs)) (hl : kvs.length < sizeLine) : DPut H a (kV k) v (upd H a (.dK (putK kvs k v))) := .inl ⟨kvs, k, e, rfl, hl, rfl⟩
section
variable {X : Cx} {pins : List (Addr × Obj)} {σ : St} {H : Hp} {s : Shared} {a : Addr} {y v : V} {u r : Value} {o : Option V} {A : Around} {E : Value → Shared → Prop}

theorem Inv.big (I : Inv X pins σ H s) : sysModules < s.heap.objs.size := by
  have h : mainGlobals < s.heap.objs.size := (I.mod.glob.keeps I.bk).lt
  exact Nat.lt_trans (by decide) h

/-- d[y], there -/
theorem d_getItem {Q : Value → Shared → Prop} (hu : A.units + 1 < cLine) (I : Inv X pins σ H s) (g : DGet H a y (some v)) (ry : RelV y u) (h : ∀ w' s', Inv X pins σ H s' → RelV v w' → Q w' s') :
    wpAny (model X.prog X.w) A (getItem (.ref a) u) Q E s := by
  rcases g with ⟨kvs, k, e, ey, l⟩ | ⟨kvs, k, b, e, ey, eb, l⟩
  · subst ey
    obtain ⟨z, hd, vs, rel, dd⟩ := dk_rd I.hok e
    obtain ⟨w', hw, rw'⟩ := RelO.some_of (v := v) (o := valueAt vs k) (by rw [l]; exact rel.val k)
    exact wpAny_getItem_of (kV_is ry) dd.mapOf hw (h w' _ (I.tok _) rw')
  · subst ey
    cases (show u = Value.ref b from ry)
    obtain ⟨z, hd, xs, rel, dd⟩ := dt_rd I.hok e
    obtain ⟨w', hw, rw'⟩ := RelO.some_of (v := v) (o := (atKey xs k).map (·.2)) (by rw [l]; exact rel.val k)
    obtain ⟨p, hp, hp2⟩ := Option.map_eq_some_iff.mp hw
    refine wpAny_getItem_heap (tupleKind_room_in1 hu) (key_of I.hok eb) dd hp ?_
    rw [hp2]
    exact h w' _ (I.tok _) rw'
theorem d_notIn {Q : Value → Shared → Prop} (hu : A.units + 1 < cLine) (I : Inv X pins σ H s) (g : DGet H a y o) (ry : RelV y u) (h : ∀ s', Inv X pins σ H s' → Q (.bool (!o.isSome)) s') :
    wpAny (model X.prog X.w) A (compareOp .NotIn u (.ref a)) Q E s := by
  rcases g with ⟨kvs, k, e, ey, l⟩ | ⟨kvs, k, b, e, ey, eb, l⟩
  · subst ey
    obtain ⟨z, hd, vs, rel, dd⟩ := dk_rd I.hok e
    refine wpAny_notIn_of (kV_is ry) hd dd.mapOf ?_
    rw [← (rel.val k).isSome_eq, ← l]
    exact h _ (I.tok _)
  · subst ey
    cases (show u = Value.ref b from ry)
    obtain ⟨z, hd, xs, rel, dd⟩ := dt_rd I.hok e
    refine wpAny_notIn_heap (tupleKind_room_in1 hu) (key_of I.hok eb) hd dd ?_
    have q := (rel.val k).isSome_eq
    rw [Option.isSome_map] at q
    rw [← q, ← l]
    exact h _ (I.tok _)
/-- a dict's object is replaced -/
theorem d_write {h' : Heap} {t' : Nat} {ob : HO} (I : Inv X pins σ H s) (mu : Mut (H a)) (hs : Heap.SameBut a s.heap h') (he : ∃ q, h'.get? a = some q) (new : ObjOk X.prog X.w (upd H a ob) h' a ob) :
    Inv X pins σ (upd H a ob) { s with heap := h', toks := t' } :=
  I.write (x := a) (e := a) mu (.inl rfl) (fun b q hb z => (hs.2 b hb).trans z) he new
theorem dk_new {P : Program} {w : World} {H' : Hp} {h' : Heap} {kvs : List (Key × V)} {vs : List (Key × Value)} (z : kvs.length ≤ sizeLine) (hd : (a == sysModules) = false) (rel : KV kvs vs) (dd : h'.DictOf (mixKind P w) a vs) :
    ObjOk P w H' h' a (.dK kvs) := ⟨z, hd, vs, rel, dd⟩
/-- d[y] = v -/
theorem d_setItem {H' : Hp} {Q : Unit → Shared → Prop} (hu : A.units + 1 < cLine) (I : Inv X pins σ H s) (g : DPut H a y v H') (ry : RelV y u) (rv : RelV v r) (h : ∀ s', Inv X pins σ H' s' → Q () s') :
    wpAny (model X.prog X.w) A (setItem (.ref a) u r) Q E s := by
  rcases g with ⟨kvs, k, e, ey, l, eH⟩ | ⟨kvs, k, b, e, ey, eb, l, eH⟩
  · subst ey eH
    obtain ⟨z, hd, vs, rel, dd⟩ := dk_of I.hok e
    have hz : vs.length ≤ sizeLine := by rw [← rel.length]; exact z
    have hl : (putK kvs k v).length ≤ sizeLine := by have := length_putK kvs k v; (first | lia | omega)
    refine wpAny_setItem_pairs (hsz := hz) (kV_is ry) dd fun h' dd' hs => h _ ?_
    have he : ∃ q, h'.get? a = some q := let ⟨q, _, _, hq, _⟩ := dd'; ⟨q, hq⟩
    exact d_write I (by rw [e]; exact True.intro) hs he (dk_new hl hd (rel.put k rv) dd')
  · subst ey eH
    cases (show u = Value.ref b from ry)
    obtain ⟨z, hd, xs, rel, dd⟩ := dt_of I.hok e
    have hz : xs.length ≤ sizeLine := by rw [← Paired.length rel]; exact z
    have hl : (putK kvs k v).length ≤ sizeLine := by have := length_putK kvs k v; (first | lia | omega)
    refine wpAny_setItem_heap (hsz := hz) (tupleKind_room_in1 hu) (key_of I.hok eb) dd fun h' dd' hs => h _ ?_
    obtain ⟨q, es, ep, hq, h2, h3, h4, _, h5⟩ := dd'
    refine d_write I (by rw [e]; exact True.intro) hs ⟨q, hq⟩ ⟨hl, hd, _, (rel.put k eb rv).keeps fun c ys ec => ?_, q, es, ep, hq, h2, h3, h4, h5⟩
    rw [upd_ne (ne_of ec e (fun z => nomatch z))]
    exact ec
end



/-! ### readings and rules -/
/-- the element of a subscription, not a slice -/
def NoSl (i : Expr) : Prop := ∀ ov iv, subscripted i false ov iv = operate [ov, iv] (getItem ov iv)
theorem subD_of {prog : Program} {w : World} {A : Around} {E : Value → Shared → Prop} {s : Shared} {env : Env} {value slice : Expr} {pos : Pos} {T id : String} {Q : Value → Shared → Prop}
    (hl : typeLookup (.type T) "__getitem__" = pure (some (.builtin id))) (hs : NoSl slice)
    (h : wpAny (model prog w) A (eval value env) (fun o s₁ => wpAny (model prog w) A (eval slice env) (fun i s₂ => s₂.TypeIs o T ∧ wpAny (model prog w) A (getItem o i) Q E s₂) E s₁) E s) :
    wpAny (model prog w) A (eval (.Subscript value slice pos) env) Q E s := by
  refine Subscript_ (wpAny_mono h (fun o s₁ h₁ => wpAny_mono h₁ (fun i s₂ h₂ => ?_) fun _ _ x => x) fun _ _ x => x)
  obtain ⟨hT, h₂⟩ := h₂
  unfold subscriptTail
  refine wpAny_bind ?_
  rw [getitemInPython_of_ne hT.not_modules]
  refine wpAny_bind (wpAny_specialOf hT hl ?_)
  have fin : wpAny (model prog w) A (subscripted slice false o i) (fun r s₃ => wpAny (model prog w) A (letTemporaryGo value o r >>= fun _ => pure r) Q E s₃) E s₂ := by
    rw [hs o i]
    exact wpAny_operating (wpAny_mono h₂ (fun r s₃ h₃ => wpAny_bind (wpAny_letTemporaryGo (wpAny_pure h₃))) fun _ _ x => x)
  first
    | exact wpAny_pure (wpAny_bind fin)
    | exact wpAny_bind (wpAny_pure (wpAny_bind fin))
    | exact wpAny_bind fin

theorem dict_typeIs {X : Cx} {pins : List (Addr × Obj)} {σ : St} {H : Hp} {s : Shared} {a : Addr} {y : V} {o : Option V} (I : Inv X pins σ H s) (g : DGet H a y o) : s.TypeIs (.ref a) "dict" := by
  rcases g with ⟨kvs, k, e, _, _⟩ | ⟨kvs, k, b, e, _, _, _⟩
  · obtain ⟨_, _, vs, _, dd⟩ := dk_rd I.hok e
    exact dd.typeIs
  · obtain ⟨_, _, xs, _, dd⟩ := dt_rd I.hok e
    exact dd.typeIs
/-- d[y] -/
def tDGet (td ty : TE) : TE := fun σ H Q => td σ H fun x H1 => ty σ H1 fun y H2 => ∃ a v, x = .ref a ∧ DGet H2 a y (some v) ∧ Q v H2
def tDNotIn (ty td : TE) : TE := fun σ H Q => ty σ H fun y H1 => td σ H1 fun x H2 => ∃ a o, x = .ref a ∧ DGet H2 a y o ∧ Q (.bl (!o.isSome)) H2
/-- d[y] = v -/
def sDPut (td ty tv : TE) : TS := fun D σ H => tv σ H fun v H1 => td σ H1 fun x H2 => ty σ H2 fun y H3 => ∃ a H4, x = .ref a ∧ DPut H3 a y v H4 ∧ D.nx σ H4
section
variable {X : Cx} {o i e value : Expr} {pos pos' tpos : Pos} {td ty tv : TE}
theorem pe_dget (hu : X.A.units + 1 < cLine) (ho : PE X o td) (hi : PE X i ty) (hs : NoSl i) : PE X (.Subscript o i pos) (tDGet td ty) := by
  intro pins s σ H Q I h
  refine subD_of PySem.F.slot_dict_getitem.lookup hs (thn (ho pins s σ H _ I h) fun u s1 ⟨x, H1, I1, rx, q1⟩ => thn (hi pins s1 σ H1 _ I1 q1) fun iv s2 ⟨y, H2, I2, ry, a, v, ex, g, q2⟩ => ?_)
  subst ex
  obtain rfl : u = Value.ref a := rx
  exact ⟨dict_typeIs I2 g, d_getItem hu I2 g ry fun w' s3 I3 rw' => ⟨v, H2, I3, rw', q2⟩⟩
theorem pc_dnotin (hu : X.A.units + 1 < cLine) (hi : PE X i ty) (ho : PE X o td) : PC X .NotIn i o (tDNotIn ty td) := by
  intro pins s σ H Q I h
  refine thn (hi pins s σ H _ I h) fun iv s1 ⟨y, H1, I1, ry, q1⟩ => thn (ho pins s1 σ H1 _ I1 q1) fun u s2 ⟨x, H2, I2, rx, a, ov, ex, g, q2⟩ => ?_
  subst ex
  obtain rfl : u = Value.ref a := rx
  exact d_notIn hu I2 g ry fun s3 I3 => ⟨.bl (!ov.isSome), H2, I3, rfl, q2⟩
theorem ps_dput (hu : X.A.units + 1 < cLine) (ho : PE X o td) (hi : PE X i ty) (hv : PE X value tv) (hs : swapsWith value (some (.Subscript o i pos')) pos.line X.env = pure false) :
    PS X (.Assign [.Subscript o i pos'] value pos) (sDPut td ty tv) := by
  intro pins s σ H D I h
  refine wpAny_Assign_Subscript (thn (hv pins s σ H _ I h) fun r s1 ⟨v, H1, I1, rv, q1⟩ => thn (ho pins s1 σ H1 _ I1 q1) fun u s2 ⟨x, H2, I2, rx, q2⟩ => thn (hi pins s2 σ H2 _ I2 q2) fun iv s3 ⟨y, H3, I3, ry, a, H4, ex, g, q3⟩ => ?_) hs
  subst ex
  obtain rfl : u = Value.ref a := rx
  exact d_setItem hu I3 g ry rv fun s4 I4 => ⟨σ, H4, I4, q3⟩
end


/-! ### displays -/
theorem dk_empty {P : Program} {w : World} {H : Hp} (h : Heap) (hb : sysModules < h.objs.size) : ObjOk P w H (h.push { cls := .type "dict", data := .dict #[] }) h.objs.size (.dK []) :=
  ⟨Nat.zero_le _, beq_eq_false_iff_ne.mpr (Ne.symm (Nat.ne_of_lt hb)), [], .nil, Heap.DictOf.new h⟩
/-- {}, to be a dict of the kind that is wanted -/
def tDNewK : TE := fun _ H Q => ∀ p, H p = none → Q (.ref p) (upd H p (.dK []))
section
variable {X : Cx} {pos : Pos}
theorem pe_dnewK : PE X (.Dict [] [] pos) tDNewK := fun pins s σ H Q I h =>
  wpAny_Dict_empty ⟨.ref s.heap.objs.size, _, I.laid (a := s.heap.objs.size) (o := .dK []) (t' := s.toks) (fun _ _ q => Heap.get?_push_of_some _ q) (Nat.le_refl _) (dk_empty s.heap I.big), rfl, h _ (I.hok.fresh (Nat.le_refl _))⟩
end

/-! ### methods -/


/-! ### dict(d): a copy -/


end L2
namespace L2
open PySem PySem.Spec PyProof.Rows
/-! ### a dict's pairs: keys that differ -/
end L2
/-! own classes: their methods and their making, as Has; a statement that is never come to; int(truth) -/
namespace L2
open PySem PySem.Spec PyProof.Rows
end L2
namespace L2
open PySem PySem.Spec PyProof.Rows
theorem call_intB {X : Cx} : CallR X (.type "int") (fun xs H Q => ∃ b, xs = [.bl b] ∧ Q (.int (if b = true then 1 else 0)) H) := by
  intro pins s σ H xs us Q I r h
  obtain ⟨b, rfl, q⟩ := h
  obtain ⟨u, rfl, ru⟩ := vals1 r
  cases ru
  exact call_int_bool ⟨.int (if b = true then 1 else 0), H, I.tok _, ⟨_, rfl⟩, q⟩
end L2

/-! for i, c in enumerate(text) -/
namespace L2
open PySem PySem.Spec PyProof.Rows
end L2

/-! t + u of tuples, == of lists of texts, groves behind one another -/
namespace L2
open PySem PySem.Spec PyProof.Rows
section
variable {X : Cx}
def rCatG (K : PySem.W.Frag) : R2 := fun x y H Q => ∃ l b xs zs, x = .ref l ∧ y = .ref b ∧ H l = some (.tup xs) ∧ H b = some (.tup zs) ∧ xs.length + zs.length ≤ sizeLine ∧ ∀ p H', Same H H' → H' p = some (.tup (xs ++ zs)) → Q (.ref p) H'
theorem op_catG : OpR X (binaryOp .Add) (rCatG X.K) := by
  intro pins s σ H x y v u Q I rx ry h
  obtain ⟨l, b, xs, zs, rfl, rfl, hl, hb, hz, q⟩ := h
  cases rx
  cases ry
  obtain ⟨its, r, p1, z1⟩ := I.tuple (SqT.of hl)
  obtain ⟨its2, r2, p2, z2⟩ := I.tuple (SqT.of hb)
  obtain ⟨⟨c1, d1, t1, s1⟩, ho, hc, n, hd⟩ := p1
  obtain ⟨⟨c2, d2, t2, s2⟩, ho2, hc2, n2, hd2⟩ := p2
  simp only at hc hd hc2 hd2
  subst hc hd hc2 hd2
  have k1 := r.length
  have k2 := r2.length
  by_cases e1 : its = []
  · subst e1
    cases r
    refine concat_meets ⟨_, ho, rfl⟩ ⟨_, ho2, rfl⟩ noFill_tuple_add seq_tuple_add PySem.F.slot_tuple_add PySem.F.entry_tuple_add (PySem.F.args_tuple_add_2 _ _) (tuple_addW0 l b _ _ n n2 d1 d2 s1 s2 rfl) ⟨ho, ho2, ?_⟩
    exact ⟨.ref b, H, I.tok _, rfl, q b H (Same.refl H) hb⟩
  by_cases e2 : its2 = []
  · subst e2
    cases r2
    refine concat_meets ⟨_, ho, rfl⟩ ⟨_, ho2, rfl⟩ noFill_tuple_add seq_tuple_add PySem.F.slot_tuple_add PySem.F.entry_tuple_add (PySem.F.args_tuple_add_2 _ _) (tuple_addW1 l b _ _ n n2 d1 d2 s1 s2 (by simpa using e1) rfl) ⟨ho, ho2, ?_⟩
    exact ⟨.ref l, H, I.tok _, rfl, q l H (Same.refl H) (by rw [List.append_nil]; exact hl)⟩
  · refine concat_meets ⟨_, ho, rfl⟩ ⟨_, ho2, rfl⟩ noFill_tuple_add seq_tuple_add PySem.F.slot_tuple_add PySem.F.entry_tuple_add (PySem.F.args_tuple_add_2 _ _) (tuple_addW2 l b _ _ n n2 d1 d2 s1 s2 (by simpa using e1) (by simpa using e2) (by rw [List.size_toArray, List.size_toArray]; (first | lia | omega))) ⟨ho, ho2, ?_⟩
    have ea : its.toArray ++ its2.toArray = (its ++ its2).toArray := by simp
    rw [ea]
    have hf : H s.heap.objs.size = none := I.hok.fresh (Nat.le_refl _)
    refine ⟨.ref s.heap.objs.size, upd H s.heap.objs.size (.tup (xs ++ zs)), I.laid (t' := s.toks) (fun b u e => Heap.get?_push_of_some _ e) (Nat.le_refl _) ?_, rfl, q _ _ (Same.new hf) upd_same⟩
    exact ⟨by rw [List.length_append]; exact hz, its ++ its2, r.append r2, _, Heap.get?_push_size _ rfl, rfl, _, rfl⟩
end
end L2
namespace Fg
open PySem L2 FgM
end Fg
namespace FgM
section
variable {A : Type}
def gapp : Gr A → Gr A → Gr A
  | .nil, h => h
  | .cons t w o, h => .cons t w (gapp o h)
theorem words_gapp (sl : A) : ∀ g h : Gr A, words sl (gapp g h) = words sl g ++ words sl h
  | .nil, h => rfl
  | .cons t w o, h => by simp [gapp, words, words_gapp sl o h]
variable [DecidableEq A]
end
end FgM
namespace Fg
open PySem L2 FgM
end Fg

/-! recursion's ground, constants of the module, == of tuples by their lengths, blocks with captured names -/
namespace L2
open PySem PySem.Spec PyProof.Rows
theorem FnOk.none {P : Program} {w : World} {K : PySem.W.Frag} {mg : Str → Option Value} {base : Heap} {CX : CXT} {k : Nat} {f : Addr} {fd : FuncData} {ps : List Str} {sp : Sp} (h : ∀ vs H Q E, ¬ sp vs H Q E) : FnOk P w K mg base CX k f fd ps sp :=
  ⟨fun vs H Q E z => absurd z (h vs H Q E), fun A outer s H args us vs Q E hr e0 hb r z => absurd z (h vs H Q E)⟩
/-! captured names -/
theorem lookup_mem {β : Type} {x : Str} {c : β} : ∀ {l : List (Str × β)}, l.lookup x = some c → (x, c) ∈ l
  | [], h => by cases h
  | (y, d) :: l, h => by
    rw [List.lookup_cons] at h
    cases e : x == y with
    | true =>
      rw [e] at h
      cases h
      rw [beq_iff_eq.mp e]
      exact List.mem_cons_self ..
    | false =>
      rw [e] at h
      exact List.mem_cons_of_mem _ (lookup_mem h)
theorem cap_cl {env : Env} {cl : List (Str × Addr)} (h : ∀ p ∈ cl, env.cells.lookup p.1 = some p.2) : ∀ x c, cl.lookup x = some c → env.cells.lookup x = some c := fun x c e => h (x, c) (lookup_mem e)
theorem cap_has {scope : Scope} {env : Env} {cl : List (Str × Addr)} (h : ∀ y ∈ scope.names, (y.2 = .cell ∨ y.2 = .free) → ∃ c, cl.lookup y.1 = some c) : ∀ (C : Addr) (x : Str), ((compEnvC scope cl C env).kindOf x = some .cell ∨ (compEnvC scope cl C env).kindOf x = some .free) → ∃ c, cl.lookup x = some c := by
  have key : ∀ (k : NameKind) (x : Str), (k = .cell ∨ k = .free) → (scope.names.map fun (n, k) => if (k == .free && env.scope.kind == .function && env.kindOf n == some .cell) then (n, .cell) else (n, k)).lookup x = some k → ∃ c, cl.lookup x = some c := by
    intro k x hk e
    obtain ⟨⟨n, k0⟩, hy, he⟩ := List.mem_map.mp (lookup_mem e)
    by_cases hc : (k0 == .free && env.scope.kind == .function && env.kindOf n == some .cell) = true
    · simp only [hc, if_true] at he
      have h0 : k0 = .free := by
        simp only [Bool.and_eq_true] at hc
        have := hc.1.1
        cases k0 <;> first | rfl | exact absurd this (by decide)
      injection he with e1 e2
      subst e1
      exact h _ hy (.inr h0)
    · simp only [hc] at he
      injection he with e1 e2
      subst e1 e2
      exact h _ hy hk
  intro C x hx
  rcases hx with e | e
  · exact key _ x (.inl rfl) e
  · exact key _ x (.inr rfl) e
end L2
namespace L2
open PySem PySem.Spec PyProof.Rows
end L2

/-! a block's parts by names of their own (what comes behind a statement is then one word in a proof) -/
namespace L2
open PySem PySem.Spec PyProof.Rows
def sBody : Stmt → List Stmt
  | .For _ _ b _ _ => b
  | .While _ b _ _ => b
  | .If _ b _ _ => b
  | _ => []
def sElse : Stmt → List Stmt
  | .If _ _ b _ => b
  | _ => []
theorem hideI {X : Cx} {b : List Stmt} {D : Ends} {σ : St} {H : Hp} (s : List Stmt) {t : TS} (h : PSs X s t) (k : ∀ u, PSs X s u → u = t → ∃ t, PSs X b t ∧ t D σ H) : ∃ t, PSs X b t ∧ t D σ H := k t h rfl
theorem by_eq {u t : TS} (e : u = t) {D : Ends} {σ : St} {H : Hp} (h : t D σ H) : u D σ H := e ▸ h
theorem len1 {α : Type} : ∀ {us : List α}, us.length = 1 → ∃ a, us = [a]
  | [a], _ => ⟨a, rfl⟩
theorem lenS {α : Type} {n : Nat} : ∀ {us : List α}, us.length = n + 1 → ∃ a vs, us = a :: vs ∧ vs.length = n
  | a :: vs, h => ⟨a, vs, rfl, Nat.succ.inj h⟩
theorem len2 {α : Type} {us : List α} (h : us.length = 2) : ∃ a b, us = [a, b] := by
  obtain ⟨a, vs, rfl, h2⟩ := lenS h
  obtain ⟨b, rfl⟩ := len1 h2
  exact ⟨a, b, rfl⟩
theorem len3 {α : Type} {us : List α} (h : us.length = 3) : ∃ a b c, us = [a, b, c] := by
  obtain ⟨a, vs, rfl, h2⟩ := lenS h
  obtain ⟨b, c, rfl⟩ := len2 h2
  exact ⟨a, b, c, rfl⟩
theorem len4 {α : Type} {us : List α} (h : us.length = 4) : ∃ a b c d, us = [a, b, c, d] := by
  obtain ⟨a, vs, rfl, h2⟩ := lenS h
  obtain ⟨b, c, d, rfl⟩ := len3 h2
  exact ⟨a, b, c, d, rfl⟩
theorem Vals.inv {v : V} {vs : List V} {us : List Value} (h : Vals (v :: vs) us) : ∃ u us', us = u :: us' ∧ RelV v u ∧ Vals vs us' := by
  cases h with
  | cons r t => exact ⟨_, _, rfl, r, t⟩
end L2

/-! exceptions of own classes: raised, passed on, caught -/
namespace L2
open PySem PySem.Spec PyProof.Rows
/-- the exception at e: its class, its own dict -/
def XO (e : Addr) (C : Value) (d : Option Addr) : Heap → Prop := fun h => ∃ oe vs, h.get? e = some oe ∧ oe.cls = C ∧ oe.dict = d ∧ oe.data = .fields vs ∧ 4 < vs.size
theorem XO.ext_ok {P : Program} {w : World} {H : Hp} {h : Heap} {e : Addr} {C : Value} {d : Option Addr} (x : XO e C d h) : ObjOk P w H h e (.ext (XO e C d)) := by
  refine ⟨x, ?_, fun h1 h2 p k => ?_⟩
  · obtain ⟨oe, _, ho, _⟩ := x
    exact ⟨oe, ho⟩
  · obtain ⟨oe, vs, ho, r⟩ := p
    exact ⟨oe, vs, k oe ho, r⟩
theorem upd_self {H : Hp} {a : Addr} {o : HO} (h : H a = some o) : upd H a o = H := by
  funext b
  unfold upd
  by_cases e : b = a
  · subst e; rw [if_pos rfl, h]
  · rw [if_neg e]
section
variable {X : Cx} {pins : List (Addr × Obj)} {σ : St} {H : Hp} {s : Shared} {e T : Addr} {C : Value} {d : Option Addr} {M : Model} {A : Around} {E : Value → Shared → Prop} {Q : Unit → Shared → Prop}
theorem Inv.xo (I : Inv X pins σ H s) (he : H e = some (.ext (XO e C d))) : XO e C d s.heap := (I.hok e _ he).1
/-- the exception's own object is changed -/
theorem Inv.poke {h' : Heap} {t' : Nat} (I : Inv X pins σ H s) (he : H e = some (.ext (XO e C d))) (k : ∀ b u, b ≠ e → s.heap.get? b = some u → h'.get? b = some u) (x : XO e C d h') : Inv X pins σ H { s with heap := h', toks := t' } := by
  have := I.write (x := e) (e := e) (o := .ext (XO e C d)) (h' := h') (t' := t') (by rw [he]; trivial) (.inl rfl) k (by obtain ⟨oe, _, ho, _⟩ := x; exact ⟨oe, ho⟩) x.ext_ok
  rwa [upd_self he] at this
/-- the head of the traceback -/
def XHead (X : Cx) (pins : List (Addr × Obj)) (H : Hp) (h : Heap) (e : Addr) (fl : Value) : Prop :=
  ∃ T oT ts oe vs, h.get? e = some oe ∧ oe.data = .fields vs ∧ vs[1]? = some (.ref T) ∧ FpOk X pins H T ∧ h.get? T = some oT ∧ oT.data = .fields ts ∧ ts[3]? = some fl
def XSt (X : Cx) (pins : List (Addr × Obj)) (H : Hp) (h : Heap) (e : Addr) : Prop := (∃ oe vs, h.get? e = some oe ∧ oe.data = .fields vs ∧ vs[1]? = some .none) ∨ XHead X pins H h e .none
theorem fld_up {h : Heap} {a : Addr} {o : Obj} {vs : Array Value} (i : Nat) (x : Value) (ho : h.get? a = some o) (hd : o.data = .fields vs) :
    (h.update a (Obj.mapFields (·.setIfInBounds i x))).get? a = some (o.mapFields (·.setIfInBounds i x)) := Heap.get?_update_self _ ho (Obj.isFreed_of_fields (Obj.data_mapFields hd _))
theorem dict_map (o : Obj) (f : Array Value → Array Value) : (o.mapFields f).dict = o.dict := by
  obtain ⟨c, d, dt, sl⟩ := o
  cases dt <;> rfl
theorem XO.put {h : Heap} (x : XO e C d h) (i : Nat) (v : Value) : XO e C d (h.update e (Obj.mapFields (·.setIfInBounds i v))) := by
  obtain ⟨oe, vs, ho, hc, hdd, hd, hz⟩ := x
  exact ⟨_, _, fld_up i v ho hd, (Obj.cls_mapFields ..).trans hc, (dict_map ..).trans hdd, Obj.data_mapFields hd _, by simpa using hz⟩
/-- the slots of the frames that run have changed -/
theorem Inv.slots {h' : Heap} (I : Inv X pins σ H s) (hs : Heap.SlotsOnly (frs X.stack) s.heap h') : Inv X pins σ H { s with heap := h' } := by
  refine I.call' (s' := { s with heap := h' }) (ch := []) rfl ⟨fun b o q n hb _ => (hs.2.1 b hb).trans q, fun b o q _ _ _ => hs.2.2 b o q, fun _ _ _ n _ => n, fun b o q _ => let ⟨sl, e⟩ := hs.2.2 b o q; ⟨_, e⟩, fun _ _ q => q, fun _ _ _ q => q, fun _ ps q => ⟨#[], by rw [q]; simp⟩⟩ ?_ I.bare (fun b z => absurd z (by simp))
  intro b o q
  have hfr := I.stkFree
  refine (I.hok b o q).stay (fun c u hc z => ?_) (fun _ z => z) (fun _ _ z => z)
  have hn : c ∉ frs X.stack := by
    intro hm
    rcases hc with rfl | hc
    · rw [hfr _ hm] at q; cases q
    · rw [hfr _ hm] at hc; cases hc
  exact (hs.2.1 c hn).trans z
theorem entry_ok {head : Value} {hadNext : Bool} (hA : A.frames = some (X.env :: X.outer)) (hstk : X.stack = X.env :: X.outer) (hf : X.env.frame = some X.env.locals) (I : Inv X pins σ H s) (he : H e = some (.ext (XO e C d)))
    (h : ∀ h', Inv X pins σ H { s with heap := h' } → XHead X pins H h' e (rawInt X.env.locals) → Q () { s with heap := h' }) :
    wpAny M A (frameOf X.env >>= fun a => entryPlaceOf X.env.locals hadNext >>= fun pl => EntryCells.newEntry head a .none (rawInt X.env.locals) .none pl >>= fun b => setField (.ref e) 1 b) Q E s := by
  have hl : s.heap.FunFrames X.base (X.env :: X.outer) := hstk ▸ I.stack
  refine wpAny_bind (wpAny_frameOf_fun hA hl hf fun h1 hs1 => ?_)
  have I1 : Inv X pins σ H { s with heap := h1 } := I.slots (by rw [hstk]; exact hs1)
  refine wpAny_bind (wpAny_entryPlaceOf fun pl hpl => ?_)
  unfold EntryCells.newEntry newFields
  refine wpAny_bind (wpAny_newObj_type ?_ (hpl.sizeOk5 _ _ _ _ _))
  generalize hob : ({ cls := Value.type "traceback", dict := none, data := Data.fields ([head, Value.ref X.env.locals, Value.none, rawInt X.env.locals, Value.none] ++ (if pl.isEmpty then List.replicate 6 Value.none else pl)).toArray } : Obj) = ob
  have I2 : Inv X pins σ H { s with heap := h1.push ob } := I1.kept (h' := h1.push ob) (t' := s.toks) fun b u q => Heap.get?_push_of_some _ q
  obtain ⟨oe, vs, ho, hc, hdd, hd, hz⟩ := I2.xo he
  refine wpAny_setField ho hd (by (first | lia | omega)) (h _ (I2.poke (t' := s.toks) he (fun b u hb q => (Heap.get?_update_other _ _ (Ne.symm hb)).trans q) ((I2.xo he).put 1 _)) ?_)
  have hT : (h1.push ob).get? h1.objs.size = some ob := Heap.get?_push_size _ (by rw [← hob]; rfl)
  have hne : e ≠ h1.objs.size := fun z => by
    have := I1.hok.lt he
    rw [z] at this
    exact absurd this (Nat.lt_irrefl _)
  refine ⟨h1.objs.size, ob, ([head, Value.ref X.env.locals, Value.none, rawInt X.env.locals, Value.none] ++ (if pl.isEmpty then List.replicate 6 Value.none else pl)).toArray, _, _, fld_up 1 _ ho hd, Obj.data_mapFields hd _, ?_, I1.fpOk (Nat.le_refl _) (I1.hok.fresh (Nat.le_refl _)), (Heap.get?_update_other _ _ hne).trans hT, ?_, ?_⟩
  · rw [Array.getElem?_setIfInBounds_self_of_lt (by (first | lia | omega))]
  · rw [← hob]
  · simp
theorem note_ok (hA : A.frames = some (X.env :: X.outer)) (hstk : X.stack = X.env :: X.outer) (hf : X.env.frame = some X.env.locals) (I : Inv X pins σ H s) (he : H e = some (.ext (XO e C d))) (x : XSt X pins H s.heap e)
    (h : ∀ h', Inv X pins σ H { s with heap := h' } → XHead X pins H h' e (rawInt X.env.locals) → Q () { s with heap := h' }) : wpAny M A (noteFrame (.ref e) X.env) Q E s := by
  unfold noteFrame
  simp only [hf]
  rcases x with ⟨oe, vs, ho, hd, h1⟩ | ⟨T, oT, ts, oe, vs, ho, hd, h1, fT, hT, hdT, h3⟩
  · refine wpAny_bind (wpAny_field ho hd h1 ?_)
    rw [if_neg (by decide)]
    exact entry_ok hA hstk hf I he h
  · refine wpAny_bind (wpAny_field ho hd h1 ?_)
    rw [if_pos (show (Value.ref T != Value.none) = true by simp)]
    refine wpAny_bind (wpAny_field hT hdT h3 ?_)
    rw [if_neg (show ¬ ((Value.none == rawInt X.env.locals) = true) by simp [rawInt])]
    refine wpAny_bind (wpAny_setField hT hdT (Array.getElem?_eq_some_iff.mp h3).1 ?_)
    obtain ⟨f0, f1, f2, f3, f4, f5⟩ := fT
    have I1 := I.turned (t' := s.toks) (h' := s.heap.update T (Obj.mapFields (·.setIfInBounds 3 Value.none))) (fun b u hb q => (Heap.get?_update_other _ _ (Ne.symm hb)).trans q) f0 f1 f3 f4 f5
    exact entry_ok hA hstk hf I1 he h
theorem land_ok {fl : Value} (I : Inv X pins σ H s) (he : H e = some (.ext (XO e C d))) (x : XHead X pins H s.heap e fl)
    (h : ∀ h', Inv X pins σ H { s with heap := h' } → XHead X pins H h' e .none → Q () { s with heap := h' }) : wpAny M A (setFlight (.ref e) none) Q E s := by
  obtain ⟨T, oT, ts, oe, vs, ho, hd, h1, fT, hT, hdT, h3⟩ := x
  unfold setFlight
  refine wpAny_bind (wpAny_field ho hd h1 ?_)
  rw [if_pos (show (Value.ref T != Value.none) = true by simp)]
  refine wpAny_setField hT hdT (Array.getElem?_eq_some_iff.mp h3).1 ?_
  obtain ⟨f0, f1, f2, f3, f4, f5⟩ := id fT
  have hne : T ≠ e := fun z => by subst z; rw [f0] at he; cases he
  refine h _ (I.turned (t' := s.toks) (fun b u hb q => (Heap.get?_update_other _ _ (Ne.symm hb)).trans q) f0 f1 f3 f4 f5) ⟨T, _, _, oe, vs, (Heap.get?_update_other _ _ hne).trans ho, hd, h1, fT, fld_up 3 _ hT hdT, Obj.data_mapFields hdT _, ?_⟩
  rw [Array.getElem?_setIfInBounds_self_of_lt (Array.getElem?_eq_some_iff.mp h3).1]
  rfl
end
/-- what a body wants of an exception, by its names' values -/
abbrev XKS := St → XK
/-- how an exception lies behind a call -/
def CXE (P : Program) (w : World) : CXT := fun outer H s E ev s' => ∃ (e : Addr) (C : Value) (d : Option Addr) (H' : Hp), ev = .ref e ∧ s'.os = s.os ∧ AllBare s'.gens ∧ Un (frs outer) [] H H' s.heap s'.heap ∧ HOk P w H' s'.heap ∧
  H' e = some (.ext (XO e C d)) ∧ s.heap.objs.size ≤ e ∧ (∃ T oT ts oe vs, s'.heap.get? e = some oe ∧ oe.data = .fields vs ∧ vs[1]? = some (.ref T) ∧ H' T = none ∧ s.heap.objs.size ≤ T ∧ s'.heap.get? T = some oT ∧ oT.data = .fields ts ∧ ts[3]? = some .none) ∧ E C d H'
def Takes (X : Cx) (E : XKS) : Prop := ∀ (pins : List (Addr × Obj)) (σ : St) (H : Hp) (s : Shared) (e : Addr) (C : Value) (d : Option Addr), Inv X pins σ H s → H e = some (.ext (XO e C d)) → (X.ex = [] → X.s₀.heap.objs.size ≤ e) → XSt X pins H s.heap e → E σ C d H → X.xe (.ref e) s
theorem takes_def {P : Program} {w : World} {K : PySem.W.Frag} {mg : Str → Option Value} {base : Heap} {N : List Str} {qual : Str} {scope : Scope} {f : Addr} {cd : Value} {A : Around} {outer : List Env} {s : Shared} {H : Hp} {E : XK} :
    Takes (cxOf (CXE P w) P w K mg base N qual scope f cd A outer s H E) (fun _ => E) := by
  intro pins σ H1 s1 e C d I he hy x hE
  show wpAny _ _ (leaving _ _) _ _ s1
  unfold leaving
  refine wpAny_bind (note_ok (X := cxOf (CXE P w) P w K mg base N qual scope f cd A outer s H E) I.ok.frames rfl rfl I he x fun h2 I2 x2 => land_ok I2 he x2 fun h3 I3 x3 => ?_)
  obtain ⟨T, oT, ts, oe, vs, ho, hd, h1, fT, hT, hdT, h3'⟩ := x3
  refine ⟨e, C, d, H1, rfl, I3.os, I3.bare, I3.base, I3.hok, he, hy rfl, ⟨T, oT, ts, oe, vs, ho, hd, h1, fT.1, ?_, hT, hdT, h3'⟩, hE⟩
  rcases fT.2.2.2.1 with z | z
  · exact absurd z (by show T ∉ ([] : List Addr); simp)
  · exact z
/-- a callee's exception comes to a body that takes it -/
theorem takes_pass {X : Cx} {E : XKS} (hT : Takes X E) {pins : List (Addr × Obj)} {σ : St} {H : Hp} {s s' : Shared} {ev : Value} (I : Inv X pins σ H s) (h : CXE X.prog X.w X.stack H s (E σ) ev s') : X.xe ev s' := by
  obtain ⟨e, C, d, H', rfl, os, bare, un, hok, he, hes, ⟨T, oT, ts, oe, vs, ho, hd, h1, hTn, hTs, hT', hdT, h3⟩, hE⟩ := h
  have I1 := I.call' (ch := []) os un hok bare (fun b z => absurd z (by simp))
  exact hT pins σ H' s' e C d I1 he (fun _ => Nat.le_trans I.sz hes) (.inr ⟨T, oT, ts, oe, vs, ho, hd, h1, I.fpOk hTs hTn, hT', hdT, h3⟩) hE
end L2

namespace L2
open PySem PySem.Spec PyProof.Rows
/-! ### callees that may raise -/
structure HasX (P : Program) (w : World) (K : PySem.W.Frag) (mg : Str → Option Value) (base : Heap) (x : Str) (ps : List Str) (k : Nat) (sp : Sp) : Prop where
  ex : ∃ (f : Addr) (fd : FuncData), FnOk P w K mg base (CXE P w) k f fd ps sp ∧ Binds K fd ps [] ∧ PySem.W.keepIn K (.ref f) = true ∧ mg x = some (.ref f)
def tCallS (sp : Sp) (E : XKS) (t : TA) : TE := fun σ H Q => t σ H fun vs H1 => sp vs H1 Q (E σ)
section
variable {X : Cx} {j k : Nat} {f : Addr} {fd : FuncData} {ps : List Str} {sp : Sp} {E : XKS} {x : Str} {p pos : Pos} {e : Expr} {es : List Expr} {t : TA}
theorem run_fnX {pins : List (Addr × Obj)} {σ : St} {H : Hp} {s : Shared} {Q : VK} {us : List Value} {vs : List V} (F : FnOk X.prog X.w X.K X.mg X.base (CXE X.prog X.w) k f fd ps sp) (hr : Room k X.A) (hb : Binds X.K fd ps []) (hT : Takes X E)
    (I : Inv X pins σ H s) (r : Vals vs us) (h : sp vs H Q (E σ)) : wpAny (model X.prog X.w) X.A (call (.ref f) us) (EP X pins σ Q) X.xe s := by
  have hl : us.length = ps.length := by rw [← r.length]; exact F.len _ _ _ _ h
  have hbb := hb s us I.kIn (by rw [List.append_nil]; exact hl)
  rw [List.append_nil] at hbb
  refine wpAny_call (codeAny_mono (F.run X.A X.stack s H ⟨us, []⟩ us vs Q (E σ) hr I.env0 hbb r h) fun r s' hq => ?_)
  cases r with
  | error e => exact takes_pass hT I hq
  | ok fl =>
    cases fl with
    | ret u => exact I.after hq
    | next => exact False.elim hq
    | brk => exact False.elim hq
    | cont => exact False.elim hq
theorem pe_hasX (G : HasX X.prog X.w X.K X.mg X.base x ps j sp) (hT : Takes X E) (hr : Room k X.A) (hg : Gl X x) (ha : PA X (e :: es) t) (hk : j ≤ k := by decide) (hdb : (x == ("__debug__" : Str)) = false := by decide)
    (he : starEach (e :: es) X.env = (false, eval e X.env) :: starEach es X.env := by rfl) (hpl : (backTo pos (starEach es X.env)).any (·.1) = false := by rfl) :
    PE X (.Call (.Name x p) (e :: es) [] pos) (tCallS sp E t) := by
  obtain ⟨f, fd, F, b, kp, m⟩ := G.ex
  intro pins s σ H Q I h
  refine wpAny_Call_Name_kw (ld_glob I hg m ?_ hdb)
  refine PySem.W.callWith_K (h₀ := X.base) I.ok.mod.kin kp (thn (ha pos pins s σ H _ I h) fun us s1 ⟨vs, H1, I1, r, q⟩ => ⟨I1.kIn, ?_⟩) he hpl
  exact run_fnX (F.room hk) hr b hT I1 r q
end
/-- a def of the text that may raise -/
theorem Fun.okX {P : Program} {w : World} {K : PySem.W.Frag} {mg : Str → Option Value} {base : Heap} {x qual : Str} {st : Stmt} {f : Addr} {fd : FuncData} {N ps : List Str} {k : Nat} {sp : Sp} (F : Fun K x qual st f fd) (S : FnScope N ps (defScope st)) (len : ∀ vs H Q E, sp vs H Q E → vs.length = ps.length)
    (hbody : ∀ (cdv : Value) (A : Around) (outer : List Env) (s : Shared) (H : Hp) (vs : List V) (Q : VK) (E : XK), Room k (A.deeper (envOfC qual (defScope st) s.heap.objs.size f cdv)) → sp vs H Q E →
      ∃ t, PSs (cxOf (CXE P w) P w K mg base N qual (defScope st) f cdv A outer s H E) (defBody st) t ∧ t { nx := fun _ H' => Q .non H', rt := Q } (start N vs) H) : FnOk P w K mg base (CXE P w) (k + 1) f fd ps sp := by
  obtain ⟨oc, od, kV, doc, pm, an, cdv, ct, osl, rfl, lk, hcd⟩ := F.ex
  exact fn_of lk hcd S len fun A outer s H vs Q E hr hsp => hbody cdv A outer s H vs Q E hr hsp
/-! ### which classes an except names -/
structure XCl (K : PySem.W.Frag) (D : Addr) : Prop where
  cl : PySem.W.isClsIn K D = true
  exc : PySem.W.mroIn K D (.type "BaseException") = some true
  nt : PySem.W.instIn K (.ref D) (.type "tuple") = some false
inductive Spec (K : PySem.W.Frag) (H : Hp) : V → List Addr → Prop
  | one {D : Addr} : XCl K D → Spec K H (.ref D) [D]
  | many {p : Addr} {Ds : List Addr} : SqT K H p (Ds.map V.ref) → (∀ D ∈ Ds, XCl K D) → Spec K H (.ref p) Ds
theorem vals_refs : ∀ {Ds : List Addr} {us : List Value}, Vals (Ds.map V.ref) us → us = Ds.map Value.ref
  | [], _, .nil => rfl
  | D :: Ds, _, .cons r t => by
    rw [vals_refs t]
    obtain rfl : _ = Value.ref D := r
    rfl
section
variable {M : Model} {A : Around} {E : Value → Shared → Prop} {s : Shared} {K : PySem.W.Frag} {D : Addr}
theorem XCl.isExc (x : XCl K D) (X : K.In s.heap) {Q : Bool → Shared → Prop} (h : Q true s) : wpAny M A (isExcClass (.ref D)) Q E s := by
  have hc := x.cl
  unfold PySem.W.isClsIn PySem.W.clsIn at hc
  split at hc
  · rename_i ho
    unfold isExcClass
    refine wpAny_bind ?_
    show wpAny M A (loadHead D >>= _) _ _ s
    refine wpAny_bind (wpAny_loadPart (X _ _ ho) (wpAny_pure ?_))
    dsimp only
    rw [if_pos rfl]
    exact (PySem.W.looks_mroIn X x.exc).here h
  · cases hc
theorem each_ok {g : Value → PUnit → Sem (ForInStep PUnit)} : ∀ (Ls : List Addr), (∀ D ∈ Ls, ∀ {Q : ForInStep PUnit → Shared → Prop}, Q (.yield PUnit.unit) s → wpAny M A (g (.ref D) PUnit.unit) Q E s) → ∀ {Q : PUnit → Shared → Prop}, Q PUnit.unit s → wpAny M A (forIn (Ls.map Value.ref) PUnit.unit g) Q E s
  | [], _, _, h => wpAny_pure h
  | D :: Ls, hg, _, h => by
    rw [List.map_cons, List.forIn_cons]
    exact wpAny_bind (hg D (List.mem_cons_self ..) (each_ok Ls (fun y hy => hg y (List.mem_cons_of_mem _ hy)) h))
theorem any_ok {f : Addr → Bool} {g : Value → Option Bool × Unit → Sem (ForInStep (Option Bool × Unit))} : ∀ (Ls : List Addr), (∀ D ∈ Ls, ∀ {Q : ForInStep (Option Bool × Unit) → Shared → Prop}, Q (if f D = true then .done (some true, ()) else .yield (none, ())) s → wpAny M A (g (.ref D) (none, ())) Q E s) →
    ∀ {Q : Option Bool × Unit → Shared → Prop}, Q (if Ls.any f = true then some true else none, ()) s → wpAny M A (forIn (Ls.map Value.ref) ((none, ()) : Option Bool × Unit) g) Q E s
  | [], _, _, h => wpAny_pure h
  | D :: Ls, hg, _, h => by
    rw [List.map_cons, List.forIn_cons]
    rw [List.any_cons] at h
    refine wpAny_bind (hg D (List.mem_cons_self ..) ?_)
    cases hf : f D with
    | true =>
      rw [hf] at h
      exact wpAny_pure h
    | false =>
      rw [hf] at h
      exact any_ok Ls (fun y hy => hg y (List.mem_cons_of_mem _ hy)) h
theorem em_ok {X : Cx} {pins : List (Addr × Obj)} {σ : St} {H : Hp} {f : Addr → Bool} {C e : Addr} {oe : Obj} {Q : Bool → Shared → Prop} {v : V} {u : Value} {Ds : List Addr} (I : Inv X pins σ H s) (hv : Spec X.K H v Ds) (r : RelV v u) (he : s.heap.get? e = some oe) (hc : oe.cls = .ref C)
    (hb : ∀ D ∈ Ds, PySem.W.mroIn X.K C (.ref D) = some (f D)) (h : Q (Ds.any f) s) : wpAny M A (excMatches (.ref e) u) Q E s := by
  cases hv with
  | @one D hD =>
    obtain rfl : u = Value.ref D := r
    unfold excMatches
    refine wpAny_bind ((PySem.W.looks_instIn I.kIn hD.nt).here ?_)
    dsimp only
    rw [if_neg Bool.false_ne_true]
    refine wpAny_bind (wpAny_pure ?_)
    refine wpAny_bind (each_ok [D] (fun y hy {Q} q => ?_) (wpAny_bind (wpAny_typeOf_ref he (wpAny_bind (any_ok (f := f) [D] (fun y hy {Q} q => ?_) ?_)))))
    · obtain rfl := List.mem_singleton.mp hy
      exact wpAny_bind (hD.isExc I.kIn (wpAny_pure q))
    · rw [hc]
      refine wpAny_bind ((PySem.W.looks_mroIn I.kIn (hb y hy)).here ?_)
      cases hf : f y with
      | true => rw [hf] at q; exact wpAny_pure q
      | false => rw [hf] at q; exact wpAny_pure q
    · cases hf : [D].any f with
      | true => rw [hf] at h; exact wpAny_pure h
      | false => rw [hf] at h; exact wpAny_pure h
  | @many p _ hp hD =>
    obtain rfl : u = Value.ref p := r
    obtain ⟨its, rv, ⟨o, ho, hcl, n, hd⟩, _⟩ := I.tuple hp
    unfold excMatches
    refine wpAny_bind (wpAny_isInstance (T := "tuple") ⟨o, ho, hcl⟩ (show isSubtype (.type "tuple") (.type "tuple") = pure true by rw [isSubtype_type]; kernel_rfl) ?_)
    dsimp only
    rw [if_pos rfl]
    refine wpAny_bind (wpAny_seqItems ho hd (wpAny_bind (wpAny_pure ?_)))
    have e1 : ((some its.toArray).getD #[]).toList = Ds.map Value.ref := by
      rw [← vals_refs rv]; rfl
    rw [e1]
    refine wpAny_bind (each_ok Ds (fun y hy {Q} q => ?_) (wpAny_bind (wpAny_typeOf_ref he (wpAny_bind (any_ok (f := f) Ds (fun y hy {Q} q => ?_) ?_)))))
    · exact wpAny_bind ((hD y hy).isExc I.kIn (wpAny_pure q))
    · rw [hc]
      refine wpAny_bind ((PySem.W.looks_mroIn I.kIn (hb y hy)).here ?_)
      cases hf : f y with
      | true => rw [hf] at q; exact wpAny_pure q
      | false => rw [hf] at q; exact wpAny_pure q
    · cases hf : Ds.any f with
      | true => rw [hf] at h; exact wpAny_pure h
      | false => rw [hf] at h; exact wpAny_pure h
end
end L2

namespace L2
open PySem PySem.Spec PyProof.Rows
/-! ### try -/
/-- the body of a try: the pins are borne by every state -/
abbrev Cx.tr (X : Cx) (pins : List (Addr × Obj)) (E : Value → Shared → Prop) : Cx := { X with pn := X.pn ++ pins, xe := E }
/-- an except's test or suite -/
abbrev Cx.hd (X : Cx) (e : Addr) : Cx := { X with A := X.A.mark (some (.ref e)), calm := false, xe := fun _ _ => False }
section
variable {X : Cx} {pins pins' : List (Addr × Obj)} {σ : St} {H : Hp} {s : Shared} {e : Addr} {E : Value → Shared → Prop}
theorem Inv.tr (I : Inv X pins σ H s) (E : Value → Shared → Prop) : Inv (X.tr pins E) [] σ H s :=
  ⟨⟨I.ok.mod, I.ok.kind, I.ok.glob, I.ok.blt, I.ok.above, I.ok.inj, I.ok.has, I.ok.cab, I.ok.hd, I.ok.frames, I.ok.stk, I.ok.exf, I.ok.bs, I.ok.bsz, I.ok.noex, I.ok.exfs, I.ok.funs, I.ok.frf⟩, I.os, I.bare, I.base, I.loc, I.cell, I.free, I.freeC, fun p hp => I.pin p (by simpa using hp), I.hok, I.len⟩
theorem Inv.untr (I : Inv (X.tr pins E) pins' σ H s) : Inv X pins σ H s :=
  ⟨⟨I.ok.mod, I.ok.kind, I.ok.glob, I.ok.blt, I.ok.above, I.ok.inj, I.ok.has, I.ok.cab, I.ok.hd, I.ok.frames, I.ok.stk, I.ok.exf, I.ok.bs, I.ok.bsz, I.ok.noex, I.ok.exfs, I.ok.funs, I.ok.frf⟩, I.os, I.bare, I.base, I.loc, I.cell, I.free, I.freeC, fun p hp => I.pin p (List.mem_append_left _ hp), I.hok, I.len⟩
theorem FpOk.untr {T : Addr} (f : FpOk (X.tr pins E) pins' H T) : FpOk X pins H T := ⟨f.1, f.2.1, f.2.2.1, f.2.2.2.1, f.2.2.2.2.1, fun p hp => f.2.2.2.2.2 p (List.mem_append_left _ hp)⟩
theorem Inv.hd (I : Inv X pins σ H s) (e : Addr) : Inv (X.hd e) pins σ H s :=
  ⟨⟨I.ok.mod, I.ok.kind, I.ok.glob, I.ok.blt, I.ok.above, I.ok.inj, I.ok.has, I.ok.cab, (fun z => nomatch z), I.ok.frames, I.ok.stk, I.ok.exf, I.ok.bs, I.ok.bsz, I.ok.noex, I.ok.exfs, I.ok.funs, I.ok.frf⟩, I.os, I.bare, I.base, I.loc, I.cell, I.free, I.freeC, I.pin, I.hok, I.len⟩
theorem Inv.unhd (I : Inv (X.hd e) pins σ H s) (ok : X.Ok) : Inv X pins σ H s := ⟨ok, I.os, I.bare, I.base, I.loc, I.cell, I.free, I.freeC, I.pin, I.hok, I.len⟩
theorem Inv.drop1 {p : Addr × Obj} (I : Inv X (p :: pins) σ H s) : Inv X pins σ H s := I.pins_of fun q hq => I.pin q (List.mem_append_right _ (List.mem_cons_of_mem _ hq))
theorem SP.untr {D : Ends} {f : Flow} {s' : Shared} (h : SP (X.tr pins E) pins' D f s') : SP X pins D f s' := by
  cases f with
  | next => obtain ⟨σ', H', I, q⟩ := h; exact ⟨σ', H', I.untr, q⟩
  | brk => obtain ⟨σ', H', I, q⟩ := h; exact ⟨σ', H', I.untr, q⟩
  | cont => obtain ⟨σ', H', I, q⟩ := h; exact ⟨σ', H', I.untr, q⟩
  | ret u => obtain ⟨v, σ', H', I, r, q⟩ := h; exact ⟨v, σ', H', I.untr, r, q⟩
end
/-- an object that is known -/
def Known (e : Addr) (oe : Obj) : HO := .ext fun h => h.get? e = some oe
theorem known_ok {P : Program} {w : World} {H : Hp} {h : Heap} {e : Addr} {oe : Obj} (x : h.get? e = some oe) : ObjOk P w H h e (Known e oe) := ⟨x, ⟨oe, x⟩, fun _ _ p k => k _ p⟩
abbrev THS := Ends → St → Hp → Addr → Obj → Prop
def PH (X : Cx) (hs : List ExceptHandler) (t : THS) : Prop := ∀ (pins : List (Addr × Obj)) (s : Shared) (σ : St) (H : Hp) (D : Ends) (e : Addr) (oe : Obj) (T : Addr) (oT : Obj) (ts vs : Array Value),
  Inv X ((T, oT) :: pins) σ H s → FpOk X pins H T → oe.data = .fields vs → vs[1]? = some (.ref T) → oT.data = .fields ts → ts[3]? = some .none → H e = some (Known e oe) → t D σ H e oe →
  wpAny (model X.prog X.w) X.A (handleBy (.ref e) X.env hs) (SP X pins D) X.xe s
def tTry (tb : XKS → TS) (th : THS) : TS := fun D σ H => ∃ E : XKS, tb E D σ H ∧ ∀ (σ' : St) (C : Value) (d : Option Addr) (H' : Hp) (e : Addr) (oe : Obj), E σ' C d H' → H' e = some (.ext (XO e C d)) → oe.cls = C → oe.dict = d → (∃ vs, oe.data = .fields vs) → th D σ' (upd H' e (Known e oe)) e oe
section
variable {X : Cx} {body : List Stmt} {h₀ : ExceptHandler} {hs rest : List ExceptHandler} {tb : XKS → TS} {th tr : THS} {pos : Pos}
theorem ps_try (hstk : X.stack = X.env :: X.outer) (hf : X.env.frame = some X.env.locals)
    (hb : ∀ (E : XKS) (pins : List (Addr × Obj)) (E₁ : Value → Shared → Prop), Takes (X.tr pins E₁) E → PassesOwn (model X.prog X.w) X.A X.env E₁ → PSs (X.tr pins E₁) body (tb E)) (hh : PH X (h₀ :: hs) th) : PS X (.Try body (h₀ :: hs) [] [] pos) (tTry tb th) := by
  intro pins s σ H D I h
  obtain ⟨E, h1, h2⟩ := h
  refine wpAny_Try_except ?_
  refine wpAny_mono (hb E pins _ ?_ PassesOwn.looking [] s σ H D (I.tr _) h1) (fun f s1 q => ?_) fun e s1 q => q
  · intro pins' σ' H' s1 e C d I1 he hy x hE
    refine note_ok (X := X.tr pins _) (by rw [I.ok.frames, hstk]) hstk hf I1 he x fun h2' I2 x2 => land_ok I2 he x2 fun h3 I3 x3 => ?_
    obtain ⟨T, oT, ts, oe, vs, ho, hd, hv1, fT, hT, hdT, h3'⟩ := x3
    obtain ⟨oe', vs', ho', hc, hdd, _⟩ := I3.xo he
    rw [ho] at ho'
    cases ho'
    have I4 := I3.untr
    have I5 := I4.write (x := e) (e := e) (o := Known e oe) (t' := s1.toks) (h' := h3) (by rw [he]; trivial) (.inl rfl) (fun b u _ z => z) ⟨oe, ho⟩ (known_ok ho)
    have fT' := fT.untr
    have hne : T ≠ e := fun z => by subst z; rw [fT'.1] at he; cases he
    have fT2 : FpOk X pins (upd H' e (Known e oe)) T := ⟨by rw [upd_ne hne]; exact fT'.1, fT'.2⟩
    have I6 : Inv X ((T, oT) :: pins) σ' (upd H' e (Known e oe)) { s1 with heap := h3 } := I5.pins_of fun p hp => by
      rcases List.mem_cons.mp hp with rfl | hp
      · exact ⟨hT, fT2.1, fT2.2.1, fT2.2.2.1, fun v z => by rw [hdT] at z; cases z⟩
      · exact I5.pin p (List.mem_append_right _ hp)
    exact hh pins _ σ' _ D e oe T oT ts vs I6 fT2 hd hv1 hdT h3' upd_same (h2 σ' C d H' e oe hE he hc hdd ⟨vs, hd⟩)
  · cases f with
    | next =>
      obtain ⟨σ', H', I', q⟩ := q
      exact wpAny_execs_nil ⟨σ', H', I'.untr, q⟩
    | brk => exact SP.untr q
    | cont => exact SP.untr q
    | ret u => exact SP.untr q
theorem ph_skip {t : Expr} {name : Option Str} {sb : List Stmt} {tt : TE} (ht : ∀ e, PE (X.hd e) t tt) (hr : PH X rest tr) : PH X (.ExceptHandler (some t) name sb pos :: rest)
    (fun D σ H e oe => tt σ H fun v H1 => ∃ Ds C, Spec X.K H1 v Ds ∧ oe.cls = .ref C ∧ (∀ D ∈ Ds, PySem.W.mroIn X.K C (.ref D) = some false) ∧ H1 e = some (Known e oe) ∧ tr D σ H1 e oe) := by
  intro pins s σ H D e oe T oT ts vs I fT hd h1 hdT h3 he h
  refine wpAny_handleBy_cons (codeAny_handlers_test (wpAny_mono ((ht e) ((T, oT) :: pins) s σ H _ (I.hd e) h) (fun u s1 q => ?_) fun _ _ z => z.elim)) (by intro z; cases z)
  obtain ⟨v, H1, I1, r, Ds, C, hs, hc, hb, hk, q⟩ := q
  have I1' := I1.unhd I.ok
  refine em_ok (f := fun _ => false) I1' hs r (I1'.hok e _ hk).1 hc hb ?_
  have e0 : Ds.any (fun _ => false) = false := by simp
  rw [e0]
  have hTn := (I1'.pin (T, oT) (List.mem_append_right _ (List.mem_cons_self ..))).2.1
  exact hr pins s1 σ H1 D e oe T oT ts vs I1' ⟨hTn, fT.2⟩ hd h1 hdT h3 hk q
/-- a name goes -/
theorem unbind_ok {M : Model} {A : Around} {E : Value → Shared → Prop} {pins : List (Addr × Obj)} {σ : St} {H : Hp} {s : Shared} {i : Nat} {n : Str} {Q : Unit → Shared → Prop} (I : Inv X pins σ H s) (hN : X.N.Nodup) (hi : X.N[i]? = some n) (hk : X.env.scope.names.lookup n = some .local)
    (h : ∀ s', Inv X pins (σ.set i none) H s' → Q () s') : wpAny M A (bindName X.env n .none >>= fun _ => unbindBehindTheSuite X.env n pos) Q E s := by
  obtain ⟨m, hn, hl⟩ := id I.loc
  have hcls : (X.env.scope.kind == .class || (X.env.scope.kind == .module && X.env.locals != X.env.globals)) = false := by rw [I.ok.kind]; rfl
  have hl0 : X.env.kindOf n = some .local := hk
  refine wpAny_bind (wpAny_bindName (wpAny_storeName_local hl0 hn (fun ha hna hsa => ?_) hcls))
  unfold unbindBehindTheSuite
  refine wpAny_onRaise ?_
  unfold unbindName deleteName
  refine wpAny_bind (wpAny_point (wpAny_bind ?_)); simp only [hl0, hcls]
  rw [if_neg (by decide)]
  refine wpAny_bind (wpAny_nsDel_keeps hna fun hb v hnb hsb => ?_)
  simp only [if_true, Option.isSome_some, Bool.not_true, Bool.false_eq_true, if_false]
  refine wpAny_pure (wpAny_point (h _ ?_))
  have hs := hsa.trans hsb
  obtain ⟨oL, _, _, hoL, _⟩ := id hn
  have cne := I.cne
  refine ⟨I.ok, I.os, I.bare, ⟨fun b o e n hb hx => ?_, fun b o e n hb hx => ?_, I.base.free, fun b o e hx => ?_, I.base.tups, I.base.frzs, I.base.tbls⟩, ⟨_, hnb, fun j y v' e1 e2 e3 => ?_⟩, fun y c e => ?_, I.free, I.freeC, fun p hp => ?_, fun b ob e => ?_, by simpa using I.len⟩
  · exact (hs.2 b (Nat.ne_of_lt (Nat.lt_of_lt_of_le (Heap.lt_size e) I.ok.above))).trans (I.base.keep b o e n hb hx)
  · obtain ⟨sl, e1⟩ := I.base.slot b o e n hb hx
    exact ⟨sl, (hs.2 b (Nat.ne_of_lt (Nat.lt_of_lt_of_le (Heap.lt_size e) I.ok.above))).trans e1⟩
  · obtain ⟨o', e1⟩ := I.base.there b o e hx
    exact ⟨o', (hs.2 b (Nat.ne_of_lt (Nat.lt_of_lt_of_le (Heap.lt_size e) I.ok.above))).trans e1⟩
  · by_cases hj : j = i
    · subst hj
      by_cases hlt : j < σ.length
      · rw [List.getElem?_set_self hlt] at e2; cases e2
      · rw [List.getElem?_eq_none (by rw [List.length_set]; (first | lia | omega))] at e2; cases e2
    · rw [List.getElem?_set_ne (Ne.symm hj)] at e2
      obtain ⟨u', r', q⟩ := hl j y v' e1 e2 e3
      refine ⟨u', r', ?_⟩
      rcases q with ⟨k, e⟩ | ⟨k, c, e, z⟩
      · refine .inl ⟨k, ?_⟩
        have : y ≠ n := fun e => hj (nodup_ix hN e1 (e ▸ hi))
        simp [this, e]
      · exact .inr ⟨k, c, e, z.sameBut hs (cne y c e)⟩
  · obtain ⟨w', z⟩ := I.cell y c e
    exact ⟨w', z.sameBut hs (cne y c e)⟩
  · obtain ⟨e, n, ne, nf, d⟩ := I.pin p hp
    exact ⟨(hs.2 p.1 ne).trans e, n, ne, nf, d⟩
  · refine (I.hok b ob e).stay (fun c w' hc q => (hs.2 c ?_).trans q) (fun _ q => q) fun _ _ q => q
    rintro rfl
    rcases hc with rfl | hc
    · rw [I.free] at e; cases e
    · rw [I.free] at hc; cases hc
def unb (D : Ends) (i : Nat) : Ends := { nx := fun σ H => D.nx (σ.set i none) H, rt := D.rt, bk := fun σ H => D.bk (σ.set i none) H, ct := fun σ H => D.ct (σ.set i none) H }
theorem flight_same {M : Model} {A : Around} {E : Value → Shared → Prop} {s : Shared} {e T : Addr} {oe oT : Obj} {vs ts : Array Value} {Q : Unit → Shared → Prop} (ho : s.heap.get? e = some oe) (hd : oe.data = .fields vs) (h1 : vs[1]? = some (.ref T)) (hT : s.heap.get? T = some oT) (hdT : oT.data = .fields ts) (h3 : ts[3]? = some .none) (h : Q () s) :
    wpAny M A (setFlight (.ref e) none) Q E s := by
  unfold setFlight
  refine wpAny_bind (wpAny_field ho hd h1 ?_)
  rw [if_pos (show (Value.ref T != Value.none) = true by simp)]
  refine wpAny_setField hT hdT (Array.getElem?_eq_some_iff.mp h3).1 ?_
  show Q () { s with heap := s.heap.update T (Obj.mapFields (·.setIfInBounds 3 Value.none)) }
  rw [Heap.update_setField_same s.heap T oT ts 3 .none hT hdT h3]
  exact h
theorem ph_as {t : Expr} {n : Str} {b₀ : Stmt} {sb : List Stmt} {tt : TE} {tu : TS} {i : Nat} (ht : ∀ e, PE (X.hd e) t tt) (hN : X.N.Nodup) (hi : X.N[i]? = some n) (hk : X.env.scope.names.lookup n = some .local) (hs : ∀ e, PSs (X.hd e) (b₀ :: sb) tu) : PH X (.ExceptHandler (some t) (some n) (b₀ :: sb) pos :: rest)
    (fun D σ H e oe => tt σ H fun v H1 => ∃ Ds C f, Spec X.K H1 v Ds ∧ oe.cls = .ref C ∧ (∀ D ∈ Ds, PySem.W.mroIn X.K C (.ref D) = some (f D)) ∧ Ds.any f = true ∧ H1 e = some (Known e oe) ∧ tu (unb D i) (σ.set i (some (.ref e))) H1) := by
  intro pins s σ H D e oe T oT ts vs I fT hd h1 hdT h3 he h
  refine wpAny_handleBy_cons (codeAny_handlers_test (wpAny_mono ((ht e) ((T, oT) :: pins) s σ H _ (I.hd e) h) (fun u s1 q => ?_) fun _ _ z => z.elim)) (by intro z; cases z)
  obtain ⟨v, H1, I1, r, Ds, C, f, hsp, hc, hb, hany, hkn, q⟩ := q
  have I1' := I1.unhd I.ok
  have hoe := (I1'.hok e _ hkn).1
  refine em_ok (f := f) I1' hsp r hoe hc hb ?_
  rw [hany]
  refine codeAny_handlers_suite_as ?_
  have hTo := (I1'.pin (T, oT) (List.mem_append_right _ (List.mem_cons_self ..))).1
  refine flight_same hoe hd h1 hTo hdT h3 ?_
  refine store_ok I1'.drop1 hN hi (.inl hk) (show RelV (.ref e) (.ref e) from rfl) (fun s2 I2 => ?_) (.inr hk)
  refine wpAny_mono ((hs e) pins s2 _ H1 (unb D i) (I2.hd e) q) (fun fl s3 q3 => ?_) fun _ _ z => z.elim
  show wpAny _ X.A (bindName X.env n .none >>= fun _ => unbindBehindTheSuite X.env n pos) _ _ s3
  cases fl with
  | next =>
    obtain ⟨σ', H', I3, q3⟩ := q3
    exact unbind_ok (I3.unhd I.ok) hN hi hk fun s' I' => ⟨_, _, I', q3⟩
  | brk =>
    obtain ⟨σ', H', I3, q3⟩ := q3
    exact unbind_ok (I3.unhd I.ok) hN hi hk fun s' I' => ⟨_, _, I', q3⟩
  | cont =>
    obtain ⟨σ', H', I3, q3⟩ := q3
    exact unbind_ok (I3.unhd I.ok) hN hi hk fun s' I' => ⟨_, _, I', q3⟩
  | ret u =>
    obtain ⟨v3, σ', H', I3, r3, q3⟩ := q3
    exact unbind_ok (I3.unhd I.ok) hN hi hk fun s' I' => ⟨v3, _, _, I', r3, q3⟩
end
end L2

namespace L2
open PySem PySem.Spec PyProof.Rows PySem.W
/-! ### an own class of errors, under ValueError by one class more -/
abbrev bmV : List Value := [.type "ValueError", .type "Exception", .type "BaseException", .type "object"]
def keysOk (es : Array DictEntry) : Bool := es.toList.all fun e => match e.key with | .str _ _ => true | _ => false
/-- the class in the middle: it has no __init__ of its own -/
structure XMid (K : Frag) (G : Addr) : Prop where
  ob : ∃ c0 dd cd sl oc od es ep sl', K.lookup G = some ⟨c0, dd, .cls cd, sl⟩ ∧ K.lookup cd.ns = some ⟨oc, od, .dict es ep, sl'⟩ ∧ keysOk es = true ∧ nsIn K cd.ns "__init__" = some none
structure XTop (K : Frag) (C G : Addr) : Prop where
  ob : ∃ nm q N bs hdct sn sub ab col dd k0 k1 k2 k3 k5, K.lookup C = some (excClassObj nm q C N bs (.ref G :: bmV) hdct sn sub ab col dd k0 k1 k2 k3 k5 "ValueError.__new__")
  mid : XMid K G
  call : specialIn K (.ref C) "__call__" = some (some (.builtin "type.__call__"))
  typ : instIn K (.ref C) (.type "type") = some true
  kp : keepIn K (.ref C) = true
theorem XMid.tail {K : Frag} {G : Addr} {h : Heap} (x : XMid K G) (X : K.In h) : OwnTail h bmV (.ref G :: bmV) := by
  obtain ⟨c0, dd, cd, sl, oc, od, es, ep, sl', h1, h2, h3, h4⟩ := x.ob
  have hns : h.isNs cd.ns = true := by
    unfold Heap.isNs
    rw [X _ _ h2]
    have h5 := h3
    unfold keysOk at h5
    rw [Array.all_toList] at h5
    exact h5
  have hN := Heap.Ns.of_isNs hns
  exact .own (X _ _ h1) hN (ns_none_of X hN h4) .base
theorem XTop.mro {K : Frag} {C G : Addr} (x : XTop K C G) : ∃ cd, clsIn K C = some cd ∧ cd.mro = .ref C :: .ref G :: bmV := by
  obtain ⟨nm, q, N, bs, hdct, sn, sub, ab, col, dd, k0, k1, k2, k3, k5, h1⟩ := x.ob
  have e : clsIn K C = some { name := nm, bases := bs, mro := .ref C :: .ref G :: bmV, ns := N, qualname := q, hasDict := hdct, slotNames := sn, subclasses := sub, abstract := ab, collection := col, hasDel := false } := by
    unfold clsIn
    rw [h1]
  exact ⟨_, e, rfl⟩
/-- the new exception -/
abbrev excObj (C t : Addr) : Obj := { cls := .ref C, data := .fields #[.ref t, .none, .none, .none, .bool false, .none] }
abbrev tupObj (vs : List Value) : Obj := { cls := .type "tuple", data := .seq vs.toArray }
section
variable {prog : Program} {w : World} {A : Around} {K : Frag} {C G f : Addr} {R : Result → Shared → Prop} {s : Shared}
/-- C(..) where C has an __init__ of its own -/
theorem xmake_core {us : List Value} {init : Value} (x : XTop K C G) (X : K.In s.heap) (hi : findIn K (.ref C) "__init__" = some (some init)) (b0 : ∀ self, Looks (model prog w) s.heap (bindSpecial init self) (init, [self])) (hl : us.length ≤ sizeLine)
    (hq : codeAny (model prog w) (A.under (.builtin "type.__call__" ⟨.ref C :: us, []⟩)) (.call init ⟨.ref (s.heap.objs.size + 1) :: us, []⟩) (InitBack (s.heap.objs.size + 1) R)
      { s with heap := (s.heap.push (tupObj us)).push (excObj C s.heap.objs.size) }) :
    codeAny (model prog w) A (.call (.ref C) ⟨us, []⟩) R s := by
  obtain ⟨hh, g, d, t, os⟩ := s
  obtain ⟨nm, q, N, bs, hdct, sn, sub, ab, col, dd, k0, k1, k2, k3, k5, hK⟩ := x.ob
  have hC := X _ _ hK
  have T := x.mid.tail X
  have call := looks_specialIn (M := model prog w) X x.call
  have typ := looks_instIn (M := model prog w) X x.typ
  have i0 := looks_findIn (M := model prog w) X hi
  refine codeAny_of_tree ?_
  show wpAny _ _ (callAny (.ref C) _) _ _ _
  refine nd_load hC ?_
  show wpAny _ _ (callAny.viaDunder (.ref C) _) _ _ _
  unfold callAny.viaDunder
  refine wpAny_bind (call.at ?_)
  dsimp only
  rw [tc_bind]
  refine wpAny_bind (wpAny_pure (wpAny_bind (wpAny_pure ?_)))
  refine wpAny_pure (a := Fin.again (.call (.builtin "type.__call__") ⟨.ref C :: us, []⟩)) ⟨rfl, ?_⟩
  refine codeAny_call_builtin_at (Code.quiet_builtin _ (by decide +kernel)) entry_typeCall (check_slot tc_kind tc_split typ (tc_args _ _ _) ?_)
  repeat (first | with_reducible refine wpAny_loadPart_at hC ?_ | with_reducible refine wpAny_madeBy_exc hC ?_ | wp_step)
  refine codeAny_call_builtin_code (Code.quiet_builtin _ F.excBase_ValueError.quiet) (wpAny_check_new_subT F.excBase_ValueError T hC (codeAny_exc_new_subT F.excBase_ValueError T hC ?_ hl))
  show wpAny _ _ _ _ _ _
  have k : ∀ b o, hh.get? b = some o → ((hh.push (tupObj us)).push (excObj C hh.objs.size)).get? b = some o := fun b o e => Heap.get?_push_of_some _ (Heap.get?_push_of_some _ e)
  have hx : ((hh.push (tupObj us)).push (excObj C hh.objs.size)).get? (hh.objs.size + 1) = some (excObj C hh.objs.size) := by heap_get
  have t1 : Looks (model prog w) ((hh.push (tupObj us)).push (excObj C hh.objs.size)) (typeOf (.ref (hh.objs.size + 1))) (.ref C) := (Looks.ld hx).andThen .now
  have s1 : Looks (model prog w) ((hh.push (tupObj us)).push (excObj C hh.objs.size)) (isSubtype (.ref C) (.ref C)) true := by
    obtain ⟨cd, hc, hm⟩ := x.mro
    refine (looks_mroIn X ?_).keeps k
    unfold mroIn
    rw [hc, Option.bind_some, hm]
    simp
  have i1 := i0.keeps k
  have b1 := (b0 (.ref (hh.objs.size + 1))).keeps k
  unfold isInstance callSpecial? specialOf
  repeat (first | with_reducible refine wpAny_call ?_ | lk)
  refine codeAny_mono hq fun r s' z => ?_
  rcases r with e | (v | _ | _ | _) <;> first | exact z | exact z.elim | skip
  obtain ⟨rfl, z⟩ := z
  exact wpAny_pure (wpAny_pure z)
end
end L2

namespace L2
open PySem PySem.Spec PyProof.Rows PySem.W Builtin Builtin.ObjectAttr
end L2

namespace L2
open PySem PySem.Spec PyProof.Rows PySem.W Builtin Builtin.ObjectAttr
end L2

namespace L2
open PySem PySem.Spec PyProof.Rows PySem.W
/-- an exception that is being made -/
def XNew (x : Addr) (C : Value) (d : Option Addr) : Heap → Prop := fun h => ∃ ox vs t, h.get? x = some ox ∧ ox.cls = C ∧ ox.dict = d ∧ ox.data = .fields vs ∧ 4 < vs.size ∧ vs[0]? = some (.ref t) ∧ vs[1]? = some .none
/-- what is raised -/
theorem raise_ok {M : Model} {A : Around} {E : Value → Shared → Prop} {s : Shared} {env : Env} {K : Frag} {C G : Addr} {x0 : Sem Value} {Q : Flow → Shared → Prop} (hh : A.handled = none) (y : XTop K C G)
    (h : wpAny M A x0 (fun v s1 => ∃ x d, v = .ref x ∧ K.In s1.heap ∧ XNew x (.ref C) d s1.heap ∧ E (.ref x) s1) E s) : wpAny M A (raiseStmt env (some x0) none) Q E s := by
  unfold raiseStmt
  refine wpAny_bind (wpAny_mono h (fun v s1 q => ?_) fun _ _ z => z)
  obtain ⟨x, d, rfl, X, ⟨ox, vs, t, ho, hc, hd, hf, hz, h0, h1⟩, hE⟩ := q
  obtain ⟨cd, hcd, hmro⟩ := y.mro
  have ty : Looks M s1.heap (typeOf (.ref x)) (.ref C) := hc ▸ (Looks.ld ho).andThen .now
  have isb : Looks M s1.heap (isInstance (.ref x) (.type "BaseException")) true := ty.andThen (looks_mroIn X (by unfold mroIn; rw [hcd, Option.bind_some, hmro]; rfl))
  have nt : Looks M s1.heap (isType (.ref x)) false := by
    intro A' Q' E' s' k q
    unfold isType loadHead
    refine wpAny_bind (wpAny_loadPart (k _ _ ho) ?_)
    rw [hf]
    exact wpAny_pure q
  obtain ⟨nm, q, N, bs, hdct, sn, sub, ab, col, dd, k0, k1, k2, k3, k5, hK⟩ := y.ob
  have tt : Looks M s1.heap (typeOf (.ref C)) (.type "type") := (Looks.ld (X _ _ hK)).andThen .now
  refine wpAny_bind (wpAny_pure (wpAny_bind (wpAny_holding ?_)))
  unfold excFromValue isExcClass
  refine wpAny_bind (wpAny_bind (nt.here ?_))
  rw [if_neg Bool.false_ne_true]
  refine wpAny_pure ?_
  rw [if_neg Bool.false_ne_true]
  refine wpAny_bind (isb.here ?_)
  rw [if_pos rfl]
  refine wpAny_pure ?_
  refine wpAny_bind (nt.here ?_)
  rw [if_neg Bool.false_ne_true]
  unfold raisedInstance
  refine wpAny_bind (wpAny_bind (ty.here (wpAny_bind (tt.here ?_))))
  rw [if_pos (by decide)]
  refine wpAny_pure ?_
  unfold setFlight
  refine wpAny_bind (wpAny_bind (wpAny_field ho hf h1 ?_))
  rw [if_neg (by decide)]
  exact wpAny_pure (wpAny_raiseNew_none hh hE)
end L2

namespace L2
open PySem PySem.Spec PyProof.Rows PySem.W
/-- the class G that is named in G.__init__(..) -/
structure XBas (K : Frag) (G : Addr) : Prop where
  ga : specialIn K (.ref G) "__getattribute__" = some (some (.builtin "type.__getattribute__"))
  rd : readsIn K G (.type "type") = true
  fi : findCls K (.ref G) (.type "type") "__init__" = some (.val (.builtin "ValueError.__init__"))
/-- isinstance of an exception that was caught: of a class that it has -/
theorem xis_true {prog : Program} {w : World} {A : Around} {E : Value → Shared → Prop} {s : Shared} {K : Frag} {x : Addr} {C c : Value} {Q : Value → Shared → Prop} (X : K.In s.heap) (ty : ∀ M, Looks M s.heap (typeOf (.ref x)) C) (hne : (C == c) = false) (e : kitCls K C c = some true)
    (h : Q (.bool true) s) : wpAny (model prog w) A (call (.builtin "isinstance") [.ref x, c]) Q E s := by
  refine call_isinstance (S := fun _ R s => (K.In s.heap ∧ ∀ M, Looks M s.heap (typeOf (.ref x)) C) ∧ R (.ok (.ret (.bool true))) s) (fun prog w A R s hs => isinstance_outer ?_ (fun z => nomatch z)) ⟨⟨X, ty⟩, h⟩
  · obtain ⟨⟨X, LT⟩, hq⟩ := hs
    obtain ⟨h0, g, d, tt, os⟩ := s
    unfold Builtin.«isinstance.nested»
    refine wpAny_bind ((LT _).at ?_)
    rw [if_neg (by rw [hne]; decide)]
    obtain ⟨hty, his, hsub⟩ := kit_cls (M := model prog w) X e
    refine wpAny_bind (hty.at ?_)
    rw [if_pos (by decide)]
    k_delta "plainIsInstance"
    refine wpAny_bind (wpAny_bind (his.at ?_))
    simp only [Bool.not_true, Bool.false_eq_true, if_false]
    refine wpAny_bind (((LT _).andThen hsub).at ?_)
    first | exact wpAny_pure (wpAny_pure hq) | (simp only [if_true]; first | exact wpAny_pure (wpAny_pure hq) | exact wpAny_pure hq)
end L2

namespace L2
open PySem PySem.Spec PyProof.Rows PySem.W
section
variable {prog : Program} {w : World} {A : Around} {K : Frag} {C G : Addr} {R : Result → Shared → Prop} {s : Shared}
/-- C(..) where C has no __init__ of its own -/
theorem xmake0 {us : List Value} (x : XTop K C G) (X : K.In s.heap) (hi : findIn K (.ref C) "__init__" = some (some (.builtin "ValueError.__init__"))) (hl : us.length ≤ sizeLine)
    (hq : R (.ok (.ret (.ref (s.heap.objs.size + 1)))) { s with heap := (((s.heap.push (tupObj us)).push (excObj C s.heap.objs.size)).push (tupObj us)).update (s.heap.objs.size + 1) (Obj.mapFields (·.setIfInBounds 0 (.ref (s.heap.objs.size + 2)))) }) :
    codeAny (model prog w) A (.call (.ref C) ⟨us, []⟩) R s := by
  have F0 := F.excBase_ValueError
  refine xmake_core x X hi (fun self => Looks.of_pure (F0.init.bind self)) hl ?_
  obtain ⟨hh, g, d, tk, os⟩ := s
  obtain ⟨nm, q, N, bs, hdct, sn, sub, ab, col, dd, k0, k1, k2, k3, k5, hK⟩ := x.ob
  have k : ∀ b o, hh.get? b = some o → ((hh.push (tupObj us)).push (excObj C hh.objs.size)).get? b = some o := fun b o e => Heap.get?_push_of_some _ (Heap.get?_push_of_some _ e)
  have hx : ((hh.push (tupObj us)).push (excObj C hh.objs.size)).get? (hh.objs.size + 1) = some (excObj C hh.objs.size) := by heap_get
  have X2 := X.keeps k
  refine codeAny_call_builtin F0.init.plain F0.initEntry (wpAny_check_init_subT F0 (x.mid.tail X2) (X2 _ _ hK) hx rfl ?_)
  have hx2 : (((hh.push (tupObj us)).push (excObj C hh.objs.size)).push (tupObj us)).get? (hh.objs.size + 1) = some (excObj C hh.objs.size) := Heap.get?_push_of_some _ hx
  unfold Builtin.«BaseException.__init__»
  refine wpAny_bind (wpAny_newTuple ?_ hl)
  unfold Builtin.BaseException.bexcPut
  refine wpAny_bind (wpAny_bind (wpAny_field (s := ⟨((hh.push (tupObj us)).push (excObj C hh.objs.size)).push (tupObj us), g, d, tk, os⟩) hx2 rfl (x := .ref hh.objs.size) rfl (wpAny_bind (wpAny_setField (s := ⟨((hh.push (tupObj us)).push (excObj C hh.objs.size)).push (tupObj us), g, d, tk, os⟩) hx2 rfl (by simp) ?_))))
  wp_walk
  refine ⟨rfl, ?_⟩
  have e2 : ((hh.push (tupObj us)).push (excObj C hh.objs.size)).objs.size = hh.objs.size + 2 := by rw [Heap.size_push, Heap.size_push]
  rw [← e2] at hq
  exact hq
end
def tRaise0 (C : Addr) (E : XKS) (t : TA) : TS := fun _ σ H => t σ H fun vs H1 => vs.length ≤ 1000 ∧ ∀ y, H1 y = none → E σ (.ref C) none (upd H1 y (.ext (XO y (.ref C) none)))
section
variable {X : Cx} {j k : Nat} {C G : Addr} {E : XKS} {x : Str} {p pos cpos : Pos} {e : Expr} {es : List Expr} {t : TA}
theorem ps_raise0 (Z : XTop X.K C G) (hi : findIn X.K (.ref C) "__init__" = some (some (.builtin "ValueError.__init__"))) (nm : X.mg x = some (.ref C)) (hT : Takes X E) (hr : Room k X.A) (hg : Gl X x) (ha : PA X (e :: es) t) (hdb : (x == ("__debug__" : Str)) = false := by decide)
    (he : starEach (e :: es) X.env = (false, eval e X.env) :: starEach es X.env := by rfl) (hpl : (backTo cpos (starEach es X.env)).any (·.1) = false := by rfl) :
    PS X (.Raise (some (.Call (.Name x p) (e :: es) [] cpos)) none pos) (tRaise0 C E t) := by
  intro pins s σ H D I h
  show wpAny _ _ (standAt pos >>= fun _ => raiseStmt X.env (some (eval (.Call (.Name x p) (e :: es) [] cpos) X.env >>= fun v => standAt pos >>= fun _ => pure v)) none) _ _ s
  refine wpAny_bind (wpAny_standAt (raise_ok (hr.hd) Z (wpAny_bind ?_)))
  refine wpAny_Call_Name_kw (ld_glob I hg nm ?_ hdb)
  refine PySem.W.callWith_K (h₀ := X.base) I.ok.mod.kin Z.kp (thn (ha cpos pins s σ H _ I h) fun us s1 ⟨vs, H1, I1, r, hl, q⟩ => ⟨I1.kIn, ?_⟩) he hpl
  have hlu : us.length ≤ sizeLine := by rw [← r.length]; exact Nat.le_trans hl (by decide)
  have hy : H1 (s1.heap.objs.size + 1) = none := I1.hok.fresh (Nat.le_succ _)
  have hE := q (s1.heap.objs.size + 1) hy
  refine wpAny_call (xmake0 Z I1.kIn hi hlu ?_)
  have hx : ((s1.heap.push (tupObj us)).push (excObj C s1.heap.objs.size)).get? (s1.heap.objs.size + 1) = some (excObj C s1.heap.objs.size) := by heap_get
  have hx2 : (((s1.heap.push (tupObj us)).push (excObj C s1.heap.objs.size)).push (tupObj us)).get? (s1.heap.objs.size + 1) = some (excObj C s1.heap.objs.size) := Heap.get?_push_of_some _ hx
  have I2 : Inv X pins σ (upd H1 (s1.heap.objs.size + 1) (.ext (XO (s1.heap.objs.size + 1) (.ref C) none))) { s1 with heap := (s1.heap.push (tupObj us)).push (excObj C s1.heap.objs.size) } := by
    have a := I1.kept (t' := s1.toks) (h' := s1.heap.push (tupObj us)) fun b u q => Heap.get?_push_of_some _ q
    exact a.laid (t' := s1.toks) (fun b u q => Heap.get?_push_of_some _ q) (by show (s1.heap.push (tupObj us)).objs.size ≤ _; rw [Heap.size_push]; exact Nat.le_refl _) (XO.ext_ok ⟨_, _, hx, rfl, rfl, rfl, by simp⟩)
  have I3 := I2.kept (t' := s1.toks) (h' := ((s1.heap.push (tupObj us)).push (excObj C s1.heap.objs.size)).push (tupObj us)) fun b u q => Heap.get?_push_of_some _ q
  have I4 := I3.poke (t' := s1.toks) (h' := (((s1.heap.push (tupObj us)).push (excObj C s1.heap.objs.size)).push (tupObj us)).update (s1.heap.objs.size + 1) (Obj.mapFields (·.setIfInBounds 0 (.ref (s1.heap.objs.size + 2))))) upd_same (fun b u hb z => (Heap.get?_update_other _ _ (Ne.symm hb)).trans z) (XO.put ⟨_, _, hx2, rfl, rfl, rfl, by simp⟩ 0 _)
  have hget := fld_up 0 (.ref (s1.heap.objs.size + 2)) hx2 rfl
  refine wpAny_bind (wpAny_standAt (wpAny_pure ⟨_, none, rfl, I4.kIn, ⟨_, _, s1.heap.objs.size + 2, hget, rfl, rfl, rfl, by simp, rfl, rfl⟩, ?_⟩))
  exact hT pins σ _ _ _ (.ref C) none I4 upd_same (fun _ => Nat.le_trans I1.sz (Nat.le_succ _)) (.inl ⟨_, _, hget, rfl, rfl⟩) hE
end
section
variable {X : Cx}
/-- isinstance(e, D) of an exception that was caught, D one of its classes -/
theorem call_xisR : CallR X (.builtin "isinstance") (fun xs H Q => ∃ a oe C D, xs = [.ref a, .ref D] ∧ H a = some (Known a oe) ∧ oe.cls = .ref C ∧ C ≠ D ∧ isClsIn X.K D = true ∧ typeIn X.K (.ref D) = some (.type "type") ∧ mroIn X.K C (.ref D) = some true ∧ Q (.bl true) H) := by
  intro pins s σ H xs us Q I r h
  obtain ⟨a, oe, C, D, rfl, hk, hc, hne, h1, h2, h3, q⟩ := h
  obtain ⟨u, v, rfl, rx, ry⟩ := Vals.two r
  obtain rfl : u = Value.ref a := rx
  obtain rfl : v = Value.ref D := ry
  have ho : s.heap.get? a = some oe := (I.hok a _ hk).1
  refine xis_true I.kIn (C := .ref C) (fun M => hc ▸ (Looks.ld ho).andThen .now) (by simpa using hne) ?_ ⟨.bl true, H, I, rfl, q⟩
  unfold kitCls
  dsimp only
  unfold isClsIn at h1
  rw [h1, h2, if_pos (by decide)]
  exact h3
theorem call_xisT : CallR X (.builtin "isinstance") (fun xs H Q => ∃ a oe C n, xs = [.ref a, .ty n] ∧ H a = some (Known a oe) ∧ oe.cls = .ref C ∧ kitMeta n = true ∧ mroIn X.K C (.type n) = some true ∧ Q (.bl true) H) := by
  intro pins s σ H xs us Q I r h
  obtain ⟨a, oe, C, n, rfl, hk, hc, h1, h3, q⟩ := h
  obtain ⟨u, v, rfl, rx, ry⟩ := Vals.two r
  obtain rfl : u = Value.ref a := rx
  obtain rfl : v = Value.type n := ry
  have ho : s.heap.get? a = some oe := (I.hok a _ hk).1
  refine xis_true I.kIn (C := .ref C) (fun M => hc ▸ (Looks.ld ho).andThen .now) rfl ?_ ⟨.bl true, H, I, rfl, q⟩
  unfold kitCls
  dsimp only
  rw [if_pos h1]
  exact h3
end
end L2

/-! texts with values put in -/
namespace L2
open PySem PySem.Spec PyProof.Rows
abbrev TJ := St → Hp → Str → (Str → Hp → Prop) → Prop
def PJ (X : Cx) (es : List Expr) (t : TJ) : Prop := ∀ (pins : List (Addr × Obj)) (s : Shared) (σ : St) (H : Hp) (acc : Str) (Q : Str → Hp → Prop), Inv X pins σ H s → t σ H acc Q →
  wpAny (model X.prog X.w) X.A (joinParts acc (evalEach es X.env)) (EP X pins σ fun v H' => ∃ z, v = .str z ∧ Q z H') X.xe s
def tJNil : TJ := fun _ H acc Q => acc.length ≤ sizeLine ∧ Q acc H
def tJCons (te : TE) (t : TJ) : TJ := fun σ H acc Q => te σ H fun v H1 => ∃ y, v = .str y ∧ (acc ++ y).length ≤ sizeLine ∧ t σ H1 (acc ++ y) Q
def tJoined (t : TJ) : TE := fun σ H Q => t σ H Str.empty fun z H' => Q (.str z) H'
section
variable {X : Cx} {e : Expr} {es : List Expr} {te : TE} {t : TJ} {pos : Pos}
theorem pj_nil : PJ X [] tJNil := fun _ _ _ H acc _ I h => joinParts_nil ⟨.str acc, H, I.tok _, ⟨_, rfl⟩, acc, rfl, h.2⟩ h.1
theorem pj_cons (he : PE X e te) (hr : PJ X es t) (hs : evalEach (e :: es) X.env = eval e X.env :: evalEach es X.env := by rfl) : PJ X (e :: es) (tJCons te t) := by
  intro pins s σ H acc Q I h
  rw [hs]
  refine joinParts_cons (thn (he pins s σ H _ I h) fun u s1 ⟨v, H1, I1, r, y, ev, hz, q⟩ => ?_)
  subst ev
  obtain ⟨tk, rfl⟩ := r
  exact ⟨hz, hr pins s1 σ H1 _ Q I1 q⟩
theorem pe_joined {e2 : Expr} (h : PJ X (e :: e2 :: es) t) : PE X (.JoinedStr (e :: e2 :: es) pos) (tJoined t) := by
  intro pins s σ H Q I hw
  refine JoinedStr_many (thn (h pins s σ H _ _ I hw) fun u s1 ⟨v, H1, I1, r, z, ev, q⟩ => ⟨v, H1, I1, r, by rw [ev]; exact q⟩)
end
end L2

/-! a display of many written texts -/
namespace L2
open PySem PySem.Spec PyProof.Rows
def strsOf : List Expr → Option (List Str)
  | [] => some []
  | .Constant (.str x) _ _ :: es => (strsOf es).map (x :: ·)
  | _ => none
def tStrs (ss : List Str) : TA := fun _ H Q => Q (ss.map V.str) H
theorem pa_strs_of {X : Cx} : ∀ {es : List Expr} {ss : List Str}, strsOf es = some ss → PA X es (tStrs ss) := by
  intro es
  induction es with
  | nil =>
    intro ss h
    cases h
    exact pa_nil
  | cons e es ih =>
    intro ss h
    cases e with
    | Constant k j p =>
      cases k with
      | str x =>
        cases h1 : strsOf es with
        | none => simp [strsOf, h1] at h
        | some ss' =>
          simp [strsOf, h1] at h
          subst h
          exact fun pos pins s σ H Q I h => pa_cons pe_str (ih h1) rfl pos pins s σ H Q I h
      | _ => simp [strsOf] at h
    | _ => simp [strsOf] at h
theorem pa_strs {X : Cx} {es : List Expr} {ss : List Str} (h : strsOf es = some ss := by rfl) : PA X es (tStrs ss) := pa_strs_of h
end L2
namespace L2
open PySem PySem.Spec PyProof.Rows
end L2
namespace L2
open PySem PySem.Spec PyProof.Rows PySem.W
variable {X : Cx}
theorem call_xisRK {K : Frag} (hK : X.K = K) : CallR X (.builtin "isinstance") (fun xs H Q => ∃ a oe C D, xs = [.ref a, .ref D] ∧ H a = some (Known a oe) ∧ oe.cls = .ref C ∧ C ≠ D ∧ isClsIn K D = true ∧ typeIn K (.ref D) = some (.type "type") ∧ mroIn K C (.ref D) = some true ∧ Q (.bl true) H) := by
  subst hK
  exact call_xisR
theorem call_xisTK {K : Frag} (hK : X.K = K) : CallR X (.builtin "isinstance") (fun xs H Q => ∃ a oe C n, xs = [.ref a, .ty n] ∧ H a = some (Known a oe) ∧ oe.cls = .ref C ∧ kitMeta n = true ∧ mroIn K C (.type n) = some true ∧ Q (.bl true) H) := by
  subst hK
  exact call_xisT
end L2

/-! sorted: what it gives is what it was given, in some order, at any length -/
namespace Srt
open PySem PyProof.Rows
end Srt

namespace Srt
open PySem PyProof.Rows
end Srt

namespace Srt
open PySem PyProof.Rows
end Srt

namespace Srt
open PySem PyProof.Rows
end Srt

namespace Srt
open PySem PyProof.Rows
end Srt

namespace Srt
open PySem PyProof.Rows
end Srt

namespace Srt
open PySem PyProof.Rows
end Srt

namespace Srt
open PySem PyProof.Rows
end Srt

namespace Srt
open PySem PyProof.Rows
end Srt

namespace Srt
open PySem PyProof.Rows
end Srt

namespace Srt
open PySem PyProof.Rows PySem.W
end Srt

namespace L2
open PySem PySem.Spec PyProof.Rows
end L2

namespace L2
open PySem PySem.Spec PyProof.Rows PySem.W
end L2

namespace L2
open PySem PySem.Spec PyProof.Rows PySem.W
end L2
namespace Srt
open PySem PyProof.Rows PySem.W
end Srt
namespace L2
open PySem PySem.Spec PyProof.Rows
end L2

namespace L2
open PySem PySem.Spec PyProof.Rows
end L2

/-! the table of a set: a search always ends -/
namespace Sts
open PySem
/-! the steps of a search -/
end Sts

/-! a table laid anew holds all its elements -/
namespace Sts
open PySem
end Sts

/-! places in rising order -/
namespace Sts
open PySem
end Sts

/-! tuples in a set -/
namespace Sts
open PySem
end Sts

/-! a tuple added to a set -/
namespace Sts
open PySem
end Sts

namespace Sts
open PySem
end Sts

/-! set(list of tuples) -/
namespace Sts
open PySem PyProof.Rows
end Sts

namespace Sts
open PySem PyProof.Rows
end Sts

/-! a set walked -/
namespace Sts
open PySem PyProof.Rows
end Sts

namespace Sts
open PySem PyProof.Rows
end Sts

namespace Sts
open PySem PyProof.Rows
end Sts

namespace Sts
open PySem PyProof.Rows PySem.W
end Sts

namespace Srt
open PySem PyProof.Rows PySem.W
end Srt

namespace Sts
open PySem PyProof.Rows PySem.W Srt
end Sts
namespace L2
open PySem PySem.Spec PyProof.Rows PySem.W
end L2

/-! sorted: the order too -/
namespace Srd
open PySem PyProof.Rows Srt
end Srd

namespace Srd
open PySem PyProof.Rows Srt
end Srd

namespace Srd
open PySem PyProof.Rows Srt
end Srd

namespace Srd
open PySem PyProof.Rows Srt
end Srd

namespace Srd
open PySem PyProof.Rows Srt
end Srd

namespace Srd
open PySem PyProof.Rows Srt
end Srd

namespace Srd
open PySem PyProof.Rows Srt
end Srd

namespace Srd
open PySem PyProof.Rows Srt
end Srd

namespace Srd
open PySem PyProof.Rows Srt PySem.W
end Srd

/-! a list has no keys() -/
namespace Srd
open PySem PyProof.Rows
end Srd

/-! dict(list of pairs) -/
namespace Srd
open PySem PyProof.Rows
end Srd

/-! dict(list of pairs) and sorted(dict of ints), as rules -/
namespace L2
open PySem PySem.Spec PyProof.Rows PySem.W
end L2

/-! arguments without a star: what has no star, by its head alone -/
namespace L2
open PySem PySem.Spec PyProof.Rows
end L2
/-! expressions and arguments, shut: nothing is unfolded while a deep display is put together -/
namespace L2
open PySem PySem.Spec PyProof.Rows
@[irreducible] def PEi (X : Cx) (e : Expr) (t : TE) : Prop := PE X e t
@[irreducible] def PAi (X : Cx) (es : List Expr) (t : TA) : Prop := PA X es t
section
variable {X : Cx} {x : Str} {ps : List Str} {j k : Nat} {sp : Sp} {e : Expr} {es : List Expr} {t : TA} {te : TE} {p pos : Pos}
theorem PEi.to (h : PEi X e te) : PE X e te := by unfold PEi at h; exact h
theorem PEi.of (h : PE X e te) : PEi X e te := by unfold PEi; exact h
theorem PAi.to (h : PAi X es t) : PA X es t := by unfold PAi at h; exact h
theorem PAi.of (h : PA X es t) : PAi X es t := by unfold PAi; exact h
theorem pei_lst (h : PAi X es t) : PEi X (.List es pos) (tLst t) := .of (pe_lst h.to)
end
end L2

/-! sets of tuples: every element stands on its own way of probes -/
namespace Stg
open PySem Sts
end Stg

namespace Stg
open PySem Sts
end Stg

namespace Stg
open PySem Sts
end Stg

/-! the order of tuples of an int, a text and two ints -/
namespace Srd
open PySem PyProof.Rows Srt PySem.W
end Srd

namespace Stg
open PySem PyProof.Rows PySem.W Sts
end Stg

/-! strong sets of numbers; set(list) for any kind of set -/
namespace Stg
open PySem PyProof.Rows Sts
end Stg

/-! sorted(set(l)) and sorted(l), with all that can be said -/
namespace Srd
end Srd
namespace L2
open PySem PySem.Spec PyProof.Rows PySem.W Srd Sts Stg
end L2

namespace L2
open PySem PySem.Spec PyProof.Rows PySem.W Srd Sts Stg
end L2

/-! for x, y in zip(xs, ys) -/
namespace L2
open PySem PySem.Spec PyProof.Rows
end L2

/-! sorted(l) of tuples (int, str, int, int) and of ints: the same items, rising -/
namespace L2
open PySem PySem.Spec PyProof.Rows PySem.W Srd
end L2

/-! range(a, b, 2) -/
namespace L2
open PySem PySem.Spec PyProof.Rows
end L2

namespace L2
open PySem PySem.Spec PyProof.Rows
end L2

/-! len(set(l)) of tuples (int, str, int, int): how many unlike ones -/
namespace L2
open PySem PySem.Spec PyProof.Rows PySem.W Srd Sts Stg
end L2

/-! sets of texts: sorted(set(l)) -/
namespace Stg
open PySem PyProof.Rows Sts
end Stg
namespace L2
open PySem PySem.Spec PyProof.Rows PySem.W Srd Sts Stg
end L2

/-! for x in reversed(l) -/
namespace L2
open PySem PySem.Spec PyProof.Rows
end L2

/-! forms in the heap, as lists of all that they hold; what their makers promise; kinds of groves -/
namespace Fg
open PySem L2 FgM
theorem take_succ' {α : Type} {l : List α} {i : Nat} {x : α} (h : l[i]? = some x) : l.take (i + 1) = l.take i ++ [x] := by
  rw [List.take_add_one, h]
  rfl
theorem comp_range {lo : Int} {n : Nat} {p : Addr} {g : TG} {te : TE} {R : Hp → Prop} {σ0 : St} {H0 : Hp} (Pv : Nat → List V → St → Hp → Prop) (h0 : Pv 0 [] σ0 H0)
    (hl : ∀ i ys σ H, i ≤ n → Pv i ys σ H → H p = some (.lst ys))
    (hs : ∀ i ys σ H, i < n → Pv i ys σ H → g (.int (lo + i)) σ H fun σ3 H4 => te σ3 H4 fun v H5 => H5 p = some (.lst ys) ∧ ys.length < sizeLine ∧ ∃ m', m' < n - i ∧ CW n Pv (i + 1) m' (ys ++ [v]) σ3 (upd H5 p (.lst (ys ++ [v]))))
    (hd : ∀ ys σ H, Pv n ys σ H → R H) :
    ∃ W : Nat → Nat → List V → St → Hp → Prop, (∃ m, W 0 m [] σ0 H0) ∧ ∀ i m ys σc H2, W i m ys σc H2 → H2 p = some (.lst ys) ∧ (((Itr lo n).stop i H2 ∧ R H2) ∨ ((Itr lo n).go i H2 ∧ ∀ x H3, (Itr lo n).yld i H2 x H3 → g x σc H3 fun σ3 H4 => te σ3 H4 fun v H5 =>
      H5 p = some (.lst ys) ∧ ys.length < sizeLine ∧ ∃ m', m' < m ∧ W (i + 1) m' (ys ++ [v]) σ3 (upd H5 p (.lst (ys ++ [v]))))) := by
  refine ⟨CW n Pv, ⟨_, rfl, Nat.zero_le _, h0⟩, ?_⟩
  rintro i m ys σ H ⟨rfl, hi, hp⟩
  refine ⟨hl i ys σ H hi hp, ?_⟩
  by_cases hlt : i < n
  · refine .inr ⟨hlt, ?_⟩
    rintro x H3 ⟨rfl, rfl⟩
    exact hs i ys σ _ hlt hp
  · have e : i = n := by (first | lia | omega)
    subst e
    exact .inl ⟨Nat.le_refl _, hd ys σ H hp⟩
theorem modN (x : Int) {n : Nat} (h : 0 < n) : ∃ k : Nat, x % (n : Int) = (k : Int) ∧ k < n := by
  have h1 := Int.emod_nonneg x (by (first | lia | omega) : (n : Int) ≠ 0)
  have h2 := Int.emod_lt_of_pos x (by (first | lia | omega) : (0 : Int) < (n : Int))
  obtain ⟨k, hk⟩ := Int.eq_ofNat_of_zero_le h1
  exact ⟨k, hk, by (first | lia | omega)⟩
/-! forms with all that is known of them -/
end Fg

namespace Fg
open PySem L2 FgM
/-! kinds of groves by a form; words gone through from the last one -/
/-- the rest of a row that begins here, and those behind the tags that are open here, the innermost first -/
def bk : List Str → Gr Str × List (Gr Str)
  | [] => (.nil, [])
  | w :: ws => if w = SL then (.nil, (bk ws).1 :: (bk ws).2) else
    match (bk ws).2 with
    | [] => (.nil, [])
    | b :: pl => (.cons w (bk ws).1 b, pl)
theorem bk_sl (ws : List Str) : bk (SL :: ws) = (.nil, (bk ws).1 :: (bk ws).2) := by
  rw [bk, if_pos rfl]
theorem bk_tag {w : Str} {ws : List Str} (hw : w ≠ SL) {b : Gr Str} {pl : List (Gr Str)} (h : (bk ws).2 = b :: pl) : bk (w :: ws) = (.cons w (bk ws).1 b, pl) := by
  rw [bk, if_neg hw, h]
theorem can_len : ∀ {ws : List Str} {n : Nat}, Can SL n ws → (bk ws).2.length = n
  | [], n, h => by
    have h' : n = 0 := h
    subst h'
    rfl
  | w :: ws, n, h => by
    by_cases e : w = SL
    · subst e
      obtain ⟨h1, h2⟩ := can_end.mp h
      rw [bk_sl, List.length_cons, can_len h2]
      (first | lia | omega)
    · have h2 := can_len ((can_tag e).mp h)
      cases hb : (bk ws).2 with
      | nil =>
        rw [hb] at h2
        cases h2
      | cons b pl =>
        rw [bk_tag e hb]
        rw [hb] at h2
        simpa using h2
theorem can_split : ∀ {xs ys : List Str} {n : Nat}, Can SL n (xs ++ ys) → ∃ k : Nat, (k : Int) = n + hgt SL xs ∧ Can SL k ys
  | [], ys, n, h => ⟨n, by simp [hgt], h⟩
  | x :: xs, ys, n, h => by
    by_cases e : x = SL
    · subst e
      obtain ⟨h1, h2⟩ := can_end.mp h
      obtain ⟨k, hk, hc⟩ := can_split h2
      refine ⟨k, ?_, hc⟩
      simp only [hgt, if_true]
      (first | lia | omega)
    · obtain ⟨k, hk, hc⟩ := can_split ((can_tag e).mp h)
      refine ⟨k, ?_, hc⟩
      simp only [hgt, if_neg e]
      (first | lia | omega)
end Fg

namespace Fg
open PySem L2 FgM
/-! lists of kinds, one for each rest of a row -/
theorem can_drop {ws : List Str} (h : Can SL 0 ws) (i : Nat) : ∃ k, Can SL k (ws.drop i) := by
  have h' : Can SL 0 (ws.take i ++ ws.drop i) := by rw [List.take_append_drop]; exact h
  obtain ⟨k, _, hk⟩ := can_split h'
  exact ⟨k, hk⟩
/-! what the makers of words and forms promise -/
end Fg

/-! rows again and again -/
namespace Fg
open PySem L2 FgM
end Fg

/-! d.setdefault(k, x); sorted(d, reverse=True) of a dict with whole numbers as keys -/
namespace L2
open PySem PySem.Spec PyProof.Rows
end L2

/-! places of tags and of their ends; dicts by whole numbers -/
namespace Fg
open PySem L2 FgM
/-- the places of the open tags (the innermost first), and each tag's place with its end's -/
def cst (ws : List Str) : Nat → List Nat × List (Nat × Nat)
  | 0 => ([], [])
  | i + 1 => if ws[i]? = some SL then ((cst ws i).1.tail, (cst ws i).2 ++ (cst ws i).1.head?.toList.map (·, i)) else (i :: (cst ws i).1, (cst ws i).2)
theorem cst_end {ws : List Str} {i o : Nat} {os : List Nat} (h : ws[i]? = some SL) (e : (cst ws i).1 = o :: os) : cst ws (i + 1) = (os, (cst ws i).2 ++ [(o, i)]) := by
  show (if _ then _ else _) = _
  rw [if_pos h, e]
  rfl
theorem cst_tag {ws : List Str} {i : Nat} {w : Str} (h : ws[i]? = some w) (hw : w ≠ SL) : cst ws (i + 1) = (i :: (cst ws i).1, (cst ws i).2) := by
  show (if _ then _ else _) = _
  rw [if_neg (by rw [h]; exact fun e => hw (by injection e))]
theorem drop_here {ws : List Str} {i : Nat} {w : Str} (h : ws[i]? = some w) : ws.drop i = w :: ws.drop (i + 1) := by
  obtain ⟨hi, e⟩ := List.getElem?_eq_some_iff.mp h
  rw [List.drop_eq_getElem_cons hi, e]
/-- all that is known of them -/
structure Cst (ws : List Str) (i : Nat) : Prop where
  len : (cst ws i).1.length = (bk (ws.drop i)).2.length
  at_ : ∀ (m o : Nat), (cst ws i).1[m]? = some o → (bk (ws.drop (o + 1))).2[0]? = (bk (ws.drop i)).2[m]?
  pair : ∀ p e : Nat, (p, e) ∈ (cst ws i).2 → (bk (ws.drop (p + 1))).2[0]? = some (bk (ws.drop (e + 1))).1 ∧ p < e ∧ e < i
  mem : ∀ p : Nat, (p ∈ (cst ws i).1 ∨ p ∈ (cst ws i).2.map (·.1)) ↔ ∃ w, p < i ∧ ws[p]? = some w ∧ w ≠ SL
  nd : ((cst ws i).1 ++ (cst ws i).2.map (·.1)).Nodup
  cnt : (cst ws i).1.length + 2 * (cst ws i).2.length = i
theorem cst_ok {ws : List Str} (hc : Can SL 0 ws) : ∀ i, i ≤ ws.length → Cst ws i
  | 0, _ => ⟨by
      rw [List.drop_zero, can_len hc]
      rfl, (fun m o h => by cases m <;> cases h), (fun p e h => (nomatch h)), (fun p => ⟨fun h => h.elim (fun h => (nomatch h)) (fun h => (nomatch h)), fun ⟨_, h, _⟩ => absurd h (Nat.not_lt_zero _)⟩), List.nodup_nil, rfl⟩
  | i + 1, hi => by
    have x := cst_ok hc i (by (first | lia | omega))
    obtain ⟨w, hw⟩ : ∃ w, ws[i]? = some w := ⟨_, List.getElem?_eq_getElem (by (first | lia | omega))⟩
    by_cases e : w = SL
    · subst e
      have hb : bk (ws.drop i) = (.nil, (bk (ws.drop (i + 1))).1 :: (bk (ws.drop (i + 1))).2) := by rw [drop_here hw, bk_sl]
      cases hs : (cst ws i).1 with
      | nil =>
        have := x.len
        rw [hs, hb] at this
        cases this
      | cons o os =>
        have hz := cst_end hw hs
        obtain ⟨x1, x2, x3, x4, x5, x6⟩ := x
        rw [hs] at x1 x2 x4 x5 x6
        rw [hb] at x1 x2
        refine ⟨?_, fun m o' h => ?_, fun p e h => ?_, fun p => ?_, ?_, ?_⟩
        · rw [hz]
          simpa using x1
        · rw [hz] at h
          have := x2 (m + 1) o' (by rw [List.getElem?_cons_succ]; exact h)
          rw [List.getElem?_cons_succ] at this
          exact this
        · rw [hz] at h
          rcases List.mem_append.mp h with h | h
          · obtain ⟨a, b, c⟩ := x3 p e h
            exact ⟨a, b, by (first | lia | omega)⟩
          · have h' := List.mem_singleton.mp h
            injection h' with h1 h2
            subst h1 h2
            refine ⟨x2 0 p rfl, ?_, by (first | lia | omega)⟩
            obtain ⟨w', h1, _⟩ := (x4 p).mp (.inl (List.mem_cons_self ..))
            exact h1
        · rw [hz]
          have := x4 p
          constructor
          · intro h
            have h' : p ∈ o :: os ∨ p ∈ (cst ws i).2.map (·.1) := by
              rcases h with h | h
              · exact .inl (List.mem_cons_of_mem _ h)
              · rw [List.map_append] at h
                rcases List.mem_append.mp h with h | h
                · exact .inr h
                · exact .inl (by rw [List.mem_singleton.mp h]; exact List.mem_cons_self ..)
            obtain ⟨w', h1, h2, h3⟩ := this.mp h'
            exact ⟨w', by (first | lia | omega), h2, h3⟩
          · rintro ⟨w', h1, h2, h3⟩
            have hpi : p ≠ i := fun z => by
              rw [z, hw] at h2
              injection h2 with h2
              exact h3 h2.symm
            rw [List.map_append]
            rcases this.mpr ⟨w', by (first | lia | omega), h2, h3⟩ with h | h
            · rcases List.mem_cons.mp h with rfl | h
              · exact .inr (List.mem_append_right _ (List.mem_singleton.mpr rfl))
              · exact .inl h
            · exact .inr (List.mem_append_left _ h)
        · rw [hz, List.map_append]
          have hp : (os ++ ((cst ws i).2.map (·.1) ++ [o])).Perm (o :: os ++ (cst ws i).2.map (·.1)) := by
            rw [← List.append_assoc]
            exact List.perm_append_comm
          exact hp.nodup_iff.mpr x5
        · rw [hz]
          show os.length + 2 * ((cst ws i).2 ++ [(o, i)]).length = i + 1
          rw [List.length_append, List.length_singleton]
          rw [List.length_cons] at x6
          (first | lia | omega)
    · have hz := cst_tag hw e
      have hcd : ∃ k, Can SL k (ws.drop i) := can_drop hc i
      obtain ⟨k, hk⟩ := hcd
      rw [drop_here hw] at hk
      have hk' := can_len ((can_tag e).mp hk)
      cases hp : (bk (ws.drop (i + 1))).2 with
      | nil =>
        rw [hp] at hk'
        cases hk'
      | cons b pl =>
        have hb : bk (ws.drop i) = (.cons w (bk (ws.drop (i + 1))).1 b, pl) := by rw [drop_here hw, bk_tag e hp]
        obtain ⟨x1, x2, x3, x4, x5, x6⟩ := x
        rw [hb] at x1 x2
        refine ⟨?_, fun m o' h => ?_, fun p e' h => ?_, fun p => ?_, ?_, ?_⟩
        · rw [hz, hp, List.length_cons, List.length_cons, x1]
        · rw [hz] at h
          rw [hp]
          cases m with
          | zero =>
            injection h with h
            subst h
            rw [hp]
          | succ m =>
            rw [List.getElem?_cons_succ] at h ⊢
            exact x2 m o' h
        · rw [hz] at h
          obtain ⟨a, b, c⟩ := x3 p e' h
          exact ⟨a, b, by (first | lia | omega)⟩
        · rw [hz]
          have := x4 p
          constructor
          · rintro (h | h)
            · rcases List.mem_cons.mp h with rfl | h
              · exact ⟨w, by (first | lia | omega), hw, e⟩
              · obtain ⟨w', h1, h2, h3⟩ := this.mp (.inl h)
                exact ⟨w', by (first | lia | omega), h2, h3⟩
            · obtain ⟨w', h1, h2, h3⟩ := this.mp (.inr h)
              exact ⟨w', by (first | lia | omega), h2, h3⟩
          · rintro ⟨w', h1, h2, h3⟩
            by_cases hpi : p = i
            · exact .inl (by rw [hpi]; exact List.mem_cons_self ..)
            · rcases this.mpr ⟨w', by (first | lia | omega), h2, h3⟩ with h | h
              · exact .inl (List.mem_cons_of_mem _ h)
              · exact .inr h
        · rw [hz]
          refine List.nodup_cons.mpr ⟨fun h => ?_, x5⟩
          have h' : i ∈ (cst ws i).1 ∨ i ∈ (cst ws i).2.map (·.1) := List.mem_append.mp h
          obtain ⟨_, h1, _⟩ := (x4 i).mp h'
          (first | lia | omega)
        · rw [hz]
          show (i :: (cst ws i).1).length + 2 * (cst ws i).2.length = i + 1
          rw [List.length_cons]
          (first | lia | omega)
/-- the pairs as they stand in the dict -/
def kvC (ps : List (Nat × Nat)) : List (Key × V) := ps.map fun p => (Sum.inl (p.1 : Int), V.int (p.2 : Int))
theorem kvC_none {ps : List (Nat × Nat)} {p : Nat} (h : p ∉ ps.map (·.1)) : valV (kvC ps) (Sum.inl (p : Int)) = none := by
  induction ps with
  | nil => rfl
  | cons x ps ih =>
    rw [List.map_cons, List.mem_cons, not_or] at h
    show valV ((Sum.inl (x.1 : Int), V.int (x.2 : Int)) :: kvC ps) _ = none
    rw [valV_neg (fun z => h.1 (by injection z with z; exact (Int.ofNat.inj z).symm))]
    exact ih h.2
theorem kvC_some {ps : List (Nat × Nat)} {p e : Nat} (hn : (ps.map (·.1)).Nodup) (h : (p, e) ∈ ps) : valV (kvC ps) (Sum.inl (p : Int)) = some (.int (e : Int)) := by
  induction ps with
  | nil => cases h
  | cons x ps ih =>
    rw [List.map_cons, List.nodup_cons] at hn
    show valV ((Sum.inl (x.1 : Int), V.int (x.2 : Int)) :: kvC ps) _ = _
    rcases List.mem_cons.mp h with e1 | h
    · subst e1
      rw [valV_pos rfl]
    · rw [valV_neg (fun z => hn.1 (by injection z with z; rw [show x.1 = p from Int.ofNat.inj z]; exact List.mem_map.mpr ⟨_, h, rfl⟩))]
      exact ih hn.2 h
end Fg

namespace L2
open PySem PySem.Spec PyProof.Rows
end L2

/-! len of a dict; the place of a number in a list -/
namespace L2
open PySem PySem.Spec PyProof.Rows PySem.W
end L2

/-! pairs of numbers in order; sorted of a dict whose keys are such pairs -/
namespace Srd
open PySem PyProof.Rows Srt PySem.W
end Srd
namespace L2
open PySem PySem.Spec PyProof.Rows PySem.W Srd
end L2

/-! list(d): the keys of a dict, in its order -/
namespace L2
open PySem PySem.Spec PyProof.Rows PySem.W Srd
end L2

/-! l.extend(d): the keys of a dict behind what l has -/
namespace L2
open PySem PySem.Spec PyProof.Rows PySem.W Srd
end L2

/-! for i, x in enumerate(tuple); min(list of ints) -/
namespace L2
open PySem PySem.Spec PyProof.Rows
end L2

/-! runs: the first rule at each tag -/
namespace Fg
open PySem L2 FgM
end Fg

/-! list.insert; a quad in a tuple of quads, and its place there -/
namespace L2
open PySem PySem.Spec PyProof.Rows Srd
section
variable {X : Cx}
def rInsert : V → List V → Hp → VK → Prop := fun x vs H Q => ∃ (l : Addr) (xs : List V) (i : Int) (k : Nat) (y : V), x = .ref l ∧ vs = [.int i, y] ∧ i = (k : Int) ∧ H l = some (.lst xs) ∧ k ≤ xs.length ∧ xs.length < sizeLine ∧ Q .non (upd H l (.lst (xs.take k ++ y :: xs.drop k)))
theorem mt_insert : MtM X "list.insert" rInsert := by
  intro pins s σ H x vs v us Q I rx rv h
  obtain ⟨l, xs, i, k, y, rfl, rfl, hi, hH, hk, hz, q⟩ := h
  cases rx
  obtain ⟨u, us', rfl, ru, rv⟩ := rv.inv
  obtain ⟨u2, rfl, ru2⟩ := rv.one
  obtain ⟨t, rfl⟩ := ru
  obtain ⟨z, its, n, r, hl, e⟩ := I.lstM hH
  have hf : Builtin.List.listFitsIndex i = true := by
    have h1 : sizeLine < 9223372036854775808 := by unfold sizeLine; (first | lia | omega)
    exact fitsIndex_both (by (first | lia | omega)) (by (first | lia | omega))
  refine call_meets F.slot_list_insert ⟨_, e, rfl⟩ F.entry_list_insert (F.args_list_insert_3 _ _ _)
    (@AutoSeq1.list_insert_list_int_val_1 l its.toArray n i t u2 (by simp [hf]) (by rw [List.size_toArray, ← hl]; exact z)) ⟨e, ?_⟩
  refine ⟨.non, _, I.lset (its' := its.take k ++ u2 :: its.drop k) hH e ?_ ((r.take k).append (.cons ru2 (r.drop k))) ?_, rfl, q⟩
  · have e1 : ¬ (i < 0) := by (first | lia | omega)
    have e2 : min i.toNat its.length = k := by (first | lia | omega)
    simp only [if_neg e1, List.size_toArray, e2]
    apply Array.toList_inj.mp
    simp only [List.extract_toArray, List.push_toArray, List.append_toArray, List.extract_eq_take_drop, List.drop_zero, Nat.sub_zero]
    rw [List.take_of_length_le (l := its.drop k) (by rw [List.length_drop]; exact Nat.le_refl _)]
    simp
  · rw [List.length_append, List.length_cons, List.length_take, List.length_drop]
    (first | lia | omega)
end
end L2

/-! an own class called with arguments; isinstance of an own class -/
namespace L2
open PySem PySem.Spec PyProof.Rows
end L2

/-! sorted(set(l)) of a list of texts of any length, of which few are unlike -/
namespace Stg
open PySem PyProof.Rows Sts
end Stg
namespace L2
open PySem PySem.Spec PyProof.Rows PySem.W Srd Sts Stg
end L2
namespace L2
open PySem PySem.Spec PyProof.Rows
end L2
namespace L2
open PySem PySem.Spec PyProof.Rows
end L2

/-! the reader: its state, in the heap and as lists of pairs -/
namespace Fg
open PySem L2 FgM
/-! in the heap -/
/-! the promises of the reader's methods -/
end Fg

/-! what the laws of the reader build -/
namespace Fg
open PySem L2 FgM
end Fg
namespace L2
open PySem PySem.Spec PyProof.Rows
end L2
namespace L2
open PySem PySem.Spec PyProof.Rows
theorem op_notB {X : Cx} : OpR X (compareOp .IsNot) (fun x y H Q => ∃ a b, x = .bl a ∧ y = .bl b ∧ Q (.bl (!decide (a = b))) H) := by
  intro pins s σ H x y v u Q I rx ry h
  obtain ⟨a, b, rfl, rfl, q⟩ := h
  cases rx
  cases ry
  cases a <;> cases b <;> exact wpAny_pure (fin_bl I q rfl)
end L2
namespace Fg
open PySem L2 FgM
end Fg
namespace Fg
open PySem L2 FgM
/-- a cut within a block whose parts have names -/
theorem via {u t : TS} {D : Ends} {σ : St} {H : Hp} (R : St → Hp → Prop) (h2 : ∀ σ' H', R σ' H' → t D σ' H') (h1 : (∀ σ' H', R σ' H' → t D σ' H') → u D σ H) : u D σ H := h1 h2
end Fg
namespace Fg
open PySem L2 FgM
end Fg

/-! sorted(list of pairs), sorted(list of texts) -/
namespace L2
open PySem PySem.Spec PyProof.Rows PySem.W Srd Sts Stg
end L2
namespace Fg
open PySem L2 FgM
end Fg
namespace Fg
open PySem L2 FgM
end Fg
namespace L2
open PySem PySem.Spec PyProof.Rows
/-! a display of many written numbers -/
end L2
namespace L2
open PySem PySem.Spec PyProof.Rows
end L2
namespace Fg
open PySem L2 FgM
end Fg

/-! sorted(set(l)) of a list of pairs of numbers; a pair in a list of pairs -/
namespace L2
open PySem PySem.Spec PyProof.Rows PySem.W Srd Sts Stg
end L2

/-! sum(list of ints) -/
namespace L2
open PySem PySem.Spec PyProof.Rows
theorem preSum_list (ns : List Int) (f : Nat → Int) (h : ∀ j, f j = ns.getD j 0) : ∀ j, j ≤ ns.length → preSum f j = (ns.take j).sum
  | 0, _ => rfl
  | j + 1, hj => by
    have hn : ns[j]? = some (ns[j]'(by (first | lia | omega))) := List.getElem?_eq_getElem (by (first | lia | omega))
    show preSum f j + f j = _
    rw [preSum_list ns f h j (by (first | lia | omega)), h j, List.take_succ_eq_append_getElem (by (first | lia | omega)), List.sum_append, List.getD_eq_getElem?_getD, hn]
    simp
section
variable {X : Cx}
theorem call_sumL (hc : X.calm = true) : CallR X (.builtin "sum") (fun xs H Q => ∃ (a : Addr) (ns : List Int), xs = [.ref a] ∧ SqL X.K H a (ns.map V.int) ∧ Q (.int ns.sum) H) := by
  intro pins s σ H xs us Q I r h
  obtain ⟨a, ns, rfl, hq, q⟩ := h
  obtain ⟨u, rfl, r1⟩ := vals1 r
  cases r1
  obtain ⟨its, rv, pl, hz⟩ := I.list hq
  have hall : ∀ {ns : List Int} {its : List Value}, Vals (ns.map V.int) its → ∃ xs : List (Int × Tok), its = xs.map (fun p => Value.int p.1 p.2) ∧ xs.map (·.1) = ns := by
    intro ns
    induction ns with
    | nil =>
      intro its h
      cases h
      exact ⟨[], rfl, rfl⟩
    | cons n ns ih =>
      intro its h
      cases h with
      | cons h1 h2 =>
        obtain ⟨t, rfl⟩ := h1
        obtain ⟨xs, rfl, e⟩ := ih h2
        exact ⟨(n, t) :: xs, rfl, by rw [List.map_cons, e]⟩
  obtain ⟨ps, rfl, hps⟩ := hall rv
  have hl : s.heap.IsList a (intItems ps.toArray) := by
    have := pl.isList
    simpa [intItems] using this
  refine sum_intListG (I.ok.hd hc) hl fun h' tk t' hk => ?_
  refine ⟨V.int _, H, I.kept hk, ⟨t', rfl⟩, ?_⟩
  have e : preSum (numAt ps.toArray) ps.toArray.size = ns.sum := by
    rw [preSum_list ns _ (fun j => by rw [numAt_eq, ← hps]) _ (by rw [List.size_toArray, ← hps, List.length_map]; (first | lia | omega)), List.size_toArray, ← hps, List.take_of_length_le (by rw [List.length_map]; (first | lia | omega))]
  rw [e]
  exact q
end
end L2

/-! min(list of ints, default=d) -/
namespace L2
open PySem PySem.Spec PyProof.Rows PySem.SeqAt
end L2

/-! a grove under way: rows and tags that are open; one tag opened, one shut -/
namespace Fg
open PySem L2 FgM
structure GvS (H H1 : Hp) (R T : Addr) (as : List Addr) (gs : List (Gr Str)) (ts : List Str) : Prop where
  sm : Same H H1
  hT : H1 T = some (.lst ((ts.map V.str).reverse))
  hR : H1 R = some (.lst ((as.map V.ref).reverse))
  rows : RowsR H1 as gs
  nd : (R :: T :: as).Nodup
  fr : ∀ b ∈ R :: T :: as, H b = none
  gl : gs.length = ts.length + 1
  cl : ∀ g ∈ gs, Clean SL g
  tn : ∀ t ∈ ts, t ≠ SL
section
variable {H H1 : Hp} {R T : Addr} {as : List Addr} {gs : List (Gr Str)} {ts : List Str}
theorem GvS.nR (h : GvS H H1 R T as gs ts) : ∀ b ∈ as, b ≠ R := fun b hb e => (List.nodup_cons.mp h.nd).1 (by rw [← e]; exact List.mem_cons_of_mem _ hb)
theorem GvS.nT (h : GvS H H1 R T as gs ts) : ∀ b ∈ as, b ≠ T := fun b hb e => (List.nodup_cons.mp (List.nodup_cons.mp h.nd).2).1 (by rw [← e]; exact hb)
theorem GvS.RT (h : GvS H H1 R T as gs ts) : R ≠ T := fun e => (List.nodup_cons.mp h.nd).1 (by rw [e]; exact List.mem_cons_self ..)
theorem GvS.start {a0 R T : Addr} (h0 : H a0 = none) (hR : (upd H a0 (.lst [])) R = none) (hT : (upd (upd H a0 (.lst [])) R (.lst [.ref a0])) T = none) : GvS H (upd (upd (upd H a0 (.lst [])) R (.lst [.ref a0])) T (.lst [])) R T [a0] [.nil] [] := by
  obtain ⟨nR0, hR'⟩ := upd_none hR
  obtain ⟨nTR, hT2⟩ := upd_none hT
  obtain ⟨nT0, hT'⟩ := upd_none hT2
  refine ⟨((Same.new h0).upd_new hR').upd_new hT', upd_same, ?_, .cons ⟨[], ?_, .nil⟩ .nil, ?_, ?_, rfl, ?_, fun _ h => (nomatch h)⟩
  · rw [upd_ne nTR.symm]
    exact upd_same
  · rw [upd_ne nT0.symm, upd_ne nR0.symm]
    exact upd_same
  · simp [nTR.symm, nR0, nT0]
  · intro b hb
    simp only [List.mem_cons, List.not_mem_nil, or_false] at hb
    rcases hb with rfl | rfl | rfl
    · exact hR'
    · exact hT'
    · exact h0
  · intro g hg
    obtain rfl := List.mem_singleton.mp hg
    trivial
theorem GvS.opened {wd : Str} {l : Addr} (h : GvS H H1 R T as gs ts) (hw : wd ≠ SL) (hl : (upd H1 T (.lst ((ts.map V.str).reverse ++ [.str wd]))) l = none) : GvS H (upd (upd (upd H1 T (.lst ((ts.map V.str).reverse ++ [.str wd]))) l (.lst [])) R (.lst ((as.map V.ref).reverse ++ [.ref l]))) R T (l :: as) (.nil :: gs) (wd :: ts) := by
  obtain ⟨nlT, hl1⟩ := upd_none hl
  have nlR : R ≠ l := ne_of_none h.hR hl1
  have hRT := h.RT
  have hRb : (upd (upd H1 T (.lst ((ts.map V.str).reverse ++ [.str wd]))) l (.lst [])) R = some (.lst (as.map V.ref).reverse) := by
    rw [upd_ne nlR, upd_ne hRT]
    exact h.hR
  have tk : TK H1 (upd (upd (upd H1 T (.lst ((ts.map V.str).reverse ++ [.str wd]))) l (.lst [])) R (.lst ((as.map V.ref).reverse ++ [.ref l]))) := ((TK.lst h.hT).trans (TK.new hl)).trans (TK.lst hRb)
  have nla : l ∉ as := fun hb => by
    obtain ⟨o, ho⟩ := rows_there h.rows l hb
    rw [hl1] at ho
    cases ho
  obtain ⟨ndR, ndT⟩ := List.nodup_cons.mp h.nd
  obtain ⟨ndT', ndA⟩ := List.nodup_cons.mp ndT
  refine ⟨((h.sm.upd_new (h.fr T (by simp))).upd_new (h.sm.free hl1)).upd_new (h.fr R (by simp)), ?_, ?_, .cons ⟨[], ?_, .nil⟩ (rows_mono tk h.rows fun b hb o ho => ?_), ?_, ?_, by rw [List.length_cons, List.length_cons, h.gl], ?_, ?_⟩
  · rw [upd_ne hRT.symm, upd_ne nlT.symm, upd_same, List.map_cons, List.reverse_cons]
  · rw [upd_same, List.map_cons, List.reverse_cons]
  · rw [upd_ne nlR.symm]
    exact upd_same
  · rw [upd_ne (h.nR b hb), upd_ne (ne_of_none ho hl1), upd_ne (h.nT b hb)]
    exact ho
  · refine List.nodup_cons.mpr ⟨fun h => ?_, List.nodup_cons.mpr ⟨fun h => ?_, List.nodup_cons.mpr ⟨nla, ndA⟩⟩⟩
    · rcases List.mem_cons.mp h with h | h
      · exact hRT h
      · rcases List.mem_cons.mp h with h | h
        · exact nlR h
        · exact ndR (List.mem_cons_of_mem _ h)
    · rcases List.mem_cons.mp h with h | h
      · exact nlT h.symm
      · exact ndT' h
  · intro b hb
    simp only [List.mem_cons] at hb
    rcases hb with rfl | rfl | rfl | hb
    · exact h.fr _ (by simp)
    · exact h.fr _ (by simp)
    · exact h.sm.free hl1
    · exact h.fr b (by simp [hb])
  · intro g hg
    rcases List.mem_cons.mp hg with rfl | hg
    · trivial
    · exact h.cl g hg
  · intro x hx
    rcases List.mem_cons.mp hx with rfl | hx
    · exact hw
    · exact h.tn x hx
end
section
variable {H H1 : Hp} {R T b0 b1 l l2 : Addr} {as : List Addr} {g0 g1 : Gr Str} {gs : List (Gr Str)} {t : Str} {ts : List Str} {vs0 vs1 : List V}
/-- what can be told ahead of a tag's end -/
theorem GvS.two {as0 : List Addr} {gs0 : List (Gr Str)} (h : GvS H H1 R T as0 gs0 (t :: ts)) : ∃ b0 b1 as g0 g1 gs vs0 vs1, as0 = b0 :: b1 :: as ∧ gs0 = g0 :: g1 :: gs ∧ gs.length = ts.length ∧ H1 b0 = some (.lst vs0) ∧ RepG H1 vs0 g0 ∧ H1 b1 = some (.lst vs1) ∧ RepG H1 vs1 g1 ∧
    H1 R = some (.lst (((b1 :: as).map V.ref).reverse ++ [.ref b0])) ∧ H1 T = some (.lst ((ts.map V.str).reverse ++ [.str t])) := by
  have hgl := h.gl
  have hR := h.hR
  have hT := h.hT
  have hrows := h.rows
  cases gs0 with
  | nil => simp at hgl
  | cons g0 gs =>
    cases gs with
    | nil => simp at hgl
    | cons g1 gs =>
      cases hrows with
      | @cons b0 _ as _ r0 hrows =>
        cases hrows with
        | @cons b1 _ as _ r1 hrows =>
          obtain ⟨vs0, h00, r00⟩ := r0
          obtain ⟨vs1, h11, r11⟩ := r1
          refine ⟨b0, b1, as, g0, g1, gs, vs0, vs1, rfl, rfl, by simpa using hgl, h00, r00, h11, r11, ?_, ?_⟩
          · rw [hR, List.map_cons, List.reverse_cons]
          · rw [hT, List.map_cons, List.reverse_cons]
theorem GvS.shut (h : GvS H H1 R T (b0 :: b1 :: as) (g0 :: g1 :: gs) (t :: ts)) (h00 : H1 b0 = some (.lst vs0)) (r00 : RepG H1 vs0 g0) (h11 : H1 b1 = some (.lst vs1)) (r11 : RepG H1 vs1 g1)
    (hl : (upd H1 R (.lst ((b1 :: as).map V.ref).reverse)) l = none) (hl2 : (upd (upd (upd H1 R (.lst ((b1 :: as).map V.ref).reverse)) l (.tup vs0)) T (.lst (ts.map V.str).reverse)) l2 = none) :
    GvS H (upd (upd (upd (upd (upd H1 R (.lst ((b1 :: as).map V.ref).reverse)) l (.tup vs0)) T (.lst (ts.map V.str).reverse)) l2 (.tup [.str t, .ref l])) b1 (.lst (vs1 ++ [.ref l2]))) R T (b1 :: as) (snoc g1 t g0 :: gs) ts := by
  have hRT := h.RT
  have m0 : b0 ∈ b0 :: b1 :: as := List.mem_cons_self ..
  have m1 : b1 ∈ b0 :: b1 :: as := List.mem_cons_of_mem _ (List.mem_cons_self ..)
  obtain ⟨ndR, ndT⟩ := List.nodup_cons.mp h.nd
  obtain ⟨ndT', ndA⟩ := List.nodup_cons.mp ndT
  obtain ⟨nlR, hl1⟩ := upd_none hl
  have hT1 := h.hT
  have hR1 := h.hR
  have nlT : l ≠ T := (ne_of_none hT1 hl1).symm
  have nl1 : b1 ≠ l := ne_of_none h11 hl1
  obtain ⟨n2T, hl2a⟩ := upd_none hl2
  obtain ⟨n2l, hl2b⟩ := upd_none hl2a
  obtain ⟨n2R, hl2c⟩ := upd_none hl2b
  have n21 : b1 ≠ l2 := ne_of_none h11 hl2c
  have h1b : (upd (upd H1 R (.lst ((b1 :: as).map V.ref).reverse)) l (.tup vs0)) b1 = some (.lst vs1) := by
    rw [upd_ne nl1, upd_ne (h.nR b1 m1)]
    exact h11
  have h1d : (upd (upd (upd (upd H1 R (.lst ((b1 :: as).map V.ref).reverse)) l (.tup vs0)) T (.lst (ts.map V.str).reverse)) l2 (.tup [.str t, .ref l])) b1 = some (.lst vs1) := by
    rw [upd_ne n21, upd_ne (h.nT b1 m1)]
    exact h1b
  have hTb : (upd (upd H1 R (.lst ((b1 :: as).map V.ref).reverse)) l (.tup vs0)) T = some (.lst (((t :: ts).map V.str).reverse)) := by
    rw [upd_ne nlT.symm, upd_ne hRT.symm]
    exact hT1
  have tk : TK H1 (upd (upd (upd (upd (upd H1 R (.lst ((b1 :: as).map V.ref).reverse)) l (.tup vs0)) T (.lst (ts.map V.str).reverse)) l2 (.tup [.str t, .ref l])) b1 (.lst (vs1 ++ [.ref l2]))) :=
    ((((TK.lst hR1).trans (TK.new hl)).trans (TK.lst hTb)).trans (TK.new hl2)).trans (TK.lst h1d)
  have ndA2 := (List.nodup_cons.mp ndA).2
  have n1as := (List.nodup_cons.mp ndA2).1
  have hrows : RowsR H1 as gs := by
    cases h.rows with
    | cons _ r =>
      cases r with
      | cons _ r => exact r
  refine ⟨((((h.sm.upd_new (h.fr R (by simp))).upd_new (h.sm.free hl1)).upd_new (h.fr T (by simp))).upd_new (h.sm.free hl2c)).upd_new (h.fr b1 (by simp)), ?_, ?_, .cons ⟨_, upd_same, RepG.snoc (q := l) (ys := vs0) ?_ ?_ (r00.mono tk) (r11.mono tk)⟩ (rows_mono tk hrows fun b hb o ho => ?_), ?_, ?_, ?_, ?_, ?_⟩
  · rw [upd_ne (h.nT b1 m1).symm, upd_ne n2T.symm, upd_same]
  · rw [upd_ne (h.nR b1 m1).symm, upd_ne n2R.symm, upd_ne hRT, upd_ne nlR.symm, upd_same]
  · rw [upd_ne n21.symm]
    exact upd_same
  · rw [upd_ne nl1.symm, upd_ne n2l.symm, upd_ne nlT]
    exact upd_same
  · have mb : b ∈ b0 :: b1 :: as := List.mem_cons_of_mem _ (List.mem_cons_of_mem _ hb)
    have nb1 : b ≠ b1 := fun e => n1as (by rw [← e]; exact hb)
    rw [upd_ne nb1, upd_ne (ne_of_none ho hl2c), upd_ne (h.nT b mb), upd_ne (ne_of_none ho hl1), upd_ne (h.nR b mb)]
    exact ho
  · refine List.nodup_cons.mpr ⟨fun h => ?_, List.nodup_cons.mpr ⟨fun h => ndT' (List.mem_cons_of_mem _ h), ndA2⟩⟩
    rcases List.mem_cons.mp h with h | h
    · exact hRT h
    · exact ndR (List.mem_cons_of_mem _ (List.mem_cons_of_mem _ h))
  · intro b hb
    refine h.fr b ?_
    simp only [List.mem_cons] at hb ⊢
    rcases hb with h | h | h | h
    · exact .inl h
    · exact .inr (.inl h)
    · exact .inr (.inr (.inr (.inl h)))
    · exact .inr (.inr (.inr (.inr h)))
  · have := h.gl
    simpa using this
  · intro g hg
    rcases List.mem_cons.mp hg with rfl | hg
    · exact clean_snoc (h.tn t (List.mem_cons_self ..)) (h.cl g0 (List.mem_cons_self ..)) (h.cl g1 (List.mem_cons_of_mem _ (List.mem_cons_self ..)))
    · exact h.cl g (List.mem_cons_of_mem _ (List.mem_cons_of_mem _ hg))
  · exact fun x hx => h.tn x (List.mem_cons_of_mem _ hx)
theorem GvS.f1 (h : GvS H H1 R T (b0 :: b1 :: as) (g0 :: g1 :: gs) (t :: ts)) (h00 : H1 b0 = some (.lst vs0)) : (upd H1 R (.lst ((b1 :: as).map V.ref).reverse)) b0 = some (.lst vs0) := by
  rw [upd_ne (h.nR b0 (List.mem_cons_self ..))]
  exact h00
theorem GvS.f2 (h : GvS H H1 R T (b0 :: b1 :: as) (g0 :: g1 :: gs) (t :: ts)) (h11 : H1 b1 = some (.lst vs1)) (hl : (upd H1 R (.lst ((b1 :: as).map V.ref).reverse)) l = none) :
    (upd (upd H1 R (.lst ((b1 :: as).map V.ref).reverse)) l (.tup vs0)) R = some (.lst ((as.map V.ref).reverse ++ [.ref b1])) ∧ (upd (upd H1 R (.lst ((b1 :: as).map V.ref).reverse)) l (.tup vs0)) b1 = some (.lst vs1) ∧
    (upd (upd H1 R (.lst ((b1 :: as).map V.ref).reverse)) l (.tup vs0)) T = some (.lst ((ts.map V.str).reverse ++ [.str t])) := by
  obtain ⟨nlR, hl1⟩ := upd_none hl
  have nlT : l ≠ T := (ne_of_none h.hT hl1).symm
  have nl1 : b1 ≠ l := ne_of_none h11 hl1
  refine ⟨?_, ?_, ?_⟩
  · rw [upd_ne nlR.symm, upd_same, List.map_cons, List.reverse_cons]
  · rw [upd_ne nl1, upd_ne (h.nR b1 (List.mem_cons_of_mem _ (List.mem_cons_self ..)))]
    exact h11
  · rw [upd_ne nlT.symm, upd_ne h.RT.symm, h.hT, List.map_cons, List.reverse_cons]
theorem GvS.f3 (h : GvS H H1 R T (b0 :: b1 :: as) (g0 :: g1 :: gs) (t :: ts)) (h11 : H1 b1 = some (.lst vs1)) (hl : (upd H1 R (.lst ((b1 :: as).map V.ref).reverse)) l = none) (hl2 : (upd (upd (upd H1 R (.lst ((b1 :: as).map V.ref).reverse)) l (.tup vs0)) T (.lst (ts.map V.str).reverse)) l2 = none) :
    (upd (upd (upd (upd H1 R (.lst ((b1 :: as).map V.ref).reverse)) l (.tup vs0)) T (.lst (ts.map V.str).reverse)) l2 (.tup [.str t, .ref l])) b1 = some (.lst vs1) := by
  obtain ⟨_, hl2a⟩ := upd_none hl2
  obtain ⟨_, hl2b⟩ := upd_none hl2a
  obtain ⟨_, hl2c⟩ := upd_none hl2b
  rw [upd_ne (ne_of_none h11 hl2c), upd_ne (h.nT b1 (List.mem_cons_of_mem _ (List.mem_cons_self ..)))]
  exact (h.f2 h11 hl).2.1
/-- the words so far, one tag shut -/
theorem flat_shut (hgs : gs.length = ts.length) : (flatR SL (snoc g1 t g0 :: gs) ts).length = (flatR SL (g0 :: g1 :: gs) (t :: ts)).length + 1 ∧ (∀ x ∈ flatR SL (snoc g1 t g0 :: gs) ts, x = SL ∨ x ∈ flatR SL (g0 :: g1 :: gs) (t :: ts)) ∧ (words SL g1).length ≤ (flatR SL (g0 :: g1 :: gs) (t :: ts)).length := by
  have e := flatR_close SL t (w := g0) (r := g1) hgs
  refine ⟨?_, fun x hx => ?_, ?_⟩
  · rw [e, List.length_append, List.length_singleton]
  · rw [e] at hx
    rcases List.mem_append.mp hx with hx | hx
    · exact .inr hx
    · exact .inl (List.mem_singleton.mp hx)
  · have h1 := flatR_ge SL (r := g1) hgs
    simp only [flatR, List.length_append]
    (first | lia | omega)
end
/-! how many tags, how deep, what is within each -/
def gsz : Gr Str → Nat
  | .nil => 0
  | .cons _ w o => 1 + gsz w + gsz o
def gdep : Gr Str → Nat
  | .nil => 0
  | .cons _ w o => max (gdep w + 1) (gdep o)
def kidsG : Gr Str → List (Gr Str)
  | .nil => []
  | .cons _ w o => w :: kidsG o
theorem gsz_words : ∀ g : Gr Str, (words SL g).length = 2 * gsz g
  | .nil => rfl
  | .cons t w o => by
    have h1 := gsz_words w
    have h2 := gsz_words o
    simp only [words, gsz, List.length_cons, List.length_append]
    (first | lia | omega)
theorem gdep_le : ∀ g : Gr Str, gdep g ≤ gsz g
  | .nil => Nat.le_refl _
  | .cons t w o => by
    have h1 := gdep_le w
    have h2 := gdep_le o
    simp only [gdep, gsz]
    (first | lia | omega)
theorem kid_dep : ∀ {g w : Gr Str}, w ∈ kidsG g → gdep w < gdep g
  | .cons t w' o, w, h => by
    simp only [gdep]
    rcases List.mem_cons.mp h with rfl | h
    · (first | lia | omega)
    · have := kid_dep h
      (first | lia | omega)
theorem kid_sz : ∀ {g w : Gr Str}, w ∈ kidsG g → gsz w < gsz g
  | .cons t w' o, w, h => by
    simp only [gsz]
    rcases List.mem_cons.mp h with rfl | h
    · (first | lia | omega)
    · have := kid_sz h
      (first | lia | omega)
end Fg

/-! where the tags of a grove end; what stands at each place; how far two groves are apart -/
namespace Fg
open PySem L2 FgM
def prs : Nat → Gr Str → List (Nat × Nat)
  | _, .nil => []
  | k, .cons _ w o => prs (k + 1) w ++ (k, k + 1 + 2 * gsz w) :: prs (k + 2 + 2 * gsz w) o
/-- the rest of the row at a place -/
def atG : Gr Str → Nat → Gr Str
  | .nil, _ => .nil
  | .cons t w o, 0 => .cons t w o
  | .cons _ w o, i + 1 => if i ≤ 2 * gsz w then atG w i else atG o (i - (2 * gsz w + 1))
theorem atG_zero : ∀ g : Gr Str, atG g 0 = g
  | .nil => rfl
  | .cons _ _ _ => rfl
theorem atG_in {t : Str} {w o : Gr Str} {i : Nat} (h : i ≤ 2 * gsz w) : atG (.cons t w o) (i + 1) = atG w i := by
  show (if i ≤ 2 * gsz w then _ else _) = _
  rw [if_pos h]
theorem atG_out {t : Str} {w o : Gr Str} {i : Nat} : atG (.cons t w o) (i + 2 * gsz w + 2) = atG o i := by
  show (if i + 2 * gsz w + 1 ≤ 2 * gsz w then _ else _) = _
  rw [if_neg (by (first | lia | omega))]
  congr 1
  (first | lia | omega)
theorem words_in {t : Str} {w o : Gr Str} {j : Nat} (h : j < 2 * gsz w) : (words SL (.cons t w o))[j + 1]? = (words SL w)[j]? := by
  show (t :: (words SL w ++ SL :: words SL o))[j + 1]? = _
  rw [List.getElem?_cons_succ, List.getElem?_append_left (by rw [gsz_words]; exact h)]
theorem words_end {t : Str} {w o : Gr Str} : (words SL (.cons t w o))[2 * gsz w + 1]? = some SL := by
  show (t :: (words SL w ++ SL :: words SL o))[2 * gsz w + 1]? = _
  rw [List.getElem?_cons_succ, List.getElem?_append_right (by rw [gsz_words]; exact Nat.le_refl _), gsz_words, Nat.sub_self]
  rfl
theorem words_out {t : Str} {w o : Gr Str} {j : Nat} : (words SL (.cons t w o))[j + 2 * gsz w + 2]? = (words SL o)[j]? := by
  show (t :: (words SL w ++ SL :: words SL o))[j + 2 * gsz w + 1 + 1]? = _
  rw [List.getElem?_cons_succ, List.getElem?_append_right (by rw [gsz_words]; (first | lia | omega)), gsz_words, show j + 2 * gsz w + 1 - 2 * gsz w = j + 1 by (first | lia | omega), List.getElem?_cons_succ]
theorem cst_words : ∀ (g : Gr Str) (ws : List Str) (k : Nat), Clean SL g → (∀ j, j < 2 * gsz g → ws[k + j]? = (words SL g)[j]?) → cst ws (k + 2 * gsz g) = ((cst ws k).1, (cst ws k).2 ++ prs k g)
  | .nil, ws, k, _, _ => by
    show cst ws k = ((cst ws k).1, (cst ws k).2 ++ [])
    rw [List.append_nil]
  | .cons t w o, ws, k, hc, h => by
    obtain ⟨ht, hw, ho⟩ := hc
    have hz : gsz (.cons t w o) = 1 + gsz w + gsz o := rfl
    have h0 : ws[k]? = some t := h 0 (by rw [hz]; (first | lia | omega))
    have e1 := cst_tag h0 ht
    have e2 := cst_words w ws (k + 1) hw fun j hj => by
      have := h (j + 1) (by rw [hz]; (first | lia | omega))
      rw [words_in hj] at this
      rw [← this]
      congr 1
      (first | lia | omega)
    have h3 : ws[k + 1 + 2 * gsz w]? = some SL := by
      have := h (2 * gsz w + 1) (by rw [hz]; (first | lia | omega))
      rw [words_end] at this
      rw [← this]
      congr 1
      (first | lia | omega)
    rw [e1] at e2
    have e3 := cst_end (i := k + 1 + 2 * gsz w) (o := k) (os := (cst ws k).1) h3 (by rw [e2])
    have e4 := cst_words o ws (k + 2 + 2 * gsz w) ho fun j hj => by
      have := h (j + 2 * gsz w + 2) (by rw [hz]; (first | lia | omega))
      rw [words_out] at this
      rw [← this]
      congr 1
      (first | lia | omega)
    rw [show k + 2 * gsz (.cons t w o) = k + 2 + 2 * gsz w + 2 * gsz o by rw [hz]; (first | lia | omega), e4, show k + 2 + 2 * gsz w = k + 1 + 2 * gsz w + 1 by (first | lia | omega), e3, e2]
    show _ = (_, _ ++ (prs (k + 1) w ++ (k, k + 1 + 2 * gsz w) :: prs (k + 2 + 2 * gsz w) o))
    rw [show k + 2 + 2 * gsz w = k + 1 + 2 * gsz w + 1 by (first | lia | omega)]
    simp
theorem prs_at : ∀ (g : Gr Str) (k p e : Nat), (p, e) ∈ prs k g → ∃ i, p = k + i ∧ ∃ t w o, atG g i = .cons t w o ∧ e = p + 1 + 2 * gsz w ∧ atG g (i + 1) = w ∧ atG g (i + 2 * gsz w + 2) = o ∧ (words SL g)[i]? = some t ∧ i + 2 * gsz w + 2 ≤ 2 * gsz g
  | .cons t w o, k, p, e, h => by
    have hz : gsz (.cons t w o) = 1 + gsz w + gsz o := rfl
    rcases List.mem_append.mp h with h | h
    · obtain ⟨i, rfl, t', w', o', h1, h2, h3, h4, h5, h6⟩ := prs_at w (k + 1) p e h
      refine ⟨i + 1, by (first | lia | omega), t', w', o', ?_, h2, ?_, ?_, ?_, by rw [hz]; (first | lia | omega)⟩
      · rw [atG_in (by (first | lia | omega))]
        exact h1
      · rw [atG_in (by (first | lia | omega))]
        exact h3
      · rw [show i + 1 + 2 * gsz w' + 2 = (i + 2 * gsz w' + 2) + 1 by (first | lia | omega), atG_in (by (first | lia | omega))]
        exact h4
      · rw [words_in (by (first | lia | omega))]
        exact h5
    · rcases List.mem_cons.mp h with h | h
      · injection h with h1 h2
        subst h1 h2
        refine ⟨0, rfl, t, w, o, rfl, rfl, ?_, ?_, rfl, by rw [hz]; (first | lia | omega)⟩
        · rw [atG_in (Nat.zero_le _)]
          exact atG_zero w
        · rw [atG_out]
          exact atG_zero o
      · obtain ⟨i, rfl, t', w', o', h1, h2, h3, h4, h5, h6⟩ := prs_at o (k + 2 + 2 * gsz w) p e h
        refine ⟨i + 2 * gsz w + 2, by (first | lia | omega), t', w', o', ?_, h2, ?_, ?_, ?_, by rw [hz]; (first | lia | omega)⟩
        · rw [atG_out]
          exact h1
        · rw [show i + 2 * gsz w + 2 + 1 = i + 1 + 2 * gsz w + 2 by (first | lia | omega), atG_out]
          exact h3
        · rw [show i + 2 * gsz w + 2 + 2 * gsz w' + 2 = (i + 2 * gsz w' + 2) + 2 * gsz w + 2 by (first | lia | omega), atG_out]
          exact h4
        · rw [words_out]
          exact h5
end Fg

/-! a tuple times an int; max(list of ints) -/
namespace L2
open PySem PySem.Spec PyProof.Rows
theorem noFill_tuple_mul : fillsNumberSlot (.type "tuple") "mul" = pure false :=
  PySem.fillsNumberSlot_seq (id := "tuple.__mul__") (r := some (.builtin "tuple.__rmul__")) PySem.F.slot_tuple_mul.lookup (by decide +kernel) PySem.F.slot_tuple_rmul.lookup (by decide +kernel)
theorem repeat_tuple : seqRepeat? (.type "tuple") = pure (some (.builtin "tuple.__mul__")) := by
  unfold seqRepeat?
  rw [PySem.seqSlot_of (T := "tuple") (name := "__mul__") (id := "tuple.__mul__") PySem.F.slot_tuple_mul.lookup (by decide +kernel), PySem.seqSlot_of (T := "tuple") (name := "__rmul__") (id := "tuple.__rmul__") PySem.F.slot_tuple_rmul.lookup (by decide +kernel)]
  rfl
theorem rmul_int_tuple (a : Int) (t : Tok) (l : Addr) (items : Array Value) (n : Nat) (dd : Option Addr) (sl : Array (Option Value)) :
    Meets (Builtin.«int.__rmul__» ⟨[.int a t, .ref l], []⟩) (fun _ R s => s.heap.get? l = some { cls := .type "tuple", dict := dd, data := .seq items n, slots := sl } ∧ R (.ok (.ret Value.notImplemented)) s) :=
  .of_wp fun prog w A R s h => by obtain ⟨hp, g, d, tk, os⟩ := s; obtain ⟨hl, h⟩ := h; wp_walk; exact ⟨_, rfl, h⟩
theorem tuple_mulW1 (l : Addr) (items : Array Value) (n : Nat) (dd : Option Addr) (sl : Array (Option Value)) (u : Tok) :
    Meets (Builtin.«tuple.__mul__» ⟨[.ref l, .int 1 u], []⟩) (fun _ R s => s.heap.get? l = some { cls := .type "tuple", dict := dd, data := .seq items n, slots := sl } ∧ R (.ok (.ret (.ref l))) s) :=
  .of_wp fun prog w A R s h => by
    obtain ⟨hp, g, d, tk, os⟩ := s; obtain ⟨hl, h⟩ := h
    have f1 := AutoSeq1.idx_int
    wp_walk using wpAny_loadPart' hl
    exact ⟨_, rfl, h⟩
theorem tuple_mulW0 (l : Addr) (items : Array Value) (n : Nat) (dd : Option Addr) (sl : Array (Option Value)) (u : Tok) (hc : ¬ items.isEmpty = true) :
    Meets (Builtin.«tuple.__mul__» ⟨[.ref l, .int 0 u], []⟩) (fun _ R s => s.heap.get? l = some { cls := .type "tuple", dict := dd, data := .seq items n, slots := sl } ∧ R (.ok (.ret (.ref s.heap.objs.size))) { s with heap := s.heap.push { cls := Value.type "tuple", data := Data.seq #[] } }) :=
  .of_wp fun prog w A R s h => by
    obtain ⟨hp, g, d, tk, os⟩ := s; obtain ⟨hl, h⟩ := h
    have f1 := AutoSeq1.idx_int
    wp_walk using wpAny_loadPart' hl
    exact ⟨_, rfl, h⟩
theorem tuple_mulW2 (l : Addr) (items : Array Value) (n : Nat) (dd : Option Addr) (sl : Array (Option Value)) (k : Int) (u : Tok) (hc : ¬ items.isEmpty = true) (k1 : 1 < k) (k2 : k < 1000) (hz : items.size * k.toNat ≤ sizeLine) (hz2 : (List.foldl (fun x1 x2 => x1 ++ x2) #[] (List.replicate k.toNat items)).size ≤ sizeLine) :
    Meets (Builtin.«tuple.__mul__» ⟨[.ref l, .int k u], []⟩) (fun _ R s => s.heap.get? l = some { cls := .type "tuple", dict := dd, data := .seq items n, slots := sl } ∧ R (.ok (.ret (.ref s.heap.objs.size))) { s with heap := s.heap.push { cls := Value.type "tuple", data := Data.seq (List.foldl (fun x1 x2 => x1 ++ x2) #[] (List.replicate k.toNat items)) } }) :=
  .of_wp fun prog w A R s h => by
    obtain ⟨hp, g, d, tk, os⟩ := s; obtain ⟨hl, h⟩ := h
    have f1 := AutoSeq1.idx_int
    have ek : (items.size : Int) * k = ((items.size * k.toNat : Nat) : Int) := by
      rw [Int.natCast_mul, Int.toNat_of_nonneg (by (first | lia | omega))]
    have hs : (sizeLine : Nat) ≤ (2 ^ 63 - 1) / 8 := by decide
    have e1 : (decide (k < -2 ^ 63) || decide (k ≥ 2 ^ 63)) = false := by
      rw [decide_eq_false (by (first | lia | omega)), decide_eq_false (by (first | lia | omega))]; rfl
    have hc' : items.isEmpty = false := by simpa using hc
    have e2 : (items.isEmpty || k == 1) = false := by
      rw [hc', show (k == 1) = false from beq_eq_false_iff_ne.mpr (by (first | lia | omega))]; rfl
    have e3 : (decide (k ≤ 0) || items.isEmpty) = false := by
      rw [hc', decide_eq_false (by (first | lia | omega))]; rfl
    have e4 : ¬ ((items.size : Int) * k > (2 ^ 63 - 1) / 8) := by
      rw [ek]; (first | lia | omega)
    have e5 : Builtin.Tuple.tupleTooMany ((items.size : Int) * k) = false := by
      unfold Builtin.Tuple.tupleTooMany
      rw [ek]; exact decide_eq_false (by (first | lia | omega))
    wp_walk using wpAny_loadPart' hl
    refine wpAny_ite_false (by rw [e1]; rfl) ?_
    wp_walk using wpAny_loadPart' hl
    refine wpAny_ite_false (by rw [e2]; rfl) ?_
    refine wpAny_ite_false (by rw [e3]; rfl) ?_
    refine wpAny_ite_false (decide_eq_false e4) ?_
    refine wpAny_ite_false (by rw [e5]; rfl) ?_
    wp_walk
    exact ⟨_, rfl, h⟩
section
variable {X : Cx}
/-- a tuple with items times an int from nought on -/
def rRepT : R2 := fun x y H Q => ∃ l k xs, x = .ref l ∧ y = .int k ∧ H l = some (.tup xs) ∧ xs ≠ [] ∧ 0 ≤ k ∧ k < 1000 ∧ xs.length * k.toNat ≤ sizeLine ∧ ∀ p H', Same H H' → H' p = some (.tup (List.replicate k.toNat xs).flatten) → Q (.ref p) H'
theorem op_repT : OpR X (binaryOp .Mult) rRepT := by
  intro pins s σ H x y v u Q I rx ry h
  obtain ⟨l, k, xs, rfl, rfl, hH, hne, h1, h2, hz, q⟩ := h
  cases rx
  obtain ⟨t, rfl⟩ := ry
  obtain ⟨its, r, p1, z1⟩ := I.tuple (SqT.of hH)
  obtain ⟨⟨c1, d1, t1, s1⟩, ho, hc, n, hd⟩ := p1
  simp only at hc hd
  subst hc hd
  have hl := r.length
  have hne' : ¬ its.toArray.isEmpty = true := by
    intro z
    have : its = [] := by simpa using z
    subst this
    cases r
    exact hne rfl
  have f0 : ∀ m : Nat, List.foldl (fun x1 x2 => x1 ++ x2) #[] (List.replicate m its.toArray) = (List.replicate m its).flatten.toArray := fun m => by
    have := foldl_rep its m []
    rw [List.nil_append] at this
    exact this
  have hf : H s.heap.objs.size = none := I.hok.fresh (Nat.le_refl _)
  have hz' : its.toArray.size * k.toNat ≤ sizeLine := by rw [List.size_toArray, ← hl]; exact hz
  have hnew : ∀ ks : List Value, Vals (List.replicate k.toNat xs).flatten ks → EP X pins σ Q (.ref s.heap.objs.size) { s with heap := s.heap.push { cls := .type "tuple", data := .seq ks.toArray } } := fun ks rk => by
    refine ⟨.ref s.heap.objs.size, upd H s.heap.objs.size (.tup (List.replicate k.toNat xs).flatten), I.laid (t' := s.toks) (fun b u e => Heap.get?_push_of_some _ e) (Nat.le_refl _) ?_, rfl, q _ _ (Same.new hf) upd_same⟩
    exact ⟨by rw [len_rep, Nat.mul_comm]; exact hz, ks, rk, _, Heap.get?_push_size _ rfl, rfl, _, rfl⟩
  have go : wpAny (model X.prog X.w) X.A (call (.builtin "tuple.__mul__") [.ref l, .int k t]) (EP X pins σ Q) X.xe s := by
    rcases Int.lt_trichotomy k 1 with z | rfl | z
    · obtain rfl : k = 0 := by (first | lia | omega)
      exact call_meets PySem.F.slot_tuple_mul ⟨_, ho, rfl⟩ PySem.F.entry_tuple_mul (PySem.F.args_tuple_mul_2 _ _) (tuple_mulW0 l _ n d1 s1 t hne') ⟨ho, hnew [] .nil⟩
    · refine call_meets PySem.F.slot_tuple_mul ⟨_, ho, rfl⟩ PySem.F.entry_tuple_mul (PySem.F.args_tuple_mul_2 _ _) (tuple_mulW1 l _ n d1 s1 t) ⟨ho, ?_⟩
      refine ⟨.ref l, H, I, rfl, q l H (Same.refl H) ?_⟩
      show H l = some (.tup (List.replicate 1 xs).flatten)
      simp [hH]
    · refine call_meets PySem.F.slot_tuple_mul ⟨_, ho, rfl⟩ PySem.F.entry_tuple_mul (PySem.F.args_tuple_mul_2 _ _) (tuple_mulW2 l its.toArray n d1 s1 k t hne' z h2 hz' ?_) ⟨ho, ?_⟩
      · rw [f0, List.size_toArray, len_rep, Nat.mul_comm]
        exact hz'
      · rw [f0]
        exact hnew _ (r.rep k.toNat)
  exact wpAny_binaryOp_repeat_ref (T := "tuple") (U := "int") (by decide) ⟨_, ho, rfl⟩ (fun s' => typeIs_int s' k t) noFill_tuple_mul F.fills_int_mul F.slot_int_rmul repeat_tuple F.slot_int_index.lookup
    (call_meets F.slot_int_rmul (typeIs_int s k t) F.entry_int_rmul (F.args_int_rmul_2 _ _) (rmul_int_tuple k t l its.toArray n d1 s1) ⟨ho, rfl, ⟨_, ho, rfl⟩, go⟩)
end
end L2

/-! a table: a list of lists of ints, each row a list of its own -/
namespace Fg
open PySem L2 FgM
end Fg

/-! how far groves are apart: steps, and what they tell -/
namespace Fg
open PySem L2 FgM
end Fg

/-! groves changed tree by tree; == of groves -/
namespace Fg
open PySem L2 FgM
def takeG : Nat → Gr Str → Gr Str
  | 0, _ => .nil
  | _ + 1, .nil => .nil
  | i + 1, .cons t w o => .cons t w (takeG i o)
theorem RepG.tree {H : Hp} : ∀ {xs : List V} {g : Gr Str}, RepG H xs g → ∀ (i : Nat) z, xs[i]? = some z → ∃ p q t ys w, z = V.ref p ∧ H p = some (.tup [.str t, .ref q]) ∧ H q = some (.tup ys) ∧ RepG H ys w ∧ takeG (i + 1) g = FgM.gapp (takeG i g) (FgM.Gr.cons t w FgM.Gr.nil) ∧ w ∈ kidsG g
  | _, _, .cons h1 h2 h3 t, i, z, hz => by
    cases i with
    | zero =>
      injection hz with hz
      subst hz
      exact ⟨_, _, _, _, _, rfl, h1, h2, h3, rfl, List.mem_cons_self ..⟩
    | succ i =>
      obtain ⟨p, q, t', ys, w, e1, e2, e3, e4, e5, e6⟩ := RepG.tree t i z hz
      refine ⟨p, q, t', ys, w, e1, e2, e3, e4, ?_, List.mem_cons_of_mem _ e6⟩
      show Gr.cons _ _ (takeG (i + 1) _) = Gr.cons _ _ (FgM.gapp (takeG i _) _)
      rw [e5]
theorem RepG.take_all {H : Hp} : ∀ {xs : List V} {g : Gr Str}, RepG H xs g → takeG xs.length g = g
  | _, _, .nil => rfl
  | _, _, .cons _ _ _ t => by
    show Gr.cons _ _ (takeG _ _) = _
    rw [RepG.take_all t]
/-- k trees of one tag -/
def manyT (t : Str) : Nat → Gr Str
  | 0 => .nil
  | k + 1 => .cons t .nil (manyT t k)
theorem manyT_sz (t : Str) : ∀ k, gsz (manyT t k) = k
  | 0 => rfl
  | k + 1 => by simp only [manyT, gsz, manyT_sz t k]; (first | lia | omega)
theorem manyT_rep {H : Hp} {p q : Addr} {t : Str} (h1 : H p = some (.tup [.str t, .ref q])) (h2 : H q = some (.tup [])) : ∀ k : Nat, RepG H (List.replicate k [V.ref p]).flatten (manyT t k)
  | 0 => .nil
  | k + 1 => by
    rw [List.replicate_succ, List.flatten_cons]
    exact .cons h1 h2 .nil (manyT_rep h1 h2 k)
end Fg

/-! dict(list of pairs) whose keys are tuples -/
namespace Srd
open PySem PyProof.Rows
end Srd
namespace L2
open PySem PySem.Spec PyProof.Rows PySem.W Srd
end L2

/-! pairs of a number and a text in order; sorted of a dict whose keys are such pairs -/
namespace Srd
open PySem PyProof.Rows Srt PySem.W
end Srd
namespace L2
open PySem PySem.Spec PyProof.Rows PySem.W Srd
end L2

/-! parts of changers in the heap, streams; text.index, list.index of a tuple -/
namespace L2
open PySem PySem.Spec PyProof.Rows PySem.W
end L2
namespace Fg
open PySem L2 FgM
namespace Pa
end Pa
end Fg

/-! methods that may raise; isinstance of an exception, of any class -/
namespace L2
open PySem PySem.Spec PyProof.Rows PySem.W
end L2
namespace L2
open PySem PySem.Spec PyProof.Rows
end L2
namespace L2
open PySem PySem.Spec PyProof.Rows
end L2

/-! for k in d: a dict by ints or texts, walked; it is held fast while it is walked -/
namespace L2
open PySem PySem.Spec PyProof.Rows PySem.W
end L2

/-! C() where the class has no __init__ of its own -/
namespace L2
open PySem PySem.Spec PyProof.Rows PySem.W
end L2

/-! a def with defaults -/
namespace L2
open PySem PySem.Spec PyProof.Rows
end L2

/-! what comes of a grove by a changer, in any sense; the changed grove, its tags and depth -/
namespace Fg
open PySem L2 FgM
end Fg
namespace Fg
open PySem L2 FgM
end Fg

/-! sorted(d, reverse=True) at any length; defs with defaults that may raise -/
namespace Srd
open PySem PyProof.Rows Srt PySem.W
end Srd
namespace L2
open PySem PySem.Spec PyProof.Rows PySem.W
end L2
namespace L2
open PySem PySem.Spec PyProof.Rows
end L2

/-! a text put into a text by its repr: f'{x!r}' -/
namespace L2
open PySem PySem.Spec PyProof.Rows
def tFvR (tv : TE) : TE := fun σ H Q => tv σ H fun v H1 => ∃ z, v = .str z ∧ (reprText z).length ≤ sizeLine ∧ Q (.str (reprText z)) H1
section
variable {X : Cx} {e : Expr} {te : TE} {pos : Pos}
theorem pe_fvr (he : PE X e te) : PE X (.FormattedValue e 114 none pos) (tFvR te) := by
  intro pins s σ H Q I h
  refine wpAny_FormattedValue_repr (thn (he pins s σ H _ I h) fun u s1 ⟨v, H1, I1, r, z, ev, hz, q⟩ => ?_)
  subst ev
  obtain ⟨tk, rfl⟩ := r
  refine pyReprObj_str ?_ hz
  exact formatField_str (fun t' tk => ⟨.str (reprText z), H1, (I1.tok _).tok _, ⟨_, rfl⟩, q⟩) hz
end
end L2

/-! a dict by tuples, walked; sorted of a list of pairs of a number and a text; range with any step -/
namespace L2
open PySem PySem.Spec PyProof.Rows PySem.W
end L2
/-! a statement with a deep display, shut: pss_one would unfold it all -/
namespace L2
open PySem PySem.Spec PyProof.Rows
@[irreducible] def PSi (X : Cx) (st : Stmt) (t : TS) : Prop := PS X st t
@[irreducible] def PSsi (X : Cx) (ss : List Stmt) (t : TS) : Prop := PSs X ss t
section
variable {X : Cx}
theorem pssi_cons {st : Stmt} {ss : List Stmt} {t u : TS} (h : PSi X st t) (k : PSs X ss u) : PSsi X (st :: ss) (tSeq t u) := by
  unfold PSi at h
  unfold PSsi
  exact pss_cons h k
theorem psi_set {i : Nat} {x : Str} {e : Expr} {te : TE} {pos pos' : Pos} (hN : X.N.Nodup) (hi : X.N[i]? = some x) (hx : Loc X.env.scope x) (he : PEi X e te) (hs : swapsWith e (some (.Name x pos')) pos.line X.env = pure false := by rfl) (hf : X.fn x = true ∨ X.env.scope.names.lookup x = some .local := by first | exact .inl rfl | exact .inr rfl | assumption) : PSi X (.Assign [.Name x pos'] e pos) (tAsg te (gName i)) := by
  unfold PSi
  exact ps_set hN hi hx he.to hs hf
theorem hideS {b : List Stmt} {D : Ends} {σ : St} {H : Hp} (s : List Stmt) {t : TS} (h : PSsi X s t) (k : ∀ u, PSsi X s u → u = t → ∃ t, PSs X b t ∧ t D σ H) : ∃ t, PSs X b t ∧ t D σ H := k t h rfl
theorem pai_strs {es : List Expr} {ss : List Str} (h : strsOf es = some ss := by rfl) : PAi X es (tStrs ss) := .of (pa_strs h)
theorem pei_ix {r : R2} {a b : Expr} {ta tb : TE} {pos : Pos} (hr : IxR X r) (ha : PEi X a ta) (hb : PE X b tb) (hs : PlainIx b) : PEi X (.Subscript a b pos) (tOp r ta tb) := .of (pe_ix hr ha.to hb hs)
theorem psi_if {c : Expr} {a b : List Stmt} {tc : TT} {t u : TS} {pos : Pos} (hc : PT X c tc) (ha : PSsi X a t) (hb : PSs X b u) : PSi X (.If c a b pos) (tIfS tc t u) := by
  unfold PSsi at ha
  unfold PSi
  exact ps_if hc ha hb
theorem psst_cons {st : Stmt} {ss : List Stmt} {t u : TS} (h : PS X st t) (k : PSsi X ss u) : PSs X (st :: ss) (tSeq t u) := by
  unfold PSsi at k
  exact pss_cons h k
end
end L2

namespace K82
open PySem L2 FgM Fg
def top (i : Nat) : Stmt := PySem.Challenge.pw_formgrove_k82_no_changes.main.body.getD i (.Pass ⟨0, 0, 0, 0⟩)
abbrev s_is_tag : Stmt := top 18
abbrev s_words_of : Stmt := top 19
abbrev s_grove_of : Stmt := top 20
abbrev s_size : Stmt := top 21
abbrev s_closings : Stmt := top 22
abbrev s_done : Stmt := top 24
abbrev s_refuse_bad_changes : Stmt := top 25
abbrev s_behind_change : Stmt := top 26
abbrev s_price : Stmt := top 27
abbrev s_price_of : Stmt := top 28
abbrev s_tree_size : Stmt := top 29
abbrev s_l_cell_at : Stmt := top 31
abbrev s_l_word : Stmt := top 32
abbrev s_l_pool : Stmt := top 33
abbrev s_l_grove : Stmt := top 34
abbrev s_l_words : Stmt := top 35
abbrev s_l_close : Stmt := top 36
abbrev s_l_change : Stmt := top 37
abbrev s_l_drawn : Stmt := top 38
abbrev s_l_spoiled : Stmt := top 39
abbrev s_l_is_tag : Stmt := top 40
abbrev s_l_right : Stmt := top 41
abbrev s_l_due : Stmt := top 42
abbrev s_l_priced : Stmt := top 43
abbrev s_l_made : Stmt := top 44
abbrev s_law : Stmt := top 45
theorem sc_is_tag : FnScope ["text"] ["text"] (defScope s_is_tag) := ⟨rfl, rfl, rfl, by decide +kernel, rfl, by decide +kernel, by decide +kernel⟩
theorem sc_words_of : FnScope ["grove", "words", "waiting", "tree"] ["grove"] (defScope s_words_of) := ⟨rfl, rfl, rfl, by decide +kernel, rfl, by decide +kernel, by decide +kernel⟩
theorem sc_grove_of : FnScope ["words", "tags", "rows", "place", "word", "within"] ["words"] (defScope s_grove_of) := ⟨rfl, rfl, rfl, by decide +kernel, rfl, by decide +kernel, by decide +kernel⟩
theorem sc_size : FnScope ["grove"] ["grove"] (defScope s_size) := ⟨rfl, rfl, rfl, by decide +kernel, rfl, by decide +kernel, by decide +kernel⟩
theorem sc_closings : FnScope ["words", "ended_at", "begun", "place", "word"] ["words"] (defScope s_closings) := ⟨rfl, rfl, rfl, by decide +kernel, rfl, by decide +kernel, by decide +kernel⟩
theorem sc_done : FnScope ["grove", "changes", "words", "ended_at", "made", "at", "change"] ["grove", "changes"] (defScope s_done) := ⟨rfl, rfl, rfl, by decide +kernel, rfl, by decide +kernel, by decide +kernel⟩
theorem sc_refuse_bad_changes : FnScope ["words", "changes", "ended_at", "earliest", "change", "tag"] ["words", "changes"] (defScope s_refuse_bad_changes) := ⟨rfl, rfl, rfl, by decide +kernel, rfl, by decide +kernel, by decide +kernel⟩
theorem sc_behind_change : FnScope ["ended_at", "change"] ["ended_at", "change"] (defScope s_behind_change) := ⟨rfl, rfl, rfl, by decide +kernel, rfl, by decide +kernel, by decide +kernel⟩
theorem sc_price : FnScope ["grove", "changes", "words", "ended_at"] ["grove", "changes"] (defScope s_price) := ⟨rfl, rfl, rfl, by decide +kernel, rfl, by decide +kernel, by decide +kernel⟩
theorem sc_price_of : FnScope ["ended_at", "change"] ["ended_at", "change"] (defScope s_price_of) := ⟨rfl, rfl, rfl, by decide +kernel, rfl, by decide +kernel, by decide +kernel⟩
theorem sc_tree_size : FnScope ["ended_at", "place"] ["ended_at", "place"] (defScope s_tree_size) := ⟨rfl, rfl, rfl, by decide +kernel, rfl, by decide +kernel, by decide +kernel⟩
theorem sc_l_cell_at : FnScope ["_law_script", "_law_k"] ["_law_script", "_law_k"] (defScope s_l_cell_at) := ⟨rfl, rfl, rfl, by decide +kernel, rfl, by decide +kernel, by decide +kernel⟩
theorem sc_l_word : FnScope ["_law_cell", "_law_word_here", "_law_k", "_law_number"] ["_law_cell"] (defScope s_l_word) := ⟨rfl, rfl, rfl, by decide +kernel, rfl, by decide +kernel, by decide +kernel⟩
theorem sc_l_pool : FnScope ["_law_cell", "_law_many", "_law_base", "_law_at", "_law_letters"] ["_law_cell", "_law_many"] (defScope s_l_pool) := ⟨rfl, rfl, rfl, by decide +kernel, rfl, by decide +kernel, by decide +kernel⟩
theorem sc_l_grove : FnScope ["_law_script", "_law_start", "_law_many", "_law_tags", "_law_rows", "_law_opened", "_law_k", "_law_cell", "_law_number", "_law_j", "_law_kidrow"] ["_law_script", "_law_start", "_law_many", "_law_tags"] (defScope s_l_grove) := ⟨rfl, rfl, rfl, by decide +kernel, rfl, by decide +kernel, by decide +kernel⟩
theorem sc_l_words : FnScope ["_law_row", "_law_words_here", "_law_tag", "_law_kidrow"] ["_law_row"] (defScope s_l_words) := ⟨rfl, rfl, rfl, by decide +kernel, rfl, by decide +kernel, by decide +kernel⟩
theorem sc_l_close : FnScope ["_law_words_here", "_law_place", "_law_opened"] ["_law_words_here", "_law_place"] (defScope s_l_close) := ⟨rfl, rfl, rfl, by decide +kernel, rfl, by decide +kernel, by decide +kernel⟩
theorem sc_l_change : FnScope ["_law_words_here", "_law_place", "_law_cell", "_law_tags", "_law_way"] ["_law_words_here", "_law_place", "_law_cell", "_law_tags"] (defScope s_l_change) := ⟨rfl, rfl, rfl, by decide +kernel, rfl, by decide +kernel, by decide +kernel⟩
theorem sc_l_drawn : FnScope ["_law_script", "_law_words_here", "_law_tags", "_law_changes", "_law_place", "_law_k", "_law_cell"] ["_law_script", "_law_words_here", "_law_tags"] (defScope s_l_drawn) := ⟨rfl, rfl, rfl, by decide +kernel, rfl, by decide +kernel, by decide +kernel⟩
theorem sc_l_spoiled : FnScope ["_law_changes", "_law_words_here", "_law_way", "_law_cell", "_law_some", "_law_at", "_law_one", "_law_odd"] ["_law_changes", "_law_words_here", "_law_way", "_law_cell"] (defScope s_l_spoiled) := ⟨rfl, rfl, rfl, by decide +kernel, rfl, by decide +kernel, by decide +kernel⟩
theorem sc_l_is_tag : FnScope ["_law_word_here", "_law_sign"] ["_law_word_here"] (defScope s_l_is_tag) := ⟨rfl, rfl, rfl, by decide +kernel, rfl, by decide +kernel, by decide +kernel⟩
theorem sc_l_right : FnScope ["_law_words_here", "_law_changes", "_law_k", "_law_word_here", "_law_place", "_law_far", "_law_other"] ["_law_words_here", "_law_changes"] (defScope s_l_right) := ⟨rfl, rfl, rfl, by decide +kernel, rfl, by decide +kernel, by decide +kernel⟩
theorem sc_l_due : FnScope ["_law_words_here", "_law_changes", "_law_total", "_law_change_here"] ["_law_words_here", "_law_changes"] (defScope s_l_due) := ⟨rfl, rfl, rfl, by decide +kernel, rfl, by decide +kernel, by decide +kernel⟩
theorem sc_l_priced : FnScope ["_law_grove_here", "_law_changes", "_law_told", "_law_clean", "e"] ["_law_grove_here", "_law_changes"] (defScope s_l_priced) := ⟨rfl, rfl, rfl, by decide +kernel, rfl, by decide +kernel, by decide +kernel⟩
theorem sc_l_made : FnScope ["_law_grove_here", "_law_changes", "_law_told", "_law_clean", "e"] ["_law_grove_here", "_law_changes"] (defScope s_l_made) := ⟨rfl, rfl, rfl, by decide +kernel, rfl, by decide +kernel, by decide +kernel⟩
theorem sc_law : FnScope ["_law_script", "_law_tags", "_law_grove_here", "_law_words_here", "_law_good", "_law_way", "_law_spoiled_here", "_law_changes", "_law_handed", "_law_cost", "_law_clean", "_law_made_here", "_law_also"] ["_law_script"] (defScope s_law) := ⟨rfl, rfl, rfl, by decide +kernel, rfl, by decide +kernel, by decide +kernel⟩
structure XC (K : PySem.W.Frag) (mg : Str → Option Value) (X_GroveError X_NoGrove X_BadForm X_TooMany X_TooBig X_NoneFits X_NoBook X_TwiceNamed X_NoName X_Ring X_BadChanger X_NoRecipe X_NotStraight X_NoChange X_NoRow : Addr) : Prop where
  n_GroveError : mg "GroveError" = some (.ref X_GroveError)
  n_NoGrove : mg "NoGrove" = some (.ref X_NoGrove)
  n_BadForm : mg "BadForm" = some (.ref X_BadForm)
  n_TooMany : mg "TooMany" = some (.ref X_TooMany)
  n_TooBig : mg "TooBig" = some (.ref X_TooBig)
  n_NoneFits : mg "NoneFits" = some (.ref X_NoneFits)
  n_NoBook : mg "NoBook" = some (.ref X_NoBook)
  n_TwiceNamed : mg "TwiceNamed" = some (.ref X_TwiceNamed)
  n_NoName : mg "NoName" = some (.ref X_NoName)
  n_Ring : mg "Ring" = some (.ref X_Ring)
  n_BadChanger : mg "BadChanger" = some (.ref X_BadChanger)
  n_NoRecipe : mg "NoRecipe" = some (.ref X_NoRecipe)
  n_NotStraight : mg "NotStraight" = some (.ref X_NotStraight)
  n_NoChange : mg "NoChange" = some (.ref X_NoChange)
  n_NoRow : mg "NoRow" = some (.ref X_NoRow)
  bas : XBas K X_GroveError
  isG : PySem.W.isClsIn K X_GroveError = true
  tyG : PySem.W.typeIn K (.ref X_GroveError) = some (.type "type")
  c_GroveError : XCl K X_GroveError
  c_NoGrove : XCl K X_NoGrove
  c_BadForm : XCl K X_BadForm
  c_TooMany : XCl K X_TooMany
  c_TooBig : XCl K X_TooBig
  c_NoneFits : XCl K X_NoneFits
  c_NoBook : XCl K X_NoBook
  c_TwiceNamed : XCl K X_TwiceNamed
  c_NoName : XCl K X_NoName
  c_Ring : XCl K X_Ring
  c_BadChanger : XCl K X_BadChanger
  c_NoRecipe : XCl K X_NoRecipe
  c_NotStraight : XCl K X_NotStraight
  c_NoChange : XCl K X_NoChange
  c_NoRow : XCl K X_NoRow
  top_NoChange : XTop K X_NoChange X_GroveError
  ini_NoChange : PySem.W.findIn K (.ref X_NoChange) "__init__" = some (some (.builtin "ValueError.__init__"))
  mV_NoChange : PySem.W.mroIn K X_NoChange (.type "ValueError") = some true
  ne_NoChange : X_NoChange ≠ X_GroveError
  m_NoChange_GroveError : PySem.W.mroIn K X_NoChange (.ref X_GroveError) = some true
  m_NoChange_NoGrove : PySem.W.mroIn K X_NoChange (.ref X_NoGrove) = some false
  m_NoChange_BadForm : PySem.W.mroIn K X_NoChange (.ref X_BadForm) = some false
  m_NoChange_TooMany : PySem.W.mroIn K X_NoChange (.ref X_TooMany) = some false
  m_NoChange_TooBig : PySem.W.mroIn K X_NoChange (.ref X_TooBig) = some false
  m_NoChange_NoneFits : PySem.W.mroIn K X_NoChange (.ref X_NoneFits) = some false
  m_NoChange_NoBook : PySem.W.mroIn K X_NoChange (.ref X_NoBook) = some false
  m_NoChange_TwiceNamed : PySem.W.mroIn K X_NoChange (.ref X_TwiceNamed) = some false
  m_NoChange_NoName : PySem.W.mroIn K X_NoChange (.ref X_NoName) = some false
  m_NoChange_Ring : PySem.W.mroIn K X_NoChange (.ref X_Ring) = some false
  m_NoChange_BadChanger : PySem.W.mroIn K X_NoChange (.ref X_BadChanger) = some false
  m_NoChange_NoRecipe : PySem.W.mroIn K X_NoChange (.ref X_NoRecipe) = some false
  m_NoChange_NotStraight : PySem.W.mroIn K X_NoChange (.ref X_NotStraight) = some false
  m_NoChange_NoChange : PySem.W.mroIn K X_NoChange (.ref X_NoChange) = some true
  m_NoChange_NoRow : PySem.W.mroIn K X_NoChange (.ref X_NoRow) = some false
abbrev blts : List Str := ["ValueError", "all", "bool", "enumerate", "int", "isinstance", "len", "list", "max", "min", "range", "sum", "tuple"]
section
variable {P : Program} {w : World} {K : PySem.W.Frag} {mg : Str → Option Value} {base : Heap} {f : Addr} {fd : FuncData} {X_GroveError X_NoGrove X_BadForm X_TooMany X_TooBig X_NoneFits X_NoBook X_TwiceNamed X_NoName X_Ring X_BadChanger X_NoRecipe X_NotStraight X_NoChange X_NoRow : Addr}
theorem ok_l_cell_at (B : ∀ x ∈ blts, mg x = none) (F : Fun K "_law_cell_at" "_law_cell_at" s_l_cell_at f fd) : FnOk P w K mg base CX0 1 f fd ["_law_script", "_law_k"] (spCell K) := by
  refine F.ok sc_l_cell_at (fun vs H Q E h => ?_) (fun cdv A outer s H vs Q E hr h => ?_)
  · obtain ⟨a, ns, k, rfl, _⟩ := h
    rfl
  obtain ⟨a, ns, k, rfl, hS, h63, h0, q⟩ := h
  refine ⟨_, (pss_cons (ps_if (pt_cmpR op_lt (pv 1) (pe_callB call_len_seq rfl (B "len" (by decide)) PySem.boot_len (pa_cons (pv 0) pa_nil)) (nomark _))
      (pss_one (ps_ret (pe_ix ix_list (pv 0) (pv 1) (fun _ _ => rfl))))
      pss_nil)
    (pss_one (ps_ret pe_int))), ?_⟩
  refine ⟨_, rfl, _, rfl, a, _, rfl, .inl hS, _, _, rfl, rfl, _, rfl, ?_⟩
  refine ite2 (fun c => ?_) (fun c => ?_)
  · have c' := of_decide_eq_true c
    rw [List.length_map] at c'
    obtain ⟨v, hv⟩ := ints_at (ns := ns) h0 c'
    exact ⟨_, rfl, _, rfl, a, _, k, _, rfl, rfl, hS, hv, q v⟩
  · exact q 0
def spWordV : Sp := fun vs H Q _ => ∃ c : Int, vs = [.int c] ∧ ∀ t : Str, Lets t → t.length ≤ 8 → Q (.str t) H
set_option maxHeartbeats 1000000 in
theorem ok_l_word (B : ∀ x ∈ blts, mg x = none) (F : Fun K "_law_word" "_law_word" s_l_word f fd) : FnOk P w K mg base CX0 1 f fd ["_law_cell"] spWordV := by
  refine F.ok sc_l_word (fun vs H Q E h => ?_) (fun cdv A outer s H vs Q E hr h => ?_)
  · obtain ⟨c, rfl, _⟩ := h
    rfl
  obtain ⟨c, rfl, q⟩ := h
  have m1 := Int.emod_nonneg c (by decide : (8 : Int) ≠ 0)
  have m2 := Int.emod_lt_of_pos c (by decide : (0 : Int) < 8)
  refine ⟨_, (pss_cons (ps_set (i := 1) sc_l_word.nd rfl (Or.inl rfl) pe_str)
    (pss_cons (ps_for PassesOwn.never rfl (pi_range1 rfl (B "range" (by decide)) (pa_cons (pe_op op_add pe_int (pe_op op_mod (pv 0) pe_int)) pa_nil)) (pg_name (i := 2) sc_l_word.nd rfl (Or.inl rfl))
      (pss_cons (ps_set (i := 3) sc_l_word.nd rfl (Or.inl rfl) (pe_op op_add (pe_op op_mul (pe_op op_fdiv (pe_op op_fdiv (pv 0) pe_int) (pe_op op_add (pv 2) pe_int)) pe_int) (pe_op op_mul pe_int (pv 2))))
        (pss_one (ps_set (i := 1) sc_l_word.nd rfl (Or.inl rfl) (pe_op op_add_str (pv 1) (pe_ix ix_str pe_str (pe_op op_mod (pe_op op_mod (pv 3) pe_int) pe_int) (fun _ _ => rfl)))))))
    (pss_one (ps_ret (pv 1))))), ?_⟩
  refine ⟨_, rfl, _, _, rfl, rfl, (by show (0 : Int) < 8; decide), _, _, rfl, rfl, _, rfl, (by show -2 ^ 62 ≤ 1 + c % 8; (first | lia | omega)), (by show 1 + c % 8 < 2 ^ 62; (first | lia | omega)), for_range (lo := 0) (n := (1 + c % 8).toNat) (fun i σ H1 => ∃ (t : Str) (v2 v3 : Option V), σ = [some (.int c), some (.str t), v2, v3] ∧ H1 = H ∧ t.length = i ∧ Let0 t) ⟨Str.empty, none, none, rfl, rfl, rfl, fun _ h => (nomatch h)⟩ ?_ ?_⟩
  · rintro i σ H1 hi ⟨t, v2, v3, rfl, rfl, hl, hlt⟩
    refine ⟨_, rfl, _, _, rfl, rfl, ⟨by decide, by decide⟩, _, rfl, _, _, rfl, rfl, _, _, rfl, rfl, ⟨by (first | lia | omega), by (first | lia | omega)⟩, _, _, rfl, rfl, .inr ⟨by decide, by decide⟩, _, rfl, _, _, rfl, rfl, .inl ⟨by decide, by decide⟩, _, _, rfl, rfl, ?_⟩
    obtain ⟨ch, hc, c1, c2⟩ := abc_at (i := (c / 8 / (0 + (i : Int) + 1) * 48271 + 31 * (0 + (i : Int))) % 65537 % 26) (Int.emod_nonneg _ (by decide)) (Int.emod_lt_of_pos _ (by decide))
    refine ⟨_, rfl, _, rfl, _, _, rfl, rfl, (by show (0 : Int) < 65537; decide), _, _, rfl, rfl, (by show (0 : Int) < 26; decide), _, _, ch, rfl, rfl, (by decide), hc, _, _, rfl, rfl, ?_, ?_⟩
    · show t.length + 1 ≤ sizeLine
      exact len1000 (by (first | lia | omega))
    · refine ⟨_, _, _, rfl, rfl, ?_, let0_app hlt fun x hx => ?_⟩
      · rw [app_len, hl]
        rfl
      · rw [List.mem_singleton.mp hx]
        exact ⟨c1, c2⟩
  · rintro σ H1 ⟨t, v2, v3, rfl, rfl, hl, hlt⟩
    refine ⟨_, rfl, q t ⟨fun z => ?_, hlt⟩ (by (first | lia | omega))⟩
    have : t.cps.toList.length = t.length := Array.length_toList
    rw [z, List.length_nil] at this
    (first | lia | omega)
def spPoolV : Sp := fun vs H Q _ => ∃ (c m : Int), vs = [.int c, .int m] ∧ 0 ≤ m ∧ m ≤ 10 ∧ ∀ (r : Addr) (ts : List Str) (H' : Hp), Same H H' → H r = none → H' r = some (.lst (ts.map V.str)) → (ts.length : Int) = m → (∀ t ∈ ts, Lets t ∧ t.length ≤ 8) → Q (.ref r) H'
/-- one sign put in another's place -/
theorem put_sign {t s1 : Str} {k : Int} (ht : Let0 t) (h0 : 0 ≤ k) (h1 : k < (t.length : Int)) (hs : Let0 s1) (hl : s1.length = 1) :
    (PySem.StrLaws.sliceText t none (some k)).length = k.toNat ∧ (PySem.StrLaws.sliceText t (some (k + 1)) none).length = t.length - (k.toNat + 1) ∧ Let0 (PySem.StrLaws.sliceText t none (some k) ++ s1 ++ PySem.StrLaws.sliceText t (some (k + 1)) none) := by
  have hlt : t.cps.toList.length = t.length := by rw [Array.length_toList]; rfl
  have E1 := PySem.StrLaws.sliceText_to (x := t) (j := k) ⟨h0, by rw [hlt]; (first | lia | omega)⟩
  have E2 := PySem.StrLaws.sliceText_from (x := t) (i := k + 1) ⟨by (first | lia | omega), by rw [hlt]; (first | lia | omega)⟩
  refine ⟨?_, ?_, let0_app (let0_app ?_ hs) ?_⟩
  · rw [E1]
    show ((t.cps.toList.drop 0).take _).toArray.size = _
    rw [List.size_toArray, List.length_take, List.length_drop, hlt]
    (first | lia | omega)
  · rw [E2, show ∀ l : List Nat, (⟨l.toArray⟩ : Str).length = l.length from fun l => List.size_toArray, List.length_take, List.length_drop, hlt]
    (first | lia | omega)
  · rw [E1]
    intro c hc
    have hc' : c ∈ (t.cps.toList.drop 0).take (k - 0).toNat := by simpa using hc
    exact ht c (List.mem_of_mem_drop (List.mem_of_mem_take hc'))
  · rw [E2]
    intro c hc
    refine ht c ?_
    simp only [List.toList_toArray] at hc
    exact List.mem_of_mem_drop (List.mem_of_mem_take hc)
set_option maxHeartbeats 2000000 in
theorem ok_l_pool (B : ∀ x ∈ blts, mg x = none) (g_l_word : Has P w K mg base "_law_word" ["_law_cell"] 1 spWordV) (F : Fun K "_law_pool" "_law_pool" s_l_pool f fd) : FnOk P w K mg base CX0 2 f fd ["_law_cell", "_law_many"] spPoolV := by
  refine F.ok sc_l_pool (fun vs H Q E h => ?_) (fun cdv A outer s H vs Q E hr h => ?_)
  · obtain ⟨c, m, rfl, _⟩ := h
    rfl
  obtain ⟨c, m, rfl, m0, m1, q⟩ := h
  refine ⟨_, (pss_cons (ps_set (i := 2) sc_l_pool.nd rfl (Or.inr rfl) (pe_has g_l_word hr rfl (pa_cons (pv 0) pa_nil)))
    (pss_cons (ps_set (i := 3) sc_l_pool.nd rfl (Or.inr rfl) (pe_op op_mod (pe_op op_fdiv (pv 0) pe_int) (pe_callB call_len_str rfl (B "len" (by decide)) PySem.boot_len (pa_cons (pv 2) pa_nil))))
    (pss_cons (ps_set (i := 4) sc_l_pool.nd rfl (Or.inr rfl) pe_str)
    (pss_one (ps_ret (pe_comp (cl := _) ["_law_k"] [("_law_cell", 0), ("_law_base", 2), ("_law_at", 3), ("_law_letters", 4)] (pi_range1 rfl (B "range" (by decide)) (pa_cons (pv 1) pa_nil)) (fun _ _ _ _ => (pg_name (i := 0) (show List.Nodup (["_law_k", "_law_cell", "_law_base", "_law_at", "_law_letters"] : List Str) by decide) rfl (Or.inl rfl))) (fun _ _ _ _ => (pe_op op_add_str (pe_op op_add_str (pe_slice sl_str (pv 2) po_none (po_some (pv 3))) (pe_ix ix_str (pv 4) (pe_op op_mod (pe_op op_add (pe_op op_fdiv (pv 1) pe_int) (pe_op op_mul pe_int (pv 0))) pe_int) (fun _ _ => rfl))) (pe_slice sl_str (pv 2) (po_some (pe_op op_add (pv 3) pe_int)) po_none))) rfl rfl (by decide) rfl (by decide) (cap_cl (by (repeat' first | exact List.forall_mem_nil _ | refine List.forall_mem_cons.mpr ⟨?_, ?_⟩) <;> rfl)) (cap_has (by (repeat' first | exact List.forall_mem_nil _ | refine List.forall_mem_cons.mpr ⟨?_, ?_⟩) <;> first | (intro h; exact ⟨_, rfl⟩) | (intro h; exact absurd h (by decide)))) (fun _ => by (repeat' first | exact List.forall_mem_nil _ | refine List.forall_mem_cons.mpr ⟨?_, ?_⟩) <;> exact ⟨rfl, rfl, Or.inl rfl⟩) (fun _ => rfl))))))), ?_⟩
  refine ⟨_, rfl, c, rfl, fun t hlt ht8 => ?_⟩
  have hlen : t.cps.toList.length = t.length := by rw [Array.length_toList]; rfl
  have ht1 : 0 < t.length := by
    rw [← hlen]
    exact List.length_pos_iff.mpr hlt.1
  have tp : (0 : Int) < (t.length : Int) := by (first | lia | omega)
  refine ⟨_, rfl, _, _, rfl, rfl, ⟨by decide, by decide⟩, _, rfl, t, rfl, len1000 (by (first | lia | omega)), _, _, rfl, rfl, tp, ?_⟩
  have k0 := Int.emod_nonneg (c / 64) (Int.ne_of_gt tp)
  have k1 := Int.emod_lt_of_pos (c / 64) tp
  refine ⟨_, rfl, m, rfl, by (first | lia | omega), by (first | lia | omega), fun pc hpc => ?_⟩
  refine comp_range (lo := 0) (n := m.toNat) (p := pc) (fun i ys σ H2 => ∃ (v0 : Option V) (ts : List Str), σ = [v0, some (.int c), some (.str t), some (.int (c / 64 % (t.length : Int))), some (.str ABC)] ∧ Same H H2 ∧ H2 pc = some (.lst ys) ∧ ys = ts.map V.str ∧ ts.length = i ∧ ∀ x ∈ ts, Lets x ∧ x.length ≤ 8)
    ⟨none, [], rfl, Same.new hpc, upd_same, rfl, rfl, fun _ h => (nomatch h)⟩ ?_ ?_ ?_
  · rintro i ys σ H2 _ ⟨v0, ts, _, _, h, _⟩
    exact h
  · rintro i ys σ H2 hi ⟨v0, ts, rfl, sm, hp, rfl, htl, hts⟩
    obtain ⟨ch, hc, c1, c2⟩ := abc_at (i := (c / 512 + 5 * (0 + (i : Int))) % 26) (Int.emod_nonneg _ (by decide)) (Int.emod_lt_of_pos _ (by decide))
    obtain ⟨L1, L2, L3⟩ := put_sign (s1 := ⟨#[ch]⟩) hlt.let0 k0 k1 (fun x hx => by rw [List.mem_singleton.mp hx]; exact ⟨c1, c2⟩) rfl
    refine ⟨_, rfl, _, rfl, _, rfl, _, rfl, len1000 (by (first | lia | omega)), _, rfl, _, rfl, _, _, rfl, rfl, ⟨by decide, by decide⟩, _, rfl, _, _, rfl, rfl, .inl ⟨by decide, by decide⟩, _, _, rfl, rfl, _, _, rfl, rfl, (by show (0 : Int) < 26; decide), _, _, ch, rfl, rfl, (by decide), hc, _, _, rfl, rfl, ?_, ?_⟩
    · rw [L1]
      show _ + 1 ≤ sizeLine
      exact len1000 (by (first | lia | omega))
    refine ⟨_, rfl, _, rfl, _, _, rfl, rfl, _, rfl, _, rfl, len1000 (by (first | lia | omega)), _, _, rfl, rfl, ?_, hp, len1000' (by rw [List.length_map]; (first | lia | omega)), CW.next hi ⟨_, ts ++ [_], rfl, sm.upd_new hpc, upd_same, by rw [List.map_append]; rfl, by rw [List.length_append, List.length_singleton]; (first | lia | omega), fun x hx => ?_⟩⟩
    · rw [app_len, L1, L2]
      show _ + 1 + _ ≤ sizeLine
      exact len1000 (by (first | lia | omega))
    rcases List.mem_append.mp hx with hx | hx
    · exact hts x hx
    · rw [List.mem_singleton.mp hx]
      refine ⟨⟨fun z => ?_, L3⟩, ?_⟩
      · have h1 := congrArg List.length z
        rw [app_cps, app_cps, List.length_append, List.length_append, List.length_nil] at h1
        have h2 : (1 : Nat) ≤ List.length (⟨#[ch]⟩ : Str).cps.toList := Nat.le_refl _
        (first | lia | omega)
      · rw [app_len, app_len, L1, L2]
        show _ + 1 + _ ≤ 8
        (first | lia | omega)
  · rintro ys σ H2 ⟨v0, ts, rfl, sm, hp, rfl, htl, hts⟩
    exact q pc ts H2 sm hpc hp (by (first | lia | omega)) hts
def spGroveV (K : PySem.W.Frag) : Sp := fun vs H Q _ => ∃ (a tg : Addr) (ns : List Int) (st m : Int) (ts : List Str), vs = [.ref a, .int st, .int m, .ref tg] ∧ SqL K H a (ns.map V.int) ∧ ns.length ≤ 63 ∧ 0 ≤ st ∧ 0 ≤ m ∧ m ≤ 400 ∧ H tg = some (.lst (ts.map V.str)) ∧ 0 < ts.length ∧ (∀ t ∈ ts, t ≠ SL) ∧
  ∀ (r : Addr) (xs : List V) (g : Gr Str) (H' : Hp), Same H H' → H r = none → H' r = some (.tup xs) → RepG H' xs g → Clean SL g → ((words SL g).length : Int) = 2 * m → (∀ x ∈ words SL g, x = SL ∨ x ∈ ts) → Q (.ref r) H'
set_option maxHeartbeats 2000000 in
theorem ok_l_grove (B : ∀ x ∈ blts, mg x = none) (g_l_cell_at : Has P w K mg base "_law_cell_at" ["_law_script", "_law_k"] 1 (spCell K)) (F : Fun K "_law_grove" "_law_grove" s_l_grove f fd) : FnOk P w K mg base CX0 2 f fd ["_law_script", "_law_start", "_law_many", "_law_tags"] (spGroveV K) := by
  refine F.ok sc_l_grove (fun vs H Q E h => ?_) (fun cdv A outer s H vs Q E hr h => ?_)
  · obtain ⟨a, tg, ns, st, m, ts, rfl, _⟩ := h
    rfl
  obtain ⟨a, tg, ns, st, m, ts, rfl, hS, h63, st0, m0, m4, htg, ht0, htn, q⟩ := h
  refine ⟨_, (pss_cons (ps_set (i := 4) sc_l_grove.nd rfl (Or.inl rfl) (pe_lst (pa_cons (pe_lst pa_nil) pa_nil)))
    (pss_cons (ps_set (i := 5) sc_l_grove.nd rfl (Or.inl rfl) (pe_lst pa_nil))
    (pss_cons (ps_for PassesOwn.never rfl (pi_range1 rfl (B "range" (by decide)) (pa_cons (pv 2) pa_nil)) (pg_name (i := 6) sc_l_grove.nd rfl (Or.inl rfl))
      (pss_cons (ps_set (i := 7) sc_l_grove.nd rfl (Or.inl rfl) (pe_has g_l_cell_at hr rfl (pa_cons (pv 0) (pa_cons (pe_op op_add (pv 1) (pe_op op_mod (pv 6) (pe_callB (call_max2 rfl) rfl (B "max" (by decide)) bt_max (pa_cons pe_int (pa_cons (pe_op op_sub (pe_callB call_len_seq rfl (B "len" (by decide)) PySem.boot_len (pa_cons (pv 0) pa_nil)) (pv 1)) pa_nil))))) pa_nil))))
        (pss_cons (ps_set (i := 8) sc_l_grove.nd rfl (Or.inl rfl) (pe_op op_mod (pe_op op_add (pe_op op_mul (pv 7) pe_int) (pe_op op_mul (pe_op op_mul (pv 6) (pv 6)) pe_int)) pe_int))
        (pss_cons (ps_for PassesOwn.never rfl (pi_range1 rfl (B "range" (by decide)) (pa_cons (pe_callB (call_min2 rfl) rfl (B "min" (by decide)) bt_min (pa_cons (pe_callB call_len_seq rfl (B "len" (by decide)) PySem.boot_len (pa_cons (pv 5) pa_nil)) (pa_cons (pe_op op_mod (pv 8) pe_int) pa_nil))) pa_nil)) (pg_name (i := 9) sc_l_grove.nd rfl (Or.inl rfl))
          (pss_cons (ps_set (i := 10) sc_l_grove.nd rfl (Or.inl rfl) (pe_callTy call_tuple_of rfl (B "tuple" (by decide)) bt_tuple (pa_cons (pe_bm0 PySem.F.plainAttrs_list PySem.F.slot_list_pop PySem.F.type_list_pop mt_pop (pv 4)) pa_nil)))
            (pss_one (ps_expr (pe_bm PySem.F.plainAttrs_list PySem.F.slot_list_append PySem.F.type_list_append mt_append (pe_ix ix_list (pv 4) (pe_un un_neg pe_int) (fun _ _ => rfl)) (pa_cons (pe_tup (pa_cons (pe_bm0 PySem.F.plainAttrs_list PySem.F.slot_list_pop PySem.F.type_list_pop mt_pop (pv 5)) (pa_cons (pv 10) pa_nil))) pa_nil))))))
        (pss_cons (ps_expr (pe_bm PySem.F.plainAttrs_list PySem.F.slot_list_append PySem.F.type_list_append mt_append (pv 5) (pa_cons (pe_ix ix_list (pv 3) (pe_op op_mod (pe_op op_fdiv (pv 8) pe_int) (pe_callB call_len_seq rfl (B "len" (by decide)) PySem.boot_len (pa_cons (pv 3) pa_nil))) (fun _ _ => rfl)) pa_nil)))
        (pss_one (ps_expr (pe_bm PySem.F.plainAttrs_list PySem.F.slot_list_append PySem.F.type_list_append mt_append (pv 4) (pa_cons (pe_lst pa_nil) pa_nil)))))))))
    (pss_cons (ps_while PassesOwn.never (pt_cmpR op_gt (pe_callB call_len_seq rfl (B "len" (by decide)) PySem.boot_len (pa_cons (pv 5) pa_nil)) pe_int (nomark _))
      (pss_cons (ps_set (i := 10) sc_l_grove.nd rfl (Or.inl rfl) (pe_callTy call_tuple_of rfl (B "tuple" (by decide)) bt_tuple (pa_cons (pe_bm0 PySem.F.plainAttrs_list PySem.F.slot_list_pop PySem.F.type_list_pop mt_pop (pv 4)) pa_nil)))
        (pss_one (ps_expr (pe_bm PySem.F.plainAttrs_list PySem.F.slot_list_append PySem.F.type_list_append mt_append (pe_ix ix_list (pv 4) (pe_un un_neg pe_int) (fun _ _ => rfl)) (pa_cons (pe_tup (pa_cons (pe_bm0 PySem.F.plainAttrs_list PySem.F.slot_list_pop PySem.F.type_list_pop mt_pop (pv 5)) (pa_cons (pv 10) pa_nil))) pa_nil))))))
    (pss_one (ps_ret (pe_callTy call_tuple_of rfl (B "tuple" (by decide)) bt_tuple (pa_cons (pe_ix ix_list (pv 4) pe_int (fun _ _ => rfl)) pa_nil)))))))), ?_⟩
  refine ⟨by decide, fun a0 h0 => ⟨(by show 1 ≤ sizeLine; decide), fun R hR => ?_⟩⟩
  refine ⟨by decide, fun T hT => ?_⟩
  have g0 := GvS.start h0 hR hT
  generalize upd (upd (upd H a0 (.lst [])) R (.lst [.ref a0])) T (.lst []) = H1 at g0 ⊢
  refine ⟨_, rfl, m, rfl, by (first | lia | omega), by (first | lia | omega), for_range (lo := 0) (n := m.toNat) (fun i σ H2 => ∃ (as : List Addr) (gs : List (Gr Str)) (os : List Str) (v6 v7 v8 v9 v10 : Option V), σ = [some (.ref a), some (.int st), some (.int m), some (.ref tg), some (.ref R), some (.ref T), v6, v7, v8, v9, v10] ∧ GvS H H2 R T as gs os ∧ (flatR SL gs os).length + os.length = 2 * i ∧ ∀ x ∈ flatR SL gs os, x = SL ∨ x ∈ ts)
    ⟨_, _, _, none, none, none, none, none, rfl, g0, rfl, fun _ h => (nomatch h)⟩ ?_ ?_⟩
  · rintro i σ H2 hi ⟨as, gs, os, v6, v7, v8, v9, v10, rfl, hg, hfl, hft⟩
    have hi4 : i < 400 := by (first | lia | omega)
    have hS2 := hg.sm.seq hS
    refine ⟨_, rfl, _, rfl, _, rfl, _, rfl, a, _, rfl, .inl hS2, _, rfl, _, _, rfl, rfl, _, _, rfl, _, _, rfl, rfl, ?_, _, _, rfl, rfl, a, ns, _, rfl, hS2, h63, ?_, fun v => ?_⟩
    · exact max_pos _
    · have := Int.emod_nonneg (0 + (i : Int)) (Int.ne_of_gt (max_pos (((ns.map V.int).length : Int) - st)))
      (first | lia | omega)
    refine ⟨_, rfl, _, _, rfl, rfl, .inr ⟨by decide, by decide⟩, _, rfl, _, rfl, _, _, rfl, rfl, .inl ⟨by (first | lia | omega), by (first | lia | omega)⟩, _, _, rfl, rfl, .inr ⟨by decide, by decide⟩, _, _, rfl, rfl, _, _, rfl, rfl, (by show (0 : Int) < 1000003; decide), ?_⟩
    have hm0 := Int.emod_nonneg ((v * 48271 + (0 + (i : Int)) * (0 + (i : Int)) * 69621) % 1000003) (by decide : (4 : Int) ≠ 0)
    have hm4 := Int.emod_lt_of_pos ((v * 48271 + (0 + (i : Int)) * (0 + (i : Int)) * 69621) % 1000003) (by decide : (0 : Int) < 4)
    have hlr : (((os.map V.str).reverse.length : Nat) : Int) = (os.length : Int) := by rw [List.length_reverse, List.length_map]
    obtain ⟨c, hc, c0, c1, c4⟩ : ∃ c : Int, (if ((v * 48271 + (0 + (i : Int)) * (0 + (i : Int)) * 69621) % 1000003) % 4 < (((os.map V.str).reverse.length : Nat) : Int) then ((v * 48271 + (0 + (i : Int)) * (0 + (i : Int)) * 69621) % 1000003) % 4 else (((os.map V.str).reverse.length : Nat) : Int)) = c ∧ 0 ≤ c ∧ c ≤ (os.length : Int) ∧ c ≤ 3 := by
      rw [hlr]
      by_cases z : ((v * 48271 + (0 + (i : Int)) * (0 + (i : Int)) * 69621) % 1000003) % 4 < (os.length : Int)
      · exact ⟨_, if_pos z, by (first | lia | omega), by (first | lia | omega), by (first | lia | omega)⟩
      · exact ⟨_, if_neg z, by (first | lia | omega), by (first | lia | omega), by (first | lia | omega)⟩
    have hol : os.length ≤ 2 * i := by (first | lia | omega)
    refine ⟨_, rfl, T, _, rfl, .inl (SqL.of hg.hT), _, rfl, _, _, rfl, rfl, (by show (0 : Int) < 4; decide), _, _, rfl, c, congrArg (fun z => [V.int z]) hc, by (first | lia | omega), by (first | lia | omega), for_range (lo := 0) (n := c.toNat) (fun j σ H3 => ∃ (as : List Addr) (gs : List (Gr Str)) (os' : List Str) (v9 v10 : Option V), σ = [some (.ref a), some (.int st), some (.int m), some (.ref tg), some (.ref R), some (.ref T), some (.int (0 + (i : Int))), some (.int v), some (.int ((v * 48271 + (0 + (i : Int)) * (0 + (i : Int)) * 69621) % 1000003)), v9, v10] ∧ GvS H H3 R T as gs os' ∧ (flatR SL gs os').length + os'.length = 2 * i ∧ (∀ x ∈ flatR SL gs os', x = SL ∨ x ∈ ts) ∧ os'.length + j = os.length)
      ⟨_, _, _, _, _, rfl, hg, hfl, hft, rfl⟩ ?_ ?_⟩
    · rintro j σ H3 hj ⟨as, gs, os', v9, v10, rfl, hg, hfl, hft, hoj⟩
      cases os' with
      | nil =>
        rw [List.length_nil] at hoj
        (first | lia | omega)
      | cons t os' =>
        obtain ⟨b0, b1, as, g0, g1, gs, vs0, vs1, rfl, rfl, hgs, h00, r00, h11, r11, hRs, hTs⟩ := hg.two
        obtain ⟨fs1, fs2, fs3⟩ := flat_shut (g0 := g0) (g1 := g1) (t := t) hgs
        have hv1 := r11.length
        rw [List.length_cons] at hfl hoj
        refine ⟨_, rfl, .inl ⟨rfl, _, SqL.of hRs⟩, R, _, _, rfl, rfl, hRs, snoc_last _ _, ?_⟩
        rw [snoc_drop]
        refine ⟨b0, vs0, rfl, .inl ⟨SqL.of (hg.f1 h00), fun l hl => ?_⟩⟩
        obtain ⟨hRb, h1b, hTb⟩ := hg.f2 (vs0 := vs0) h11 hl
        refine ⟨_, rfl, 1, rfl, R, _, -1, .ref b1, rfl, rfl, SqL.of hRb, atI_last _ _, .inl ⟨rfl, _, SqL.of h1b⟩, _, rfl, .inl ⟨rfl, _, SqL.of hTb⟩, T, _, _, rfl, rfl, hTb, snoc_last _ _, ?_⟩
        rw [snoc_drop]
        refine ⟨_, rfl, (by show 2 ≤ sizeLine; decide), fun l2 hl2 => ?_⟩
        refine ⟨b1, _, _, rfl, rfl, hg.f3 h11 hl hl2, len1000' (by (first | lia | omega)), ?_⟩
        refine ⟨_, _, _, _, _, rfl, hg.shut h00 r00 h11 r11 hl hl2, by (first | lia | omega), fun x hx => ?_, by (first | lia | omega)⟩
        rcases fs2 x hx with h | h
        · exact .inl h
        · exact hft x h
    · rintro σ H3 ⟨as, gs, os', v9, v10, rfl, hg, hfl, hft, hoj⟩
      have htg3 := hg.sm _ _ htg
      have lpos : (0 : Int) < ((ts.map V.str).length : Nat) := by
        rw [List.length_map]
        (first | lia | omega)
      obtain ⟨k, hk, hkl⟩ := modN (((v * 48271 + (0 + (i : Int)) * (0 + (i : Int)) * 69621) % 1000003) / 4) (n := (ts.map V.str).length) (by (first | lia | omega))
      rw [List.length_map] at hkl
      have hat := strs_at (ws := ts) (n := k) hkl
      have hol' : os'.length ≤ 800 := by (first | lia | omega)
      have hal : as.length = gs.length := Paired.length hg.rows
      have hgl := hg.gl
      have hw := htn _ (List.getElem_mem hkl)
      have hwm := List.getElem_mem hkl
      refine ⟨_, rfl, .inl ⟨rfl, _, SqL.of hg.hT⟩, _, rfl, _, rfl, _, _, rfl, rfl, ⟨by decide, by decide⟩, _, rfl, tg, _, rfl, .inl (SqL.of htg3), _, _, rfl, rfl, lpos, tg, _, _, _, rfl, rfl, SqL.of htg3, (by rw [hk]; exact hat), T, _, _, rfl, rfl, hg.hT, len1000' (by rw [List.length_reverse, List.length_map]; (first | lia | omega)), ?_⟩
      generalize ts[k]'hkl = wd at hw hwm
      have hRa2 : (upd H3 T (.lst ((os'.map V.str).reverse ++ [.str wd]))) R = some (.lst (as.map V.ref).reverse) := by
        rw [upd_ne hg.RT]
        exact hg.hR
      refine ⟨_, rfl, .inl ⟨rfl, _, SqL.of hRa2⟩, by decide, fun l hl => ?_⟩
      obtain ⟨_, hl1⟩ := upd_none hl
      have hRb : (upd (upd H3 T (.lst ((os'.map V.str).reverse ++ [.str wd]))) l (.lst [])) R = some (.lst (as.map V.ref).reverse) := by
        rw [upd_ne (ne_of_none hg.hR hl1)]
        exact hRa2
      refine ⟨R, _, _, rfl, rfl, hRb, len1000' (by rw [List.length_reverse, List.length_map]; (first | lia | omega)), ?_⟩
      refine ⟨_, _, _, _, _, _, _, _, rfl, hg.opened hw hl, ?_, ?_⟩
      · rw [flatR_open, List.length_append, List.length_singleton, List.length_cons]
        (first | lia | omega)
      · rw [flatR_open]
        intro x hx
        rcases List.mem_append.mp hx with hx | hx
        · exact hft x hx
        · rw [List.mem_singleton.mp hx]
          exact .inr hwm
  rintro σ H2 ⟨as, gs, os, v6, v7, v8, v9, v10, rfl, hg, hfl, hft⟩
  let W : Nat → St → Hp → Prop := fun n σ H3 => ∃ (as : List Addr) (gs : List (Gr Str)) (os : List Str) (v10 : Option V), σ = [some (.ref a), some (.int st), some (.int m), some (.ref tg), some (.ref R), some (.ref T), v6, v7, v8, v9, v10] ∧ GvS H H3 R T as gs os ∧ (flatR SL gs os).length + os.length = 2 * m.toNat ∧ (∀ x ∈ flatR SL gs os, x = SL ∨ x ∈ ts) ∧ n = os.length
  refine ⟨W, ⟨_, as, gs, os, v10, rfl, hg, hfl, hft, rfl⟩, ?_⟩
  rintro n σ H3 ⟨as, gs, os, v10, rfl, hg, hfl, hft, rfl⟩
  refine ⟨_, rfl, T, _, rfl, .inl (SqL.of hg.hT), _, _, rfl, rfl, _, rfl, ite2 (fun c => ?_) (fun c => ?_)⟩
  · cases os with
    | nil => exact absurd (of_decide_eq_true c) (by decide)
    | cons t os =>
      obtain ⟨b0, b1, as, g0, g1, gs, vs0, vs1, rfl, rfl, hgs, h00, r00, h11, r11, hRs, hTs⟩ := hg.two
      obtain ⟨fs1, fs2, fs3⟩ := flat_shut (g0 := g0) (g1 := g1) (t := t) hgs
      have hv1 := r11.length
      refine ⟨fun σ' H' => ∃ m', m' < (t :: os).length ∧ W m' σ' H', fun _ _ h => h, ?_⟩
      rw [List.length_cons] at hfl
      refine ⟨_, rfl, .inl ⟨rfl, _, SqL.of hRs⟩, R, _, _, rfl, rfl, hRs, snoc_last _ _, ?_⟩
      rw [snoc_drop]
      refine ⟨b0, vs0, rfl, .inl ⟨SqL.of (hg.f1 h00), fun l hl => ?_⟩⟩
      obtain ⟨hRb, h1b, hTb⟩ := hg.f2 (vs0 := vs0) h11 hl
      refine ⟨_, rfl, 1, rfl, R, _, -1, .ref b1, rfl, rfl, SqL.of hRb, atI_last _ _, .inl ⟨rfl, _, SqL.of h1b⟩, _, rfl, .inl ⟨rfl, _, SqL.of hTb⟩, T, _, _, rfl, rfl, hTb, snoc_last _ _, ?_⟩
      rw [snoc_drop]
      refine ⟨_, rfl, (by show 2 ≤ sizeLine; decide), fun l2 hl2 => ?_⟩
      refine ⟨b1, _, _, rfl, rfl, hg.f3 h11 hl hl2, len1000' (by (first | lia | omega)), ?_⟩
      refine ⟨os.length, by rw [List.length_cons]; (first | lia | omega), _, _, _, _, rfl, hg.shut h00 r00 h11 r11 hl hl2, by (first | lia | omega), fun x hx => ?_, rfl⟩
      rcases fs2 x hx with h | h
      · exact .inl h
      · exact hft x h
  · cases os with
    | cons t os =>
      refine absurd (decide_eq_true ?_) c
      show (0 : Int) < ((((t :: os).map V.str).reverse.length : Nat) : Int)
      rw [List.length_reverse, List.length_map, List.length_cons]
      (first | lia | omega)
    | nil =>
      have hgl := hg.gl
      have hrows := hg.rows
      cases gs with
      | nil => simp at hgl
      | cons g gs =>
        obtain rfl : gs = [] := List.eq_nil_of_length_eq_zero (by simpa using hgl)
        cases hrows with
        | @cons b _ _ _ r hrows =>
          cases hrows
          obtain ⟨vs, hb, hgr⟩ := r
          refine ⟨_, rfl, R, _, 0, .ref b, rfl, rfl, SqL.of hg.hR, rfl, b, vs, rfl, .inl ⟨SqL.of hb, fun r hr => ?_⟩⟩
          have hfl' : (words SL g).length + 0 = 2 * m.toNat := hfl
          exact q r vs g _ (hg.sm.upd_new (hg.sm.free hr)) (hg.sm.free hr) upd_same (hgr.mono (TK.new hr)) (hg.cl g (List.mem_cons_self ..)) (by (first | lia | omega)) hft
theorem ok_is_tag (B : ∀ x ∈ blts, mg x = none) (Cc : ∃ t : Tok, mg "LONGEST_TAG" = some (.int 8 t)) (F : Fun K "is_tag" "is_tag" s_is_tag f fd) : FnOk P w K mg base CX0 1 f fd ["text"] spIsTag := by
  refine F.ok sc_is_tag (fun vs H Q E h => ?_) (fun cdv A outer s H vs Q E hr h => ?_)
  · obtain ⟨z, rfl, _⟩ := h
    rfl
  obtain ⟨z, rfl, hz, q⟩ := h
  obtain ⟨t8, c_LONGEST_TAG⟩ := Cc
  unfold tagB at q
  refine ⟨_, (pss_one (ps_ret (pe_and (pe_chain op_le op_le pe_int (pe_callB call_len_str rfl (B "len" (by decide)) PySem.boot_len (pa_cons (pv 0) pa_nil)) (pe_glob (v := .int 8) rfl c_LONGEST_TAG ⟨_, rfl⟩)) (pe_one (pe_callB (call_all rfl) rfl (B "all" (by decide)) bt_all (pa_cons (pe_comp_az (pv 0) rfl (by decide) (by decide) rfl (by decide) rfl (by decide) (fun _ => rfl)) pa_nil)))))), ?_⟩
  refine ⟨_, rfl, z, rfl, len1000 (by (first | lia | omega)), _, _, rfl, rfl, _, rfl, ?_⟩
  refine ite2 (fun c => ?_) (fun c => ?_)
  · have c1 : 1 ≤ z.length := by
      have := of_decide_eq_true c
      (first | lia | omega)
    rw [decide_eq_true c1, Bool.true_and] at q
    refine ⟨_, _, rfl, rfl, _, rfl, ?_⟩
    refine ite2 (fun c => ?_) (fun c => ?_)
    · have c2 : z.length ≤ 8 := by
        have := of_decide_eq_true c
        (first | lia | omega)
      rw [decide_eq_true c2, Bool.true_and] at q
      refine ⟨_, rfl, z, rfl, len1000 (by (first | lia | omega)), fun p hp => ⟨p, z.cps.toList.map azB, rfl, SqL.of ?_, ?_⟩⟩
      · rw [upd_same, List.map_map]
        rfl
      · have e : (z.cps.toList.map azB).all id = z.cps.toList.all azB := by
          rw [List.all_map]
          rfl
        rw [e]
        exact q _ (Same.new hp)
    · have c2 : ¬ z.length ≤ 8 := fun h => c (decide_eq_true (by show ((z.length : Nat) : Int) ≤ 8; (first | lia | omega)))
      rw [decide_eq_false c2, Bool.false_and] at q
      exact q H (Same.refl H)
  · have c1 : ¬ 1 ≤ z.length := fun h => c (decide_eq_true (by show (1 : Int) ≤ ((z.length : Nat) : Int); (first | lia | omega)))
    rw [decide_eq_false c1, Bool.false_and, Bool.false_and] at q
    exact ⟨_, rfl, iteF (q H (Same.refl H))⟩
theorem ok_words_of (B : ∀ x ∈ blts, mg x = none) (F : Fun K "words_of" "words_of" s_words_of f fd) : FnOk P w K mg base CX0 1 f fd ["grove"] (spWords K) := by
  refine F.ok sc_words_of (fun vs H Q E h => ?_) (fun cdv A outer s H vs Q E hr h => ?_)
  · obtain ⟨a, xs, g, rfl, _⟩ := h
    rfl
  obtain ⟨a, xs, g, rfl, hT, hG, hlen, q⟩ := h
  have hu := hu_room hr
  refine ⟨_, (pss_cons (ps_set (i := 1) sc_words_of.nd rfl (Or.inl rfl) (pe_lst pa_nil))
    (pss_cons (ps_set (i := 2) sc_words_of.nd rfl (Or.inl rfl) (pe_callTy call_list_of rfl (B "list" (by decide)) bt_list (pa_cons (pe_revT (pv 0)) pa_nil)))
    (pss_cons (ps_while PassesOwn.never (pt_truth (pv 2) (fun _ => rfl))
      (pss_cons (ps_set (i := 3) sc_words_of.nd rfl (Or.inl rfl) (pe_bm0 PySem.F.plainAttrs_list PySem.F.slot_list_pop PySem.F.type_list_pop mt_pop (pv 2)))
        (pss_one (ps_if (pt_cmpR (op_eqTS hu) (pv 3) pe_str (nomark _))
          (pss_one (ps_expr (pe_bm PySem.F.plainAttrs_list PySem.F.slot_list_append PySem.F.type_list_append mt_append (pv 1) (pa_cons (pv 3) pa_nil))))
          (pss_cons (ps_expr (pe_bm PySem.F.plainAttrs_list PySem.F.slot_list_append PySem.F.type_list_append mt_append (pv 1) (pa_cons (pe_ix ix_tup (pv 3) pe_int (fun _ _ => rfl)) pa_nil)))
            (pss_cons (ps_expr (pe_bm PySem.F.plainAttrs_list PySem.F.slot_list_append PySem.F.type_list_append mt_append (pv 2) (pa_cons pe_str pa_nil)))
            (pss_one (ps_expr (pe_bm PySem.F.plainAttrs_list PySem.F.slot_list_extend PySem.F.type_list_extend mt_extendT (pv 2) (pa_cons (pe_revT (pe_ix ix_tup (pv 3) pe_int (fun _ _ => rfl))) pa_nil))))))))))
    (pss_one (ps_ret (pv 1)))))), ?_⟩
  -- words = []; waiting = list(grove[::-1])
  refine ⟨by decide, fun p hp => ?_⟩
  refine ⟨_, rfl, a, xs, rfl, (Same.new hp).seqT hT, fun t ht => ⟨t, _, rfl, .inr (SqT.of upd_same), fun l hl => ?_⟩⟩
  obtain ⟨ntp, ht0⟩ := upd_none ht
  obtain ⟨nlt, hl0⟩ := upd_none hl
  obtain ⟨nlp, hl1⟩ := upd_none hl0
  -- the loop
  let W : Nat → St → Hp → Prop := fun m σ H1 => ∃ (acc : List Str) (st : List (Item Str)) (vs : List V) (v3 : Option V), σ = [some (.ref a), some (.ref p), some (.ref l), v3] ∧ Same H H1 ∧
    H1 p = some (.lst (acc.map V.str)) ∧ H1 l = some (.lst vs) ∧ Paired (RepI H1) vs st ∧ acc ++ toCome SL st = words SL g ∧ m = (toCome SL st).length
  have s3 : Same H (upd (upd (upd H p (.lst [])) t (.tup xs.reverse)) l (.lst xs.reverse)) := ((Same.new hp).upd_new ht0).upd_new hl1
  refine ⟨W, ⟨_, [], (items g).reverse, xs.reverse, none, rfl, s3, ?_, upd_same, ?_, ?_, rfl⟩, ?_⟩
  · rw [upd_ne nlp.symm, upd_ne ntp.symm]
    exact upd_same
  · exact stk_mono s3.tk (paired_rev hG.items)
  · rw [toCome_grove]
    rfl
  rintro m σ H1 ⟨acc, st, vs, v3, rfl, sm, hp1, hl1', hst, hw, rfl⟩
  have hacc : acc.length ≤ 1000 := by
    have := congrArg List.length hw
    rw [List.length_append] at this
    (first | lia | omega)
  refine ⟨_, rfl, !vs.isEmpty, .inl ⟨vs, SqL.of hl1', rfl⟩, ?_⟩
  by_cases e : vs = []
  · subst e
    cases hst
    refine iteF ?_
    rw [toCome_nil, List.append_nil] at hw
    subst hw
    exact ⟨_, rfl, q p H1 sm hp hp1⟩
  · obtain ⟨vs', v, rfl⟩ := snoc_of e
    obtain ⟨st', x, rfl, hst', hx⟩ := Paired.unsnoc hst
    have ne : (!(vs' ++ [v]).isEmpty) = true := by simp
    rw [ne]
    refine iteT ?_
    rw [toCome_snoc] at hw
    refine ⟨fun σ' H' => ∃ m', m' < (toCome SL (st' ++ [x])).length ∧ W m' σ' H', fun _ _ h => h, ?_⟩
    refine ⟨_, rfl, .inl ⟨rfl, _, SqL.of hl1'⟩, l, _, v, rfl, rfl, hl1', snoc_last _ _, ?_⟩
    rw [snoc_drop]
    have k1 : TK H1 (upd H1 l (.lst vs')) := TK.lst hl1'
    have hp2 : (upd H1 l (.lst vs')) p = some (.lst (acc.map V.str)) := by
      rw [upd_ne nlp.symm]
      exact hp1
    have hstk := stk_mono k1 hst'
    have hx2 := hx.mono k1
    have sm2 : Same H (upd H1 l (.lst vs')) := sm.upd_new hl1
    have hvl : vs'.length = st'.length := Paired.length hst'
    have hsl : st'.length ≤ 1000 := by
      have := congrArg List.length hw
      rw [List.length_append, List.length_append] at this
      have h2 := toCome_len SL st'
      (first | lia | omega)
    cases x with
    | none =>
      have hv : v = .str SL := hx
      subst hv
      refine ⟨_, rfl, .inr ⟨rfl, _, rfl, ?_⟩⟩
      refine ite2 (fun _ => ?_) (fun c => absurd (decide_eq_true rfl) c)
      refine ⟨_, rfl, .inl ⟨rfl, _, SqL.of hp2⟩, _, rfl, p, _, _, rfl, rfl, hp2, len1000' (by rw [List.length_map]; (first | lia | omega)), ?_⟩
      refine ⟨(toCome SL st').length, ?_, acc ++ [SL], st', vs', _, rfl, sm2.upd_new hp, ?_, ?_, stk_mono (TK.lst hp2) hstk, ?_, rfl⟩
      · rw [toCome_snoc, List.length_append]
        show _ < 1 + _
        (first | lia | omega)
      · rw [upd_same, List.map_append]
        rfl
      · rw [upd_ne nlp]
        exact upd_same
      · rw [List.append_assoc]
        exact hw
    | some tw =>
      obtain ⟨t', w'⟩ := tw
      obtain ⟨p', q', ys, rfl, h1, h2, h3⟩ := hx2
      refine ⟨_, rfl, .inl ⟨p', _, _, rfl, rfl, SqT.of h1, _, rfl, ?_⟩⟩
      refine iteF ?_
      refine ⟨_, rfl, .inl ⟨rfl, _, SqL.of hp2⟩, _, rfl, p', _, 0, _, rfl, rfl, SqT.of h1, rfl, p, _, _, rfl, rfl, hp2, len1000' (by rw [List.length_map]; (first | lia | omega)), ?_⟩
      have k3 : TK (upd H1 l (.lst vs')) (upd (upd H1 l (.lst vs')) p (.lst (acc.map V.str ++ [.str t']))) := TK.lst hp2
      have hl3 : (upd (upd H1 l (.lst vs')) p (.lst (acc.map V.str ++ [.str t']))) l = some (.lst vs') := by
        rw [upd_ne nlp]
        exact upd_same
      refine ⟨_, rfl, .inl ⟨rfl, _, SqL.of hl3⟩, l, _, _, rfl, rfl, hl3, len1000' (by (first | lia | omega)), ?_⟩
      have k4 := TK.lst (o := .lst (vs' ++ [.str SL])) hl3
      have hl4 : (upd (upd (upd H1 l (.lst vs')) p (.lst (acc.map V.str ++ [.str t']))) l (.lst (vs' ++ [.str SL]))) l = some (.lst (vs' ++ [.str SL])) := upd_same
      refine ⟨_, rfl, .inl ⟨rfl, _, SqL.of hl4⟩, _, rfl, p', _, 1, _, rfl, rfl, SqT.of (k4 _ _ (k3 _ _ h1)), rfl, q', ys, rfl, SqT.of (k4 _ _ (k3 _ _ h2)), fun t2 ht2 => ?_⟩
      obtain ⟨n2l, ht3⟩ := upd_none ht2
      obtain ⟨n2p, ht4⟩ := upd_none ht3
      obtain ⟨_, ht5⟩ := upd_none ht4
      have hl5 : (upd (upd (upd (upd H1 l (.lst vs')) p (.lst (acc.map V.str ++ [.str t']))) l (.lst (vs' ++ [.str SL]))) t2 (.tup ys.reverse)) l = some (.lst (vs' ++ [.str SL])) := by
        rw [upd_ne n2l.symm]
        exact upd_same
      have hys := h3.length
      have hwl : (words SL w').length ≤ 1000 := by
        have := congrArg List.length hw
        rw [List.length_append, List.length_append] at this
        have e2 : (wi SL (some (t', w'))).length = (words SL w').length + 2 := by
          show (t' :: (words SL w' ++ [SL])).length = _
          rw [List.length_cons, List.length_append]
          rfl
        (first | lia | omega)
      refine ⟨l, t2, _, _, rfl, rfl, hl5, SqT.of upd_same, len1000 (by rw [List.length_append, List.length_reverse, List.length_singleton]; (first | lia | omega)), ?_⟩
      have k6 := (k3.trans k4).trans ((TK.new (o := .tup ys.reverse) ht2).trans (TK.lst (o := .lst ((vs' ++ [.str SL]) ++ ys.reverse)) hl5))
      refine ⟨(toCome SL (st' ++ [none] ++ (items w').reverse)).length, ?_, acc ++ [t'], st' ++ [none] ++ (items w').reverse, _, _, rfl, ?_, ?_, upd_same, ?_, ?_, rfl⟩
      · rw [toCome_tree, toCome_snoc]
        show _ < (t' :: (words SL w' ++ [SL]) ++ toCome SL st').length
        simp only [List.length_append, List.length_cons, List.length_nil]
        (first | lia | omega)
      · exact (((sm2.upd_new hp).upd_new hl1).upd_new (sm.free ht5)).upd_new hl1
      · rw [upd_ne nlp.symm, upd_ne n2p.symm, upd_ne nlp.symm, upd_same, List.map_append]
        rfl
      · exact Paired.app (Paired.app (stk_mono k6 hstk) (.cons rfl .nil)) (stk_mono k6 (paired_rev h3.items))
      · rw [toCome_tree, ← hw]
        show _ = acc ++ (t' :: (words SL w' ++ [SL]) ++ toCome SL st')
        simp
def spClosK (K : PySem.W.Frag) : Sp := fun vs H Q _ => ∃ (a : Addr) (ws : List Str), vs = [.ref a] ∧ SqL K H a (ws.map V.str) ∧ Can SL 0 ws ∧ ws.length ≤ 1000 ∧ ∀ (d : Addr) (H' : Hp), Same H H' → H d = none → H' d = some (.dK (kvC (cst ws ws.length).2)) → Q (.ref d) H'
theorem snoc_lastV (l : List V) (x : V) : (l ++ [x])[(l ++ [x]).length - 1]? = some x := by
  rw [List.length_append, List.length_singleton, Nat.add_sub_cancel, List.getElem?_append_right (Nat.le_refl _), Nat.sub_self]
  rfl
set_option maxHeartbeats 1000000 in
theorem ok_closings (B : ∀ x ∈ blts, mg x = none) (F : Fun K "closings" "closings" s_closings f fd) : FnOk P w K mg base CX0 1 f fd ["words"] (spClosK K) := by
  refine F.ok sc_closings (fun vs H Q E h => ?_) (fun cdv A outer s H vs Q E hr h => ?_)
  · obtain ⟨a, ws, rfl, _⟩ := h
    rfl
  obtain ⟨a, ws, rfl, hS, hcan, hwl, q⟩ := h
  have hu1 : (A.deeper (PyProof.Rows.envOfC (Str.ofString "closings") (defScope s_closings) s.heap.objs.size f cdv)).units + 1 < cLine := by have := hr.un; (first | lia | omega)
  refine ⟨_, (pss_cons (ps_set (i := 1) sc_closings.nd rfl (Or.inl rfl) pe_dnewK)
    (pss_cons (ps_set (i := 2) sc_closings.nd rfl (Or.inl rfl) (pe_lst pa_nil))
    (pss_cons (ps_for PassesOwn.never rfl (pi_enum rfl (B "enumerate" (by decide)) (pa_cons (pv 0) pa_nil)) (pg_tup rfl (pgs_cons (pg_name (i := 3) sc_closings.nd rfl (Or.inl rfl)) (pgs_cons (pg_name (i := 4) sc_closings.nd rfl (Or.inl rfl)) pgs_nil)))
      (pss_one (ps_if (pt_cmpR op_eq (pv 4) pe_str (nomark _))
          (pss_one (ps_dput hu1 (pv 1) (pe_bm0 PySem.F.plainAttrs_list PySem.F.slot_list_pop PySem.F.type_list_pop mt_pop (pv 2)) (pv 3) rfl))
          (pss_one (ps_expr (pe_bm PySem.F.plainAttrs_list PySem.F.slot_list_append PySem.F.type_list_append mt_append (pv 2) (pa_cons (pv 3) pa_nil)))))))
    (pss_one (ps_ret (pv 1)))))), ?_⟩
  refine fun d hd => ⟨by decide, fun b hb => ?_⟩
  obtain ⟨nbd, hb0⟩ := upd_none hb
  have s2 : Same H (upd (upd H d (.dK [])) b (.lst [])) := (Same.new hd).upd_new hb0
  refine ⟨_, rfl, a, _, rfl, s2.seq hS, for_enum (K := K) (a := a) (xs := ws.map V.str) (fun i σ H1 => ∃ (v3 v4 : Option V), σ = [some (.ref a), some (.ref d), some (.ref b), v3, v4] ∧ Same H H1 ∧ H1 d = some (.dK (kvC (cst ws i).2)) ∧ H1 b = some (.lst ((cst ws i).1.reverse.map fun (o : Nat) => V.int (o : Int))))
    ⟨none, none, rfl, s2, by rw [upd_ne nbd.symm]; exact upd_same, upd_same⟩ ?_ ?_ ?_⟩
  · rintro i σ H1 _ ⟨v3, v4, _, sm, _⟩
    exact sm.seq hS
  · rintro i x p σ H0 hi ⟨v3, v4, rfl, sm0, hd0, hb1⟩ hp
    rw [List.getElem?_map] at hi
    obtain ⟨wd, hw, rfl⟩ := Option.map_eq_some_iff.mp hi
    have hil := (List.getElem?_eq_some_iff.mp hw).1
    have x := cst_ok hcan i (by (first | lia | omega))
    have s0 : Same H0 (upd H0 p (.tup [.int i, .str wd])) := Same.new hp
    have sm := sm0.trans s0
    have hd1 := s0 _ _ hd0
    have hb2 := s0 _ _ hb1
    refine ⟨p, _, rfl, SqT.of upd_same, rfl, _, _, rfl, _, _, rfl, rfl, ?_⟩
    generalize upd H0 p (.tup [.int i, .str wd]) = H1 at sm hd1 hb2 ⊢
    have nbd2 : d ≠ b := fun e => by rw [e, hb2] at hd1; cases hd1
    have hcl : (kvC (cst ws i).2).length ≤ 1000 := by
      have := x.cnt
      unfold kvC
      rw [List.length_map]
      (first | lia | omega)
    refine ⟨_, rfl, rfl, _, rfl, ite2 (fun c => ?_) (fun c => ?_)⟩
    · have e : wd = SL := by
        have := of_decide_eq_true c
        injection this
      subst e
      cases hs : (cst ws i).1 with
      | nil =>
        have := x.len
        rw [hs, drop_here hw, bk_sl] at this
        cases this
      | cons o os =>
        have hz := cst_end hw hs
        have hno : o ∉ (cst ws i).2.map (·.1) := fun h => by
          have := x.nd
          rw [hs, List.cons_append, List.nodup_cons] at this
          exact this.1 (List.mem_append_right _ h)
        rw [hs, List.reverse_cons, List.map_append] at hb2
        have hb3 : H1 b = some (.lst ((os.reverse.map fun (o : Nat) => V.int (o : Int)) ++ [.int (o : Int)])) := hb2
        refine ⟨_, rfl, _, rfl, _, rfl, .inl ⟨rfl, _, SqL.of hb3⟩, b, _, _, rfl, rfl, hb3, snoc_lastV _ _, ?_⟩
        rw [List.dropLast_concat]
        have hd2 : (upd H1 b (.lst (os.reverse.map fun (o : Nat) => V.int (o : Int)))) d = some (.dK (kvC (cst ws i).2)) := by rw [upd_ne nbd2]; exact hd1
        refine ⟨d, _, rfl, DPut.k (k := Sum.inl (o : Int)) hd2 (len1000' (by (first | lia | omega))), ?_⟩
        refine ⟨_, _, rfl, (sm.upd_new hb0).upd_new hd, ?_, ?_⟩
        · rw [upd_same, putK_new _ (kvC_none hno), hz]
          unfold kvC
          rw [List.map_append]
          rfl
        · rw [upd_ne nbd2.symm, upd_same, hz]
    · have e : wd ≠ SL := fun z => c (by rw [z]; exact decide_eq_true rfl)
      have hz := cst_tag hw e
      refine ⟨_, rfl, .inl ⟨rfl, _, SqL.of hb2⟩, _, rfl, b, _, _, rfl, rfl, hb2, len1000' (by rw [List.length_map, List.length_reverse]; have := x.cnt; (first | lia | omega)), ?_⟩
      refine ⟨_, _, rfl, sm.upd_new hb0, by rw [upd_ne nbd2, hz]; exact hd1, ?_⟩
      rw [upd_same, hz, List.reverse_cons, List.map_append]
      rfl
  · rintro σ H1 ⟨v3, v4, rfl, sm, hd1, hb1⟩
    rw [List.length_map] at hd1
    exact ⟨_, rfl, q d H1 sm hd hd1⟩
def spTreeV : Sp := fun vs H Q _ => ∃ (d : Addr) (ps : List (Nat × Nat)) (p e : Nat), vs = [.ref d, .int (p : Int)] ∧ H d = some (.dK (kvC ps)) ∧ (ps.map (·.1)).Nodup ∧ (p, e) ∈ ps ∧ Q (.int (((e : Int) + 1 - (p : Int)) / 2)) H
theorem ok_tree_size (B : ∀ x ∈ blts, mg x = none) (F : Fun K "tree_size" "tree_size" s_tree_size f fd) : FnOk P w K mg base CX0 1 f fd ["ended_at", "place"] spTreeV := by
  refine F.ok sc_tree_size (fun vs H Q E h => ?_) (fun cdv A outer s H vs Q E hr h => ?_)
  · obtain ⟨d, ps, p, e, rfl, _⟩ := h
    rfl
  obtain ⟨d, ps, p, e, rfl, hd, hn, hm, q⟩ := h
  have hu1 : (A.deeper (PyProof.Rows.envOfC (Str.ofString "tree_size") (defScope s_tree_size) s.heap.objs.size f cdv)).units + 1 < cLine := by have := hr.un; (first | lia | omega)
  refine ⟨_, (pss_one (ps_ret (pe_op op_fdiv (pe_op op_sub (pe_op op_add (pe_dget hu1 (pv 0) (pv 1) (fun _ _ => rfl)) pe_int) (pv 1)) pe_int))), ?_⟩
  have hcv : DGet H d (V.int (p : Int)) (some (.int (e : Int))) := by
    have := DGet.k (k := Sum.inl (p : Int)) hd
    rw [kvC_some hn hm] at this
    exact this
  exact ⟨_, rfl, _, rfl, d, _, rfl, hcv, _, _, rfl, rfl, _, rfl, _, _, rfl, rfl, _, _, rfl, rfl, ⟨by decide, by decide⟩, q⟩
/-- words of tags of small letters, and ends -/
def LetW (ws : List Str) : Prop := ∀ w ∈ ws, w = SL ∨ (Lets w ∧ w.length ≤ 8)
theorem LetW.app {as bs : List Str} (h1 : LetW as) (h2 : LetW bs) : LetW (as ++ bs) := fun w hw => (List.mem_append.mp hw).elim (h1 w) (h2 w)
theorem LetW.take {as : List Str} (h : LetW as) (n : Nat) : LetW (as.take n) := fun w hw => h w (List.mem_of_mem_take hw)
theorem LetW.drop {as : List Str} (h : LetW as) (n : Nat) : LetW (as.drop n) := fun w hw => h w (List.mem_of_mem_drop hw)
theorem LetW.cons {t : Str} {as : List Str} (h1 : t = SL ∨ (Lets t ∧ t.length ≤ 8)) (h2 : LetW as) : LetW (t :: as) := fun w hw => (List.mem_cons.mp hw).elim (fun e => by rw [e]; exact h1) (h2 w)
theorem LetW.ok {ws : List Str} (h : LetW ws) : OkW ws := fun w hw => (h w hw).elim (fun e => by rw [e]; exact sl_ok) fun e => e.1.let0.ok
theorem tagB_lets {z : Str} (h : Lets z) (h8 : z.length ≤ 8) : tagB z = true := by
  have h1 : 1 ≤ z.length := by
    have : 0 < z.cps.toList.length := List.length_pos_iff.mpr h.1
    rw [Array.length_toList] at this
    exact this
  unfold tagB
  rw [decide_eq_true h1, decide_eq_true h8, Bool.true_and, Bool.true_and, List.all_eq_true]
  intro c hc
  have := h.2 c hc
  unfold azB
  simp; (first | lia | omega)
theorem tagB_SL : tagB SL = false := by decide
/-- the grove of good words -/
def spGroveOf (K : PySem.W.Frag) : Sp := fun vs H Q _ => ∃ (a : Addr) (ws : List Str), vs = [.ref a] ∧ SqL K H a (ws.map V.str) ∧ ws.length ≤ 3000 ∧ Can SL 0 ws ∧ LetW ws ∧
  ∀ (r : Addr) (xs : List V) (g : Gr Str) (H' : Hp), Same H H' → H r = none → H' r = some (.tup xs) → RepG H' xs g → words SL g = ws → Clean SL g → Q (.ref r) H'
theorem ok_grove_of (B : ∀ x ∈ blts, mg x = none) (g_is_tag : Has P w K mg base "is_tag" ["text"] 1 spIsTag) (F : Fun K "grove_of" "grove_of" s_grove_of f fd) : FnOk P w K mg base CX0 2 f fd ["words"] (spGroveOf K) := by
  refine F.ok sc_grove_of (fun vs H Q E h => ?_) (fun cdv A outer s H vs Q E hr h => ?_)
  · obtain ⟨a, ws, rfl, _⟩ := h
    rfl
  obtain ⟨a, ws, rfl, hS, hlen, hcan, hlw, q⟩ := h
  refine ⟨_, (pss_cons (ps_set (i := 1) sc_grove_of.nd rfl (Or.inl rfl) (pe_lst pa_nil))
    (pss_cons (ps_set (i := 2) sc_grove_of.nd rfl (Or.inl rfl) (pe_lst (pa_cons (pe_lst pa_nil) pa_nil)))
    (pss_cons (ps_for PassesOwn.never rfl (pi_enum rfl (B "enumerate" (by decide)) (pa_cons (pv 0) pa_nil)) (pg_tup rfl (pgs_cons (pg_name (i := 3) sc_grove_of.nd rfl (Or.inl rfl)) (pgs_cons (pg_name (i := 4) sc_grove_of.nd rfl (Or.inl rfl)) pgs_nil)))
      (pss_one (ps_if (pt_truth (pe_has g_is_tag hr rfl (pa_cons (pv 4) pa_nil)) (fun _ => rfl))
          (pss_cons (ps_expr (pe_bm PySem.F.plainAttrs_list PySem.F.slot_list_append PySem.F.type_list_append mt_append (pv 1) (pa_cons (pv 4) pa_nil)))
            (pss_one (ps_expr (pe_bm PySem.F.plainAttrs_list PySem.F.slot_list_append PySem.F.type_list_append mt_append (pv 2) (pa_cons (pe_lst pa_nil) pa_nil)))))
          (pss_one (ps_if (PW.pt (pw_and (pt_cmpR op_eq (pv 4) pe_str (nomark _)) (pw_and1 (pt_truth (pv 1) (fun _ => rfl)))))
              (pss_cons (ps_set (i := 5) sc_grove_of.nd rfl (Or.inl rfl) (pe_callTy call_tuple_of rfl (B "tuple" (by decide)) bt_tuple (pa_cons (pe_bm0 PySem.F.plainAttrs_list PySem.F.slot_list_pop PySem.F.type_list_pop mt_pop (pv 2)) pa_nil)))
                (pss_one (ps_expr (pe_bm PySem.F.plainAttrs_list PySem.F.slot_list_append PySem.F.type_list_append mt_append (pe_ix ix_list (pv 2) (pe_un un_neg pe_int) (fun _ _ => rfl)) (pa_cons (pe_tup (pa_cons (pe_bm0 PySem.F.plainAttrs_list PySem.F.slot_list_pop PySem.F.type_list_pop mt_pop (pv 1)) (pa_cons (pv 5) pa_nil))) pa_nil)))))
              (pss_one ps_never))))))
    (pss_cons (ps_if (pt_truth (pv 1) (fun _ => rfl))
      (pss_one ps_never)
      pss_nil)
    (pss_one (ps_ret (pe_callTy call_tuple_of rfl (B "tuple" (by decide)) bt_tuple (pa_cons (pe_ix ix_list (pv 2) pe_int (fun _ _ => rfl)) pa_nil)))))))), ?_⟩
  -- tags = []; rows = [[]]
  refine ⟨by decide, fun T hT => ?_⟩
  refine ⟨by decide, fun a0 h0 => ⟨(by show 1 ≤ sizeLine; decide), fun R hR => ?_⟩⟩
  obtain ⟨n0T, h0'⟩ := upd_none h0
  obtain ⟨nR0, hR1⟩ := upd_none hR
  obtain ⟨nRT, hR'⟩ := upd_none hR1
  have s3 : Same H (upd (upd (upd H T (.lst [])) a0 (.lst [])) R (.lst [.ref a0])) := ((Same.new hT).upd_new h0').upd_new hR'
  refine ⟨_, rfl, a, _, rfl, s3.seq hS, for_enum (K := K) (a := a) (xs := ws.map V.str) (fun i σ H1 => ∃ (as : List Addr) (gs : List (Gr Str)) (ts : List Str) (v3 v4 v5 : Option V),
    σ = [some (.ref a), some (.ref T), some (.ref R), v3, v4, v5] ∧ Same H H1 ∧ H1 T = some (.lst ((ts.map V.str).reverse)) ∧ H1 R = some (.lst ((as.map V.ref).reverse)) ∧ RowsR H1 as gs ∧ (R :: T :: as).Nodup ∧
    (∀ b ∈ as, H b = none) ∧ gs.length = ts.length + 1 ∧ flatR SL gs ts = ws.take i ∧ Can SL ts.length (ws.drop i) ∧ (∀ g ∈ gs, Clean SL g) ∧ ∀ t ∈ ts, t ≠ SL)
    ⟨[a0], [.nil], [], none, none, none, rfl, s3, ?_, upd_same, ?_, ?_, ?_, rfl, rfl, hcan, ?_, fun _ h => nomatch h⟩ ?_ ?_ ?_⟩
  · rw [upd_ne nRT.symm, upd_ne n0T.symm]
    exact upd_same
  · refine .cons ⟨[], ?_, .nil⟩ .nil
    rw [upd_ne nR0.symm]
    exact upd_same
  · simp [nRT, nR0, n0T.symm]
  · intro b hb
    obtain rfl := List.mem_singleton.mp hb
    exact h0'
  · intro g hg
    obtain rfl := List.mem_singleton.mp hg
    trivial
  · rintro i σ H1 _ ⟨as, gs, ts, v3, v4, v5, _, sm, _⟩
    exact sm.seq hS
  · rintro i x p σ H0 hi ⟨as, gs, ts, v3, v4, v5, rfl, sm0, hT0, hR0, hrows0, nd, hfr, hgl, hflat, hc, hcl, htn⟩ hp
    obtain ⟨hil, hix⟩ := List.getElem?_eq_some_iff.mp hi
    rw [List.length_map] at hil
    obtain rfl : x = V.str ws[i] := by
      rw [← hix, List.getElem_map]
    have hdrop : ws.drop i = ws[i] :: ws.drop (i + 1) := List.drop_eq_getElem_cons hil
    have htake : ws.take (i + 1) = ws.take i ++ [ws[i]] := List.take_succ_eq_append_getElem hil
    have hwd := hlw ws[i] (List.getElem_mem hil)
    rw [hdrop] at hc
    generalize ws[i] = wd at hc htake hwd
    have hasl : as.length = gs.length := Paired.length hrows0
    obtain ⟨ndR, ndT⟩ := List.nodup_cons.mp nd
    obtain ⟨ndT', ndA⟩ := List.nodup_cons.mp ndT
    have hRa : ∀ b ∈ as, b ≠ R := fun b hb e => ndR (by rw [← e]; exact List.mem_cons_of_mem _ hb)
    have hTa : ∀ b ∈ as, b ≠ T := fun b hb e => ndT' (by rw [← e]; exact hb)
    have hRT : R ≠ T := fun e => ndR (by rw [e]; exact List.mem_cons_self ..)
    have h100 : wd.length ≤ 100000 := by
      rcases hwd with e | e
      · rw [e]; decide
      · have := e.2; (first | lia | omega)
    refine ⟨p, _, rfl, SqT.of upd_same, rfl, _, _, rfl, _, _, rfl, rfl, ?_⟩
    refine ⟨_, rfl, wd, rfl, h100, fun H1 s1 => ⟨_, rfl, ?_⟩⟩
    have s01 := (Same.new (o := .tup [.int i, .str wd]) hp).trans s1
    have sm := sm0.trans s01
    have hT1 := s01 _ _ hT0
    have hR1' := s01 _ _ hR0
    have hrows := rows_mono s01.tk hrows0 fun b hb o ho => s01 _ _ ho
    refine ite2 (fun c => ?_) (fun c => ?_)
    · -- a tag
      have e : wd ≠ SL := fun z => by rw [z, tagB_SL] at c; exact absurd c (by decide)
      have hc' := (can_tag e).mp hc
      have hts : ts.length ≤ 3000 := by
        have h1 := flatR_len SL (ts := ts) hgl
        rw [hflat, List.length_take] at h1
        (first | lia | omega)
      refine ⟨_, rfl, .inl ⟨rfl, _, SqL.of hT1⟩, _, rfl, T, _, _, rfl, rfl, hT1, len1000' (by rw [List.length_reverse, List.length_map]; (first | lia | omega)), ?_⟩
      have hRa2 : (upd H1 T (.lst ((ts.map V.str).reverse ++ [.str wd]))) R = some (.lst (as.map V.ref).reverse) := by
        rw [upd_ne hRT]
        exact hR1'
      refine ⟨_, rfl, .inl ⟨rfl, _, SqL.of hRa2⟩, by decide, fun l hl => ?_⟩
      obtain ⟨nlT, hl1⟩ := upd_none hl
      have nlR : R ≠ l := ne_of_none hR1' hl1
      have hRb : (upd (upd H1 T (.lst ((ts.map V.str).reverse ++ [.str wd]))) l (.lst [])) R = some (.lst (as.map V.ref).reverse) := by
        rw [upd_ne nlR]
        exact hRa2
      refine ⟨R, _, _, rfl, rfl, hRb, len1000' (by rw [List.length_reverse, List.length_map]; (first | lia | omega)), ?_⟩
      have tk : TK H1 (upd (upd (upd H1 T (.lst ((ts.map V.str).reverse ++ [.str wd]))) l (.lst [])) R (.lst ((as.map V.ref).reverse ++ [.ref l]))) := ((TK.lst hT1).trans (TK.new hl)).trans (TK.lst hRb)
      have nla : l ∉ as := fun hb => by
        obtain ⟨o, ho⟩ := rows_there hrows l hb
        rw [hl1] at ho
        cases ho
      refine ⟨l :: as, .nil :: gs, wd :: ts, _, _, _, rfl, ?_, ?_, ?_, ?_, ?_, ?_, ?_, ?_, ?_, ?_, ?_⟩
      · exact ((sm.upd_new hT).upd_new (sm.free hl1)).upd_new hR'
      · rw [upd_ne hRT.symm, upd_ne nlT.symm, upd_same, List.map_cons, List.reverse_cons]
      · rw [upd_same, List.map_cons, List.reverse_cons]
      · refine .cons ⟨[], ?_, .nil⟩ (rows_mono tk hrows fun b hb o ho => ?_)
        · rw [upd_ne nlR.symm]
          exact upd_same
        · rw [upd_ne (hRa b hb), upd_ne (ne_of_none ho hl1), upd_ne (hTa b hb)]
          exact ho
      · refine List.nodup_cons.mpr ⟨fun h => ?_, List.nodup_cons.mpr ⟨fun h => ?_, List.nodup_cons.mpr ⟨nla, ndA⟩⟩⟩
        · rcases List.mem_cons.mp h with h | h
          · exact hRT h
          · rcases List.mem_cons.mp h with h | h
            · exact nlR h
            · exact ndR (List.mem_cons_of_mem _ h)
        · rcases List.mem_cons.mp h with h | h
          · exact nlT h.symm
          · exact ndT' h
      · intro b hb
        rcases List.mem_cons.mp hb with rfl | hb
        · exact sm.free hl1
        · exact hfr b hb
      · simpa using hgl
      · rw [flatR_open, hflat, htake]
      · exact hc'
      · intro g hg
        rcases List.mem_cons.mp hg with rfl | hg
        · trivial
        · exact hcl g hg
      · intro x hx
        rcases List.mem_cons.mp hx with rfl | hx
        · exact e
        · exact htn x hx
    · -- an end
      have e : wd = SL := hwd.elim id fun e => absurd (tagB_lets e.1 e.2) c
      subst e
      obtain ⟨hpos, hc'⟩ := can_end.mp hc
      cases ts with
      | nil => exact absurd hpos (by simp)
      | cons t ts =>
        cases gs with
        | nil => simp at hgl
        | cons g0 gs =>
          cases gs with
          | nil => simp at hgl
          | cons g1 gs =>
            cases hrows with
            | @cons b0 _ as _ r0 hrows =>
              cases hrows with
              | @cons b1 _ as _ r1 hrows =>
                obtain ⟨vs0, h00, r00⟩ := r0
                obtain ⟨vs1, h11, r11⟩ := r1
                have m0 : b0 ∈ b0 :: b1 :: as := List.mem_cons_self ..
                have m1 : b1 ∈ b0 :: b1 :: as := List.mem_cons_of_mem _ (List.mem_cons_self ..)
                have hgs : gs.length = ts.length := by simpa using hgl
                have hw1 : (words SL g1).length ≤ 3000 := by
                  have h1 := flatR_ge SL (r := g1) hgs
                  have h2 := congrArg List.length hflat
                  rw [List.length_take] at h2
                  simp only [flatR, List.length_append] at h2
                  (first | lia | omega)
                have hv1 := r11.length
                have hRs : H1 R = some (.lst (((b1 :: as).map V.ref).reverse ++ [.ref b0])) := by
                  rw [hR1', List.map_cons, List.reverse_cons]
                have hTs : H1 T = some (.lst ((ts.map V.str).reverse ++ [.str t])) := by
                  rw [hT1, List.map_cons, List.reverse_cons]
                refine ⟨_, rfl, rfl, _, rfl, ite2 (fun _ => ?_) (fun c => absurd (decide_eq_true rfl) c)⟩
                refine ⟨_, rfl, true, .inl ⟨_, SqL.of hTs, by simp⟩, iteT ?_⟩
                refine ⟨_, rfl, .inl ⟨rfl, _, SqL.of hRs⟩, R, _, _, rfl, rfl, hRs, snoc_last _ _, ?_⟩
                rw [snoc_drop]
                have h0a : (upd H1 R (.lst ((b1 :: as).map V.ref).reverse)) b0 = some (.lst vs0) := by
                  rw [upd_ne (hRa b0 m0)]
                  exact h00
                refine ⟨b0, vs0, rfl, .inl ⟨SqL.of h0a, fun l hl => ?_⟩⟩
                obtain ⟨nlR, hl1⟩ := upd_none hl
                have nlT : l ≠ T := (ne_of_none hT1 hl1).symm
                have nl1 : b1 ≠ l := ne_of_none h11 hl1
                have hRb : (upd (upd H1 R (.lst ((b1 :: as).map V.ref).reverse)) l (.tup vs0)) R = some (.lst ((as.map V.ref).reverse ++ [.ref b1])) := by
                  rw [upd_ne nlR.symm, upd_same, List.map_cons, List.reverse_cons]
                have h1b : (upd (upd H1 R (.lst ((b1 :: as).map V.ref).reverse)) l (.tup vs0)) b1 = some (.lst vs1) := by
                  rw [upd_ne nl1, upd_ne (hRa b1 m1)]
                  exact h11
                have hTb : (upd (upd H1 R (.lst ((b1 :: as).map V.ref).reverse)) l (.tup vs0)) T = some (.lst ((ts.map V.str).reverse ++ [.str t])) := by
                  rw [upd_ne nlT.symm, upd_ne hRT.symm]
                  exact hTs
                refine ⟨_, rfl, 1, rfl, R, _, -1, .ref b1, rfl, rfl, SqL.of hRb, atI_last _ _, .inl ⟨rfl, _, SqL.of h1b⟩, _, rfl, .inl ⟨rfl, _, SqL.of hTb⟩, T, _, _, rfl, rfl, hTb, snoc_last _ _, ?_⟩
                rw [snoc_drop]
                refine ⟨_, rfl, (by show 2 ≤ sizeLine; decide), fun l2 hl2 => ?_⟩
                obtain ⟨n2T, hl2a⟩ := upd_none hl2
                obtain ⟨n2l, hl2b⟩ := upd_none hl2a
                obtain ⟨n2R, hl2c⟩ := upd_none hl2b
                have n21 : b1 ≠ l2 := ne_of_none h11 hl2c
                have h1d : (upd (upd (upd (upd H1 R (.lst ((b1 :: as).map V.ref).reverse)) l (.tup vs0)) T (.lst (ts.map V.str).reverse)) l2 (.tup [.str t, .ref l])) b1 = some (.lst vs1) := by
                  rw [upd_ne n21, upd_ne (hTa b1 m1)]
                  exact h1b
                refine ⟨b1, _, _, rfl, rfl, h1d, len1000' (by (first | lia | omega)), ?_⟩
                have tk : TK H1 (upd (upd (upd (upd (upd H1 R (.lst ((b1 :: as).map V.ref).reverse)) l (.tup vs0)) T (.lst (ts.map V.str).reverse)) l2 (.tup [.str t, .ref l])) b1 (.lst (vs1 ++ [.ref l2]))) :=
                  ((((TK.lst hRs).trans (TK.new hl)).trans (TK.lst hTb)).trans (TK.new hl2)).trans (TK.lst h1d)
                have ndA2 := (List.nodup_cons.mp ndA).2
                have n1as := (List.nodup_cons.mp ndA2).1
                refine ⟨b1 :: as, snoc g1 t g0 :: gs, ts, _, _, _, rfl, ?_, ?_, ?_, ?_, ?_, ?_, ?_, ?_, ?_, ?_, ?_⟩
                · exact ((((sm.upd_new hR').upd_new (sm.free hl1)).upd_new hT).upd_new (sm.free hl2c)).upd_new (hfr b1 m1)
                · rw [upd_ne (hTa b1 m1).symm, upd_ne n2T.symm, upd_same]
                · rw [upd_ne (hRa b1 m1).symm, upd_ne n2R.symm, upd_ne hRT, upd_ne nlR.symm, upd_same]
                · refine .cons ⟨_, upd_same, RepG.snoc (q := l) (ys := vs0) ?_ ?_ (r00.mono tk) (r11.mono tk)⟩ (rows_mono tk hrows fun b hb o ho => ?_)
                  · rw [upd_ne n21.symm]
                    exact upd_same
                  · rw [upd_ne nl1.symm, upd_ne n2l.symm, upd_ne nlT]
                    exact upd_same
                  · have mb : b ∈ b0 :: b1 :: as := List.mem_cons_of_mem _ (List.mem_cons_of_mem _ hb)
                    have nb1 : b ≠ b1 := fun e => n1as (by rw [← e]; exact hb)
                    rw [upd_ne nb1, upd_ne (ne_of_none ho hl2c), upd_ne (hTa b mb), upd_ne (ne_of_none ho hl1), upd_ne (hRa b mb)]
                    exact ho
                · refine List.nodup_cons.mpr ⟨fun h => ?_, List.nodup_cons.mpr ⟨fun h => ndT' (List.mem_cons_of_mem _ h), ndA2⟩⟩
                  rcases List.mem_cons.mp h with h | h
                  · exact hRT h
                  · exact ndR (List.mem_cons_of_mem _ (List.mem_cons_of_mem _ h))
                · exact fun b hb => hfr b (List.mem_cons_of_mem _ hb)
                · simpa using hgl
                · rw [flatR_close SL t hgs, hflat, htake]
                · exact hc'
                · intro g hg
                  rcases List.mem_cons.mp hg with rfl | hg
                  · exact clean_snoc (htn t (List.mem_cons_self ..)) (hcl g0 (List.mem_cons_self ..)) (hcl g1 (List.mem_cons_of_mem _ (List.mem_cons_self ..)))
                  · exact hcl g (List.mem_cons_of_mem _ (List.mem_cons_of_mem _ hg))
                · exact fun x hx => htn x (List.mem_cons_of_mem _ hx)
  · rintro σ H1 ⟨as, gs, ts, v3, v4, v5, rfl, sm, hT1, hR1', hrows, nd, hfr, hgl, hflat, hc, hcl, htn⟩
    rw [List.length_map] at hflat hc
    rw [List.take_length] at hflat
    rw [List.drop_length] at hc
    obtain rfl : ts = [] := List.eq_nil_of_length_eq_zero hc
    cases gs with
    | nil => simp at hgl
    | cons g gs =>
      obtain rfl : gs = [] := List.eq_nil_of_length_eq_zero (by simpa using hgl)
      cases hrows with
      | @cons b _ _ _ r hrows =>
        cases hrows
        obtain ⟨vs, hb, hg⟩ := r
        refine ⟨_, rfl, false, .inl ⟨_, SqL.of hT1, rfl⟩, iteF ?_⟩
        refine ⟨_, rfl, R, _, 0, .ref b, rfl, rfl, SqL.of hR1', rfl, b, vs, rfl, .inl ⟨SqL.of hb, fun r hr => ?_⟩⟩
        exact q r vs g _ (sm.upd_new (sm.free hr)) (sm.free hr) upd_same (hg.mono (TK.new hr)) hflat (hcl g (List.mem_cons_self ..))
theorem ok_size (B : ∀ x ∈ blts, mg x = none) (g_words_of : Has P w K mg base "words_of" ["grove"] 1 (spWords K)) (F : Fun K "size" "size" s_size f fd) : FnOk P w K mg base CX0 2 f fd ["grove"] (spSize K) := by
  refine F.ok sc_size (fun vs H Q E h => ?_) (fun cdv A outer s H vs Q E hr h => ?_)
  · obtain ⟨a, xs, g, rfl, _⟩ := h
    rfl
  obtain ⟨a, xs, g, rfl, hT, hG, hcl, hlen, q⟩ := h
  refine ⟨_, (pss_one (ps_ret (pe_op op_fdiv (pe_callB call_len_seq rfl (B "len" (by decide)) PySem.boot_len (pa_cons (pe_has g_words_of hr rfl (pa_cons (pv 0) pa_nil)) pa_nil)) pe_int))), ?_⟩
  refine ⟨_, rfl, a, xs, g, rfl, hT, hG, hlen, fun r H1 s1 n1 e1 => ⟨r, _, rfl, .inl (SqL.of e1), _, _, rfl, rfl, ⟨by decide, by decide⟩, ?_⟩⟩
  have e : (((words SL g).map V.str).length : Int) / 2 = ((tagsN SL (words SL g) : Nat) : Int) := by
    rw [List.length_map, tagsN_words hcl]
    (first | lia | omega)
  show Q (.int ((((words SL g).map V.str).length : Int) / 2)) H1
  rw [e]
  exact q H1 s1
/-! changes of a grove: a tree put in, one cut out, another name -/
inductive Ch where
  | put (p : Nat) (t : Str) (w : Gr Str) : Ch
  | cut (p e : Nat) : Ch
  | name (p : Nat) (t : Str) : Ch
def Ch.pl : Ch → Nat
  | .put p _ _ => p
  | .cut p _ => p
  | .name p _ => p
def Ch.beh : Ch → Nat
  | .put p _ _ => p
  | .cut _ e => e + 1
  | .name p _ => p + 1
def Ch.cost : Ch → Nat
  | .put _ _ w => 1 + gsz w
  | .cut p e => (e + 1 - p) / 2
  | .name _ _ => 1
def Ch.adds : Ch → List Str
  | .put _ t w => words SL (.cons t w .nil)
  | .cut _ _ => []
  | .name _ t => [t]
def RepC (H : Hp) : V → Ch → Prop
  | v, .put p t w => ∃ (a b q : Addr) (ys : List V), v = .ref a ∧ H a = some (.tup [.str "put", .int (p : Int), .ref b]) ∧ H b = some (.tup [.str t, .ref q]) ∧ H q = some (.tup ys) ∧ RepG H ys w
  | v, .cut p _ => ∃ a : Addr, v = .ref a ∧ H a = some (.tup [.str "cut", .int (p : Int)])
  | v, .name p t => ∃ a : Addr, v = .ref a ∧ H a = some (.tup [.str "name", .int (p : Int), .str t])
theorem RepC.mono {H H' : Hp} (k : TK H H') : ∀ {v : V} {c : Ch}, RepC H v c → RepC H' v c
  | _, .put _ _ _, ⟨a, b, q, ys, e, h1, h2, h3, h4⟩ => ⟨a, b, q, ys, e, k _ _ h1, k _ _ h2, k _ _ h3, h4.mono k⟩
  | _, .cut _ _, ⟨a, e, h⟩ => ⟨a, e, k _ _ h⟩
  | _, .name _ _, ⟨a, e, h⟩ => ⟨a, e, k _ _ h⟩
theorem repCs_mono {H H' : Hp} (k : TK H H') : ∀ {vs : List V} {cs : List Ch}, Paired (RepC H) vs cs → Paired (RepC H') vs cs
  | _, _, .nil => .nil
  | _, _, .cons h t => .cons (h.mono k) (repCs_mono k t)
theorem paired_at {α β : Type} {F : α → β → Prop} : ∀ {l : List α} {k : List β}, Paired F l k → ∀ (i : Nat) (x : α), l[i]? = some x → ∃ y, k[i]? = some y ∧ F x y
  | _, _, .cons h _, 0, x, e => ⟨_, rfl, by injection e with e; subst e; exact h⟩
  | _, _, .cons _ t, i + 1, x, e => paired_at t i x e
/-- what a change may be -/
def Ch.Ok (G : Gr Str) : Ch → Prop
  | .put _ t w => gsz w ≤ 300 ∧ Clean SL (.cons t w .nil) ∧ LetW (words SL (.cons t w .nil))
  | .cut p e => (p, e) ∈ prs 0 G
  | .name p t => (∃ e, (p, e) ∈ prs 0 G) ∧ Lets t ∧ t.length ≤ 8
def GoodC (G : Gr Str) : Nat → List Ch → Prop
  | _, [] => True
  | k, c :: cs => k ≤ c.pl ∧ c.pl ≤ 2 * gsz G ∧ c.Ok G ∧ GoodC G c.beh cs
/-- what is made, up to a place -/
def flu (ws : List Str) (s : List Str × Nat) (k : Nat) : List Str := s.1 ++ (ws.drop s.2).take (k - s.2)
def stp (ws : List Str) (s : List Str × Nat) (c : Ch) : List Str × Nat := (flu ws s c.pl ++ c.adds, c.beh)
def runC (ws : List Str) (s : List Str × Nat) (cs : List Ch) : List Str × Nat := cs.foldl (stp ws) s
theorem prs_top {G : Gr Str} {k e : Nat} (h : (k, e) ∈ prs 0 G) : k < e ∧ e + 1 ≤ 2 * gsz G := by
  obtain ⟨i, h0, t, w, o, _, h2, _, _, _, h6⟩ := prs_at G 0 k e h
  (first | lia | omega)
def costs (cs : List Ch) : Nat := (cs.map Ch.cost).sum
theorem costs_app (as bs : List Ch) : costs (as ++ bs) = costs as + costs bs := by
  unfold costs
  rw [List.map_append, List.sum_append]
theorem prs_nd {g : Gr Str} (hc : Clean SL g) : ((prs 0 g).map (·.1)).Nodup := by
  have hcg : Can SL 0 (words SL g) := by
    have := can_words (n := 0) (ws := []) hc rfl
    rwa [List.append_nil] at this
  have := (cst_ok hcg _ (Nat.le_refl _)).nd
  have e := cst_words g (words SL g) 0 hc fun j _ => by rw [Nat.zero_add]
  rw [Nat.zero_add] at e
  rw [gsz_words, e] at this
  exact (List.nodup_append.mp this).2.1
theorem cst_all {g : Gr Str} (hc : Clean SL g) : (cst (words SL g) (words SL g).length).2 = prs 0 g := by
  have := cst_words g (words SL g) 0 hc fun j _ => by rw [Nat.zero_add]
  rw [Nat.zero_add] at this
  rw [gsz_words, this]
  rfl
theorem can_all {g : Gr Str} (hc : Clean SL g) : Can SL 0 (words SL g) := by
  have := can_words (n := 0) (ws := []) hc rfl
  rwa [List.append_nil] at this
def spBehC : Sp := fun vs H Q _ => ∃ (d : Addr) (v : V) (G : Gr Str) (c : Ch), vs = [.ref d, v] ∧ H d = some (.dK (kvC (prs 0 G))) ∧ ((prs 0 G).map (·.1)).Nodup ∧ RepC H v c ∧ c.Ok G ∧ Q (.int (c.beh : Int)) H
theorem ok_behind_change (B : ∀ x ∈ blts, mg x = none) (F : Fun K "behind_change" "behind_change" s_behind_change f fd) : FnOk P w K mg base CX0 1 f fd ["ended_at", "change"] spBehC := by
  refine F.ok sc_behind_change (fun vs H Q E h => ?_) (fun cdv A outer s H vs Q E hr h => ?_)
  · obtain ⟨d, v, G, c, rfl, _⟩ := h
    rfl
  obtain ⟨d, v, G, c, rfl, hd, hn, hc, ok, q⟩ := h
  have hu1 : (A.deeper (PyProof.Rows.envOfC (Str.ofString "behind_change") (defScope s_behind_change) s.heap.objs.size f cdv)).units + 1 < cLine := by have := hr.un; (first | lia | omega)
  refine ⟨_, (pss_cons (ps_if (pt_cmpR op_eq (pe_ix ix_tup (pv 1) pe_int (fun _ _ => rfl)) pe_str (nomark _))
      (pss_one (ps_ret (pe_ix ix_tup (pv 1) pe_int (fun _ _ => rfl))))
      pss_nil)
    (pss_one (ps_ret (pe_op op_add pe_int (pe_ifExp (pt_cmpR op_eq (pe_ix ix_tup (pv 1) pe_int (fun _ _ => rfl)) pe_str (nomark _)) (pe_ix ix_tup (pv 1) pe_int (fun _ _ => rfl)) (pe_dget hu1 (pv 0) (pe_ix ix_tup (pv 1) pe_int (fun _ _ => rfl)) (fun _ _ => rfl))))))), ?_⟩
  cases c with
  | put p t w =>
    obtain ⟨a, b, q', ys, rfl, h1, h2, h3, h4⟩ := hc
    refine ⟨_, rfl, a, _, 0, _, rfl, rfl, SqT.of h1, rfl, rfl, _, rfl, iteT ?_⟩
    exact ⟨_, rfl, a, _, 1, _, rfl, rfl, SqT.of h1, rfl, q⟩
  | cut p e =>
    obtain ⟨a, rfl, h1⟩ := hc
    refine ⟨_, rfl, a, _, 0, _, rfl, rfl, SqT.of h1, rfl, rfl, _, rfl, iteF ?_⟩
    have hcv : DGet H d (V.int (p : Int)) (some (.int (e : Int))) := by
      have := DGet.k (k := Sum.inl (p : Int)) hd
      rw [kvC_some hn ok] at this
      exact this
    refine ⟨_, rfl, a, _, 0, _, rfl, rfl, SqT.of h1, rfl, rfl, _, rfl, iteF ?_⟩
    refine ⟨_, rfl, _, rfl, a, _, 1, _, rfl, rfl, SqT.of h1, rfl, d, _, rfl, hcv, _, _, rfl, rfl, ?_⟩
    have q' : Q (.int ((e + 1 : Nat) : Int)) H := q
    show Q (.int (1 + (e : Int))) H
    rw [show (1 : Int) + (e : Int) = ((e + 1 : Nat) : Int) by (first | lia | omega)]
    exact q'
  | name p t =>
    obtain ⟨a, rfl, h1⟩ := hc
    refine ⟨_, rfl, a, _, 0, _, rfl, rfl, SqT.of h1, rfl, rfl, _, rfl, iteF ?_⟩
    refine ⟨_, rfl, a, _, 0, _, rfl, rfl, SqT.of h1, rfl, rfl, _, rfl, iteT ?_⟩
    refine ⟨_, rfl, a, _, 1, _, rfl, rfl, SqT.of h1, rfl, _, _, rfl, rfl, ?_⟩
    have q' : Q (.int ((p + 1 : Nat) : Int)) H := q
    show Q (.int (1 + (p : Int))) H
    rw [show (1 : Int) + (p : Int) = ((p + 1 : Nat) : Int) by (first | lia | omega)]
    exact q'
/-- what stands behind the first changes -/
theorem goodC_at {G : Gr Str} {ws : List Str} : ∀ {cs : List Ch} {s : List Str × Nat} {i : Nat} {c : Ch}, GoodC G s.2 cs → cs[i]? = some c → (runC ws s (cs.take i)).2 ≤ c.pl ∧ c.pl ≤ 2 * gsz G ∧ c.Ok G
  | c :: cs, s, 0, c', h, e => by
    injection e with e
    subst e
    exact ⟨h.1, h.2.1, h.2.2.1⟩
  | c :: cs, s, i + 1, c', h, e => goodC_at (s := stp ws s c) h.2.2.2 e
theorem runC_succ {ws : List Str} {s : List Str × Nat} {cs : List Ch} {i : Nat} {c : Ch} (h : cs[i]? = some c) : runC ws s (cs.take (i + 1)) = stp ws (runC ws s (cs.take i)) c := by
  rw [take_succ' h]
  unfold runC
  rw [List.foldl_append]
  rfl
/-- the list made so far is no longer than what comes in the end -/
theorem runC_len {ws : List Str} : ∀ {cs : List Ch} {s : List Str × Nat}, s.1.length ≤ (runC ws s cs).1.length
  | [], _ => Nat.le_refl _
  | c :: cs, s => by
    have := runC_len (ws := ws) (cs := cs) (s := stp ws s c)
    refine Nat.le_trans ?_ this
    show s.1.length ≤ (s.1 ++ _ ++ _).length
    rw [List.length_append, List.length_append]
    (first | lia | omega)
theorem runC_split {ws : List Str} {s : List Str × Nat} {cs : List Ch} (i : Nat) : runC ws s cs = runC ws (runC ws s (cs.take i)) (cs.drop i) := by
  unfold runC
  rw [← List.foldl_append, List.take_append_drop]
theorem cut_mid (xs : List V) (i j : Nat) (h : i ≤ j) (hj : j ≤ xs.length) : cutV xs (some (i : Int)) (some (j : Int)) = (xs.drop i).take (j - i) := by
  unfold cutV
  rw [HT.sIx_nat, HT.sIx_nat, Nat.min_eq_left hj, Nat.min_eq_left (by (first | lia | omega))]
def spPriOf : Sp := fun vs H Q _ => ∃ (d : Addr) (v : V) (G : Gr Str) (c : Ch), vs = [.ref d, v] ∧ H d = some (.dK (kvC (prs 0 G))) ∧ ((prs 0 G).map (·.1)).Nodup ∧ RepC H v c ∧ c.Ok G ∧ ∀ H', Same H H' → Q (.int (c.cost : Int)) H'
theorem ok_price_of (B : ∀ x ∈ blts, mg x = none) (g_size : Has P w K mg base "size" ["grove"] 2 (spSize K)) (g_tree_size : Has P w K mg base "tree_size" ["ended_at", "place"] 1 spTreeV) (F : Fun K "price_of" "price_of" s_price_of f fd) : FnOk P w K mg base CX0 3 f fd ["ended_at", "change"] spPriOf := by
  refine F.ok sc_price_of (fun vs H Q E h => ?_) (fun cdv A outer s H vs Q E hr h => ?_)
  · obtain ⟨d, v, G, c, rfl, _⟩ := h
    rfl
  obtain ⟨d, v, G, c, rfl, hd, hn, hc, ok, q⟩ := h
  have hu1 : (A.deeper (PyProof.Rows.envOfC (Str.ofString "price_of") (defScope s_price_of) s.heap.objs.size f cdv)).units + 1 < cLine := by have := hr.un; (first | lia | omega)
  refine ⟨_, (pss_cons (ps_if (pt_cmpR op_eq (pe_ix ix_tup (pv 1) pe_int (fun _ _ => rfl)) pe_str (nomark _))
      (pss_one (ps_ret pe_int))
      pss_nil)
    (pss_one (ps_ret (pe_ifExp (pt_cmpR op_eq (pe_ix ix_tup (pv 1) pe_int (fun _ _ => rfl)) pe_str (nomark _)) (pe_has g_size hr rfl (pa_cons (pe_tup (pa_cons (pe_ix ix_tup (pv 1) pe_int (fun _ _ => rfl)) pa_nil)) pa_nil)) (pe_has g_tree_size hr rfl (pa_cons (pv 0) (pa_cons (pe_ix ix_tup (pv 1) pe_int (fun _ _ => rfl)) pa_nil))))))), ?_⟩
  cases c with
  | put p t w =>
    obtain ⟨a, b, q', ys, rfl, h1, h2, h3, h4⟩ := hc
    obtain ⟨ok1, ok2, _⟩ := ok
    refine ⟨_, rfl, a, _, 0, _, rfl, rfl, SqT.of h1, rfl, rfl, _, rfl, iteF ?_⟩
    refine ⟨_, rfl, a, _, 0, _, rfl, rfl, SqT.of h1, rfl, rfl, _, rfl, iteT ?_⟩
    refine ⟨_, rfl, a, _, 2, _, rfl, rfl, SqT.of h1, rfl, (by show 1 ≤ sizeLine; decide), fun p1 hp1 => ?_⟩
    have k7 := Same.new (o := .tup [.ref b]) hp1
    refine ⟨p1, _, .cons t w .nil, rfl, SqT.of upd_same, .cons (k7 _ _ h2) (k7 _ _ h3) (h4.mono k7.tk) .nil, ok2, by rw [gsz_words]; simp only [gsz]; (first | lia | omega), fun H8 s8 => ?_⟩
    have e : tagsN SL (words SL (.cons t w .nil)) = 1 + gsz w := by
      have h1 := tagsN_words ok2
      have h2 := gsz_words (.cons t w .nil)
      simp only [gsz] at h2
      (first | lia | omega)
    rw [e]
    exact q H8 (k7.trans s8)
  | cut p e =>
    obtain ⟨a, rfl, h1⟩ := hc
    obtain ⟨t1, t2⟩ := prs_top ok
    refine ⟨_, rfl, a, _, 0, _, rfl, rfl, SqT.of h1, rfl, rfl, _, rfl, iteF ?_⟩
    refine ⟨_, rfl, a, _, 0, _, rfl, rfl, SqT.of h1, rfl, rfl, _, rfl, iteF ?_⟩
    refine ⟨_, rfl, _, rfl, a, _, 1, _, rfl, rfl, SqT.of h1, rfl, d, _, p, e, rfl, hd, hn, ok, ?_⟩
    have e2 : ((e : Int) + 1 - (p : Int)) / 2 = (((e + 1 - p) / 2 : Nat) : Int) := by (first | lia | omega)
    rw [e2]
    exact q H (Same.refl _)
  | name p t =>
    obtain ⟨a, rfl, h1⟩ := hc
    refine ⟨_, rfl, a, _, 0, _, rfl, rfl, SqT.of h1, rfl, rfl, _, rfl, iteT ?_⟩
    exact q H (Same.refl _)
theorem goodC_ok {G : Gr Str} : ∀ {cs : List Ch} {k : Nat}, GoodC G k cs → ∀ c ∈ cs, c.Ok G
  | c :: cs, k, h, x, hx => by
    rcases List.mem_cons.mp hx with rfl | hx
    · exact h.2.2.1
    · exact goodC_ok h.2.2.2 x hx
theorem sum_costs : ∀ cs : List Ch, ((cs.map fun c => (c.cost : Int))).sum = (costs cs : Int)
  | [] => rfl
  | c :: cs => by
    have := sum_costs cs
    unfold costs at this ⊢
    simp only [List.map_cons, List.sum_cons]
    (first | lia | omega)
/-! changes as they are handed in: any place, any text -/
inductive Rc where
  | put (p : Int) (t : Str) (w : Gr Str) : Rc
  | cut (p : Int) : Rc
  | name (p : Int) (t : Str) : Rc
def Rc.pl : Rc → Int
  | .put p _ _ => p
  | .cut p => p
  | .name p _ => p
def RepR (H : Hp) : V → Rc → Prop
  | v, .put p t w => ∃ (a b q : Addr) (ys : List V), v = .ref a ∧ H a = some (.tup [.str "put", .int p, .ref b]) ∧ H b = some (.tup [.str t, .ref q]) ∧ H q = some (.tup ys) ∧ RepG H ys w
  | v, .cut p => ∃ a : Addr, v = .ref a ∧ H a = some (.tup [.str "cut", .int p])
  | v, .name p t => ∃ a : Addr, v = .ref a ∧ H a = some (.tup [.str "name", .int p, .str t])
theorem RepR.mono {H H' : Hp} (k : TK H H') : ∀ {v : V} {c : Rc}, RepR H v c → RepR H' v c
  | _, .put _ _ _, ⟨a, b, q, ys, e, h1, h2, h3, h4⟩ => ⟨a, b, q, ys, e, k _ _ h1, k _ _ h2, k _ _ h3, h4.mono k⟩
  | _, .cut _, ⟨a, e, h⟩ => ⟨a, e, k _ _ h⟩
  | _, .name _ _, ⟨a, e, h⟩ => ⟨a, e, k _ _ h⟩
def RcL (H : Hp) (vs : List V) (rs : List Rc) : Prop := Paired (RepR H) vs rs
theorem RcL.mono {H H' : Hp} (k : TK H H') : ∀ {vs : List V} {rs : List Rc}, RcL H vs rs → RcL H' vs rs
  | _, _, .nil => .nil
  | _, _, .cons h t => .cons (h.mono k) (RcL.mono k t)
/-- what may be handed in -/
def Rc.Ok : Rc → Prop
  | .put _ t w => gsz w ≤ 10 ∧ Clean SL (.cons t w .nil) ∧ LetW (words SL (.cons t w .nil))
  | .cut _ => True
  | .name _ t => t.length ≤ 100 ∧ AscL t ∧ PyData.strOk t = true
def Cv (G : Gr Str) : Rc → Ch → Prop
  | .put p t w, c => ∃ n : Nat, p = (n : Int) ∧ n ≤ 2 * gsz G ∧ c = .put n t w
  | .cut p, c => ∃ n e : Nat, p = (n : Int) ∧ (n, e) ∈ prs 0 G ∧ c = .cut n e
  | .name p t, c => ∃ n e : Nat, p = (n : Int) ∧ (n, e) ∈ prs 0 G ∧ tagB t = true ∧ c = .name n t
def Chn (G : Gr Str) : Nat → List Rc → Prop
  | _, [] => True
  | k, r :: rs => ∃ c, Cv G r c ∧ k ≤ c.pl ∧ Chn G c.beh rs
theorem Cv.pl {G : Gr Str} : ∀ {r : Rc} {c : Ch}, Cv G r c → r.pl = (c.pl : Int) ∧ c.pl ≤ 2 * gsz G ∧ c.pl ≤ c.beh
  | .put p t w, c, ⟨n, e, h, hc⟩ => by subst hc; exact ⟨e, h, Nat.le_refl _⟩
  | .cut p, c, ⟨n, m, e, h, hc⟩ => by
    subst hc
    obtain ⟨h1, h2⟩ := prs_top h
    exact ⟨e, by show n ≤ _; (first | lia | omega), by show n ≤ m + 1; (first | lia | omega)⟩
  | .name p t, c, ⟨n, m, e, h, ht, hc⟩ => by
    subst hc
    obtain ⟨h1, h2⟩ := prs_top h
    exact ⟨e, by show n ≤ _; (first | lia | omega), by show n ≤ n + 1; (first | lia | omega)⟩
theorem prs_fun {l : List (Nat × Nat)} (nd : (l.map (·.1)).Nodup) {p e e' : Nat} (h : (p, e) ∈ l) (h' : (p, e') ∈ l) : e = e' := by
  have h1 := kvC_some nd h
  have h2 := kvC_some nd h'
  rw [h1] at h2
  injection h2 with h2
  injection h2 with h2
  (first | lia | omega)
theorem Cv.fn {G : Gr Str} (nd : ((prs 0 G).map (·.1)).Nodup) : ∀ {r : Rc} {c c' : Ch}, Cv G r c → Cv G r c' → c = c'
  | .put p t w, c, c', ⟨n, e, h, hc⟩, ⟨n', e', h', hc'⟩ => by
    have : n = n' := by (first | lia | omega)
    subst this
    rw [hc, hc']
  | .cut p, c, c', ⟨n, m, e, h, hc⟩, ⟨n', m', e', h', hc'⟩ => by
    have : n = n' := by (first | lia | omega)
    subst this
    rw [hc, hc', prs_fun nd h h']
  | .name p t, c, c', ⟨n, m, e, h, ht, hc⟩, ⟨n', m', e', h', ht', hc'⟩ => by
    have : n = n' := by (first | lia | omega)
    subst this
    rw [hc, hc']
theorem tagB_letsI {t : Str} (h : tagB t = true) : Lets t ∧ t.length ≤ 8 := by
  unfold tagB at h
  simp only [Bool.and_eq_true, decide_eq_true_eq, List.all_eq_true] at h
  refine ⟨⟨fun z => ?_, fun c hc => ?_⟩, h.1.2⟩
  · have : t.cps.toList.length = t.length := Array.length_toList
    rw [z, List.length_nil] at this
    (first | lia | omega)
  · have := h.2 c hc
    unfold azB at this
    simp only [Bool.and_eq_true, decide_eq_true_eq] at this
    exact this
theorem Cv.ok {G : Gr Str} : ∀ {r : Rc} {c : Ch}, r.Ok → Cv G r c → c.Ok G
  | .put p t w, c, ok, ⟨n, e, h, hc⟩ => by subst hc; exact ⟨by have := ok.1; (first | lia | omega), ok.2⟩
  | .cut p, c, ok, ⟨n, m, e, h, hc⟩ => by subst hc; exact h
  | .name p t, c, ok, ⟨n, m, e, h, ht, hc⟩ => by subst hc; exact ⟨⟨m, h⟩, tagB_letsI ht⟩
theorem Cv.rep {G : Gr Str} {H : Hp} {v : V} : ∀ {r : Rc} {c : Ch}, Cv G r c → RepR H v r → RepC H v c
  | .put p t w, c, ⟨n, e, h, hc⟩, k => by subst hc e; exact k
  | .cut p, c, ⟨n, m, e, h, hc⟩, k => by subst hc e; exact k
  | .name p t, c, ⟨n, m, e, h, ht, hc⟩, k => by subst hc e; exact k
theorem Cv.adds {G : Gr Str} : ∀ {r : Rc} {c : Ch}, r.Ok → Cv G r c → c.adds.length ≤ 22
  | .put p t w, c, ok, ⟨n, e, h, hc⟩ => by
    subst hc
    show (words SL (.cons t w .nil)).length ≤ 22
    rw [gsz_words]
    have := ok.1
    show 2 * (1 + gsz w + 0) ≤ 22
    (first | lia | omega)
  | .cut p, c, ok, ⟨n, m, e, h, hc⟩ => by subst hc; exact Nat.zero_le _
  | .name p t, c, ok, ⟨n, m, e, h, ht, hc⟩ => by subst hc; exact (by show 1 ≤ 22; decide)
theorem Chn.get {G : Gr Str} {H : Hp} : ∀ {rs : List Rc} {vs : List V} {k : Nat}, Chn G k rs → RcL H vs rs → (∀ r ∈ rs, r.Ok) → ∃ cs, Paired (RepC H) vs cs ∧ GoodC G k cs ∧ Paired (Cv G) rs cs ∧ ∀ c ∈ cs, c.adds.length ≤ 22
  | [], _, k, _, .nil, _ => ⟨[], .nil, trivial, .nil, fun _ h => nomatch h⟩
  | r :: rs, _, k, ⟨c, h1, h2, h3⟩, .cons hv t, ok => by
    obtain ⟨cs, a, b, d, e⟩ := Chn.get h3 t fun x hx => ok x (List.mem_cons_of_mem _ hx)
    have okr := ok r (List.mem_cons_self ..)
    refine ⟨c :: cs, .cons (h1.rep hv) a, ⟨h2, h1.pl.2.1, h1.ok okr, b⟩, .cons h1 d, fun x hx => ?_⟩
    rcases List.mem_cons.mp hx with rfl | hx
    · exact h1.adds okr
    · exact e x hx
/-- what is made from a place on -/
def tl (ws : List Str) : Nat → List Ch → List Str
  | k, [] => ws.drop k
  | k, c :: cs => (ws.drop k).take (c.pl - k) ++ c.adds ++ tl ws c.beh cs
theorem runC_tl {ws : List Str} : ∀ {cs : List Ch} {s : List Str × Nat}, (runC ws s cs).1 ++ ws.drop (runC ws s cs).2 = s.1 ++ tl ws s.2 cs
  | [], s => rfl
  | c :: cs, s => by
    have := runC_tl (ws := ws) (cs := cs) (s := stp ws s c)
    show (runC ws (stp ws s c) cs).1 ++ ws.drop (runC ws (stp ws s c) cs).2 = _
    rw [this]
    show (s.1 ++ (ws.drop s.2).take (c.pl - s.2) ++ c.adds) ++ tl ws c.beh cs = s.1 ++ ((ws.drop s.2).take (c.pl - s.2) ++ c.adds ++ tl ws c.beh cs)
    simp only [List.append_assoc]
theorem can_cut : ∀ {as bs : List Str} {n : Nat}, Can SL n (as ++ bs) → ∃ m, Can SL m bs ∧ ∀ X, Can SL m X → Can SL n (as ++ X)
  | [], bs, n, h => ⟨n, h, fun _ h => h⟩
  | a :: as, bs, n, h => by
    by_cases e : a = SL
    · subst e
      rw [List.cons_append, can_end] at h
      obtain ⟨m, h1, h2⟩ := can_cut h.2
      exact ⟨m, h1, fun X hX => by rw [List.cons_append, can_end]; exact ⟨h.1, h2 X hX⟩⟩
    · rw [List.cons_append, can_tag e] at h
      obtain ⟨m, h1, h2⟩ := can_cut h
      exact ⟨m, h1, fun X hX => by rw [List.cons_append, can_tag e]; exact h2 X hX⟩
theorem can_off : ∀ {g : Gr Str} {n : Nat} {ws : List Str}, Clean SL g → Can SL n (words SL g ++ ws) → Can SL n ws
  | .nil, _, _, _, h => h
  | .cons t w o, n, ws, ⟨h1, h2, h3⟩, h => by
    have e : words SL (.cons t w o) ++ ws = t :: (words SL w ++ SL :: (words SL o ++ ws)) := by simp [words]
    rw [e, can_tag h1] at h
    have := can_off h2 h
    rw [can_end] at this
    exact can_off h3 (by simpa using this.2)
/-- a tag's words, at their place -/
theorem prs_words : ∀ (g : Gr Str) (k p e : Nat), (p, e) ∈ prs k g → Clean SL g → ∃ i t w, p = k + i ∧ e = p + 1 + 2 * gsz w ∧ Clean SL (.cons t w .nil) ∧ (words SL g).drop i = words SL (.cons t w .nil) ++ (words SL g).drop (i + 2 + 2 * gsz w)
  | .cons t w o, k, p, e, h, ⟨c1, c2, c3⟩ => by
    have ew : words SL (.cons t w o) = t :: (words SL w ++ SL :: words SL o) := by simp [words]
    have lw : (words SL w).length = 2 * gsz w := gsz_words w
    rcases List.mem_append.mp h with h | h
    · obtain ⟨i, t', w', e1, e2, e3, e4⟩ := prs_words w (k + 1) p e h c2
      obtain ⟨i2, _, t2, w2, o2, _, _, _, _, _, hb⟩ := prs_at w (k + 1) p e h
      refine ⟨i + 1, t', w', by (first | lia | omega), e2, e3, ?_⟩
      have hi : i + 2 + 2 * gsz w' ≤ (words SL w).length := by
        have h1 := congrArg List.length e4
        rw [List.length_append, List.length_drop, List.length_drop, gsz_words] at h1
        have : gsz (.cons t' w' .nil) = 1 + gsz w' + 0 := rfl
        (first | lia | omega)
      rw [ew, List.drop_succ_cons, List.drop_append_of_le_length (by (first | lia | omega)), e4, show i + 1 + 2 + 2 * gsz w' = (i + 2 + 2 * gsz w') + 1 by (first | lia | omega), List.drop_succ_cons, List.drop_append_of_le_length hi, List.append_assoc]
    · rcases List.mem_cons.mp h with h | h
      · injection h with h1 h2
        refine ⟨0, t, w, by (first | lia | omega), by (first | lia | omega), ⟨c1, c2, trivial⟩, ?_⟩
        rw [ew, List.drop_zero, show 0 + 2 + 2 * gsz w = (2 * gsz w + 1) + 1 by (first | lia | omega), List.drop_succ_cons, List.drop_append, List.drop_of_length_le (by (first | lia | omega)), lw, show 2 * gsz w + 1 - 2 * gsz w = 1 by (first | lia | omega)]
        simp [words]
      · obtain ⟨i, t', w', e1, e2, e3, e4⟩ := prs_words o (k + 2 + 2 * gsz w) p e h c3
        refine ⟨i + 2 + 2 * gsz w, t', w', by (first | lia | omega), e2, e3, ?_⟩
        have key : ∀ j, (words SL (.cons t w o)).drop (j + 2 + 2 * gsz w) = (words SL o).drop j := fun j => by
          rw [ew, show j + 2 + 2 * gsz w = (2 * gsz w + 1 + j) + 1 by (first | lia | omega), List.drop_succ_cons, List.drop_append, List.drop_of_length_le (by (first | lia | omega)), lw, show 2 * gsz w + 1 + j - 2 * gsz w = j + 1 by (first | lia | omega)]
          rfl
        rw [key i, e4, show i + 2 + 2 * gsz w + 2 + 2 * gsz w' = (i + 2 + 2 * gsz w') + 2 + 2 * gsz w by (first | lia | omega), key]
/-- good changes make good words -/
theorem tl_can {G : Gr Str} (hc : Clean SL G) : ∀ {cs : List Ch} {k n : Nat}, GoodC G k cs → Can SL n ((words SL G).drop k) → Can SL n (tl (words SL G) k cs)
  | [], k, n, _, h => h
  | c :: cs, k, n, ⟨h1, h2, h3, h4⟩, h => by
    have e0 : (words SL G).drop k = ((words SL G).drop k).take (c.pl - k) ++ (words SL G).drop c.pl := by
      conv => lhs; rw [← List.take_append_drop (c.pl - k) ((words SL G).drop k)]
      rw [List.drop_drop, show k + (c.pl - k) = c.pl by (first | lia | omega)]
    rw [e0] at h
    clear e0
    obtain ⟨m, a, b⟩ := can_cut h
    show Can SL n (((words SL G).drop k).take (c.pl - k) ++ c.adds ++ tl (words SL G) c.beh cs)
    rw [List.append_assoc]
    refine b _ ?_
    cases c with
    | put p t w => exact can_words h3.2.1 (tl_can hc h4 a)
    | cut p e =>
      obtain ⟨i, t, w, e1, e2, e3, e4⟩ := prs_words G 0 p e h3 hc
      rw [Nat.zero_add] at e1
      subst e1
      have a : Can SL m ((words SL G).drop p) := a
      rw [e4] at a
      have := can_off e3 a
      rw [show p + 2 + 2 * gsz w = e + 1 by (first | lia | omega)] at this
      exact tl_can hc h4 this
    | name p t =>
      obtain ⟨⟨e, he⟩, hl, h8⟩ := h3
      obtain ⟨i, t', w, e1, e2, e3, e4⟩ := prs_words G 0 p e he hc
      rw [Nat.zero_add] at e1
      subst e1
      have a : Can SL m ((words SL G).drop p) := a
      have nt : t' ≠ SL := e3.1
      have nt2 : t ≠ SL := fun z => by
        have := tagB_lets hl h8
        rw [z, tagB_SL] at this
        cases this
      have e5 : (words SL G).drop p = t' :: (words SL G).drop (p + 1) := by
        rw [← List.drop_drop, e4]
        simp [words]
      rw [e5, can_tag nt] at a
      show Can SL m (t :: tl (words SL G) (p + 1) cs)
      rw [can_tag nt2]
      exact tl_can hc h4 a
theorem tl_let {G : Gr Str} (hl : LetW (words SL G)) : ∀ {cs : List Ch} {k : Nat}, GoodC G k cs → LetW (tl (words SL G) k cs)
  | [], k, _ => hl.drop k
  | c :: cs, k, ⟨h1, h2, h3, h4⟩ => by
    refine LetW.app (LetW.app ((hl.drop k).take _) ?_) (tl_let hl h4)
    cases c with
    | put p t w => exact h3.2.2
    | cut p e => exact fun _ h => nomatch h
    | name p t => exact LetW.cons (.inr h3.2) fun _ h => nomatch h
theorem tl_len {ws : List Str} {G : Gr Str} (hw : ws.length = 2 * gsz G) : ∀ {cs : List Ch} {k : Nat}, GoodC G k cs → (∀ c ∈ cs, c.adds.length ≤ 22) → (tl ws k cs).length ≤ (ws.length - k) + 22 * cs.length
  | [], k, _, _ => by show (ws.drop k).length ≤ _; rw [List.length_drop]; (first | lia | omega)
  | c :: cs, k, ⟨h1, h2, h3, h4⟩, ha => by
    have ih := tl_len hw h4 fun x hx => ha x (List.mem_cons_of_mem _ hx)
    have h5 := ha c (List.mem_cons_self ..)
    have h6 : c.pl ≤ c.beh := by
      cases c with
      | put p t w => exact Nat.le_refl _
      | cut p e =>
        have := prs_top h3
        show p ≤ e + 1
        (first | lia | omega)
      | name p t => exact Nat.le_succ p
    show ((ws.drop k).take (c.pl - k) ++ c.adds ++ tl ws c.beh cs).length ≤ _
    rw [List.length_append, List.length_append, List.length_take, List.length_drop, List.length_cons]
    (first | lia | omega)
/-- where the tags stand -/
theorem prs_tag : ∀ (g : Gr Str) (k i : Nat) (x : Str), Clean SL g → (words SL g)[i]? = some x → x ≠ SL → ∃ e, (k + i, e) ∈ prs k g
  | .nil, k, i, x, _, h, _ => by cases i <;> cases h
  | .cons t w o, k, i, x, ⟨c1, c2, c3⟩, h, hx => by
    have ew : words SL (.cons t w o) = t :: (words SL w ++ SL :: words SL o) := by simp [words]
    have lw : (words SL w).length = 2 * gsz w := gsz_words w
    rw [ew] at h
    show ∃ e, (k + i, e) ∈ prs (k + 1) w ++ (k, k + 1 + 2 * gsz w) :: prs (k + 2 + 2 * gsz w) o
    cases i with
    | zero => exact ⟨k + 1 + 2 * gsz w, by simp⟩
    | succ i =>
      rw [List.getElem?_cons_succ] at h
      by_cases hi : i < 2 * gsz w
      · rw [List.getElem?_append_left (by (first | lia | omega))] at h
        obtain ⟨e, he⟩ := prs_tag w (k + 1) i x c2 h hx
        exact ⟨e, by rw [show k + (i + 1) = k + 1 + i by (first | lia | omega)]; simp [he]⟩
      · rw [List.getElem?_append_right (by (first | lia | omega)), lw] at h
        by_cases hz : i = 2 * gsz w
        · subst hz
          rw [Nat.sub_self] at h
          injection h with h
          exact absurd h.symm hx
        · rw [show i - 2 * gsz w = (i - 2 * gsz w - 1) + 1 by (first | lia | omega), List.getElem?_cons_succ] at h
          obtain ⟨e, he⟩ := prs_tag o (k + 2 + 2 * gsz w) (i - 2 * gsz w - 1) x c3 h hx
          exact ⟨e, by rw [show k + (i + 1) = k + 2 + 2 * gsz w + (i - 2 * gsz w - 1) by (first | lia | omega)]; simp [he]⟩
theorem prs_word {G : Gr Str} (hc : Clean SL G) {p e : Nat} (h : (p, e) ∈ prs 0 G) : ∃ t, (words SL G)[p]? = some t ∧ t ≠ SL := by
  obtain ⟨i, t, w, e1, e2, e3, e4⟩ := prs_words G 0 p e h hc
  rw [Nat.zero_add] at e1
  subst e1
  refine ⟨t, ?_, e3.1⟩
  have := congrArg (fun l => l[0]?) e4
  simp only [List.getElem?_drop, Nat.add_zero] at this
  rw [this]
  simp [words]
/-- the law's own test: each change behind all those ahead of it -/
def Rgt (G : Gr Str) : List Rc → Prop
  | [] => True
  | r :: rs => (∃ c, Cv G r c ∧ ∀ x ∈ rs, (c.beh : Int) ≤ x.pl) ∧ Rgt G rs
theorem chn_rgt {G : Gr Str} (nd : ((prs 0 G).map (·.1)).Nodup) : ∀ {rs : List Rc} {k : Nat}, Chn G k rs ↔ (∀ x ∈ rs, (k : Int) ≤ x.pl) ∧ Rgt G rs
  | [], k => ⟨fun _ => ⟨fun _ h => (nomatch h), trivial⟩, fun _ => trivial⟩
  | r :: rs, k => by
    constructor
    · rintro ⟨c, h1, h2, h3⟩
      obtain ⟨p1, p2, p3⟩ := h1.pl
      obtain ⟨a, b⟩ := (chn_rgt nd).mp h3
      refine ⟨fun x hx => ?_, ⟨c, h1, a⟩, b⟩
      rcases List.mem_cons.mp hx with rfl | hx
      · (first | lia | omega)
      · have := a x hx
        (first | lia | omega)
    · rintro ⟨a, ⟨c, h1, h2⟩, h3⟩
      have := a r (List.mem_cons_self ..)
      obtain ⟨p1, p2, p3⟩ := h1.pl
      exact ⟨c, h1, by (first | lia | omega), (chn_rgt nd).mpr ⟨h2, h3⟩⟩
theorem rgt_pos {G : Gr Str} : ∀ {rs : List Rc}, Rgt G rs → ∀ x ∈ rs, (0 : Int) ≤ x.pl
  | r :: rs, ⟨⟨c, h1, _⟩, h3⟩, x, hx => by
    rcases List.mem_cons.mp hx with rfl | hx
    · have := h1.pl.1
      (first | lia | omega)
    · exact rgt_pos h3 x hx
theorem chn0_rgt {G : Gr Str} (nd : ((prs 0 G).map (·.1)).Nodup) {rs : List Rc} : Chn G 0 rs ↔ Rgt G rs :=
  ⟨fun h => ((chn_rgt nd).mp h).2, fun h => (chn_rgt nd).mpr ⟨rgt_pos h, h⟩⟩
def spRefX (K : PySem.W.Frag) (C : Addr) : Sp := fun vs H Q E => ∃ (a b : Addr) (G : Gr Str) (vs' : List V) (rs : List Rc), vs = [.ref a, .ref b] ∧ H a = some (.lst ((words SL G).map V.str)) ∧ Clean SL G ∧ gsz G ≤ 100 ∧ H b = some (.lst vs') ∧ RcL H vs' rs ∧ (∀ r ∈ rs, r.Ok) ∧ (Chn G 0 rs → ∀ H', Same H H' → Q .non H') ∧ (¬ Chn G 0 rs → ∀ H', Same H H' → E (.ref C) none H')
def spDoneX (C : Addr) : Sp := fun vs H Q E => ∃ (a b : Addr) (xs vs' : List V) (G : Gr Str) (rs : List Rc), vs = [.ref a, .ref b] ∧ H a = some (.tup xs) ∧ RepG H xs G ∧ Clean SL G ∧ LetW (words SL G) ∧ gsz G ≤ 100 ∧ H b = some (.lst vs') ∧ RcL H vs' rs ∧ (∀ r ∈ rs, r.Ok) ∧ rs.length ≤ 30 ∧
  (Chn G 0 rs → ∀ (r : Addr) (zs : List V) (H' : Hp), Same H H' → H' r = some (.tup zs) → Q (.ref r) H') ∧ (¬ Chn G 0 rs → ∀ H', Same H H' → E (.ref C) none H')
def spPriX (C : Addr) : Sp := fun vs H Q E => ∃ (a b : Addr) (xs vs' : List V) (G : Gr Str) (rs : List Rc), vs = [.ref a, .ref b] ∧ H a = some (.tup xs) ∧ RepG H xs G ∧ Clean SL G ∧ gsz G ≤ 100 ∧ H b = some (.lst vs') ∧ RcL H vs' rs ∧ (∀ r ∈ rs, r.Ok) ∧ rs.length ≤ 30 ∧
  (Chn G 0 rs → ∀ cs, Paired (Cv G) rs cs → ∀ H', Same H H' → Q (.int (costs cs : Int)) H') ∧ (¬ Chn G 0 rs → ∀ H', Same H H' → E (.ref C) none H')
theorem kvC_neg (l : List (Nat × Nat)) {p : Int} (h : p < 0) : valV (kvC l) (Sum.inl p) = none := by
  induction l with
  | nil => rfl
  | cons x l ih =>
    show valV ((Sum.inl (x.1 : Int), V.int (x.2 : Int)) :: kvC l) (Sum.inl p) = none
    rw [valV_neg (fun z => by injection z with z; (first | lia | omega))]
    exact ih
theorem end_at {G : Gr Str} (nd : ((prs 0 G).map (·.1)).Nodup) (p : Int) : (valV (kvC (prs 0 G)) (Sum.inl p) = none ∧ ∀ n e : Nat, p = (n : Int) → (n, e) ∉ prs 0 G) ∨ ∃ n e : Nat, p = (n : Int) ∧ (n, e) ∈ prs 0 G ∧ valV (kvC (prs 0 G)) (Sum.inl p) = some (.int (e : Int)) := by
  by_cases h : p < 0
  · exact .inl ⟨kvC_neg _ h, fun n e z => by (first | lia | omega)⟩
  · obtain ⟨n, rfl⟩ : ∃ n : Nat, p = (n : Int) := ⟨p.toNat, by (first | lia | omega)⟩
    by_cases k : n ∈ (prs 0 G).map (·.1)
    · obtain ⟨⟨n', e⟩, hm, e1⟩ := List.mem_map.mp k
      obtain rfl : n' = n := e1
      exact .inr ⟨n', e, rfl, hm, kvC_some nd hm⟩
    · refine .inl ⟨kvC_none k, fun m e z hm => k ?_⟩
      obtain rfl : n = m := by (first | lia | omega)
      exact List.mem_map.mpr ⟨_, hm, rfl⟩
set_option maxHeartbeats 2000000 in
theorem ok_refuse_bad_changes (B : ∀ x ∈ blts, mg x = none) (xc : XC K mg X_GroveError X_NoGrove X_BadForm X_TooMany X_TooBig X_NoneFits X_NoBook X_TwiceNamed X_NoName X_Ring X_BadChanger X_NoRecipe X_NotStraight X_NoChange X_NoRow) (g_closings : Has P w K mg base "closings" ["words"] 1 (spClosK K)) (g_is_tag : Has P w K mg base "is_tag" ["text"] 1 spIsTag) (g_behind_change : Has P w K mg base "behind_change" ["ended_at", "change"] 1 spBehC)
    (F : Fun K "refuse_bad_changes" "refuse_bad_changes" s_refuse_bad_changes f fd) : FnOk P w K mg base (CXE P w) 2 f fd ["words", "changes"] (spRefX K X_NoChange) := by
  refine F.okX sc_refuse_bad_changes (fun vs H Q E h => ?_) (fun cdv A outer s H vs Q E hr h => ?_)
  · obtain ⟨a, b, G, vs', rs, rfl, _⟩ := h
    rfl
  obtain ⟨a, b, G, vs', rs, rfl, ha, hc, hz, hb, hrs, hok, q1, q2⟩ := h
  have hu1 : (A.deeper (PyProof.Rows.envOfC (Str.ofString "refuse_bad_changes") (defScope s_refuse_bad_changes) s.heap.objs.size f cdv)).units + 1 < cLine := by have := hr.un; (first | lia | omega)
  have hn := prs_nd hc
  have hwl := gsz_words G
  have hvl : vs'.length = rs.length := Paired.length hrs
  refine hideI ((sBody ((defBody s_refuse_bad_changes).getD 2 (.Pass ⟨0, 0, 0, 0⟩))).drop 3) (pss_one (ps_set (i := 3) sc_refuse_bad_changes.nd rfl (Or.inl rfl) (pe_has g_behind_change hr rfl (pa_cons (pv 2) (pa_cons (pv 4) pa_nil))))) (fun u2_3 h2_3 e2_3 => ?_)
  refine hideI ((sBody ((sBody ((defBody s_refuse_bad_changes).getD 2 (.Pass ⟨0, 0, 0, 0⟩))).getD 2 (.Pass ⟨0, 0, 0, 0⟩))).drop 1) (pss_one (ps_raise0 xc.top_NoChange xc.ini_NoChange xc.n_NoChange takes_def hr rfl (pa_cons (pe_joined (pj_cons (pe_fvr (pv 5)) (pj_cons pe_str pj_nil))) pa_nil))) (fun u2_2t1 h2_2t1 e2_2t1 => ?_)
  refine hideI ((sBody ((sBody ((defBody s_refuse_bad_changes).getD 2 (.Pass ⟨0, 0, 0, 0⟩))).getD 2 (.Pass ⟨0, 0, 0, 0⟩))).drop 0) (pss_cons (ps_set (i := 5) sc_refuse_bad_changes.nd rfl (Or.inl rfl) (pe_ix ix_tup (pv 4) pe_int (fun _ _ => rfl))) h2_2t1) (fun u2_2t0 h2_2t0 e2_2t0 => ?_)
  refine hideI ((sBody ((defBody s_refuse_bad_changes).getD 2 (.Pass ⟨0, 0, 0, 0⟩))).drop 2) (pss_cons (ps_if (PW.pt (pw_and (pt_cmpR op_eq (pe_ix ix_tup (pv 4) pe_int (fun _ _ => rfl)) pe_str (nomark _)) (pw_and1 (pt_not (pt_truth (pe_has g_is_tag hr rfl (pa_cons (pe_ix ix_tup (pv 4) pe_int (fun _ _ => rfl)) pa_nil)) (fun _ => rfl))))))
      h2_2t0
      pss_nil) h2_3) (fun u2_2 h2_2 e2_2 => ?_)
  refine hideI ((sBody ((defBody s_refuse_bad_changes).getD 2 (.Pass ⟨0, 0, 0, 0⟩))).drop 1) (pss_cons (ps_if (PW.pt (pw_and (pt_cmpR op_ne (pe_ix ix_tup (pv 4) pe_int (fun _ _ => rfl)) pe_str (nomark _)) (pw_and1 (pt_cmp (pc_dnotin hu1 (pe_ix ix_tup (pv 4) pe_int (fun _ _ => rfl)) (pv 2))))))
      (pss_one (ps_raise0 xc.top_NoChange xc.ini_NoChange xc.n_NoChange takes_def hr rfl (pa_cons pe_str pa_nil)))
      pss_nil) h2_2) (fun u2_1 h2_1 e2_1 => ?_)
  refine hideI ((sBody ((defBody s_refuse_bad_changes).getD 2 (.Pass ⟨0, 0, 0, 0⟩))).drop 0) (pss_cons (ps_if (pt_not (pt_chain op_le op_le (pv 3) (pe_ix ix_tup (pv 4) pe_int (fun _ _ => rfl)) (pe_callB call_len_seq rfl (B "len" (by decide)) PySem.boot_len (pa_cons (pv 0) pa_nil))))
      (pss_one (ps_raise0 xc.top_NoChange xc.ini_NoChange xc.n_NoChange takes_def hr rfl (pa_cons pe_str pa_nil)))
      pss_nil) h2_1) (fun u2_0 h2_0 e2_0 => ?_)
  refine hideI ((defBody s_refuse_bad_changes).drop 2) (pss_one (ps_for PassesOwn.leaving rfl (pi_list (pv 1)) (pg_name (i := 4) sc_refuse_bad_changes.nd rfl (Or.inl rfl))
      h2_0)) (fun u2 h2 e2 => ?_)
  refine hideI ((defBody s_refuse_bad_changes).drop 1) (pss_cons (ps_set (i := 3) sc_refuse_bad_changes.nd rfl (Or.inl rfl) pe_int) h2) (fun u1 h1 e1 => ?_)
  refine hideI ((defBody s_refuse_bad_changes).drop 0) (pss_cons (ps_set (i := 2) sc_refuse_bad_changes.nd rfl (Or.inl rfl) (pe_has g_closings hr rfl (pa_cons (pv 0) pa_nil))) h1) (fun u0 h0 e0 => ?_)
  refine ⟨u0, h0, ?_⟩
  refine by_eq e0 ?_
  refine ⟨_, rfl, a, _, rfl, SqL.of ha, can_all hc, by (first | lia | omega), fun d H1 s1 _ hd => ?_⟩
  rw [cst_all hc] at hd
  have hb1 := s1 _ _ hb
  show u1 _ _ _
  refine by_eq e1 ?_
  show u2 _ _ _
  refine by_eq e2 ?_
  refine ⟨_, rfl, b, rfl, ⟨_, SqL.of hb1⟩, for_list (K := K) (a := b) (xs := vs') (fun i σ H2 => ∃ (k : Nat) (v4 v5 : Option V), σ = [some (.ref a), some (.ref b), some (.ref d), some (.int (k : Int)), v4, v5] ∧ Same H1 H2 ∧ (Chn G 0 rs ↔ Chn G k (rs.drop i))) ⟨0, none, none, rfl, Same.refl _, Iff.rfl⟩ ?_ ?_ ?_⟩
  · rintro i σ H2 _ ⟨_, v4, v5, _, s2, _⟩
    exact SqL.of (s2 _ _ hb1)
  · rintro i x σ H2 hx ⟨k, v4, v5, rfl, s2, hch⟩
    obtain ⟨r, hri, hrr⟩ := paired_at hrs i x hx
    have s12 := s1.trans s2
    have hrr := hrr.mono s12.tk
    have hokr := hok r (List.mem_of_getElem? hri)
    have hdr : rs.drop i = r :: rs.drop (i + 1) := by
      obtain ⟨h1, h2⟩ := List.getElem?_eq_some_iff.mp hri
      rw [List.drop_eq_getElem_cons h1, h2]
    rw [hdr] at hch
    have ha2 := s12 _ _ ha
    have hd2 := s2 _ _ hd
    obtain ⟨xa, zs, rfl, hxa, hz0, hz1⟩ : ∃ (xa : Addr) (zs : List V), x = .ref xa ∧ H2 xa = some (.tup zs) ∧ (∃ wd : Str, atI zs 0 = some (.str wd)) ∧ atI zs 1 = some (.int r.pl) := by
      cases r with
      | put p t w =>
        obtain ⟨x, b', q', ys, rfl, h1, _⟩ := hrr
        exact ⟨x, _, rfl, h1, ⟨_, rfl⟩, rfl⟩
      | cut p =>
        obtain ⟨x, rfl, h1⟩ := hrr
        exact ⟨x, _, rfl, h1, ⟨_, rfl⟩, rfl⟩
      | name p t =>
        obtain ⟨x, rfl, h1⟩ := hrr
        exact ⟨x, _, rfl, h1, ⟨_, rfl⟩, rfl⟩
    have lenE : (((words SL G).map V.str).length : Int) = ((2 * gsz G : Nat) : Int) := by rw [List.length_map, hwl]
    have badpl : ¬ ((k : Int) ≤ r.pl ∧ r.pl ≤ ((2 * gsz G : Nat) : Int)) → ¬ Chn G 0 rs := fun nb z => by
      obtain ⟨c, h1, h2, _⟩ := hch.mp z
      obtain ⟨p1, p2, _⟩ := h1.pl
      exact nb (by (first | lia | omega))
    show u2_0 _ [some (.ref a), some (.ref b), some (.ref d), some (.int (k : Int)), some (.ref xa), v5] H2
    refine by_eq e2_0 ?_
    refine ⟨_, rfl, _, rfl, xa, _, 1, _, rfl, rfl, SqT.of hxa, hz1, _, _, rfl, rfl, _, rfl, ite2 (fun c1 => ?_) (fun c1 => ?_)⟩
    rotate_left
    · have c1 : ¬ (k : Int) ≤ r.pl := fun z => c1 (decide_eq_true z)
      refine ⟨false, rfl, iteT ?_⟩
      exact ⟨(by show 1 ≤ 1000; decide), fun y hy => q2 (badpl fun z => c1 z.1) _ (s12.trans (Same.new hy))⟩
    have c1 : (k : Int) ≤ r.pl := of_decide_eq_true c1
    refine ⟨_, rfl, a, _, rfl, .inl (SqL.of ha2), _, _, rfl, rfl, _, rfl, ?_⟩
    rw [lenE]
    by_cases c2 : r.pl ≤ ((2 * gsz G : Nat) : Int)
    rotate_left
    · rw [decide_eq_false c2]
      exact iteT ⟨(by show 1 ≤ 1000; decide), fun y hy => q2 (badpl fun z => c2 z.2) _ (s12.trans (Same.new hy))⟩
    rw [decide_eq_true c2]
    refine iteF ?_
    show u2_1 _ [some (.ref a), some (.ref b), some (.ref d), some (.int (k : Int)), some (.ref xa), v5] H2
    -- behind the tests
    have next : ∀ (c : Ch) (H3 : Hp) (v5 : Option V), Cv G r c → Same H2 H3 → ∀ D : Ends, (∀ σ H', (∃ (k : Nat) (v4 v5 : Option V), σ = [some (.ref a), some (.ref b), some (.ref d), some (.int (k : Int)), v4, v5] ∧ Same H1 H' ∧ (Chn G 0 rs ↔ Chn G k (rs.drop (i + 1)))) → D.nx σ H') → u2_3 D [some (.ref a), some (.ref b), some (.ref d), some (.int (k : Int)), some (.ref xa), v5] H3 := fun c H3 v5 hcv s3 D hD => by
      refine by_eq e2_3 ?_
      refine ⟨_, rfl, _, rfl, d, _, G, c, rfl, s3 _ _ hd2, hn, (hcv.rep hrr).mono s3.tk, hcv.ok hokr, hD _ _ ⟨c.beh, _, _, rfl, s2.trans s3, hch.trans ⟨?_, fun z => ⟨c, hcv, ?_, z⟩⟩⟩⟩
      · rintro ⟨c', h1, _, h3⟩
        rw [hcv.fn hn h1]
        exact h3
      · have := hcv.pl.1
        (first | lia | omega)
    refine by_eq e2_1 ?_
    cases r with
    | put p t w =>
      obtain ⟨x, b', q', ys, ex, h1, h2, h3, h4⟩ := id hrr
      injection ex with ex
      subst ex
      refine ⟨_, rfl, xa, _, 0, _, rfl, rfl, SqT.of h1, rfl, rfl, _, rfl, iteF (iteF ?_)⟩
      show u2_2 _ _ _
      refine by_eq e2_2 ?_
      refine ⟨_, rfl, xa, _, 0, _, rfl, rfl, SqT.of h1, rfl, rfl, _, rfl, iteF (iteF ?_)⟩
      have c1 : (k : Int) ≤ p := c1
      have c2 : p ≤ ((2 * gsz G : Nat) : Int) := c2
      exact next (.put p.toNat t w) H2 v5 ⟨p.toNat, by (first | lia | omega), by (first | lia | omega), rfl⟩ (Same.refl _) _ fun σ H' h => h
    | cut p =>
      obtain ⟨x, ex, h1⟩ := id hrr
      injection ex with ex
      subst ex
      rcases end_at hn p with ⟨hv, nov⟩ | ⟨m, e, rfl, hm, hv⟩
      · have hcv : DGet H2 d (V.int p) none := by
          have := DGet.k (k := Sum.inl p) hd2
          rw [hv] at this
          exact this
        refine ⟨_, rfl, xa, _, 0, _, rfl, rfl, SqT.of h1, rfl, rfl, _, rfl, iteT ⟨_, rfl, xa, _, 1, _, rfl, rfl, SqT.of h1, rfl, _, rfl, d, _, rfl, hcv, _, rfl, iteT ?_⟩⟩
        refine ⟨(by show 1 ≤ 1000; decide), fun y hy => q2 (fun z => ?_) _ (s12.trans (Same.new hy))⟩
        obtain ⟨c, ⟨n', e', e1, e2, _⟩, _⟩ := hch.mp z
        exact nov n' e' e1 e2
      · have hcv : DGet H2 d (V.int (m : Int)) (some (.int (e : Int))) := by
          have := DGet.k (k := Sum.inl (m : Int)) hd2
          rw [hv] at this
          exact this
        refine ⟨_, rfl, xa, _, 0, _, rfl, rfl, SqT.of h1, rfl, rfl, _, rfl, iteT ⟨_, rfl, xa, _, 1, _, rfl, rfl, SqT.of h1, rfl, _, rfl, d, _, rfl, hcv, _, rfl, iteF ?_⟩⟩
        show u2_2 _ _ _
        refine by_eq e2_2 ?_
        refine ⟨_, rfl, xa, _, 0, _, rfl, rfl, SqT.of h1, rfl, rfl, _, rfl, iteF (iteF ?_)⟩
        exact next (.cut m e) H2 v5 ⟨m, e, rfl, hm, rfl⟩ (Same.refl _) _ fun σ H' h => h
    | name p t =>
      obtain ⟨x, ex, h1⟩ := id hrr
      injection ex with ex
      subst ex
      obtain ⟨t1, t2, t3⟩ := hokr
      rcases end_at hn p with ⟨hv, nov⟩ | ⟨m, e, rfl, hm, hv⟩
      · have hcv : DGet H2 d (V.int p) none := by
          have := DGet.k (k := Sum.inl p) hd2
          rw [hv] at this
          exact this
        refine ⟨_, rfl, xa, _, 0, _, rfl, rfl, SqT.of h1, rfl, rfl, _, rfl, iteT ⟨_, rfl, xa, _, 1, _, rfl, rfl, SqT.of h1, rfl, _, rfl, d, _, rfl, hcv, _, rfl, iteT ?_⟩⟩
        refine ⟨(by show 1 ≤ 1000; decide), fun y hy => q2 (fun z => ?_) _ (s12.trans (Same.new hy))⟩
        obtain ⟨c, ⟨n', e', e1, e2, _⟩, _⟩ := hch.mp z
        exact nov n' e' e1 e2
      · have hcv : DGet H2 d (V.int (m : Int)) (some (.int (e : Int))) := by
          have := DGet.k (k := Sum.inl (m : Int)) hd2
          rw [hv] at this
          exact this
        refine ⟨_, rfl, xa, _, 0, _, rfl, rfl, SqT.of h1, rfl, rfl, _, rfl, iteT ⟨_, rfl, xa, _, 1, _, rfl, rfl, SqT.of h1, rfl, _, rfl, d, _, rfl, hcv, _, rfl, iteF ?_⟩⟩
        show u2_2 _ _ _
        refine by_eq e2_2 ?_
        refine ⟨_, rfl, xa, _, 0, _, rfl, rfl, SqT.of h1, rfl, rfl, _, rfl, iteT ⟨_, rfl, xa, _, 2, _, rfl, rfl, SqT.of h1, rfl, t, rfl, by (first | lia | omega), fun H3 s3 => ⟨_, rfl, ?_⟩⟩⟩
        cases ct : tagB t with
        | true =>
          refine iteF ?_
          exact next (.name m t) H3 v5 ⟨m, e, rfl, hm, ct, rfl⟩ s3 _ fun σ H' h => h
        | false =>
          refine iteT ?_
          show u2_2t0 _ _ _
          refine by_eq e2_2t0 ?_
          refine ⟨_, rfl, xa, _, 2, _, rfl, rfl, SqT.of (s3 _ _ h1), rfl, ?_⟩
          show u2_2t1 _ _ _
          refine by_eq e2_2t1 ?_
          have lr := PySem.StrLaws.reprText_len t (fun c hc => Nat.lt_of_lt_of_le (t2 c hc) (by decide))
          have l1 : (Str.ofString " is no tag").length = 10 := by decide
          have l0 : (Str.empty : Str).length = 0 := rfl
          refine ⟨_, rfl, t, rfl, by rw [sizeLine_eq]; (first | lia | omega), _, rfl, ?_, _, rfl, ?_, ?_, ?_⟩
          · rw [strLen_append, sizeLine_eq]
            (first | lia | omega)
          · rw [strLen_append, strLen_append, sizeLine_eq]
            (first | lia | omega)
          · rw [strLen_append, strLen_append, sizeLine_eq]
            (first | lia | omega)
          refine ⟨(by show 1 ≤ 1000; decide), fun y hy => q2 (fun z => ?_) _ (s12.trans (s3.trans (Same.new hy)))⟩
          obtain ⟨c, ⟨n', e', e1, e2, e3, _⟩, _⟩ := hch.mp z
          rw [ct] at e3
          cases e3
  · rintro σ H2 ⟨k, v4, v5, rfl, s2, hch⟩
    rw [hvl, List.drop_length] at hch
    exact q1 (hch.mpr trivial) H2 (s1.trans s2)
set_option maxHeartbeats 2000000 in
theorem ok_done (B : ∀ x ∈ blts, mg x = none) (g_words_of : Has P w K mg base "words_of" ["grove"] 1 (spWords K)) (g_closings : Has P w K mg base "closings" ["words"] 1 (spClosK K)) (g_refuse_bad_changes : HasX P w K mg base "refuse_bad_changes" ["words", "changes"] 2 (spRefX K X_NoChange)) (g_behind_change : Has P w K mg base "behind_change" ["ended_at", "change"] 1 spBehC) (g_grove_of : Has P w K mg base "grove_of" ["words"] 2 (spGroveOf K))
    (F : Fun K "done" "done" s_done f fd) : FnOk P w K mg base (CXE P w) 3 f fd ["grove", "changes"] (spDoneX X_NoChange) := by
  refine F.okX sc_done (fun vs H Q E h => ?_) (fun cdv A outer s H vs Q E hr h => ?_)
  · obtain ⟨a, b, xs, vs', G, rs, rfl, _⟩ := h
    rfl
  obtain ⟨a, b, xs, vs', G, rs, rfl, ha, hG, hc, hlw, hz, hb, hrs, hok, hrl, q, q2⟩ := h
  have hn := prs_nd hc
  have hwl := gsz_words G
  refine hideI ((defBody s_done).drop 6) (pss_one (ps_ret (pe_has g_grove_of hr rfl (pa_cons (pe_op op_cat (pv 4) (pe_slice sl_list (pv 2) (po_some (pv 5)) po_none)) pa_nil)))) (fun u6 h6 e6 => ?_)
  refine hideI ((sElse ((sBody ((defBody s_done).getD 5 (.Pass ⟨0, 0, 0, 0⟩))).getD 2 (.Pass ⟨0, 0, 0, 0⟩))).drop 0) (pss_one (ps_if (pt_cmpR op_eq (pe_ix ix_tup (pv 6) pe_int (fun _ _ => rfl)) pe_str (nomark _))
      (pss_one (ps_expr (pe_bm PySem.F.plainAttrs_list PySem.F.slot_list_append PySem.F.type_list_append mt_append (pv 4) (pa_cons (pe_ix ix_tup (pv 6) pe_int (fun _ _ => rfl)) pa_nil))))
      pss_nil)) (fun u5_2e0 h5_2e0 e5_2e0 => ?_)
  refine hideI ((sBody ((defBody s_done).getD 5 (.Pass ⟨0, 0, 0, 0⟩))).drop 2) (pss_one (ps_if (pt_cmpR op_eq (pe_ix ix_tup (pv 6) pe_int (fun _ _ => rfl)) pe_str (nomark _))
      (pss_one (ps_expr (pe_bm PySem.F.plainAttrs_list PySem.F.slot_list_extend PySem.F.type_list_extend mt_extend (pv 4) (pa_cons (pe_has g_words_of hr rfl (pa_cons (pe_tup (pa_cons (pe_ix ix_tup (pv 6) pe_int (fun _ _ => rfl)) pa_nil)) pa_nil)) pa_nil))))
      h5_2e0)) (fun u5_2 h5_2 e5_2 => ?_)
  refine hideI ((sBody ((defBody s_done).getD 5 (.Pass ⟨0, 0, 0, 0⟩))).drop 1) (pss_cons (ps_set (i := 5) sc_done.nd rfl (Or.inl rfl) (pe_has g_behind_change hr rfl (pa_cons (pv 3) (pa_cons (pv 6) pa_nil)))) h5_2) (fun u5_1 h5_1 e5_1 => ?_)
  refine hideI ((sBody ((defBody s_done).getD 5 (.Pass ⟨0, 0, 0, 0⟩))).drop 0) (pss_cons (ps_expr (pe_bm PySem.F.plainAttrs_list PySem.F.slot_list_extend PySem.F.type_list_extend mt_extend (pv 4) (pa_cons (pe_slice sl_list (pv 2) (po_some (pv 5)) (po_some (pe_ix ix_tup (pv 6) pe_int (fun _ _ => rfl)))) pa_nil))) h5_1) (fun u5_0 h5_0 e5_0 => ?_)
  refine hideI ((defBody s_done).drop 5) (pss_cons (ps_for PassesOwn.leaving rfl (pi_list (pv 1)) (pg_name (i := 6) sc_done.nd rfl (Or.inl rfl))
      h5_0) h6) (fun u5 h5 e5 => ?_)
  refine hideI ((defBody s_done).drop 4) (pss_cons (ps_set (i := 5) sc_done.nd rfl (Or.inl rfl) pe_int) h5) (fun u4 h4 e4 => ?_)
  refine hideI ((defBody s_done).drop 3) (pss_cons (ps_set (i := 4) sc_done.nd rfl (Or.inl rfl) (pe_lst pa_nil)) h4) (fun u3 h3 e3 => ?_)
  refine hideI ((defBody s_done).drop 2) (pss_cons (ps_expr (pe_hasX g_refuse_bad_changes takes_def hr rfl (pa_cons (pv 2) (pa_cons (pv 1) pa_nil)))) h3) (fun u2 h2 e2 => ?_)
  refine hideI ((defBody s_done).drop 1) (pss_cons (ps_set (i := 3) sc_done.nd rfl (Or.inl rfl) (pe_has g_closings hr rfl (pa_cons (pv 2) pa_nil))) h2) (fun u1 h1 e1 => ?_)
  refine hideI ((defBody s_done).drop 0) (pss_cons (ps_set (i := 2) sc_done.nd rfl (Or.inl rfl) (pe_has g_words_of hr rfl (pa_cons (pv 0) pa_nil))) h1) (fun u0 h0 e0 => ?_)
  refine ⟨u0, h0, ?_⟩
  refine by_eq e0 ?_
  refine ⟨_, rfl, a, xs, G, rfl, SqT.of ha, hG, by (first | lia | omega), fun W H1 s1 _ hW => ?_⟩
  refine by_eq e1 ?_
  refine ⟨_, rfl, W, _, rfl, SqL.of hW, can_all hc, by (first | lia | omega), fun d H2 s2 _ hd => ?_⟩
  rw [cst_all hc] at hd
  have s12 := s1.trans s2
  refine by_eq e2 ?_
  refine ⟨_, rfl, _, rfl, W, b, G, vs', rs, rfl, s2 _ _ hW, hc, hz, s12 _ _ hb, hrs.mono s12.tk, hok, fun ch H3 s3 => ?_, fun nch H3 s3 => q2 nch _ (s12.trans s3)⟩
  have q := q ch
  obtain ⟨cs, hcs, good, hcv, hadd⟩ := ch.get hrs hok
  have hvl0 : vs'.length = rs.length := Paired.length hrs
  have hcl0 : vs'.length = cs.length := Paired.length hcs
  have r2 : (runC (words SL G) ([], 0) cs).1 ++ (words SL G).drop (runC (words SL G) ([], 0) cs).2 = tl (words SL G) 0 cs := runC_tl (ws := words SL G) (cs := cs) (s := ([], 0))
  have fcan := tl_can hc (cs := cs) (k := 0) (n := 0) good (can_all hc)
  have flet := tl_let hlw good
  have flen := tl_len hwl good hadd
  have flen2 : (tl (words SL G) 0 cs).length ≤ 1000 := by (first | lia | omega)
  have s13 := s12.trans s3
  have hW3 := s3 _ _ (s2 _ _ hW)
  have hd3 := s3 _ _ hd
  have hb3 := s13 _ _ hb
  have hcs3 := repCs_mono s13.tk hcs
  refine by_eq e3 ?_
  refine ⟨by decide, fun M hM => ?_⟩
  refine by_eq e4 ?_
  refine by_eq e5 ?_
  have k0 : Same H3 (upd H3 M (.lst [])) := Same.new hM
  refine ⟨_, rfl, b, rfl, ⟨_, SqL.of (k0 _ _ hb3)⟩, for_list (K := K) (a := b) (xs := vs') (fun i σ H4 => ∃ (v6 : Option V), σ = [some (.ref a), some (.ref b), some (.ref W), some (.ref d), some (.ref M), some (.int ((runC (words SL G) ([], 0) (cs.take i)).2 : Int)), v6] ∧ Same H3 H4 ∧ H4 M = some (.lst ((runC (words SL G) ([], 0) (cs.take i)).1.map V.str))) ⟨none, rfl, k0, upd_same⟩ ?_ ?_ ?_⟩
  · rintro i σ H4 _ ⟨v6, _, k, _⟩
    exact SqL.of (k _ _ hb3)
  · rintro i x σ H4 hx ⟨v6, rfl, k, hM4⟩
    obtain ⟨c, hci, hrc⟩ := paired_at hcs3 i x hx
    have rep := hrc.mono k.tk
    obtain ⟨g1, g2, g3⟩ := goodC_at (ws := words SL G) (s := ([], 0)) good hci
    have hrun := runC_succ (ws := words SL G) (s := ([], 0)) hci
    have hle := runC_len (ws := words SL G) (cs := cs.drop (i + 1)) (s := runC (words SL G) ([], 0) (cs.take (i + 1)))
    rw [← runC_split (ws := words SL G) (s := ([], 0)) (cs := cs) (i + 1)] at hle
    have htot := congrArg List.length r2
    rw [List.length_append] at htot
    generalize runC (words SL G) ([], 0) (cs.take i) = st at hM4 g1 hrun ⊢
    generalize runC (words SL G) ([], 0) (cs.take (i + 1)) = st' at hrun hle ⊢
    obtain ⟨mk, at'⟩ := st
    subst hrun
    have e1 : (stp (words SL G) (mk, at') c).1 = mk ++ ((words SL G).drop at').take (c.pl - at') ++ c.adds := rfl
    have hml : mk.length + (((words SL G).drop at').take (c.pl - at')).length + c.adds.length ≤ 2000 := by
      have := congrArg List.length e1
      rw [List.length_append, List.length_append] at this
      (first | lia | omega)
    have hc1 : cutV ((words SL G).map V.str) (some (at' : Int)) (some (c.pl : Int)) = (((words SL G).drop at').take (c.pl - at')).map V.str := by
      rw [cut_mid _ _ _ g1 (by rw [List.length_map]; (first | lia | omega)), List.map_take, List.map_drop]
    have hpl : ∃ (x' : Addr) (zs : List V), x = .ref x' ∧ H4 x' = some (.tup zs) ∧ atI zs 1 = some (.int (c.pl : Int)) := by
      cases c with
      | put p t w =>
        obtain ⟨x, b', q', ys, rfl, h1, _⟩ := rep
        exact ⟨x, _, rfl, h1, rfl⟩
      | cut p e =>
        obtain ⟨x, rfl, h1⟩ := rep
        exact ⟨x, _, rfl, h1, rfl⟩
      | name p t =>
        obtain ⟨x, rfl, h1⟩ := rep
        exact ⟨x, _, rfl, h1, rfl⟩
    obtain ⟨x', zs, rfl, hx4, hz1⟩ := hpl
    refine by_eq e5_0 ?_
    have hW4 := k _ _ hW3
    refine ⟨_, rfl, .inl ⟨rfl, _, SqL.of hM4⟩, _, rfl, _, rfl, _, rfl, _, rfl, x', _, 1, _, rfl, rfl, SqT.of hx4, hz1, _, rfl, W, _, rfl, SqL.of hW4, fun p hp => ?_⟩
    rw [hc1]
    have npM : M ≠ p := ne_of_none hM4 hp
    refine ⟨M, p, _, _, rfl, rfl, by rw [upd_ne npM]; exact hM4, upd_same, len1000 (by rw [List.length_map, List.length_map]; show mk.length + _ ≤ _; (first | lia | omega)), ?_⟩
    have kp : Same H4 (upd H4 p (.lst ((((words SL G).drop at').take (c.pl - at')).map V.str))) := Same.new hp
    rw [← List.map_append]
    generalize upd H4 p (.lst ((((words SL G).drop at').take (c.pl - at')).map V.str)) = H5 at kp ⊢
    have hM5 := kp _ _ hM4
    have k5 := k.trans kp
    have k6 : Same H3 (upd H5 M (.lst ((mk ++ ((words SL G).drop at').take (c.pl - at')).map V.str))) := k5.upd_new hM
    have hM6 : (upd H5 M (.lst ((mk ++ ((words SL G).drop at').take (c.pl - at')).map V.str))) M = some (.lst ((mk ++ ((words SL G).drop at').take (c.pl - at')).map V.str)) := upd_same
    have tk6 : TK H4 (upd H5 M (.lst ((mk ++ ((words SL G).drop at').take (c.pl - at')).map V.str))) := (kp.tk).trans (TK.lst hM5)
    generalize upd H5 M (.lst ((mk ++ ((words SL G).drop at').take (c.pl - at')).map V.str)) = H6 at k6 hM6 tk6 ⊢
    have rep6 := rep.mono tk6
    show u5_1 _ _ _
    refine by_eq e5_1 ?_
    refine ⟨_, rfl, _, rfl, d, _, G, c, rfl, k6 _ _ hd3, hn, rep6, g3, ?_⟩
    show u5_2 _ _ _
    refine by_eq e5_2 ?_
    have hfl : flu (words SL G) (mk, at') c.pl = mk ++ ((words SL G).drop at').take (c.pl - at') := rfl
    cases c with
    | put p t w =>
      obtain ⟨x, b', q', ys, ex, h1, h2, h3, h4⟩ := rep6
      injection ex with ex
      subst ex
      refine ⟨_, rfl, x', _, 0, _, rfl, rfl, SqT.of h1, rfl, rfl, _, rfl, iteT ?_⟩
      have g3 : gsz w ≤ 300 := g3.1
      refine ⟨_, rfl, .inl ⟨rfl, _, SqL.of hM6⟩, _, rfl, x', _, 2, _, rfl, rfl, SqT.of h1, rfl, (by show 1 ≤ sizeLine; decide), fun p1 hp1 => ?_⟩
      have k7 := Same.new (o := .tup [.ref b']) hp1
      refine ⟨p1, _, .cons t w .nil, rfl, SqT.of upd_same, .cons (k7 _ _ h2) (k7 _ _ h3) (h4.mono k7.tk) .nil, by rw [gsz_words]; simp only [gsz]; (first | lia | omega), fun r H8 s8 hr0 hr8 => ?_⟩
      have hM8 := s8 _ _ (k7 _ _ hM6)
      have hal : (Ch.put p t w).adds = words SL (.cons t w .nil) := rfl
      rw [hal] at hml
      refine ⟨M, r, _, _, rfl, rfl, hM8, hr8, len1000 (by rw [List.length_map, List.length_map, List.length_append]; (first | lia | omega)), ?_⟩
      refine ⟨_, rfl, ((k6.trans k7).trans s8).upd_new hM, ?_⟩
      rw [upd_same, ← List.map_append]
      rfl
    | cut p e =>
      obtain ⟨x, ex, h1⟩ := rep6
      injection ex with ex
      subst ex
      refine ⟨_, rfl, x', _, 0, _, rfl, rfl, SqT.of h1, rfl, rfl, _, rfl, iteF ?_⟩
      refine by_eq e5_2e0 ?_
      refine ⟨_, rfl, x', _, 0, _, rfl, rfl, SqT.of h1, rfl, rfl, _, rfl, iteF ?_⟩
      refine ⟨_, rfl, k6, ?_⟩
      rw [hM6]
      show _ = some (HO.lst ((_ ++ []).map V.str))
      rw [List.append_nil]
      rfl
    | name p t =>
      obtain ⟨x, ex, h1⟩ := rep6
      injection ex with ex
      subst ex
      refine ⟨_, rfl, x', _, 0, _, rfl, rfl, SqT.of h1, rfl, rfl, _, rfl, iteF ?_⟩
      refine by_eq e5_2e0 ?_
      refine ⟨_, rfl, x', _, 0, _, rfl, rfl, SqT.of h1, rfl, rfl, _, rfl, iteT ?_⟩
      refine ⟨_, rfl, .inl ⟨rfl, _, SqL.of hM6⟩, _, rfl, x', _, 2, _, rfl, rfl, SqT.of h1, rfl, M, _, _, rfl, rfl, hM6, len1000' (by rw [List.length_map, List.length_append]; (first | lia | omega)), ?_⟩
      refine ⟨_, rfl, k6.upd_new hM, ?_⟩
      rw [upd_same, show ∀ l : List Str, l.map V.str ++ [V.str t] = (l ++ [t]).map V.str from fun l => by rw [List.map_append]; rfl]
      rfl
  · rintro σ H4 ⟨v6, rfl, k, hM4⟩
    have hvl : vs'.length = cs.length := Paired.length hcs
    rw [hvl, List.take_length] at hM4
    rw [hvl, List.take_length]
    show u6 _ _ _
    refine by_eq e6 ?_
    have hW4 := k _ _ hW3
    refine ⟨_, rfl, _, rfl, _, rfl, _, rfl, W, _, rfl, SqL.of hW4, fun p hp => ?_⟩
    rw [cut_from, ← List.map_drop]
    have npM : M ≠ p := ne_of_none hM4 hp
    have htot := congrArg List.length r2
    rw [List.length_append] at htot
    refine ⟨M, p, _, _, rfl, rfl, by rw [upd_ne npM]; exact hM4, upd_same, len1000 (by rw [List.length_map, List.length_map]; (first | lia | omega)), fun p2 hp2 => ?_⟩
    rw [← List.map_append, r2]
    have k5 := (k.upd_new (o := .lst (((words SL G).drop (runC (words SL G) ([], 0) cs).2).map V.str)) (k.free hp))
    have k6 := k5.upd_new (o := .lst ((tl (words SL G) 0 cs).map V.str)) (k5.free hp2)
    refine ⟨p2, tl (words SL G) 0 cs, rfl, SqL.of upd_same, by (first | lia | omega), fcan, flet, fun r zs g2 H7 s7 hr0 hr7 rp7 ew cl7 => ?_⟩
    exact q r zs H7 ((s13.trans k6).trans s7) hr7
set_option maxHeartbeats 1000000 in
theorem ok_price (B : ∀ x ∈ blts, mg x = none) (g_words_of : Has P w K mg base "words_of" ["grove"] 1 (spWords K)) (g_closings : Has P w K mg base "closings" ["words"] 1 (spClosK K)) (g_refuse_bad_changes : HasX P w K mg base "refuse_bad_changes" ["words", "changes"] 2 (spRefX K X_NoChange)) (g_price_of : Has P w K mg base "price_of" ["ended_at", "change"] 3 spPriOf)
    (F : Fun K "price" "price" s_price f fd) : FnOk P w K mg base (CXE P w) 4 f fd ["grove", "changes"] (spPriX X_NoChange) := by
  refine F.okX sc_price (fun vs H Q E h => ?_) (fun cdv A outer s H vs Q E hr h => ?_)
  · obtain ⟨a, b, xs, vs', G, rs, rfl, _⟩ := h
    rfl
  obtain ⟨a, b, xs, vs', G, rs, rfl, ha, hG, hc, hz, hb, hrs, hok, hrl, q, q2⟩ := h
  have hn := prs_nd hc
  have hwl := gsz_words G
  have hvl0 : vs'.length = rs.length := Paired.length hrs
  refine ⟨_, (pss_cons (ps_set (i := 2) sc_price.nd rfl (Or.inl rfl) (pe_has g_words_of hr rfl (pa_cons (pv 0) pa_nil)))
    (pss_cons (ps_set (i := 3) sc_price.nd rfl (Or.inr rfl) (pe_has g_closings hr rfl (pa_cons (pv 2) pa_nil)))
    (pss_cons (ps_expr (pe_hasX g_refuse_bad_changes takes_def hr rfl (pa_cons (pv 2) (pa_cons (pv 1) pa_nil))))
    (pss_one (ps_ret (pe_callB (call_sumL rfl) rfl (B "sum" (by decide)) PyProof.Rows.boot_sum (pa_cons (pe_comp (cl := _) ["change"] [("ended_at", 3)] (pi_list (pv 1)) (fun _ _ _ _ => (pg_name (i := 0) (show List.Nodup (["change", "ended_at"] : List Str) by decide) rfl (Or.inl rfl))) (fun _ _ _ _ => (pe_has g_price_of hr rfl (pa_cons (pv 1) (pa_cons (pv 0) pa_nil)))) rfl rfl (by decide) rfl (by decide) (cap_cl (by (repeat' first | exact List.forall_mem_nil _ | refine List.forall_mem_cons.mpr ⟨?_, ?_⟩) <;> rfl)) (cap_has (by (repeat' first | exact List.forall_mem_nil _ | refine List.forall_mem_cons.mpr ⟨?_, ?_⟩) <;> first | (intro h; exact ⟨_, rfl⟩) | (intro h; exact absurd h (by decide)))) (fun _ => by (repeat' first | exact List.forall_mem_nil _ | refine List.forall_mem_cons.mpr ⟨?_, ?_⟩) <;> exact ⟨rfl, rfl, Or.inl rfl⟩) (fun _ => rfl)) pa_nil))))))), ?_⟩
  refine ⟨_, rfl, a, xs, G, rfl, SqT.of ha, hG, by (first | lia | omega), fun W H1 s1 _ hW => ?_⟩
  refine ⟨_, rfl, W, _, rfl, SqL.of hW, can_all hc, by (first | lia | omega), fun d H2 s2 _ hd => ?_⟩
  rw [cst_all hc] at hd
  have s12 := s1.trans s2
  refine ⟨_, rfl, _, rfl, W, b, G, vs', rs, rfl, s2 _ _ hW, hc, hz, s12 _ _ hb, hrs.mono s12.tk, hok, fun ch H3 s3 => ?_, fun nch H3 s3 => q2 nch _ (s12.trans s3)⟩
  obtain ⟨cs, hcs, good, hcv, hadd⟩ := ch.get hrs hok
  have q := q ch cs hcv
  have hvl : vs'.length = cs.length := Paired.length hcs
  have s13 := s12.trans s3
  have hd3 := s3 _ _ hd
  have hb3 := s13 _ _ hb
  have hcs3 := repCs_mono s13.tk hcs
  refine ⟨_, rfl, b, rfl, ⟨_, SqL.of hb3⟩, fun pc hpc => comp_list (K := K) (a := b) (p := pc) (xs := vs') (fun i ys σ H4 => ∃ (v0 : Option V), σ = [v0, some (.ref d)] ∧ Same H3 H4 ∧ H4 pc = some (.lst ys) ∧ ys = ((cs.take i).map fun c => (c.cost : Int)).map V.int)
    ⟨none, rfl, Same.new hpc, upd_same, rfl⟩ ?_ ?_ ?_⟩
  · rintro i ys σ H4 _ ⟨v0, _, k, h, _⟩
    exact ⟨SqL.of (k _ _ hb3), h⟩
  · rintro i ys x σ H4 hi hx ⟨v0, rfl, k, hp4, rfl⟩
    obtain ⟨c, hci, hrc⟩ := paired_at hcs3 i x hx
    refine ⟨_, rfl, _, rfl, d, _, G, c, rfl, k _ _ hd3, hn, hrc.mono k.tk, goodC_ok good c (List.mem_of_getElem? hci), fun H5 s5 => ?_⟩
    refine ⟨s5 _ _ hp4, len1000' (by rw [List.length_map, List.length_map, List.length_take]; (first | lia | omega)), CW.next hi ⟨_, rfl, (k.trans s5).upd_new hpc, upd_same, ?_⟩⟩
    rw [take_succ' hci, List.map_append, List.map_append]
    rfl
  rintro ys σ H4 ⟨v0, rfl, k, hp4, rfl⟩
  rw [hvl, List.take_length] at hp4
  refine ⟨pc, _, rfl, SqL.of hp4, ?_⟩
  rw [sum_costs]
  exact q H4 (s13.trans k)
theorem takeG_le : ∀ (i : Nat) (g : Gr Str), gsz (takeG i g) ≤ gsz g
  | 0, _ => Nat.zero_le _
  | _ + 1, .nil => Nat.le_refl _
  | i + 1, .cons t w o => by
    have := takeG_le i o
    simp only [takeG, gsz]
    (first | lia | omega)
def spLWords (d : Nat) : Sp := fun vs H Q _ => ∃ (p : Addr) (xs : List V) (g : Gr Str), vs = [.ref p] ∧ H p = some (.tup xs) ∧ RepG H xs g ∧ gdep g < d ∧ gsz g ≤ 100 ∧ ∀ (r : Addr) (H' : Hp), Same H H' → H r = none → H' r = some (.lst ((words SL g).map V.str)) → Q (.ref r) H'
set_option maxHeartbeats 1000000 in
theorem ok_l_words (d : Nat) (B : ∀ x ∈ blts, mg x = none) (g_l_words : Has P w K mg base "_law_words" ["_law_row"] d (spLWords d)) (F : Fun K "_law_words" "_law_words" s_l_words f fd) : FnOk P w K mg base CX0 (d + 1) f fd ["_law_row"] (spLWords (d + 1)) := by
  refine F.ok sc_l_words (fun vs H Q E h => ?_) (fun cdv A outer s H vs Q E hr h => ?_)
  · obtain ⟨p, xs, g, rfl, _⟩ := h
    rfl
  obtain ⟨p, xs, g, rfl, hp, hG, hd, hz, q⟩ := h
  refine ⟨_, (pss_cons (ps_set (i := 1) sc_l_words.nd rfl (Or.inl rfl) (pe_lst pa_nil))
    (pss_cons (ps_for PassesOwn.never rfl (pi_tup (pv 0)) (pg_tup rfl (pgs_cons (pg_name (i := 2) sc_l_words.nd rfl (Or.inl rfl)) (pgs_cons (pg_name (i := 3) sc_l_words.nd rfl (Or.inl rfl)) pgs_nil)))
      (pss_one (ps_set (i := 1) sc_l_words.nd rfl (Or.inl rfl) (pe_op op_cat (pe_op op_cat (pe_op op_cat (pv 1) (pe_lst (pa_cons (pv 2) pa_nil))) (pe_has g_l_words hr rfl (pa_cons (pv 3) pa_nil) (by (first | lia | omega)))) (pe_lst (pa_cons pe_str pa_nil))))))
    (pss_one (ps_ret (pv 1))))), ?_⟩
  refine ⟨by decide, fun L0 hL0 => ?_⟩
  have s0 := Same.new (o := .lst []) hL0
  refine ⟨_, rfl, p, rfl, ⟨_, SqT.of (s0 _ _ hp)⟩, for_tup (K := K) (a := p) (xs := xs) (fun i σ H1 => ∃ (v2 v3 : Option V) (L : Addr), σ = [some (.ref p), some (.ref L), v2, v3] ∧ Same H H1 ∧ H L = none ∧ H1 L = some (.lst ((words SL (takeG i g)).map V.str)))
    ⟨none, none, L0, rfl, s0, hL0, upd_same⟩ ?_ ?_ ?_⟩
  · rintro i σ H1 _ ⟨_, _, _, _, s1, _⟩
    exact SqT.of (s1 _ _ hp)
  · rintro i x σ H1 hx ⟨v2, v3, L, rfl, s1, hL0, hL⟩
    obtain ⟨pt, q', t, ys, w', rfl, e1, e2, e3, e4, e5⟩ := hG.tree i x hx
    have h1 := kid_dep e5
    have h2 := kid_sz e5
    have h3 := takeG_le (i + 1) g
    have h4 : (words SL (takeG (i + 1) g)).length = 2 * gsz (takeG (i + 1) g) := gsz_words _
    have hw : words SL (takeG (i + 1) g) = words SL (takeG i g) ++ (t :: (words SL w' ++ [SL])) := by
      rw [e4, words_gapp]
      simp [words]
    have hl := congrArg List.length hw
    rw [List.length_append, List.length_cons, List.length_append, List.length_singleton] at hl
    refine ⟨pt, _, rfl, SqT.of (s1 _ _ e1), rfl, _, _, rfl, _, _, rfl, rfl, ?_⟩
    refine ⟨_, rfl, _, rfl, (by show 1 ≤ sizeLine; decide), fun c1 hc1 => ?_⟩
    have z1 := Same.new (o := .lst [.str t]) hc1
    refine ⟨L, c1, _, _, rfl, rfl, z1 _ _ hL, upd_same, len1000 (by rw [List.length_map]; show _ + 1 ≤ _; (first | lia | omega)), fun c2 hc2 => ?_⟩
    have z2 := Same.new (o := .lst ((words SL (takeG i g)).map V.str ++ [.str t])) hc2
    have s2 := s1.trans (z1.trans z2)
    refine ⟨_, rfl, q', ys, w', rfl, s2 _ _ e2, e3.mono s2.tk, by (first | lia | omega), by (first | lia | omega), fun r H3 s3 _ hr3 => ?_⟩
    have hc23 := s3 _ _ (show (upd _ c2 _ : Hp) c2 = some (.lst ((words SL (takeG i g)).map V.str ++ [.str t])) from upd_same)
    refine ⟨c2, r, _, _, rfl, rfl, hc23, hr3, len1000 (by rw [List.length_append, List.length_map, List.length_map]; show _ + 1 + _ ≤ _; (first | lia | omega)), fun c3 hc3 => ?_⟩
    have z3 := Same.new (o := .lst ((words SL (takeG i g)).map V.str ++ [.str t] ++ (words SL w').map V.str)) hc3
    refine ⟨(by show 1 ≤ sizeLine; decide), fun c4 hc4 => ?_⟩
    have z4 := Same.new (o := .lst [.str "/"]) hc4
    refine ⟨c3, c4, _, _, rfl, rfl, z4 _ _ upd_same, upd_same, len1000 (by rw [List.length_append, List.length_append, List.length_map, List.length_map]; show _ + 1 + _ + 1 ≤ _; (first | lia | omega)), fun c5 hc5 => ?_⟩
    have z5 := Same.new (o := .lst ((words SL (takeG i g)).map V.str ++ [.str t] ++ (words SL w').map V.str ++ [.str "/"])) hc5
    have s5 := s2.trans (s3.trans (z3.trans z4))
    refine ⟨_, _, c5, rfl, s5.trans z5, s5.free hc5, ?_⟩
    rw [hw, upd_same]
    simp [SL]
  · rintro σ H1 ⟨v2, v3, L, rfl, s1, hL0, hL⟩
    rw [hG.take_all] at hL
    exact ⟨_, rfl, q L H1 s1 hL0 hL⟩
def spClose82 : Sp := fun vs H Q _ => ∃ (a : Addr) (G : Gr Str) (p e : Nat), vs = [.ref a, .int (p : Int)] ∧ H a = some (.lst ((words SL G).map V.str)) ∧ Clean SL G ∧ (p, e) ∈ prs 0 G ∧ Q (.int (e : Int)) H
set_option maxHeartbeats 1000000 in
theorem ok_l_close (B : ∀ x ∈ blts, mg x = none) (F : Fun K "_law_close" "_law_close" s_l_close f fd) : FnOk P w K mg base CX0 1 f fd ["_law_words_here", "_law_place"] spClose82 := by
  refine F.ok sc_l_close (fun vs H Q E h => ?_) (fun cdv A outer s H vs Q E hr h => ?_)
  · obtain ⟨a, G, p, e, rfl, _⟩ := h
    rfl
  obtain ⟨a, G, p, e, rfl, ha, hc, hpe, q⟩ := h
  obtain ⟨i, t, w', e1, e2, e3, e4⟩ := prs_words G 0 p e hpe hc
  rw [Nat.zero_add] at e1
  subst e1
  have lw : (words SL w').length = 2 * gsz w' := gsz_words w'
  have hat : ∀ j, j ≤ 2 * gsz w' → (words SL G)[p + 1 + j]? = (words SL w' ++ [SL])[j]? := fun j hj => by
    have := congrArg (fun l => l[1 + j]?) e4
    simp only [List.getElem?_drop] at this
    rw [show p + 1 + j = p + (1 + j) by (first | lia | omega), this, show words SL (.cons t w' .nil) = t :: (words SL w' ++ [SL]) by simp [words], List.cons_append, show 1 + j = j + 1 by (first | lia | omega), List.getElem?_cons_succ, List.getElem?_append_left (by rw [List.length_append, List.length_singleton]; (first | lia | omega))]
  have cw : Can SL 0 (words SL w') := can_all e3.2.1
  refine ⟨_, (pss_cons (ps_set (i := 2) sc_l_close.nd rfl (Or.inl rfl) pe_int)
    (pss_cons (ps_while PassesOwn.never (pt_cmpR op_gt (pv 2) pe_int (nomark _))
      (pss_cons (ps_set (i := 1) sc_l_close.nd rfl (Or.inl rfl) (pe_op op_add (pv 1) pe_int))
        (pss_one (ps_set (i := 2) sc_l_close.nd rfl (Or.inl rfl) (pe_op op_sub (pe_op op_add (pv 2) pe_int) (pe_op op_mul pe_int (pe_callTy call_intB rfl (B "int" (by decide)) bt_int (pa_cons (pe_cmpR op_eq (pe_ix ix_list (pv 0) (pv 1) (fun _ _ => rfl)) pe_str (nomark _)) pa_nil))))))))
    (pss_one (ps_ret (pv 1))))), ?_⟩
  let W : Nat → St → Hp → Prop := fun n σ H3 => ∃ (j o : Nat), σ = [some (.ref a), some (.int ((p + j : Nat) : Int)), some (.int (o : Int))] ∧ H3 = H ∧ n = 2 * gsz w' + 1 - j ∧ ((j ≤ 2 * gsz w' ∧ ∃ d, o = d + 1 ∧ Can SL d ((words SL w').drop j)) ∨ (j = 2 * gsz w' + 1 ∧ o = 0))
  refine ⟨W, ⟨_, 0, 1, rfl, rfl, rfl, .inl ⟨Nat.zero_le _, 0, rfl, cw⟩⟩, ?_⟩
  rintro n σ H3 ⟨j, o, rfl, rfl, rfl, hjo⟩
  refine ⟨_, rfl, _, _, rfl, rfl, _, rfl, ite2 (fun cc => ?_) (fun cc => ?_)⟩
  · rcases hjo with ⟨hj, d, rfl, hcan⟩ | ⟨_, rfl⟩
    rotate_left
    · exact absurd (of_decide_eq_true cc) (by decide)
    refine ⟨fun σ' H' => ∃ m', m' < 2 * gsz w' + 1 - j ∧ W m' σ' H', fun _ _ h => h, ?_⟩
    refine ⟨_, rfl, _, _, rfl, rfl, ?_⟩
    obtain ⟨x, hx⟩ : ∃ x, (words SL w' ++ [SL])[j]? = some x := ⟨_, List.getElem?_eq_getElem (by rw [List.length_append, List.length_singleton]; (first | lia | omega))⟩
    have hx2 : atI ((words SL G).map V.str) (((p + j : Nat) : Int) + 1) = some (.str x) := by
      rw [show ((p + j : Nat) : Int) + 1 = ((p + 1 + j : Nat) : Int) by (first | lia | omega)]
      exact atI_nat (by rw [List.getElem?_map, hat j hj, hx]; rfl)
    refine ⟨_, rfl, _, _, rfl, rfl, _, rfl, _, rfl, a, _, _, _, rfl, rfl, SqL.of ha, hx2, rfl, _, rfl, _, _, rfl, rfl, .inl ⟨by decide, ?_⟩, _, _, rfl, rfl, ?_⟩
    · decide
    by_cases hlt : j < 2 * gsz w'
    · rw [List.getElem?_append_left (by (first | lia | omega))] at hx
      have hdr : (words SL w').drop j = x :: (words SL w').drop (j + 1) := by
        obtain ⟨h1, h2⟩ := List.getElem?_eq_some_iff.mp hx
        rw [List.drop_eq_getElem_cons h1, h2]
      rw [hdr] at hcan
      by_cases hxs : x = SL
      · subst hxs
        rw [can_end] at hcan
        refine ⟨2 * gsz w' + 1 - (j + 1), by (first | lia | omega), j + 1, d, ?_, rfl, rfl, .inl ⟨by (first | lia | omega), d - 1, by (first | lia | omega), hcan.2⟩⟩
        rw [show decide (V.str SL = V.str "/") = true from decide_eq_true rfl]
        show [_, some (V.int (((p + j : Nat) : Int) + 1)), some (V.int (((d + 1 : Nat) : Int) + 1 - 2 * 1))] = _
        rw [show ((p + j : Nat) : Int) + 1 = ((p + (j + 1) : Nat) : Int) by (first | lia | omega), show ((d + 1 : Nat) : Int) + 1 - 2 * 1 = (d : Int) by (first | lia | omega)]
      · rw [can_tag hxs] at hcan
        refine ⟨2 * gsz w' + 1 - (j + 1), by (first | lia | omega), j + 1, d + 2, ?_, rfl, rfl, .inl ⟨by (first | lia | omega), d + 1, by (first | lia | omega), hcan⟩⟩
        rw [show decide (V.str x = V.str "/") = false from decide_eq_false (fun z => hxs (by injection z))]
        show [_, some (V.int (((p + j : Nat) : Int) + 1)), some (V.int (((d + 1 : Nat) : Int) + 1 - 2 * 0))] = _
        rw [show ((p + j : Nat) : Int) + 1 = ((p + (j + 1) : Nat) : Int) by (first | lia | omega), show ((d + 1 : Nat) : Int) + 1 - 2 * 0 = ((d + 2 : Nat) : Int) by (first | lia | omega)]
    · obtain rfl : j = 2 * gsz w' := by (first | lia | omega)
      rw [List.drop_of_length_le (by (first | lia | omega))] at hcan
      have hd0 : d = 0 := hcan
      subst hd0
      rw [List.getElem?_append_right (by (first | lia | omega)), lw, Nat.sub_self] at hx
      injection hx with hx
      subst hx
      refine ⟨0, by (first | lia | omega), 2 * gsz w' + 1, 0, ?_, rfl, by (first | lia | omega), .inr ⟨rfl, rfl⟩⟩
      rw [show decide (V.str SL = V.str "/") = true from decide_eq_true rfl]
      show [_, some (V.int (((p + 2 * gsz w' : Nat) : Int) + 1)), some (V.int (((0 + 1 : Nat) : Int) + 1 - 2 * 1))] = _
      rw [show ((p + 2 * gsz w' : Nat) : Int) + 1 = ((p + (2 * gsz w' + 1) : Nat) : Int) by (first | lia | omega)]
      rfl
  · rcases hjo with ⟨hj, d, rfl, hcan⟩ | ⟨rfl, rfl⟩
    · exact absurd (decide_eq_true (by show (0 : Int) < ((d + 1 : Nat) : Int); (first | lia | omega))) cc
    · refine ⟨_, rfl, ?_⟩
      rw [show ((p + (2 * gsz w' + 1) : Nat) : Int) = (e : Int) by (first | lia | omega)]
      exact q
theorem strs_mod {ts : List Str} (h : 0 < ts.length) (x : Int) : ∃ t ∈ ts, atI (ts.map V.str) (x % (ts.length : Int)) = some (.str t) := by
  obtain ⟨k, hk, hkl⟩ := modN x h
  refine ⟨ts[k], List.getElem_mem hkl, ?_⟩
  have := strs_at (ws := ts) (n := k) hkl
  rw [← hk] at this
  exact this
theorem letw_many {t : Str} (ht : Lets t ∧ t.length ≤ 8) : ∀ k, LetW (words SL (manyT t k)) ∧ Clean SL (manyT t k)
  | 0 => ⟨fun _ h => (nomatch h), trivial⟩
  | k + 1 => by
    obtain ⟨h1, h2⟩ := letw_many ht k
    have nt : t ≠ SL := fun z => by
      have := tagB_lets ht.1 ht.2
      rw [z, tagB_SL] at this
      cases this
    refine ⟨?_, nt, trivial, h2⟩
    show LetW (words SL (.cons t .nil (manyT t k)))
    have : words SL (.cons t .nil (manyT t k)) = t :: SL :: words SL (manyT t k) := by simp [words]
    rw [this]
    exact LetW.cons (.inr ht) (LetW.cons (.inl rfl) h1)
theorem put_ok {t : Str} {w : Gr Str} (ht : Lets t ∧ t.length ≤ 8) (hw : LetW (words SL w) ∧ Clean SL w) (hz : gsz w ≤ 10) (p : Int) : (Rc.put p t w).Ok := by
  have nt : t ≠ SL := fun z => by
    have := tagB_lets ht.1 ht.2
    rw [z, tagB_SL] at this
    cases this
  refine ⟨hz, ⟨nt, hw.2, trivial⟩, ?_⟩
  have : words SL (.cons t w .nil) = t :: (words SL w ++ [SL]) := by simp [words]
  rw [this]
  exact LetW.cons (.inr ht) (LetW.app hw.1 (LetW.cons (.inl rfl) fun _ h => nomatch h))
theorem name_ok {t : Str} (ht : Lets t ∧ t.length ≤ 8) (p : Int) : (Rc.name p t).Ok := ⟨by (first | lia | omega), fun c hc => by have := ht.1.2 c hc; (first | lia | omega), ht.1.let0.ok⟩
def spChange82 : Sp := fun vs H Q _ => ∃ (wa ta : Addr) (G : Gr Str) (p c : Int) (ts : List Str), vs = [.ref wa, .int p, .int c, .ref ta] ∧ H wa = some (.lst ((words SL G).map V.str)) ∧ H ta = some (.lst (ts.map V.str)) ∧ ts.length = 3 ∧ (∀ t ∈ ts, Lets t ∧ t.length ≤ 8) ∧ 0 ≤ p ∧ p ≤ ((2 * gsz G : Nat) : Int) ∧
  ∀ (a : Addr) (r : Rc) (H' : Hp), Same H H' → RepR H' (.ref a) r → r.Ok → r.pl = p → Q (.ref a) H'
set_option maxHeartbeats 2000000 in
theorem ok_l_change (B : ∀ x ∈ blts, mg x = none) (F : Fun K "_law_change" "_law_change" s_l_change f fd) : FnOk P w K mg base CX0 1 f fd ["_law_words_here", "_law_place", "_law_cell", "_law_tags"] spChange82 := by
  refine F.ok sc_l_change (fun vs H Q E h => ?_) (fun cdv A outer s H vs Q E hr h => ?_)
  · obtain ⟨wa, ta, G, p, c, ts, rfl, _⟩ := h
    rfl
  obtain ⟨wa, ta, G, p, c, ts, rfl, hwa, hta, ht3, hts, p0, p1, q⟩ := h
  have hwl := gsz_words G
  refine hideI ((defBody s_l_change).drop 4) (pss_one (ps_ret (pe_tup (pa_cons pe_str (pa_cons (pv 1) (pa_cons (pe_tup (pa_cons (pe_ix ix_list (pv 3) (pe_op op_mod (pe_op op_fdiv (pv 2) pe_int) pe_int) (fun _ _ => rfl)) (pa_cons (pe_op op_repT (pe_tup (pa_cons (pe_tup (pa_cons (pe_ix ix_list (pv 3) (pe_op op_mod (pe_op op_fdiv (pv 2) pe_int) pe_int) (fun _ _ => rfl)) (pa_cons (pe_tup pa_nil) pa_nil))) pa_nil)) (pe_op op_mod (pe_op op_fdiv (pv 2) pe_int) pe_int)) pa_nil))) pa_nil)))))) (fun u4 h4 e4 => ?_)
  refine hideI ((defBody s_l_change).drop 3) (pss_cons (ps_if (pt_cmpR op_eq (pv 4) pe_int (nomark _))
      (pss_one (ps_ret (pe_tup (pa_cons pe_str (pa_cons (pv 1) pa_nil)))))
      pss_nil) h4) (fun u3 h3 e3 => ?_)
  refine hideI ((defBody s_l_change).drop 2) (pss_cons (ps_if (pt_cmpR op_eq (pv 4) pe_int (nomark _))
      (pss_one (ps_ret (pe_tup (pa_cons pe_str (pa_cons (pv 1) (pa_cons (pe_ix ix_list (pv 3) (pe_op op_mod (pe_op op_fdiv (pv 2) pe_int) pe_int) (fun _ _ => rfl)) pa_nil))))))
      pss_nil) h3) (fun u2 h2 e2 => ?_)
  refine hideI ((defBody s_l_change).drop 1) (pss_cons (ps_if (PW.pt (pw_and (pt_cmpR op_gt (pv 4) pe_int (nomark _)) (pw_and (PW.pt (pw_or (pt_cmpR op_ge (pv 1) (pe_callB call_len_seq rfl (B "len" (by decide)) PySem.boot_len (pa_cons (pv 0) pa_nil)) (nomark _)) (pw_or1 (pt_cmpR op_eq (pe_ix ix_list (pv 0) (pv 1) (fun _ _ => rfl)) pe_str (nomark _))))) (pw_and1 (pt_cmpR op_gt (pe_op op_mod (pv 2) pe_int) pe_int (nomark _))))))
      (pss_one (ps_set (i := 4) sc_l_change.nd rfl (Or.inl rfl) pe_int))
      pss_nil) h2) (fun u1 h1 e1 => ?_)
  refine hideI ((defBody s_l_change).drop 0) (pss_cons (ps_set (i := 4) sc_l_change.nd rfl (Or.inl rfl) (pe_op op_mod (pv 2) pe_int)) h1) (fun u0 h0 e0 => ?_)
  refine ⟨u0, h0, ?_⟩
  refine by_eq e0 ?_
  refine ⟨_, rfl, _, _, rfl, rfl, (by show (0 : Int) < 4; decide), ?_⟩
  show u1 _ _ _
  obtain ⟨t1, ht1, a1⟩ := strs_mod (ts := ts) (by (first | lia | omega)) (c / 32)
  obtain ⟨t2, ht2, a2⟩ := strs_mod (ts := ts) (by (first | lia | omega)) (c / 96)
  rw [ht3] at a1 a2
  have a1 : atI (ts.map V.str) (c / 32 % 3) = some (.str t1) := a1
  have a2 : atI (ts.map V.str) (c / 96 % 3) = some (.str t2) := a2
  have tail : ∀ wy : Int, u2 { nx := fun _ H' => Q .non H', rt := Q } [some (.ref wa), some (.int p), some (.int c), some (.ref ta), some (.int wy)] H := fun wy => by
    refine by_eq e2 ?_
    refine ⟨_, rfl, rfl, _, rfl, ite2 (fun _ => ?_) (fun _ => ?_)⟩
    · refine ⟨_, rfl, _, rfl, _, rfl, _, _, rfl, rfl, ⟨by decide, by decide⟩, _, _, rfl, rfl, (by show (0 : Int) < 3; decide), ta, _, _, _, rfl, rfl, SqL.of hta, a1, (by show 3 ≤ sizeLine; decide), fun r hr => ?_⟩
      exact q r (.name p t1) _ (Same.new hr) ⟨r, rfl, upd_same⟩ (name_ok (hts t1 ht1) p) rfl
    show u3 _ _ _
    refine by_eq e3 ?_
    refine ⟨_, rfl, rfl, _, rfl, ite2 (fun _ => ?_) (fun _ => ?_)⟩
    · refine ⟨_, rfl, (by show 2 ≤ sizeLine; decide), fun r hr => ?_⟩
      exact q r (.cut p) _ (Same.new hr) ⟨r, rfl, upd_same⟩ trivial rfl
    show u4 _ _ _
    refine by_eq e4 ?_
    have k0 := Int.emod_nonneg (c / 288) (by decide : (3 : Int) ≠ 0)
    have k1 := Int.emod_lt_of_pos (c / 288) (by decide : (0 : Int) < 3)
    refine ⟨_, rfl, _, rfl, _, rfl, _, _, rfl, rfl, ⟨by decide, by decide⟩, _, _, rfl, rfl, (by show (0 : Int) < 3; decide), ta, _, _, _, rfl, rfl, SqL.of hta, a1, ?_⟩
    refine ⟨_, rfl, _, rfl, _, _, rfl, rfl, ⟨by decide, by decide⟩, _, _, rfl, rfl, (by show (0 : Int) < 3; decide), ta, _, _, _, rfl, rfl, SqL.of hta, a2, (by decide), fun n1 hn1 => ⟨(by show 2 ≤ sizeLine; decide), fun n2 hn2 => ⟨(by show 1 ≤ sizeLine; decide), fun n3 hn3 => ?_⟩⟩⟩
    have z1 := Same.new (o := .tup []) hn1
    have z2 := Same.new (o := .tup [.str t2, .ref n1]) hn2
    have z3 := Same.new (o := .tup [.ref n2]) hn3
    refine ⟨_, rfl, _, _, rfl, rfl, ⟨by decide, by decide⟩, _, _, rfl, rfl, (by show (0 : Int) < 3; decide), n3, _, _, rfl, rfl, upd_same, by simp, by (first | lia | omega), by (first | lia | omega), len1000 (by show 1 * _ ≤ _; (first | lia | omega)), fun n4 H4 z4 hn4 => ?_⟩
    refine ⟨(by show 2 ≤ sizeLine; decide), fun n5 hn5 => ⟨(by show 3 ≤ sizeLine; decide), fun n6 hn6 => ?_⟩⟩
    have z5 := Same.new (o := .tup [.str t1, .ref n4]) hn5
    have z6 := Same.new (o := .tup [.str "put", .int p, .ref n5]) hn6
    have z46 := z4.trans (z5.trans z6)
    have z36 := z3.trans z46
    have hmz := manyT_sz t2 (c / 288 % 3).toNat
    exact q n6 (.put p t1 (manyT t2 (c / 288 % 3).toNat)) _ (z1.trans (z2.trans z36)) ⟨n6, n5, n4, _, rfl, upd_same, z6 _ _ upd_same, (z5.trans z6) _ _ hn4, manyT_rep (z36 _ _ upd_same) ((z2.trans z36) _ _ upd_same) _⟩ (put_ok (hts t1 ht1) (letw_many (hts t2 ht2) _) (by (first | lia | omega)) p) rfl
  refine by_eq e1 ?_
  refine ⟨_, rfl, _, _, rfl, rfl, _, rfl, ite2 (fun c1 => ?_) (fun c1 => iteF (tail _))⟩
  refine ⟨_, rfl, _, rfl, wa, _, rfl, .inl (SqL.of hwa), _, _, rfl, rfl, _, rfl, ite2 (fun c2 => ?_) (fun c2 => ?_)⟩
  · exact iteT ⟨_, rfl, _, _, rfl, rfl, (by show (0 : Int) < 32; decide), _, _, rfl, rfl, _, rfl, ite2 (fun _ => tail _) (fun _ => tail _)⟩
  · have c2 : ¬ p ≥ (((words SL G).map V.str).length : Int) := fun z => c2 (decide_eq_true z)
    rw [List.length_map, hwl] at c2
    obtain ⟨pn, rfl⟩ : ∃ pn : Nat, p = (pn : Int) := ⟨p.toNat, by (first | lia | omega)⟩
    have hpl : pn < (words SL G).length := by (first | lia | omega)
    refine ⟨_, rfl, _, rfl, wa, _, _, _, rfl, rfl, SqL.of hwa, strs_at hpl, rfl, _, rfl, ite2 (fun _ => ?_) (fun _ => iteF (tail _))⟩
    exact ⟨_, rfl, _, _, rfl, rfl, (by show (0 : Int) < 32; decide), _, _, rfl, rfl, _, rfl, ite2 (fun _ => tail _) (fun _ => tail _)⟩
def Rc.wd : Rc → Str
  | .put _ _ _ => "put"
  | .cut _ => "cut"
  | .name _ _ => "name"
theorem RepR.at {H : Hp} {v : V} : ∀ {r : Rc}, RepR H v r → ∃ (xa : Addr) (zs : List V), v = .ref xa ∧ H xa = some (.tup zs) ∧ atI zs 0 = some (.str r.wd) ∧ atI zs 1 = some (.int r.pl)
  | .put p t w, ⟨x, b', q', ys, e, h1, _⟩ => ⟨x, _, e, h1, rfl, rfl⟩
  | .cut p, ⟨x, e, h1⟩ => ⟨x, _, e, h1, rfl, rfl⟩
  | .name p t, ⟨x, e, h1⟩ => ⟨x, _, e, h1, rfl, rfl⟩
theorem rc_last {H : Hp} {vs : List V} {rs : List Rc} (h : RcL H vs rs) (hn : vs ≠ []) : ∃ (xa : Addr) (zs : List V) (r : Rc), atI vs (-1) = some (.ref xa) ∧ H xa = some (.tup zs) ∧ atI zs 0 = some (.str r.wd) ∧ atI zs 1 = some (.int r.pl) ∧ r ∈ rs := by
  have hl : 0 < vs.length := List.length_pos_iff.mpr hn
  have e : vs = vs.dropLast ++ [vs.getLast hn] := (List.dropLast_concat_getLast hn).symm
  have hx : vs[vs.length - 1]? = some (vs.getLast hn) := by rw [List.getLast_eq_getElem]; exact List.getElem?_eq_getElem _
  obtain ⟨r, hr, hrr⟩ := paired_at h _ _ hx
  obtain ⟨xa, zs, e1, h1, h2, h3⟩ := hrr.at
  refine ⟨xa, zs, r, ?_, h1, h2, h3, List.mem_of_getElem? hr⟩
  rw [e1] at e
  rw [e]
  exact atI_last _ _
def spDrawn82 (K : PySem.W.Frag) : Sp := fun vs H Q _ => ∃ (a wa ta : Addr) (ns : List Int) (G : Gr Str) (ts : List Str), vs = [.ref a, .ref wa, .ref ta] ∧ SqL K H a (ns.map V.int) ∧ ns.length ≤ 63 ∧ H wa = some (.lst ((words SL G).map V.str)) ∧ Clean SL G ∧ gsz G ≤ 100 ∧ H ta = some (.lst (ts.map V.str)) ∧ ts.length = 3 ∧ (∀ t ∈ ts, Lets t ∧ t.length ≤ 8) ∧
  ∀ (L : Addr) (vs' : List V) (rs : List Rc) (H' : Hp), Same H H' → H L = none → H' L = some (.lst vs') → RcL H' vs' rs → (∀ r ∈ rs, r.Ok) → rs.length ≤ 9 → Q (.ref L) H'
set_option maxHeartbeats 4000000 in
theorem ok_l_drawn (B : ∀ x ∈ blts, mg x = none) (g_l_cell_at : Has P w K mg base "_law_cell_at" ["_law_script", "_law_k"] 1 (spCell K)) (g_l_close : Has P w K mg base "_law_close" ["_law_words_here", "_law_place"] 1 spClose82) (g_l_change : Has P w K mg base "_law_change" ["_law_words_here", "_law_place", "_law_cell", "_law_tags"] 1 spChange82) (F : Fun K "_law_drawn" "_law_drawn" s_l_drawn f fd) : FnOk P w K mg base CX0 2 f fd ["_law_script", "_law_words_here", "_law_tags"] (spDrawn82 K) := by
  refine F.ok sc_l_drawn (fun vs H Q E h => ?_) (fun cdv A outer s H vs Q E hr h => ?_)
  · obtain ⟨a, wa, ta, ns, G, ts, rfl, _⟩ := h
    rfl
  obtain ⟨a, wa, ta, ns, G, ts, rfl, hS, h63, hwa, hc, hz, hta, ht3, hts, q⟩ := h
  have hu : (A.deeper (PyProof.Rows.envOfC (Str.ofString "_law_drawn") (defScope s_l_drawn) s.heap.objs.size f cdv)).units + 200 < cLine := by have := hr.un; (first | lia | omega)
  have hwl := gsz_words G
  refine hideI ((defBody s_l_drawn).drop 3) (pss_one (ps_ret (pv 3))) (fun u3 h3 e3 => ?_)
  refine hideI ((sBody ((defBody s_l_drawn).getD 2 (.Pass ⟨0, 0, 0, 0⟩))).drop 4) (pss_one (ps_if (pt_cmpR op_le (pv 4) (pe_callB call_len_seq rfl (B "len" (by decide)) PySem.boot_len (pa_cons (pv 1) pa_nil)) (nomark _))
      (pss_one (ps_expr (pe_bm PySem.F.plainAttrs_list PySem.F.slot_list_append PySem.F.type_list_append mt_append (pv 3) (pa_cons (pe_has g_l_change hr rfl (pa_cons (pv 1) (pa_cons (pv 4) (pa_cons (pe_op op_fdiv (pv 6) pe_int) (pa_cons (pv 2) pa_nil))))) pa_nil))))
      pss_nil)) (fun u2_4 h2_4 e2_4 => ?_)
  refine hideI ((sBody ((defBody s_l_drawn).getD 2 (.Pass ⟨0, 0, 0, 0⟩))).drop 3) (pss_cons (ps_if (PW.pt (pw_and (pt_cmpR (op_ne_nil hu) (pv 3) (pe_lst pa_nil) (nomark _)) (pw_and (pt_cmpR op_ne (pe_ix ix_tup (pe_ix ix_list (pv 3) (pe_un un_neg pe_int) (fun _ _ => rfl)) pe_int (fun _ _ => rfl)) pe_str (nomark _)) (pw_and (pt_cmpR op_eq (pe_ix ix_tup (pe_ix ix_list (pv 3) (pe_un un_neg pe_int) (fun _ _ => rfl)) pe_int (fun _ _ => rfl)) (pv 4) (nomark _)) (pw_and1 (pt_cmpR op_gt (pe_op op_mod (pv 6) pe_int) pe_int (nomark _)))))))
      (pss_one (ps_set (i := 4) sc_l_drawn.nd rfl (Or.inl rfl) (pe_op op_add (pv 4) pe_int)))
      pss_nil) h2_4) (fun u2_3 h2_3 e2_3 => ?_)
  refine hideI ((sBody ((sBody ((defBody s_l_drawn).getD 2 (.Pass ⟨0, 0, 0, 0⟩))).getD 2 (.Pass ⟨0, 0, 0, 0⟩))).drop 0) (pss_one (ps_if (pt_cmpR op_ne (pe_ix ix_list (pv 1) (pe_ix ix_tup (pe_ix ix_list (pv 3) (pe_un un_neg pe_int) (fun _ _ => rfl)) pe_int (fun _ _ => rfl)) (fun _ _ => rfl)) pe_str (nomark _))
      (pss_one (ps_set (i := 4) sc_l_drawn.nd rfl (Or.inl rfl) (pe_callB (call_max2 rfl) rfl (B "max" (by decide)) bt_max (pa_cons (pv 4) (pa_cons (pe_op op_add (pe_has g_l_close hr rfl (pa_cons (pv 1) (pa_cons (pe_ix ix_tup (pe_ix ix_list (pv 3) (pe_un un_neg pe_int) (fun _ _ => rfl)) pe_int (fun _ _ => rfl)) pa_nil))) pe_int) pa_nil)))))
      pss_nil)) (fun u2_2t0 h2_2t0 e2_2t0 => ?_)
  refine hideI ((sBody ((defBody s_l_drawn).getD 2 (.Pass ⟨0, 0, 0, 0⟩))).drop 2) (pss_cons (ps_if (PW.pt (pw_and (pt_cmpR (op_ne_nil hu) (pv 3) (pe_lst pa_nil) (nomark _)) (pw_and (pt_cmpR op_eq (pe_ix ix_tup (pe_ix ix_list (pv 3) (pe_un un_neg pe_int) (fun _ _ => rfl)) pe_int (fun _ _ => rfl)) pe_str (nomark _)) (pw_and (pt_cmpR op_lt (pe_ix ix_tup (pe_ix ix_list (pv 3) (pe_un un_neg pe_int) (fun _ _ => rfl)) pe_int (fun _ _ => rfl)) (pe_callB call_len_seq rfl (B "len" (by decide)) PySem.boot_len (pa_cons (pv 1) pa_nil)) (nomark _)) (pw_and1 (pt_cmpR op_gt (pe_op op_mod (pv 6) pe_int) pe_int (nomark _)))))))
      h2_2t0
      pss_nil) h2_3) (fun u2_2 h2_2 e2_2 => ?_)
  refine hideI ((sBody ((defBody s_l_drawn).getD 2 (.Pass ⟨0, 0, 0, 0⟩))).drop 1) (pss_cons (ps_set (i := 4) sc_l_drawn.nd rfl (Or.inl rfl) (pe_op op_add (pv 4) (pe_op op_mul (pe_op op_mod (pv 6) pe_int) (pe_op op_add pe_int (pe_op op_mod (pe_op op_fdiv (pv 6) pe_int) pe_int))))) h2_2) (fun u2_1 h2_1 e2_1 => ?_)
  refine hideI ((sBody ((defBody s_l_drawn).getD 2 (.Pass ⟨0, 0, 0, 0⟩))).drop 0) (pss_cons (ps_set (i := 6) sc_l_drawn.nd rfl (Or.inl rfl) (pe_has g_l_cell_at hr rfl (pa_cons (pv 0) (pa_cons (pe_op op_add pe_int (pv 5)) pa_nil)))) h2_1) (fun u2_0 h2_0 e2_0 => ?_)
  refine hideI ((defBody s_l_drawn).drop 2) (pss_cons (ps_for PassesOwn.never rfl (pi_range1 rfl (B "range" (by decide)) (pa_cons (pe_op op_mod (pe_has g_l_cell_at hr rfl (pa_cons (pv 0) (pa_cons pe_int pa_nil))) pe_int) pa_nil)) (pg_name (i := 5) sc_l_drawn.nd rfl (Or.inl rfl))
      h2_0) h3) (fun u2 h2 e2 => ?_)
  refine hideI ((defBody s_l_drawn).drop 1) (pss_cons (ps_set (i := 4) sc_l_drawn.nd rfl (Or.inl rfl) pe_int) h2) (fun u1 h1 e1 => ?_)
  refine hideI ((defBody s_l_drawn).drop 0) (pss_cons (ps_set (i := 3) sc_l_drawn.nd rfl (Or.inl rfl) (pe_lst pa_nil)) h1) (fun u0 h0 e0 => ?_)
  refine ⟨u0, h0, ?_⟩
  refine by_eq e0 ?_
  refine ⟨by decide, fun L hL => ?_⟩
  have s0 := Same.new (o := .lst []) hL
  show u1 _ _ _
  refine by_eq e1 ?_
  show u2 _ _ _
  refine by_eq e2 ?_
  refine ⟨_, rfl, a, ns, 2, rfl, s0.seq hS, h63, by decide, fun v2 => ⟨_, _, rfl, rfl, (by show (0 : Int) < 10; decide), ?_⟩⟩
  have n0 := Int.emod_nonneg v2 (by decide : (10 : Int) ≠ 0)
  have n1 := Int.emod_lt_of_pos v2 (by decide : (0 : Int) < 10)
  refine ⟨_, rfl, by (first | lia | omega), by (first | lia | omega), for_range (lo := 0) (n := (v2 % 10).toNat) (fun i σ H1 => ∃ (vs : List V) (rs : List Rc) (pl : Int) (v5 v6 : Option V), σ = [some (.ref a), some (.ref wa), some (.ref ta), some (.ref L), some (.int pl), v5, v6] ∧ Same H H1 ∧ H1 L = some (.lst vs) ∧ RcL H1 vs rs ∧ (∀ r ∈ rs, r.Ok ∧ 0 ≤ r.pl) ∧ rs.length ≤ i ∧ 0 ≤ pl)
    ⟨[], [], 0, none, none, rfl, s0, upd_same, .nil, fun _ h => (nomatch h), Nat.le_refl _, Int.le_refl _⟩ ?_ ?_⟩
  · rintro i σ H1 hi ⟨vs, rs, pl, v5, v6, rfl, s1, hL1, hrs, hok, hrl, pl0⟩
    have hvl : vs.length = rs.length := Paired.length hrs
    show u2_0 _ [some (.ref a), some (.ref wa), some (.ref ta), some (.ref L), some (.int pl), some (.int (0 + (i : Int))), v6] H1
    refine by_eq e2_0 ?_
    refine ⟨_, rfl, _, rfl, _, _, rfl, rfl, a, ns, _, rfl, s1.seq hS, h63, by (first | lia | omega), fun c => ?_⟩
    show u2_1 _ _ _
    refine by_eq e2_1 ?_
    have c0 := Int.emod_nonneg c (by decide : (3 : Int) ≠ 0)
    have c2 := Int.emod_nonneg (c / 3) (by decide : (2 : Int) ≠ 0)
    have cm := Int.mul_nonneg c0 (show 0 ≤ 1 + c / 3 % 2 by (first | lia | omega))
    have c3 := Int.emod_lt_of_pos c (by decide : (0 : Int) < 3)
    refine ⟨_, rfl, _, rfl, _, _, rfl, rfl, (by show (0 : Int) < 3; decide), _, rfl, _, _, rfl, rfl, ⟨by decide, by decide⟩, _, _, rfl, rfl, (by show (0 : Int) < 2; decide), _, _, rfl, rfl, _, _, rfl, rfl, .inl ⟨by (first | lia | omega), by (first | lia | omega)⟩, _, _, rfl, rfl, ?_⟩
    show u2_2 _ [some (.ref a), some (.ref wa), some (.ref ta), some (.ref L), some (.int (pl + c % 3 * (1 + c / 3 % 2))), some (.int (0 + (i : Int))), some (.int c)] H1
    generalize hpl2 : pl + c % 3 * (1 + c / 3 % 2) = pl2
    have pl20 : 0 ≤ pl2 := by (first | lia | omega)
    clear hpl2 cm c0 c2 c3
    refine by_eq e2_2 ?_
    refine via (t := u2_3) (R := fun σ H2 => ∃ pl : Int, 0 ≤ pl ∧ σ = [some (.ref a), some (.ref wa), some (.ref ta), some (.ref L), some (.int pl), some (.int (0 + (i : Int))), some (.int c)] ∧ Same H1 H2) ?_ fun fin => ?_
    · rintro σ H2 ⟨pl, pl0, rfl, s2⟩
      refine by_eq e2_3 ?_
      refine via (t := u2_4) (R := fun σ H3 => ∃ pl : Int, 0 ≤ pl ∧ σ = [some (.ref a), some (.ref wa), some (.ref ta), some (.ref L), some (.int pl), some (.int (0 + (i : Int))), some (.int c)] ∧ Same H1 H3) ?_ fun fin => ?_
      · rintro σ H3 ⟨pl, pl0, rfl, s3⟩
        refine by_eq e2_4 ?_
        have s13 := s1.trans s3
        have hL3 := s3 _ _ hL1
        refine ⟨_, rfl, _, rfl, wa, _, rfl, .inl (SqL.of (s13 _ _ hwa)), _, _, rfl, rfl, _, rfl, ite2 (fun cl => ?_) (fun cl => ?_)⟩
        · have cl : pl ≤ (((words SL G).map V.str).length : Int) := of_decide_eq_true cl
          rw [List.length_map, hwl] at cl
          refine ⟨_, rfl, .inl ⟨rfl, _, SqL.of hL3⟩, _, rfl, _, rfl, _, rfl, _, _, rfl, rfl, ⟨by decide, by decide⟩, _, rfl, wa, ta, G, pl, _, ts, rfl, s13 _ _ hwa, s13 _ _ hta, ht3, hts, pl0, by (first | lia | omega), fun x r H4 s4 hxr okr hpl => ?_⟩
          have hL4 := s4 _ _ hL3
          refine ⟨L, _, _, rfl, rfl, hL4, len1000' (by (first | lia | omega)), ?_⟩
          have tk4 := TK.lst (o := .lst (vs ++ [.ref x])) hL4
          refine ⟨vs ++ [.ref x], rs ++ [r], pl, _, _, rfl, (s13.trans s4).upd_new hL, upd_same, Paired.app (hrs.mono ((s3.trans s4).tk.trans tk4)) (.cons (hxr.mono tk4) .nil), fun r' hr' => ?_, by rw [List.length_append, List.length_singleton]; (first | lia | omega), pl0⟩
          rcases List.mem_append.mp hr' with hr' | hr'
          · exact hok r' hr'
          · rw [List.mem_singleton.mp hr']
            exact ⟨okr, by (first | lia | omega)⟩
        · exact ⟨vs, rs, pl, _, _, rfl, s13, hL3, hrs.mono s3.tk, hok, by (first | lia | omega), pl0⟩
      · refine ⟨_, rfl, by decide, fun em hem => ?_⟩
        have z := Same.new (o := .lst []) hem
        have sz := s2.trans z
        refine ⟨L, em, vs, rfl, rfl, SqL.of (sz _ _ hL1), SqL.of upd_same, _, rfl, ?_⟩
        by_cases hv : vs = []
        · subst hv
          exact iteF (iteF (fin _ _ ⟨pl, pl0, rfl, sz⟩))
        obtain ⟨xa, zs, r, l1, l2, l3, l4, l5⟩ := rc_last (hrs.mono sz.tk) hv
        rw [show vs.isEmpty = false from by cases vs with | nil => exact absurd rfl hv | cons _ _ => rfl]
        refine iteT ⟨_, rfl, 1, rfl, L, _, -1, .ref xa, rfl, rfl, SqL.of (sz _ _ hL1), l1, xa, _, 0, _, rfl, rfl, SqT.of l2, l3, rfl, _, rfl, ite2 (fun _ => ?_) (fun _ => iteF (fin _ _ ⟨pl, pl0, rfl, sz⟩))⟩
        refine ⟨_, rfl, 1, rfl, L, _, -1, .ref xa, rfl, rfl, SqL.of (sz _ _ hL1), l1, xa, _, 1, _, rfl, rfl, SqT.of l2, l4, _, rfl, rfl, _, rfl, ite2 (fun _ => ?_) (fun _ => iteF (fin _ _ ⟨pl, pl0, rfl, sz⟩))⟩
        refine ⟨_, rfl, _, _, rfl, rfl, (by show (0 : Int) < 7; decide), _, _, rfl, rfl, _, rfl, ite2 (fun _ => ?_) (fun _ => fin _ _ ⟨pl, pl0, rfl, sz⟩)⟩
        exact ⟨_, rfl, _, _, rfl, rfl, fin _ _ ⟨pl + 1, by (first | lia | omega), rfl, sz⟩⟩
    · refine ⟨_, rfl, by decide, fun em hem => ?_⟩
      have sz := Same.new (o := .lst []) hem
      refine ⟨L, em, vs, rfl, rfl, SqL.of (sz _ _ hL1), SqL.of upd_same, _, rfl, ?_⟩
      by_cases hv : vs = []
      · subst hv
        exact iteF (iteF (fin _ _ ⟨pl2, pl20, rfl, sz⟩))
      obtain ⟨xa, zs, r, l1, l2, l3, l4, l5⟩ := rc_last (hrs.mono sz.tk) hv
      rw [show vs.isEmpty = false from by cases vs with | nil => exact absurd rfl hv | cons _ _ => rfl]
      refine iteT ⟨_, rfl, 1, rfl, L, _, -1, .ref xa, rfl, rfl, SqL.of (sz _ _ hL1), l1, xa, _, 0, _, rfl, rfl, SqT.of l2, l3, rfl, _, rfl, ite2 (fun _ => ?_) (fun _ => iteF (fin _ _ ⟨pl2, pl20, rfl, sz⟩))⟩
      have hwz := (s1.trans sz) _ _ hwa
      refine ⟨_, rfl, 1, rfl, L, _, -1, .ref xa, rfl, rfl, SqL.of (sz _ _ hL1), l1, xa, _, 1, _, rfl, rfl, SqT.of l2, l4, _, rfl, wa, _, rfl, .inl (SqL.of hwz), _, _, rfl, rfl, _, rfl, ite2 (fun cl => ?_) (fun _ => iteF (fin _ _ ⟨pl2, pl20, rfl, sz⟩))⟩
      have cl : r.pl < (((words SL G).map V.str).length : Int) := of_decide_eq_true cl
      rw [List.length_map] at cl
      refine ⟨_, rfl, _, _, rfl, rfl, (by show (0 : Int) < 5; decide), _, _, rfl, rfl, _, rfl, ite2 (fun _ => ?_) (fun _ => fin _ _ ⟨pl2, pl20, rfl, sz⟩)⟩
      obtain ⟨pn, hpn⟩ : ∃ pn : Nat, r.pl = (pn : Int) := ⟨r.pl.toNat, by have := (hok r l5).2; (first | lia | omega)⟩
      rw [hpn] at l4
      have hpl : pn < (words SL G).length := by (first | lia | omega)
      show u2_2t0 _ _ _
      refine by_eq e2_2t0 ?_
      refine ⟨_, rfl, _, rfl, 1, rfl, L, _, -1, .ref xa, rfl, rfl, SqL.of (sz _ _ hL1), l1, xa, _, 1, _, rfl, rfl, SqT.of l2, l4, wa, _, _, _, rfl, rfl, SqL.of hwz, strs_at hpl, rfl, _, rfl, ite2 (fun cs => ?_) (fun _ => fin _ _ ⟨pl2, pl20, rfl, sz⟩)⟩
      have ns : (words SL G)[pn] ≠ SL := fun z => by
        rw [z] at cs
        revert cs
        decide
      obtain ⟨e, he⟩ := prs_tag G 0 pn _ hc (List.getElem?_eq_getElem hpl) ns
      rw [Nat.zero_add] at he
      refine ⟨_, rfl, _, rfl, _, rfl, 1, rfl, L, _, -1, .ref xa, rfl, rfl, SqL.of (sz _ _ hL1), l1, xa, _, 1, _, rfl, rfl, SqT.of l2, l4, wa, G, pn, e, rfl, hwz, hc, he, _, _, rfl, rfl, _, _, rfl, ?_⟩
      refine fin _ _ ⟨_, ?_, rfl, sz⟩
      split <;> (first | lia | omega)
  · rintro σ H1 ⟨vs, rs, pl, v5, v6, rfl, s1, hL1, hrs, hok, hrl, pl0⟩
    show u3 _ _ _
    refine by_eq e3 ?_
    exact ⟨_, rfl, q L vs rs H1 s1 hL hL1 hrs (fun r hr => (hok r hr).1) (by (first | lia | omega))⟩
theorem ixN_at {k p : Nat} (h : p < k) : ixN k (p : Int) = some p := by
  unfold ixN
  rw [if_pos (by (first | lia | omega)), if_pos (by (first | lia | omega))]
  rfl
theorem pd_set {α β : Type} {F : α → β → Prop} {a : α} {b : β} (hab : F a b) : ∀ {xs : List α} {ys : List β}, Paired F xs ys → ∀ n, Paired F (xs.set n a) (ys.set n b)
  | _, _, .nil, n => by cases n <;> exact .nil
  | _, _, .cons r t, 0 => .cons hab t
  | _, _, .cons r t, n + 1 => .cons r (pd_set hab t n)
theorem pd_take {α β : Type} {F : α → β → Prop} : ∀ {xs : List α} {ys : List β}, Paired F xs ys → ∀ n, Paired F (xs.take n) (ys.take n)
  | _, _, .nil, n => by cases n <;> exact .nil
  | _, _, .cons r t, 0 => .nil
  | _, _, .cons r t, n + 1 => .cons r (pd_take t n)
theorem pd_drop {α β : Type} {F : α → β → Prop} : ∀ {xs : List α} {ys : List β}, Paired F xs ys → ∀ n, Paired F (xs.drop n) (ys.drop n)
  | _, _, .nil, n => by cases n <;> exact .nil
  | _, _, .cons r t, 0 => .cons r t
  | _, _, .cons r t, n + 1 => pd_drop t n
theorem mem_set {α : Type} {b x : α} : ∀ {ys : List α} {n : Nat}, x ∈ ys.set n b → x = b ∨ x ∈ ys := fun {ys n} h => by
  rcases List.mem_or_eq_of_mem_set h with h | h
  · exact .inr h
  · exact .inl h
def Rc.move (r : Rc) (n : Int) : Rc := match r with
  | .put _ t w => .put n t w
  | .cut _ => .cut n
  | .name _ t => .name n t
theorem Rc.move_ok {r : Rc} {n : Int} (h : r.Ok) : (r.move n).Ok := by
  cases r <;> exact h
theorem RepR.moved {H H' : Hp} {xa b : Addr} {zs : List V} {n : Int} (k : TK H H') : ∀ {r : Rc}, RepR H (.ref xa) r → H xa = some (.tup zs) → H' b = some (.tup ([.str r.wd, .int n] ++ zs.drop 2)) → RepR H' (.ref b) (r.move n)
  | .put p t w, ⟨x, b', q', ys, e, h1, h2, h3, h4⟩, hx, hb => by
    injection e with e
    subst e
    rw [h1] at hx
    injection hx with hx
    injection hx with hx
    subst hx
    exact ⟨b, b', q', ys, rfl, hb, k _ _ h2, k _ _ h3, h4.mono k⟩
  | .cut p, ⟨x, e, h1⟩, hx, hb => by
    injection e with e
    subst e
    rw [h1] at hx
    injection hx with hx
    injection hx with hx
    subst hx
    exact ⟨b, rfl, hb⟩
  | .name p t, ⟨x, e, h1⟩, hx, hb => by
    injection e with e
    subst e
    rw [h1] at hx
    injection hx with hx
    injection hx with hx
    subst hx
    exact ⟨b, rfl, hb⟩
def oddT (t : Str) : Bool := decide (t.length ≤ 100) && t.cps.toList.all (fun c => decide (c < 128)) && PyData.strOk t
theorem oddT_ok {t : Str} (h : oddT t = true) (p : Int) : (Rc.name p t).Ok := by
  unfold oddT at h
  simp only [Bool.and_eq_true, decide_eq_true_eq, List.all_eq_true] at h
  exact ⟨h.1.1, h.1.2, h.2⟩
theorem strs_all {f : Str → Bool} {ws : List Str} (h : ws.all f = true) {i : Int} {n : Nat} (hn : n = ws.length) (h0 : 0 < n) : ∃ t, atI (ws.map V.str) (i % (n : Int)) = some (.str t) ∧ f t = true := by
  obtain ⟨k, hk, hkl⟩ := modN i h0
  subst hn
  refine ⟨ws[k], ?_, List.all_eq_true.mp h _ (List.getElem_mem hkl)⟩
  have := strs_at (ws := ws) (n := k) hkl
  rw [← hk] at this
  exact this
theorem cut_midL (xs : List V) (i j : Nat) (h : i ≤ j) : cutV xs (some (i : Int)) (some (j : Int)) = (xs.drop i).take (j - i) := by
  unfold cutV
  rw [HT.sIx_nat, HT.sIx_nat]
  by_cases c : j ≤ xs.length
  · rw [Nat.min_eq_left c, Nat.min_eq_left (by (first | lia | omega))]
  · by_cases d : i ≤ xs.length
    · rw [Nat.min_eq_left d, Nat.min_eq_right (by (first | lia | omega)), List.take_of_length_le (by rw [List.length_drop]; (first | lia | omega)), List.take_of_length_le (by rw [List.length_drop]; (first | lia | omega))]
    · rw [Nat.min_eq_right (by (first | lia | omega)), Nat.min_eq_right (by (first | lia | omega)), List.drop_of_length_le (Nat.le_refl _), List.drop_of_length_le (by (first | lia | omega))]
      simp
def spSpoil82 : Sp := fun vs H Q _ => ∃ (L wa : Addr) (G : Gr Str) (xs : List V) (rs : List Rc) (wy c : Int), vs = [.ref L, .ref wa, .int wy, .int c] ∧ H L = some (.lst xs) ∧ RcL H xs rs ∧ (∀ r ∈ rs, r.Ok) ∧ rs.length ≤ 9 ∧ H wa = some (.lst ((words SL G).map V.str)) ∧ gsz G ≤ 100 ∧
  ∀ (L' : Addr) (xs' : List V) (rs' : List Rc) (H' : Hp), Same H H' → H' L' = some (.lst xs') → RcL H' xs' rs' → (∀ r ∈ rs', r.Ok) → rs'.length ≤ 10 → Q (.ref L') H'
set_option maxHeartbeats 4000000 in
theorem ok_l_spoiled (B : ∀ x ∈ blts, mg x = none) (F : Fun K "_law_spoiled" "_law_spoiled" s_l_spoiled f fd) : FnOk P w K mg base CX0 1 f fd ["_law_changes", "_law_words_here", "_law_way", "_law_cell"] spSpoil82 := by
  refine F.ok sc_l_spoiled (fun vs H Q E h => ?_) (fun cdv A outer s H vs Q E hr h => ?_)
  · obtain ⟨L, wa, G, xs, rs, wy, c, rfl, _⟩ := h
    rfl
  obtain ⟨L, wa, G, xs, rs, wy, c, rfl, hL, hrs, hok, hrl, hwa, hz, q⟩ := h
  have hu : (A.deeper (PyProof.Rows.envOfC (Str.ofString "_law_spoiled") (defScope s_l_spoiled) s.heap.objs.size f cdv)).units + 200 < cLine := by have := hr.un; (first | lia | omega)
  have hwl := gsz_words G
  have hxl : xs.length = rs.length := Paired.length hrs
  refine hideI ((defBody s_l_spoiled).drop 9) (pss_one (ps_ret (pv 4))) (fun u9 h9 e9 => ?_)
  refine hideI ((sBody ((defBody s_l_spoiled).getD 8 (.Pass ⟨0, 0, 0, 0⟩))).drop 1) (pss_one (ps_asg (pe_tup (pa_cons pe_str (pa_cons (pe_ix ix_tup (pv 6) pe_int (fun _ _ => rfl)) (pa_cons (pv 7) pa_nil)))) (pg_sub (pv 4) (pv 5) set_list))) (fun u8t1 h8t1 e8t1 => ?_)
  refine hideS ((sBody ((defBody s_l_spoiled).getD 8 (.Pass ⟨0, 0, 0, 0⟩))).drop 0) (pssi_cons (psi_set (i := 7) sc_l_spoiled.nd rfl (Or.inl rfl) (pei_ix ix_list (pei_lst pai_strs) (pe_op op_mod (pe_op op_fdiv (pv 3) pe_int) pe_int) (fun _ _ => rfl))) h8t1) (fun u8t0 h8t0 e8t0 => ?_)
  refine hideS ((defBody s_l_spoiled).drop 8) (pssi_cons (psi_if (pt_cmpR op_eq (pv 2) pe_int (nomark _))
      h8t0
      pss_nil) h9) (fun u8 h8 e8 => ?_)
  refine hideI ((defBody s_l_spoiled).drop 7) (psst_cons (ps_if (pt_cmpR op_eq (pv 2) pe_int (nomark _))
      (pss_one (ps_asg (pe_ix ix_list (pe_lst (pa_cons (pe_tup (pa_cons pe_str (pa_cons (pe_ix ix_tup (pv 6) pe_int (fun _ _ => rfl)) pa_nil))) (pa_cons (pe_tup (pa_cons pe_str (pa_cons (pe_ix ix_tup (pv 6) pe_int (fun _ _ => rfl)) (pa_cons pe_str pa_nil)))) (pa_cons (pe_tup (pa_cons pe_str (pa_cons (pe_ix ix_tup (pv 6) pe_int (fun _ _ => rfl)) (pa_cons (pe_tup (pa_cons pe_str (pa_cons (pe_tup pa_nil) pa_nil))) pa_nil)))) pa_nil)))) (pe_op op_mod (pe_op op_fdiv (pv 3) pe_int) pe_int) (fun _ _ => rfl)) (pg_sub (pv 4) (pv 5) set_list)))
      pss_nil) h8) (fun u7 h7 e7 => ?_)
  refine hideI ((defBody s_l_spoiled).drop 6) (pss_cons (ps_if (pt_cmpR op_eq (pv 2) pe_int (nomark _))
      (pss_one (ps_expr (pe_bm PySem.F.plainAttrs_list PySem.F.slot_list_insert PySem.F.type_list_insert mt_insert (pv 4) (pa_cons (pv 5) (pa_cons (pv 6) pa_nil)))))
      pss_nil) h7) (fun u6 h6 e6 => ?_)
  refine hideI ((defBody s_l_spoiled).drop 5) (pss_cons (ps_if (pt_cmpR op_eq (pv 2) pe_int (nomark _))
      (pss_one (ps_set (i := 4) sc_l_spoiled.nd rfl (Or.inl rfl) (pe_op op_cat (pe_op op_cat (pe_op op_cat (pe_slice sl_list (pv 4) po_none (po_some (pv 5))) (pe_slice sl_list (pv 4) (po_some (pe_op op_add (pv 5) pe_int)) (po_some (pe_op op_add (pv 5) pe_int)))) (pe_lst (pa_cons (pv 6) pa_nil))) (pe_slice sl_list (pv 4) (po_some (pe_op op_add (pv 5) pe_int)) po_none))))
      pss_nil) h6) (fun u5 h5 e5 => ?_)
  refine hideI ((defBody s_l_spoiled).drop 4) (pss_cons (ps_if (pt_cmpR op_eq (pv 2) pe_int (nomark _))
      (pss_one (ps_asg (pe_op op_catG (pe_tup (pa_cons (pe_ix ix_tup (pv 6) pe_int (fun _ _ => rfl)) (pa_cons (pe_op op_sub (pe_op op_mod (pe_op op_fdiv (pv 3) pe_int) (pe_op op_add (pe_callB call_len_seq rfl (B "len" (by decide)) PySem.boot_len (pa_cons (pv 1) pa_nil)) pe_int)) pe_int) pa_nil))) (pe_slice sl_tupU (pv 6) (po_some pe_int) po_none)) (pg_sub (pv 4) (pv 5) set_list)))
      pss_nil) h5) (fun u4 h4 e4 => ?_)
  refine hideI ((defBody s_l_spoiled).drop 3) (pss_cons (ps_set (i := 6) sc_l_spoiled.nd rfl (Or.inl rfl) (pe_ix ix_list (pv 4) (pv 5) (fun _ _ => rfl))) h4) (fun u3 h3 e3 => ?_)
  refine hideI ((defBody s_l_spoiled).drop 2) (pss_cons (ps_set (i := 5) sc_l_spoiled.nd rfl (Or.inl rfl) (pe_op op_mod (pv 3) (pe_callB call_len_seq rfl (B "len" (by decide)) PySem.boot_len (pa_cons (pv 4) pa_nil)))) h3) (fun u2 h2 e2 => ?_)
  refine hideI ((defBody s_l_spoiled).drop 1) (pss_cons (ps_if (PW.pt (pw_or (pt_cmpR (op_eq_nil hu) (pv 4) (pe_lst pa_nil) (nomark _)) (pw_or1 (pt_cmpR op_eq (pv 2) pe_int (nomark _)))))
      (pss_one (ps_ret (pv 4)))
      pss_nil) h2) (fun u1 h1 e1 => ?_)
  refine hideI ((defBody s_l_spoiled).drop 0) (pss_cons (ps_set (i := 4) sc_l_spoiled.nd rfl (Or.inl rfl) (pe_callTy call_list_of rfl (B "list" (by decide)) bt_list (pa_cons (pv 0) pa_nil))) h1) (fun u0 h0 e0 => ?_)
  refine ⟨u0, h0, ?_⟩
  refine by_eq e0 ?_
  refine ⟨_, rfl, L, xs, rfl, .inl (SqL.of hL), fun S hS => ?_⟩
  have s0 := Same.new (o := .lst xs) hS
  have hS0 : (upd H S (.lst xs)) S = some (.lst xs) := upd_same
  show u1 _ _ _
  generalize upd H S (.lst xs) = H0 at s0 hS0 ⊢
  refine by_eq e1 ?_
  refine ⟨_, rfl, by decide, fun em hem => ?_⟩
  have z1 := Same.new (o := .lst []) hem
  have s1 := s0.trans z1
  have hS1 := z1 _ _ hS0
  refine ⟨S, em, xs, rfl, rfl, SqL.of hS1, SqL.of upd_same, _, rfl, ?_⟩
  generalize upd H0 em (.lst []) = H1 at z1 s1 hS1 ⊢
  have hrs1 := hrs.mono s1.tk
  by_cases hv : xs = []
  · rw [show xs.isEmpty = true by rw [hv]; rfl]
    exact iteT (iteT ⟨_, rfl, q S xs rs H1 s1 hS1 hrs1 hok (by (first | lia | omega))⟩)
  rw [show xs.isEmpty = false from by cases xs with | nil => exact absurd rfl hv | cons _ _ => rfl]
  have hx0 : 0 < xs.length := List.length_pos_iff.mpr hv
  refine iteF ⟨_, rfl, rfl, _, rfl, ite2 (fun _ => ⟨_, rfl, q S xs rs H1 s1 hS1 hrs1 hok (by (first | lia | omega))⟩) (fun _ => ?_)⟩
  show u2 _ _ _
  refine by_eq e2 ?_
  obtain ⟨i, hi, hil⟩ := modN c (n := xs.length) hx0
  refine ⟨_, rfl, _, rfl, S, _, rfl, .inl (SqL.of hS1), _, _, rfl, rfl, by (first | lia | omega), ?_⟩
  show u3 _ [some (.ref L), some (.ref wa), some (.int wy), some (.int c), some (.ref S), some (.int (c % (xs.length : Int))), none, none] H1
  rw [hi]
  refine by_eq e3 ?_
  have hxi : xs[i]? = some xs[i] := List.getElem?_eq_getElem hil
  obtain ⟨r, hri, hrr⟩ := paired_at hrs i _ hxi
  have okr := hok r (List.mem_of_getElem? hri)
  obtain ⟨xa, zs, exa, hxa, g0, g1⟩ := hrr.at
  rw [exa] at hxi hrr
  refine ⟨_, rfl, _, rfl, S, _, _, _, rfl, rfl, SqL.of hS1, atI_nat hxi, ?_⟩
  -- what is told in the end
  have t9 : ∀ (S2 : Addr) (ys : List V) (rs2 : List Rc) (H2 : Hp) (v7 : Option V), Same H H2 → H2 S2 = some (.lst ys) → RcL H2 ys rs2 → (∀ r ∈ rs2, r.Ok) → rs2.length ≤ 10 → u9 { nx := fun _ H' => Q .non H', rt := Q } [some (.ref L), some (.ref wa), some (.int wy), some (.int c), some (.ref S2), some (.int (i : Int)), some (.ref xa), v7] H2 := fun S2 ys rs2 H2 v7 s2 h1 h2 h3 h4 => by
    refine by_eq e9 ?_
    exact ⟨_, rfl, q S2 ys rs2 H2 s2 h1 h2 h3 h4⟩
  have setK : ∀ (H2 : Hp) (ys : List V) (rs2 : List Rc) (S2 b : Addr) (r2 : Rc), Same H H2 → H S2 = none → H2 S2 = some (.lst ys) → RcL H2 ys rs2 → (∀ r ∈ rs2, r.Ok) → RepR H2 (.ref b) r2 → r2.Ok → Same H (upd H2 S2 (.lst (ys.set i (.ref b)))) ∧ RcL (upd H2 S2 (.lst (ys.set i (.ref b)))) (ys.set i (.ref b)) (rs2.set i r2) ∧ (∀ r ∈ rs2.set i r2, r.Ok) ∧ (rs2.set i r2).length = rs2.length := fun H2 ys rs2 S2 b r2 s2 n2 h1 h2 h3 h4 h5 => by
    have tk := TK.lst (o := .lst (ys.set i (.ref b))) h1
    refine ⟨s2.upd_new n2, pd_set (h4.mono tk) (h2.mono tk) i, fun x hx => ?_, List.length_set⟩
    rcases mem_set hx with rfl | hx
    · exact h5
    · exact h3 x hx
  have t8 : ∀ (S2 : Addr) (ys : List V) (rs2 : List Rc) (H2 : Hp), Same H H2 → H S2 = none → H2 S2 = some (.lst ys) → RcL H2 ys rs2 → (∀ r ∈ rs2, r.Ok) → rs2.length ≤ 10 → (wy = 5 → i < rs2.length) → u8 { nx := fun _ H' => Q .non H', rt := Q } [some (.ref L), some (.ref wa), some (.int wy), some (.int c), some (.ref S2), some (.int (i : Int)), some (.ref xa), none] H2 := fun S2 ys rs2 H2 sH n2 h1 h2 h3 h4 h5 => by
    have hyl : ys.length = rs2.length := Paired.length h2
    refine by_eq e8 ?_
    refine ⟨_, rfl, rfl, _, rfl, ite2 (fun cw => ?_) (fun _ => t9 S2 ys rs2 H2 _ sH h1 h2 h3 h4)⟩
    have cw : wy = 5 := by have := of_decide_eq_true cw; injection this
    obtain ⟨t, ht, hot⟩ := strs_all (f := oddT) (ws := ["", "A", "ab1", "abcdefghi", "/", "a b", " ", "a(", "aB", "-"]) (i := c / 9) (n := 10) (by decide +kernel) rfl (by decide)
    show u8t0 _ _ _
    refine by_eq e8t0 ?_
    refine ⟨(by show 10 ≤ sizeLine; decide), fun n1 hn1 => ?_⟩
    have y1 := Same.new (o := .lst (List.map V.str ["", "A", "ab1", "abcdefghi", "/", "a b", " ", "a(", "aB", "-"])) hn1
    refine ⟨_, rfl, _, _, rfl, rfl, ⟨by decide, by decide⟩, _, _, rfl, rfl, (by show (0 : Int) < 10; decide), n1, _, _, _, rfl, rfl, SqL.of upd_same, ht, ?_⟩
    show u8t1 _ _ _
    refine by_eq e8t1 ?_
    have hx2 := (sH.trans y1) _ _ hxa
    refine ⟨_, rfl, xa, _, 1, _, rfl, rfl, SqT.of hx2, g1, _, rfl, (by show 3 ≤ sizeLine; decide), fun n2' hn2 => ?_⟩
    have y2 := Same.new (o := .tup [.str "name", .int r.pl, .str t]) hn2
    have y := y1.trans y2
    obtain ⟨k1, k2, k3, k4⟩ := setK _ ys rs2 S2 n2' (.name r.pl t) (sH.trans y) n2 (y _ _ h1) (h2.mono y.tk) h3 ⟨n2', rfl, upd_same⟩ (oddT_ok hot _)
    refine ⟨_, rfl, _, rfl, S2, ys, (i : Int), i, rfl, rfl, y _ _ h1, ixN_at (by have := h5 cw; (first | lia | omega)), ?_⟩
    exact t9 S2 _ _ _ _ k1 upd_same k2 k3 (by (first | lia | omega))
  have t7 : ∀ (S2 : Addr) (ys : List V) (rs2 : List Rc) (H2 : Hp), Same H H2 → H S2 = none → H2 S2 = some (.lst ys) → RcL H2 ys rs2 → (∀ r ∈ rs2, r.Ok) → rs2.length ≤ 10 → (4 ≤ wy → i < rs2.length) → u7 { nx := fun _ H' => Q .non H', rt := Q } [some (.ref L), some (.ref wa), some (.int wy), some (.int c), some (.ref S2), some (.int (i : Int)), some (.ref xa), none] H2 := fun S2 ys rs2 H2 sH n2 h1 h2 h3 h4 h5 => by
    have hyl : ys.length = rs2.length := Paired.length h2
    refine by_eq e7 ?_
    refine ⟨_, rfl, rfl, _, rfl, ite2 (fun cw => ?_) (fun _ => t8 S2 ys rs2 H2 sH n2 h1 h2 h3 h4 fun z => h5 (by (first | lia | omega)))⟩
    have cw : wy = 4 := by have := of_decide_eq_true cw; injection this
    have hx2 := sH _ _ hxa
    refine ⟨_, rfl, xa, _, 1, _, rfl, rfl, SqT.of hx2, g1, (by show 2 ≤ sizeLine; decide), fun n1 hn1 => ?_⟩
    have y1 := Same.new (o := .tup [.str "cut", .int r.pl]) hn1
    refine ⟨_, rfl, xa, _, 1, _, rfl, rfl, SqT.of (y1 _ _ hx2), g1, (by show 3 ≤ sizeLine; decide), fun n3 hn3 => ?_⟩
    have y2 := Same.new (o := .tup [.str "name", .int r.pl, .str "a"]) hn3
    refine ⟨_, rfl, xa, _, 1, _, rfl, rfl, SqT.of ((y1.trans y2) _ _ hx2), g1, (by decide), fun n4 hn4 => ⟨(by show 2 ≤ sizeLine; decide), fun n5 hn5 => ⟨(by show 3 ≤ sizeLine; decide), fun n6 hn6 => ⟨(by show 3 ≤ sizeLine; decide), fun n7 hn7 => ?_⟩⟩⟩⟩
    have y3 := Same.new (o := .tup []) hn4
    have y4 := Same.new (o := .tup [.str "b", .ref n4]) hn5
    have y5 := Same.new (o := .tup [.str "put", .int r.pl, .ref n5]) hn6
    have y6 := Same.new (o := .lst [.ref n1, .ref n3, .ref n6]) hn7
    have y36 := y3.trans (y4.trans (y5.trans y6))
    have y26 := y2.trans y36
    have y := y1.trans y26
    obtain ⟨j, hj, hjl⟩ := modN (c / 9) (n := 3) (by decide)
    have hj : c / 9 % 3 = (j : Int) := hj
    obtain ⟨b, r2, b1, b2, b3⟩ : ∃ (b : Addr) (r2 : Rc), atI [V.ref n1, .ref n3, .ref n6] (c / 9 % 3) = some (.ref b) ∧ RepR (upd (upd (upd (upd (upd (upd H2 n1 (.tup [.str "cut", .int r.pl])) n3 (.tup [.str "name", .int r.pl, .str "a"])) n4 (.tup [])) n5 (.tup [.str "b", .ref n4])) n6 (.tup [.str "put", .int r.pl, .ref n5])) n7 (.lst [.ref n1, .ref n3, .ref n6])) (.ref b) r2 ∧ r2.Ok := by
      rw [hj]
      rcases (show j = 0 ∨ j = 1 ∨ j = 2 by (first | lia | omega)) with rfl | rfl | rfl
      · exact ⟨n1, .cut r.pl, rfl, ⟨n1, rfl, y26 _ _ upd_same⟩, trivial⟩
      · exact ⟨n3, .name r.pl "a", rfl, ⟨n3, rfl, y36 _ _ upd_same⟩, oddT_ok (by decide +kernel) _⟩
      · exact ⟨n6, .put r.pl "b" .nil, rfl, ⟨n6, n5, n4, [], rfl, y6 _ _ upd_same, (y5.trans y6) _ _ upd_same, (y4.trans (y5.trans y6)) _ _ upd_same, .nil⟩, put_ok (w := .nil) (tagB_letsI (by decide)) ⟨fun _ h => (nomatch h), trivial⟩ (by decide) _⟩
    refine ⟨_, rfl, _, _, rfl, rfl, ⟨by decide, by decide⟩, _, _, rfl, rfl, (by show (0 : Int) < 3; decide), n7, _, _, _, rfl, rfl, SqL.of upd_same, b1, ?_⟩
    obtain ⟨k1, k2, k3, k4⟩ := setK _ ys rs2 S2 b r2 (sH.trans y) n2 (y _ _ h1) (h2.mono y.tk) h3 b2 b3
    refine ⟨_, rfl, _, rfl, S2, ys, (i : Int), i, rfl, rfl, y _ _ h1, ixN_at (by have := h5 (by (first | lia | omega)); (first | lia | omega)), ?_⟩
    exact t8 S2 _ _ _ k1 n2 upd_same k2 k3 (by (first | lia | omega)) fun z => by (first | lia | omega)
  have t6 : ∀ (S2 : Addr) (ys : List V) (rs2 : List Rc) (H2 : Hp), Same H H2 → H S2 = none → H2 S2 = some (.lst ys) → RcL H2 ys rs2 → (∀ r ∈ rs2, r.Ok) → rs2.length ≤ 9 → (3 ≤ wy → i < rs2.length) → u6 { nx := fun _ H' => Q .non H', rt := Q } [some (.ref L), some (.ref wa), some (.int wy), some (.int c), some (.ref S2), some (.int (i : Int)), some (.ref xa), none] H2 := fun S2 ys rs2 H2 sH n2 h1 h2 h3 h4 h5 => by
    have hyl : ys.length = rs2.length := Paired.length h2
    refine by_eq e6 ?_
    refine ⟨_, rfl, rfl, _, rfl, ite2 (fun cw => ?_) (fun _ => t7 S2 ys rs2 H2 sH n2 h1 h2 h3 (by (first | lia | omega)) fun z => h5 (by (first | lia | omega)))⟩
    have cw : wy = 3 := by have := of_decide_eq_true cw; injection this
    have hi2 := h5 (by (first | lia | omega))
    refine ⟨_, rfl, .inl ⟨rfl, _, SqL.of h1⟩, _, rfl, _, rfl, S2, ys, (i : Int), i, _, rfl, rfl, rfl, h1, by (first | lia | omega), len1000' (by (first | lia | omega)), ?_⟩
    have tk := TK.lst (o := .lst (ys.take i ++ .ref xa :: ys.drop i)) h1
    have h2' := h2.mono tk
    refine t7 S2 _ (rs2.take i ++ r :: rs2.drop i) _ (sH.upd_new n2) n2 upd_same (Paired.app (pd_take h2' i) (.cons ((hrr.mono sH.tk).mono tk) (pd_drop h2' i))) (fun x hx => ?_) ?_ fun z => by (first | lia | omega)
    · rcases List.mem_append.mp hx with hx | hx
      · exact h3 x (List.mem_of_mem_take hx)
      · rcases List.mem_cons.mp hx with rfl | hx
        · exact okr
        · exact h3 x (List.mem_of_mem_drop hx)
    · rw [List.length_append, List.length_cons, List.length_take, List.length_drop]
      (first | lia | omega)
  have t5 : ∀ (ys : List V) (rs2 : List Rc) (H2 : Hp), Same H H2 → H2 S = some (.lst ys) → RcL H2 ys rs2 → (∀ r ∈ rs2, r.Ok) → rs2.length ≤ 9 → i < rs2.length → (2 ≤ wy → rs2[i]? = some r) → u5 { nx := fun _ H' => Q .non H', rt := Q } [some (.ref L), some (.ref wa), some (.int wy), some (.int c), some (.ref S), some (.int (i : Int)), some (.ref xa), none] H2 := fun ys rs2 H2 sH h1 h2 h3 h4 h5 h6 => by
    have hyl : ys.length = rs2.length := Paired.length h2
    refine by_eq e5 ?_
    refine ⟨_, rfl, rfl, _, rfl, ite2 (fun cw => ?_) (fun _ => t6 S ys rs2 H2 sH hS h1 h2 h3 h4 fun _ => h5)⟩
    have cw : wy = 2 := by have := of_decide_eq_true cw; injection this
    refine ⟨_, rfl, _, rfl, _, rfl, S, _, rfl, SqL.of h1, fun c1 hc1 => ?_⟩
    rw [cut_upto]
    have y1 := Same.new (o := .lst (ys.take i)) hc1
    refine ⟨_, rfl, _, rfl, _, _, rfl, rfl, _, rfl, _, rfl, _, _, rfl, rfl, _, rfl, S, _, rfl, SqL.of (y1 _ _ h1), fun c2 hc2 => ?_⟩
    have e12 : cutV ys (some ((i : Int) + 1)) (some ((i : Int) + 2)) = (ys.drop (i + 1)).take 1 := by
      rw [show (i : Int) + 1 = ((i + 1 : Nat) : Int) by (first | lia | omega), show (i : Int) + 2 = ((i + 2 : Nat) : Int) by (first | lia | omega), cut_midL _ _ _ (by (first | lia | omega)), show i + 2 - (i + 1) = 1 by (first | lia | omega)]
    rw [e12]
    have y2 := Same.new (o := .lst ((ys.drop (i + 1)).take 1)) hc2
    refine ⟨c1, c2, _, _, rfl, rfl, y2 _ _ upd_same, upd_same, ?_, fun c3 hc3 => ?_⟩
    · rw [List.length_take, List.length_take]
      exact len1000 (by (first | lia | omega))
    have y3 := Same.new (o := .lst (ys.take i ++ (ys.drop (i + 1)).take 1)) hc3
    refine ⟨_, rfl, (by show 1 ≤ sizeLine; decide), fun c4 hc4 => ?_⟩
    have y4 := Same.new (o := .lst [.ref xa]) hc4
    refine ⟨c3, c4, _, _, rfl, rfl, y4 _ _ upd_same, upd_same, ?_, fun c5 hc5 => ?_⟩
    · rw [List.length_append, List.length_take, List.length_take]
      exact len1000 (by show _ + 1 ≤ _; (first | lia | omega))
    have y5 := Same.new (o := .lst (ys.take i ++ (ys.drop (i + 1)).take 1 ++ [.ref xa])) hc5
    have y15 := y1.trans (y2.trans (y3.trans (y4.trans y5)))
    refine ⟨_, rfl, _, rfl, _, _, rfl, rfl, _, rfl, S, _, rfl, SqL.of (y15 _ _ h1), fun c6 hc6 => ?_⟩
    rw [show (i : Int) + 2 = ((i + 2 : Nat) : Int) by (first | lia | omega), cut_from]
    have y6 := Same.new (o := .lst (ys.drop (i + 2))) hc6
    refine ⟨c5, c6, _, _, rfl, rfl, y6 _ _ upd_same, upd_same, ?_, fun c7 hc7 => ?_⟩
    · rw [List.length_append, List.length_append, List.length_take, List.length_take, List.length_drop, List.length_drop]
      exact len1000 (by show _ + 1 + _ ≤ _; (first | lia | omega))
    have y7 := Same.new (o := .lst (ys.take i ++ (ys.drop (i + 1)).take 1 ++ [.ref xa] ++ ys.drop (i + 2))) hc7
    have y := y15.trans (y6.trans y7)
    have h2' := h2.mono y.tk
    refine t6 c7 _ (rs2.take i ++ (rs2.drop (i + 1)).take 1 ++ [r] ++ rs2.drop (i + 2)) _ (sH.trans y) (sH.free (y15.free (y6.free hc7))) upd_same (Paired.app (Paired.app (Paired.app (pd_take h2' i) (pd_take (pd_drop h2' (i + 1)) 1)) (.cons (hrr.mono (sH.trans y).tk) .nil)) (pd_drop h2' (i + 2))) (fun x hx => ?_) ?_ fun z => by (first | lia | omega)
    · rcases List.mem_append.mp hx with hx | hx
      · rcases List.mem_append.mp hx with hx | hx
        · rcases List.mem_append.mp hx with hx | hx
          · exact h3 x (List.mem_of_mem_take hx)
          · exact h3 x (List.mem_of_mem_drop (List.mem_of_mem_take hx))
        · rw [List.mem_singleton.mp hx]
          exact okr
      · exact h3 x (List.mem_of_mem_drop hx)
    · rw [List.length_append, List.length_append, List.length_append, List.length_singleton, List.length_take, List.length_take, List.length_drop, List.length_drop]
      (first | lia | omega)
  show u4 _ [some (.ref L), some (.ref wa), some (.int wy), some (.int c), some (.ref S), some (.int (i : Int)), some (.ref xa), none] H1
  refine by_eq e4 ?_
  refine ⟨_, rfl, rfl, _, rfl, ite2 (fun cw => ?_) (fun _ => t5 xs rs H1 s1 hS1 hrs1 hok hrl (by (first | lia | omega)) fun _ => hri)⟩
  have cw : wy = 1 := by have := of_decide_eq_true cw; injection this
  have hx1 := s1 _ _ hxa
  refine ⟨_, rfl, xa, _, 0, _, rfl, rfl, SqT.of hx1, g0, _, rfl, _, _, rfl, rfl, ⟨by decide, by decide⟩, _, rfl, wa, _, rfl, .inl (SqL.of (s1 _ _ hwa)), _, _, rfl, rfl, _, _, rfl, rfl, (by show (0 : Int) < (((words SL G).map V.str).length : Int) + 5; (first | lia | omega)), _, _, rfl, rfl, (by show 2 ≤ sizeLine; decide), fun n1 hn1 => ?_⟩
  have y1 := Same.new (o := .tup [.str r.wd, .int (c / 9 % ((((words SL G).map V.str).length : Int) + 5) - 2)]) hn1
  refine ⟨_, rfl, _, rfl, xa, zs, rfl, y1 _ _ hx1, fun n2 H2 y2 hn2 => ?_⟩
  have e2 : cutV zs (some 2) none = zs.drop 2 := cut_from zs 2
  rw [e2] at hn2
  refine ⟨n1, n2, _, _, rfl, rfl, y2 _ _ upd_same, hn2, ?_, fun n3 H3 y3 hn3 => ?_⟩
  · have : zs.length ≤ 3 := by
      cases r with
      | put p t w =>
        obtain ⟨x, b', q', ys, e, h1, _⟩ := hrr
        injection e with e
        subst e
        rw [h1] at hxa
        injection hxa with hxa
        injection hxa with hxa
        subst hxa
        exact Nat.le_refl _
      | cut p =>
        obtain ⟨x, e, h1⟩ := hrr
        injection e with e
        subst e
        rw [h1] at hxa
        injection hxa with hxa
        injection hxa with hxa
        subst hxa
        exact (by show 2 ≤ 3; decide)
      | name p t =>
        obtain ⟨x, e, h1⟩ := hrr
        injection e with e
        subst e
        rw [h1] at hxa
        injection hxa with hxa
        injection hxa with hxa
        subst hxa
        exact Nat.le_refl _
    rw [List.length_drop]
    exact len1000 (by show 2 + (zs.length - 2) ≤ 100000; (first | lia | omega))
  have y := y1.trans (y2.trans y3)
  have rp : RepR H3 (.ref n3) (r.move (c / 9 % ((((words SL G).map V.str).length : Int) + 5) - 2)) := RepR.moved (s1.trans y).tk hrr hxa hn3
  obtain ⟨k1, k2, k3, k4⟩ := setK H3 xs rs S n3 (r.move (c / 9 % ((((words SL G).map V.str).length : Int) + 5) - 2)) (s1.trans y) hS (y _ _ hS1) (hrs1.mono y.tk) hok rp (Rc.move_ok okr)
  refine ⟨_, rfl, _, rfl, S, xs, (i : Int), i, rfl, rfl, y _ _ hS1, ixN_at hil, ?_⟩
  exact t5 _ _ _ k1 upd_same k2 k3 (by (first | lia | omega)) (by (first | lia | omega)) fun z => by (first | lia | omega)
def spIsTagA : Sp := fun vs H Q _ => ∃ z : Str, vs = [.str z] ∧ AscL z ∧ z.length ≤ 100000 ∧ Q (.bl (tagB z)) H
theorem ok_l_is_tag (B : ∀ x ∈ blts, mg x = none) (F : Fun K "_law_is_tag" "_law_is_tag" s_l_is_tag f fd) : FnOk P w K mg base CX0 1 f fd ["_law_word_here"] spIsTagA := by
  refine F.ok sc_l_is_tag (fun vs H Q E h => ?_) (fun cdv A outer s H vs Q E hr h => ?_)
  · obtain ⟨z, rfl, _⟩ := h
    rfl
  obtain ⟨z, rfl, ha, hl, q⟩ := h
  refine ⟨_, (pss_cons (ps_for PassesOwn.never rfl (pi_str (pv 0)) (pg_name (i := 1) sc_l_is_tag.nd rfl (Or.inl rfl))
      (pss_one (ps_if (pt_cmpR op_notIn_str (pv 1) pe_str (by with_unfolding_all rfl))
          (pss_one (ps_ret pe_bl))
          pss_nil)))
    (pss_one (ps_ret (pe_chain op_le op_le pe_int (pe_callB call_len_str rfl (B "len" (by decide)) PySem.boot_len (pa_cons (pv 0) pa_nil)) pe_int)))), ?_⟩
  refine ⟨_, rfl, z, rfl, ha.asc, for_str (fun i σ H1 => ∃ v1 : Option V, σ = [some (.str z), v1] ∧ H1 = H ∧ (z.cps.toList.take i).all azB = true) ⟨none, rfl, rfl, rfl⟩ ?_ ?_⟩
  · rintro i c σ H1 hi ⟨v1, rfl, rfl, hall⟩
    have hc : c < 128 := ha c (List.mem_of_getElem? hi)
    have hno := notin_az hc
    refine ⟨_, rfl, _, ABC, rfl, rfl, _, rfl, ?_⟩
    rw [hno, Bool.not_not]
    have hs := all_take_succ hi
    cases hb : azB c with
    | true =>
      refine iteF ⟨_, rfl, rfl, ?_⟩
      rw [hs, hall, hb]
      rfl
    | false =>
      refine iteT ?_
      have : tagB z = false := by
        unfold tagB
        have : z.cps.toList.all azB = false := by
          rw [List.all_eq_false]
          exact ⟨c, List.mem_of_getElem? hi, by rw [hb]; exact Bool.false_ne_true⟩
        rw [this, Bool.and_false]
      rw [this] at q
      exact q
  · rintro σ H1 ⟨v1, rfl, rfl, hall⟩
    rw [List.take_length] at hall
    unfold tagB at q
    rw [hall, Bool.and_true] at q
    refine ⟨_, rfl, z, rfl, len1000 (by (first | lia | omega)), _, _, rfl, rfl, _, rfl, ?_⟩
    refine ite2 (fun c => ?_) (fun c => ?_)
    · have c1 : 1 ≤ z.length := by
        have := of_decide_eq_true c
        (first | lia | omega)
      rw [decide_eq_true c1, Bool.true_and] at q
      refine ⟨_, _, rfl, rfl, ?_⟩
      have e8 : decide (((z.length : Nat) : Int) ≤ 8) = decide (z.length ≤ 8) := decide_eq_decide.mpr (by (first | lia | omega))
      show Q (.bl (decide (((z.length : Nat) : Int) ≤ 8))) _
      rw [e8]
      exact q
    · have c1 : ¬ 1 ≤ z.length := fun h => c (decide_eq_true (by show (1 : Int) ≤ ((z.length : Nat) : Int); (first | lia | omega)))
      rw [decide_eq_false c1, Bool.false_and] at q
      exact q
def spRight82 : Sp := fun vs H Q _ => ∃ (wa ca : Addr) (G : Gr Str) (xs : List V) (rs : List Rc), vs = [.ref wa, .ref ca] ∧ H wa = some (.lst ((words SL G).map V.str)) ∧ Clean SL G ∧ gsz G ≤ 100 ∧ H ca = some (.lst xs) ∧ RcL H xs rs ∧ (∀ r ∈ rs, r.Ok) ∧ rs.length ≤ 30 ∧ (Rgt G rs → ∀ H', Same H H' → Q (.bl true) H') ∧ (¬ Rgt G rs → ∀ H', Same H H' → Q (.bl false) H')
set_option maxHeartbeats 4000000 in
theorem ok_l_right (B : ∀ x ∈ blts, mg x = none) (g_l_is_tag : Has P w K mg base "_law_is_tag" ["_law_word_here"] 1 spIsTagA) (g_l_close : Has P w K mg base "_law_close" ["_law_words_here", "_law_place"] 1 spClose82) (F : Fun K "_law_right" "_law_right" s_l_right f fd) : FnOk P w K mg base CX0 2 f fd ["_law_words_here", "_law_changes"] spRight82 := by
  refine F.ok sc_l_right (fun vs H Q E h => ?_) (fun cdv A outer s H vs Q E hr h => ?_)
  · obtain ⟨wa, ca, G, xs, rs, rfl, _⟩ := h
    rfl
  obtain ⟨wa, ca, G, xs, rs, rfl, hwa, hc, hz, hca, hrs, hok, hrl, q1, q2⟩ := h
  have hwl := gsz_words G
  have hn := prs_nd hc
  have hxl : xs.length = rs.length := Paired.length hrs
  refine hideI ((defBody s_l_right).drop 1) (pss_one (ps_ret pe_bl)) (fun u1 h1 e1 => ?_)
  refine hideI ((sBody ((sBody ((defBody s_l_right).getD 0 (.Pass ⟨0, 0, 0, 0⟩))).getD 7 (.Pass ⟨0, 0, 0, 0⟩))).drop 0) (pss_one (ps_if (PW.pt (pw_or (pt_cmpR op_lt (pe_ix ix_tup (pv 6) pe_int (fun _ _ => rfl)) (pv 4) (nomark _)) (pw_or (PW.pt (pw_and (pt_cmpR op_eq (pe_ix ix_tup (pv 6) pe_int (fun _ _ => rfl)) (pv 4) (nomark _)) (pw_and1 (pt_cmpR op_ne (pv 3) pe_str (nomark _))))) (pw_or1 (pt_chain op_lt op_le (pv 4) (pe_ix ix_tup (pv 6) pe_int (fun _ _ => rfl)) (pv 5))))))
      (pss_one (ps_ret pe_bl))
      pss_nil)) (fun u0_7_0 h0_7_0 e0_7_0 => ?_)
  refine hideI ((sBody ((defBody s_l_right).getD 0 (.Pass ⟨0, 0, 0, 0⟩))).drop 7) (pss_one (ps_for PassesOwn.never rfl (pi_list (pe_slice sl_list (pv 1) (po_some (pe_op op_add (pv 2) pe_int)) po_none)) (pg_name (i := 6) sc_l_right.nd rfl (Or.inl rfl))
      h0_7_0)) (fun u0_7 h0_7 e0_7 => ?_)
  refine hideI ((sBody ((defBody s_l_right).getD 0 (.Pass ⟨0, 0, 0, 0⟩))).drop 6) (pss_cons (ps_if (pt_cmpR op_eq (pv 3) pe_str (nomark _))
      (pss_one (ps_set (i := 5) sc_l_right.nd rfl (Or.inl rfl) (pe_has g_l_close hr rfl (pa_cons (pv 0) (pa_cons (pv 4) pa_nil)))))
      pss_nil) h0_7) (fun u0_6 h0_6 e0_6 => ?_)
  refine hideI ((sBody ((defBody s_l_right).getD 0 (.Pass ⟨0, 0, 0, 0⟩))).drop 5) (pss_cons (ps_set (i := 5) sc_l_right.nd rfl (Or.inl rfl) (pv 4)) h0_6) (fun u0_5 h0_5 e0_5 => ?_)
  refine hideI ((sBody ((defBody s_l_right).getD 0 (.Pass ⟨0, 0, 0, 0⟩))).drop 4) (pss_cons (ps_if (PW.pt (pw_and (pt_cmpR op_eq (pv 3) pe_str (nomark _)) (pw_and1 (pt_not (pt_truth (pe_has g_l_is_tag hr rfl (pa_cons (pe_ix ix_tup (pe_ix ix_list (pv 1) (pv 2) (fun _ _ => rfl)) pe_int (fun _ _ => rfl)) pa_nil)) (fun _ => rfl))))))
      (pss_one (ps_ret pe_bl))
      pss_nil) h0_5) (fun u0_4 h0_4 e0_4 => ?_)
  refine hideI ((sBody ((defBody s_l_right).getD 0 (.Pass ⟨0, 0, 0, 0⟩))).drop 3) (pss_cons (ps_if (PW.pt (pw_and (pt_cmpR op_ne (pv 3) pe_str (nomark _)) (pw_and1 (PW.pt (pw_or (pt_cmpR op_eq (pv 4) (pe_callB call_len_seq rfl (B "len" (by decide)) PySem.boot_len (pa_cons (pv 0) pa_nil)) (nomark _)) (pw_or1 (pt_cmpR op_eq (pe_ix ix_list (pv 0) (pv 4) (fun _ _ => rfl)) pe_str (nomark _))))))))
      (pss_one (ps_ret pe_bl))
      pss_nil) h0_4) (fun u0_3 h0_3 e0_3 => ?_)
  refine hideI ((sBody ((defBody s_l_right).getD 0 (.Pass ⟨0, 0, 0, 0⟩))).drop 2) (pss_cons (ps_if (PW.pt (pw_or (pt_cmpR op_lt (pv 4) pe_int (nomark _)) (pw_or1 (pt_cmpR op_gt (pv 4) (pe_callB call_len_seq rfl (B "len" (by decide)) PySem.boot_len (pa_cons (pv 0) pa_nil)) (nomark _)))))
      (pss_one (ps_ret pe_bl))
      pss_nil) h0_3) (fun u0_2 h0_2 e0_2 => ?_)
  refine hideI ((sBody ((defBody s_l_right).getD 0 (.Pass ⟨0, 0, 0, 0⟩))).drop 1) (pss_cons (ps_set (i := 4) sc_l_right.nd rfl (Or.inl rfl) (pe_ix ix_tup (pe_ix ix_list (pv 1) (pv 2) (fun _ _ => rfl)) pe_int (fun _ _ => rfl))) h0_2) (fun u0_1 h0_1 e0_1 => ?_)
  refine hideI ((sBody ((defBody s_l_right).getD 0 (.Pass ⟨0, 0, 0, 0⟩))).drop 0) (pss_cons (ps_set (i := 3) sc_l_right.nd rfl (Or.inl rfl) (pe_ix ix_tup (pe_ix ix_list (pv 1) (pv 2) (fun _ _ => rfl)) pe_int (fun _ _ => rfl))) h0_1) (fun u0_0 h0_0 e0_0 => ?_)
  refine hideI ((defBody s_l_right).drop 0) (pss_cons (ps_for PassesOwn.never rfl (pi_range1 rfl (B "range" (by decide)) (pa_cons (pe_callB call_len_seq rfl (B "len" (by decide)) PySem.boot_len (pa_cons (pv 1) pa_nil)) pa_nil)) (pg_name (i := 2) sc_l_right.nd rfl (Or.inl rfl))
      h0_0) h1) (fun u0 h0 e0 => ?_)
  refine ⟨u0, h0, ?_⟩
  refine by_eq e0 ?_
  refine ⟨_, rfl, ca, _, rfl, .inl (SqL.of hca), _, rfl, by (first | lia | omega), by (first | lia | omega), for_range (lo := 0) (n := ((xs.length : Nat) : Int).toNat) (fun i σ H1 => ∃ (v2 v3 v4 v5 v6 : Option V), σ = [some (.ref wa), some (.ref ca), v2, v3, v4, v5, v6] ∧ Same H H1 ∧ (Rgt G rs ↔ Rgt G (rs.drop i)))
    ⟨none, none, none, none, none, rfl, Same.refl _, Iff.rfl⟩ ?_ ?_⟩
  · rintro i σ H1 hi ⟨v2, v3, v4, v5, v6, rfl, s1, hch⟩
    rw [Int.toNat_natCast] at hi
    have hxi : xs[i]? = some xs[i] := List.getElem?_eq_getElem hi
    obtain ⟨r, hri, hrr⟩ := paired_at hrs i _ hxi
    have okr := hok r (List.mem_of_getElem? hri)
    have hrr1 := hrr.mono s1.tk
    obtain ⟨xa, zs, exa, hxa, g0, g1⟩ := hrr1.at
    rw [exa] at hxi hrr1
    have hdr : rs.drop i = r :: rs.drop (i + 1) := by
      obtain ⟨h1, h2⟩ := List.getElem?_eq_some_iff.mp hri
      rw [List.drop_eq_getElem_cons h1, h2]
    rw [hdr] at hch
    have hca1 := s1 _ _ hca
    have hwa1 := s1 _ _ hwa
    have hat : atI xs (0 + (i : Int)) = some (.ref xa) := by
      rw [show (0 : Int) + (i : Int) = (i : Int) by (first | lia | omega)]
      exact atI_nat hxi
    have lenE : (((words SL G).map V.str).length : Int) = ((2 * gsz G : Nat) : Int) := by rw [List.length_map, hwl]
    show u0_0 _ [some (.ref wa), some (.ref ca), some (.int (0 + (i : Int))), v3, v4, v5, v6] H1
    refine by_eq e0_0 ?_
    refine ⟨_, rfl, _, rfl, ca, _, _, _, rfl, rfl, SqL.of hca1, hat, xa, _, 0, _, rfl, rfl, SqT.of hxa, g0, ?_⟩
    show u0_1 _ [some (.ref wa), some (.ref ca), some (.int (0 + (i : Int))), some (.str r.wd), v4, v5, v6] H1
    refine by_eq e0_1 ?_
    refine ⟨_, rfl, _, rfl, ca, _, _, _, rfl, rfl, SqL.of hca1, hat, xa, _, 1, _, rfl, rfl, SqT.of hxa, g1, ?_⟩
    show u0_2 _ [some (.ref wa), some (.ref ca), some (.int (0 + (i : Int))), some (.str r.wd), some (.int r.pl), v5, v6] H1
    -- the others behind it
    have inner : ∀ (c : Ch) (far : Int) (H2 : Hp), Cv G r c → Same H1 H2 → (∀ y : Int, (y < r.pl ∨ (y = r.pl ∧ r.wd ≠ "put") ∨ (r.pl < y ∧ y ≤ far)) ↔ ¬ ((c.beh : Int) ≤ y)) →
        ∀ D : Ends, D.rt = Q → (∀ σ H', (∃ (v2 v3 v4 v5 v6 : Option V), σ = [some (.ref wa), some (.ref ca), v2, v3, v4, v5, v6] ∧ Same H H' ∧ (Rgt G rs ↔ Rgt G (rs.drop (i + 1)))) → D.nx σ H') → u0_7 D [some (.ref wa), some (.ref ca), some (.int (0 + (i : Int))), some (.str r.wd), some (.int r.pl), some (.int far), v6] H2 := fun c far H2 hcv s2 hfar D hrt hD => by
      refine by_eq e0_7 ?_
      have s12 := s1.trans s2
      have hca2 := s12 _ _ hca
      refine ⟨_, rfl, _, rfl, _, _, rfl, rfl, _, rfl, ca, _, rfl, SqL.of hca2, fun L2 hL2 => ?_⟩
      rw [show (0 : Int) + (i : Int) + 1 = ((i + 1 : Nat) : Int) by (first | lia | omega), cut_from]
      have s3 := Same.new (o := .lst (xs.drop (i + 1))) hL2
      have s13 := s12.trans s3
      have hL3 : (upd H2 L2 (.lst (xs.drop (i + 1)))) L2 = some (.lst (xs.drop (i + 1))) := upd_same
      generalize upd H2 L2 (.lst (xs.drop (i + 1))) = H3 at s3 s13 hL3 ⊢
      have hrs3 := pd_drop (hrs.mono s13.tk) (i + 1)
      refine ⟨L2, rfl, ⟨_, SqL.of hL3⟩, for_list (K := K) (a := L2) (xs := xs.drop (i + 1)) (fun j σ H4 => ∃ v6 : Option V, σ = [some (.ref wa), some (.ref ca), some (.int (0 + (i : Int))), some (.str r.wd), some (.int r.pl), some (.int far), v6] ∧ H4 = H3 ∧ ∀ x ∈ (rs.drop (i + 1)).take j, (c.beh : Int) ≤ x.pl)
        ⟨v6, rfl, rfl, fun _ h => (nomatch h)⟩ ?_ ?_ ?_⟩
      · rintro j σ H4 _ ⟨_, _, rfl, _⟩
        exact SqL.of hL3
      · rintro j y σ H4 hy ⟨v6, rfl, rfl, hall⟩
        obtain ⟨x, hxj, hxr⟩ := paired_at hrs3 j y hy
        obtain ⟨ya, ys, rfl, hya, k0, k1⟩ := hxr.at
        have hxm : x ∈ rs.drop (i + 1) := List.mem_of_getElem? hxj
        have bad : ¬ ((c.beh : Int) ≤ x.pl) → D.rt (.bl false) H4 := fun nb => by
          rw [hrt]
          refine q2 (fun z => ?_) _ s13
          obtain ⟨⟨c', h1, h2⟩, _⟩ := hch.mp z
          rw [← hcv.fn hn h1] at h2
          exact nb (h2 x hxm)
        have good : (c.beh : Int) ≤ x.pl → ∀ v : Option V, ∃ v6 : Option V, [some (V.ref wa), some (.ref ca), some (.int (0 + (i : Int))), some (.str r.wd), some (.int r.pl), some (.int far), v] = [some (V.ref wa), some (.ref ca), some (.int (0 + (i : Int))), some (.str r.wd), some (.int r.pl), some (.int far), v6] ∧ H4 = H4 ∧ ∀ x ∈ (rs.drop (i + 1)).take (j + 1), (c.beh : Int) ≤ x.pl := fun g v => ⟨v, rfl, rfl, fun z hz => by
          rw [take_succ' hxj] at hz
          rcases List.mem_append.mp hz with hz | hz
          · exact hall z hz
          · rw [List.mem_singleton.mp hz]
            exact g⟩
        have hf := hfar x.pl
        refine by_eq e0_7_0 ?_
        refine ⟨_, rfl, ya, _, 1, _, rfl, rfl, SqT.of hya, k1, _, rfl, _, _, rfl, rfl, _, rfl, ite2 (fun cA => ?_) (fun cA => ?_)⟩
        · have cA : x.pl < r.pl := of_decide_eq_true cA
          exact iteT (bad (hf.mp (.inl cA)))
        have nA : ¬ x.pl < r.pl := fun z => cA (decide_eq_true z)
        refine ⟨_, rfl, ya, _, 1, _, rfl, rfl, SqT.of hya, k1, _, rfl, rfl, _, rfl, ite2 (fun cB => ?_) (fun cB => ?_)⟩
        · have cB : x.pl = r.pl := by have := of_decide_eq_true cB; injection this
          refine ⟨_, rfl, rfl, _, rfl, ite2 (fun cC => ?_) (fun cC => ?_)⟩
          · have cC : r.wd ≠ "put" := fun z => by
              rw [z] at cC
              revert cC
              decide
            exact iteT (bad (hf.mp (.inr (.inl ⟨cB, cC⟩))))
          · have nC : ¬ r.wd ≠ "put" := fun z => cC (by simp [z])
            refine ⟨_, rfl, _, rfl, ya, _, 1, _, rfl, rfl, SqT.of hya, k1, _, _, rfl, rfl, _, rfl, ite2 (fun cD => ?_) (fun cD => ?_)⟩
            · have cD : r.pl < x.pl := of_decide_eq_true cD
              (first | lia | omega)
            · refine ⟨false, rfl, iteF (good ?_ _)⟩
              by_cases g : (c.beh : Int) ≤ x.pl
              · exact g
              · rcases hf.mpr g with h | h | h
                · exact absurd h nA
                · exact absurd h.2 nC
                · (first | lia | omega)
        · have nB : ¬ x.pl = r.pl := fun z => cB (decide_eq_true (congrArg V.int z))
          refine iteF ⟨_, rfl, _, rfl, ya, _, 1, _, rfl, rfl, SqT.of hya, k1, _, _, rfl, rfl, _, rfl, ite2 (fun cD => ?_) (fun cD => ?_)⟩
          · have cD : r.pl < x.pl := of_decide_eq_true cD
            refine ⟨_, rfl, _, _, rfl, rfl, _, rfl, ite2 (fun cE => ?_) (fun cE => ?_)⟩
            · have cE : x.pl ≤ far := of_decide_eq_true cE
              exact bad (hf.mp (.inr (.inr ⟨cD, cE⟩)))
            · have nE : ¬ x.pl ≤ far := fun z => cE (decide_eq_true z)
              refine good ?_ _
              by_cases g : (c.beh : Int) ≤ x.pl
              · exact g
              · rcases hf.mpr g with h | h | h
                · exact absurd h nA
                · exact absurd h.1 nB
                · exact absurd h.2 nE
          · have nD : ¬ r.pl < x.pl := fun z => cD (decide_eq_true z)
            (first | lia | omega)
      · rintro σ H4 ⟨v6, rfl, rfl, hall⟩
        refine hD _ _ ⟨_, _, _, _, _, rfl, s13, hch.trans ⟨fun z => z.2, fun z => ⟨⟨c, hcv, fun x hx => hall x ?_⟩, z⟩⟩⟩
        rw [List.take_of_length_le (by rw [List.length_drop, List.length_drop]; (first | lia | omega))]
        exact hx
    have badpl : ¬ (0 ≤ r.pl ∧ r.pl ≤ ((2 * gsz G : Nat) : Int)) → ¬ Rgt G rs := fun nb z => by
      obtain ⟨⟨c, h1, _⟩, _⟩ := hch.mp z
      obtain ⟨p1, p2, _⟩ := h1.pl
      exact nb (by (first | lia | omega))
    refine by_eq e0_2 ?_
    refine ⟨_, rfl, _, _, rfl, rfl, _, rfl, ite2 (fun cA => iteT ?_) (fun cA => ?_)⟩
    · have cA : r.pl < 0 := of_decide_eq_true cA
      exact q2 (badpl (by (first | lia | omega))) _ s1
    have nA : ¬ r.pl < 0 := fun z => cA (decide_eq_true z)
    refine ⟨_, rfl, _, rfl, wa, _, rfl, .inl (SqL.of hwa1), _, _, rfl, rfl, _, rfl, ite2 (fun cB => ?_) (fun cB => ?_)⟩
    · have cB : r.pl > (((words SL G).map V.str).length : Int) := of_decide_eq_true cB
      rw [lenE] at cB
      exact q2 (badpl (by (first | lia | omega))) _ s1
    have nB : ¬ r.pl > (((words SL G).map V.str).length : Int) := fun z => cB (decide_eq_true z)
    rw [lenE] at nB
    obtain ⟨pn, hpn⟩ : ∃ pn : Nat, r.pl = (pn : Int) := ⟨r.pl.toNat, by (first | lia | omega)⟩
    show u0_3 _ [some (.ref wa), some (.ref ca), some (.int (0 + (i : Int))), some (.str r.wd), some (.int r.pl), v5, v6] H1
    refine by_eq e0_3 ?_
    cases r with
    | put p t w =>
      obtain rfl : p = (pn : Int) := hpn
      have nB : ¬ (pn : Int) > ((2 * gsz G : Nat) : Int) := nB
      refine ⟨_, rfl, rfl, _, rfl, iteF (iteF ?_)⟩
      show u0_4 _ _ _
      refine by_eq e0_4 ?_
      refine ⟨_, rfl, rfl, _, rfl, iteF (iteF ?_)⟩
      show u0_5 _ _ _
      refine by_eq e0_5 ?_
      refine ⟨_, rfl, ?_⟩
      show u0_6 _ _ _
      refine by_eq e0_6 ?_
      refine ⟨_, rfl, rfl, _, rfl, iteF ?_⟩
      refine inner (.put pn t w) (pn : Int) H1 ⟨pn, rfl, by (first | lia | omega), rfl⟩ (Same.refl _) (fun y => ?_) _ rfl fun σ H' h => h
      show (y < (pn : Int) ∨ (y = (pn : Int) ∧ ("put" : Str) ≠ "put") ∨ ((pn : Int) < y ∧ y ≤ (pn : Int))) ↔ ¬ ((pn : Int) ≤ y)
      constructor
      · rintro (h | h | h)
        · (first | lia | omega)
        · exact absurd rfl h.2
        · (first | lia | omega)
      · intro h
        exact .inl (by (first | lia | omega))
    | cut p =>
      obtain rfl : p = (pn : Int) := hpn
      have nob : (∀ e, (pn, e) ∉ prs 0 G) → ¬ Rgt G rs := fun no z => by
        obtain ⟨⟨c, ⟨n', e', e1, e2, _⟩, _⟩, _⟩ := hch.mp z
        obtain rfl : pn = n' := by (first | lia | omega)
        exact no e' e2
      refine ⟨_, rfl, rfl, _, rfl, iteT ?_⟩
      refine ⟨_, rfl, _, rfl, wa, _, rfl, .inl (SqL.of hwa1), rfl, _, rfl, ite2 (fun cC => ?_) (fun cC => ?_)⟩
      · have cC : (pn : Int) = (((words SL G).map V.str).length : Int) := by have := of_decide_eq_true cC; injection this
        rw [lenE] at cC
        refine iteT (q2 (nob fun e he => ?_) _ s1)
        have := prs_top he
        (first | lia | omega)
      have nC : ¬ (pn : Int) = (((words SL G).map V.str).length : Int) := fun z => cC (decide_eq_true (congrArg V.int z))
      rw [lenE] at nC
      have nB : ¬ (pn : Int) > ((2 * gsz G : Nat) : Int) := nB
      have hpl : pn < (words SL G).length := by (first | lia | omega)
      refine ⟨_, rfl, _, rfl, wa, _, _, _, rfl, rfl, SqL.of hwa1, strs_at hpl, rfl, _, rfl, ite2 (fun cS => ?_) (fun cS => ?_)⟩
      · have cS : (words SL G)[pn] = SL := by have := of_decide_eq_true cS; injection this
        refine q2 (nob fun e he => ?_) _ s1
        obtain ⟨t, h1, h2⟩ := prs_word hc he
        rw [List.getElem?_eq_getElem hpl] at h1
        injection h1 with h1
        exact h2 (h1 ▸ cS)
      have nS : (words SL G)[pn] ≠ SL := fun z => cS (decide_eq_true (congrArg V.str z))
      obtain ⟨e, he⟩ := prs_tag G 0 pn _ hc (List.getElem?_eq_getElem hpl) nS
      rw [Nat.zero_add] at he
      obtain ⟨t1, t2⟩ := prs_top he
      show u0_4 _ _ _
      refine by_eq e0_4 ?_
      refine ⟨_, rfl, rfl, _, rfl, iteF (iteF ?_)⟩
      show u0_5 _ _ _
      refine by_eq e0_5 ?_
      refine ⟨_, rfl, ?_⟩
      show u0_6 _ _ _
      refine by_eq e0_6 ?_
      refine ⟨_, rfl, rfl, _, rfl, iteT ?_⟩
      refine ⟨_, rfl, _, rfl, wa, G, pn, e, rfl, hwa1, hc, he, ?_⟩
      refine inner (.cut pn e) (e : Int) H1 ⟨pn, e, rfl, he, rfl⟩ (Same.refl _) (fun y => ?_) _ rfl fun σ H' h => h
      show (y < (pn : Int) ∨ (y = (pn : Int) ∧ ("cut" : Str) ≠ "put") ∨ ((pn : Int) < y ∧ y ≤ (e : Int))) ↔ ¬ (((e + 1 : Nat) : Int) ≤ y)
      have ne : ("cut" : Str) ≠ "put" := by decide
      constructor
      · rintro (h | h | h) <;> (first | lia | omega)
      · intro h
        by_cases h1 : y < (pn : Int)
        · exact .inl h1
        · by_cases h2 : y = (pn : Int)
          · exact .inr (.inl ⟨h2, ne⟩)
          · exact .inr (.inr (by (first | lia | omega)))
    | name p t =>
      obtain rfl : p = (pn : Int) := hpn
      obtain ⟨o1, o2, o3⟩ := okr
      have nob : (∀ e, (pn, e) ∉ prs 0 G) → ¬ Rgt G rs := fun no z => by
        obtain ⟨⟨c, ⟨n', e', e1, e2, _⟩, _⟩, _⟩ := hch.mp z
        obtain rfl : pn = n' := by (first | lia | omega)
        exact no e' e2
      obtain ⟨x, ex, h1⟩ := id hrr1
      injection ex with ex
      subst ex
      refine ⟨_, rfl, rfl, _, rfl, iteT ?_⟩
      refine ⟨_, rfl, _, rfl, wa, _, rfl, .inl (SqL.of hwa1), rfl, _, rfl, ite2 (fun cC => ?_) (fun cC => ?_)⟩
      · have cC : (pn : Int) = (((words SL G).map V.str).length : Int) := by have := of_decide_eq_true cC; injection this
        rw [lenE] at cC
        refine iteT (q2 (nob fun e he => ?_) _ s1)
        have := prs_top he
        (first | lia | omega)
      have nC : ¬ (pn : Int) = (((words SL G).map V.str).length : Int) := fun z => cC (decide_eq_true (congrArg V.int z))
      rw [lenE] at nC
      have nB : ¬ (pn : Int) > ((2 * gsz G : Nat) : Int) := nB
      have hpl : pn < (words SL G).length := by (first | lia | omega)
      refine ⟨_, rfl, _, rfl, wa, _, _, _, rfl, rfl, SqL.of hwa1, strs_at hpl, rfl, _, rfl, ite2 (fun cS => ?_) (fun cS => ?_)⟩
      · have cS : (words SL G)[pn] = SL := by have := of_decide_eq_true cS; injection this
        refine q2 (nob fun e he => ?_) _ s1
        obtain ⟨t, h1, h2⟩ := prs_word hc he
        rw [List.getElem?_eq_getElem hpl] at h1
        injection h1 with h1
        exact h2 (h1 ▸ cS)
      have nS : (words SL G)[pn] ≠ SL := fun z => cS (decide_eq_true (congrArg V.str z))
      obtain ⟨e, he⟩ := prs_tag G 0 pn _ hc (List.getElem?_eq_getElem hpl) nS
      rw [Nat.zero_add] at he
      show u0_4 _ _ _
      refine by_eq e0_4 ?_
      refine ⟨_, rfl, rfl, _, rfl, iteT ⟨_, rfl, _, rfl, ca, _, _, _, rfl, rfl, SqL.of hca1, hat, xa, _, 2, _, rfl, rfl, SqT.of h1, rfl, t, rfl, o2, by (first | lia | omega), ?_⟩⟩
      cases ct : tagB t with
      | false =>
        refine ⟨_, rfl, iteT (q2 (fun z => ?_) _ s1)⟩
        obtain ⟨⟨c, ⟨n', e', e1, e2, e3, _⟩, _⟩, _⟩ := hch.mp z
        rw [ct] at e3
        cases e3
      | true =>
        refine ⟨_, rfl, iteF ?_⟩
        show u0_5 _ _ _
        refine by_eq e0_5 ?_
        refine ⟨_, rfl, ?_⟩
        show u0_6 _ _ _
        refine by_eq e0_6 ?_
        refine ⟨_, rfl, rfl, _, rfl, iteF ?_⟩
        refine inner (.name pn t) (pn : Int) H1 ⟨pn, e, rfl, he, ct, rfl⟩ (Same.refl _) (fun y => ?_) _ rfl fun σ H' h => h
        show (y < (pn : Int) ∨ (y = (pn : Int) ∧ ("name" : Str) ≠ "put") ∨ ((pn : Int) < y ∧ y ≤ (pn : Int))) ↔ ¬ (((pn + 1 : Nat) : Int) ≤ y)
        have ne : ("name" : Str) ≠ "put" := by decide
        constructor
        · rintro (h | h | h) <;> (first | lia | omega)
        · intro h
          by_cases h1 : y < (pn : Int)
          · exact .inl h1
          · exact .inr (.inl ⟨by (first | lia | omega), ne⟩)
  · rintro σ H1 ⟨v2, v3, v4, v5, v6, rfl, s1, hch⟩
    rw [Int.toNat_natCast, hxl, List.drop_length] at hch
    show u1 _ _ _
    refine by_eq e1 ?_
    exact q1 (hch.mpr trivial) H1 s1
def spDue82 : Sp := fun vs H Q _ => ∃ (wa ca : Addr) (G : Gr Str) (xs : List V) (rs : List Rc) (cs : List Ch), vs = [.ref wa, .ref ca] ∧ H wa = some (.lst ((words SL G).map V.str)) ∧ Clean SL G ∧ gsz G ≤ 100 ∧ H ca = some (.lst xs) ∧ RcL H xs rs ∧ (∀ r ∈ rs, r.Ok) ∧ Paired (Cv G) rs cs ∧ ∀ H', Same H H' → Q (.int (costs cs : Int)) H'
theorem costs_succ {cs : List Ch} {i : Nat} {c : Ch} (h : cs[i]? = some c) : costs (cs.take (i + 1)) = costs (cs.take i) + c.cost := by
  rw [take_succ' h, costs_app]
  simp [costs]
set_option maxHeartbeats 2000000 in
theorem ok_l_due (B : ∀ x ∈ blts, mg x = none) (g_l_words : Has P w K mg base "_law_words" ["_law_row"] 30 (spLWords 30)) (g_l_close : Has P w K mg base "_law_close" ["_law_words_here", "_law_place"] 1 spClose82) (F : Fun K "_law_due" "_law_due" s_l_due f fd) : FnOk P w K mg base CX0 31 f fd ["_law_words_here", "_law_changes"] spDue82 := by
  refine F.ok sc_l_due (fun vs H Q E h => ?_) (fun cdv A outer s H vs Q E hr h => ?_)
  · obtain ⟨wa, ca, G, xs, rs, cs, rfl, _⟩ := h
    rfl
  obtain ⟨wa, ca, G, xs, rs, cs, rfl, hwa, hc, hz, hca, hrs, hok, hcv, q⟩ := h
  have hxl : xs.length = rs.length := Paired.length hrs
  have hcl : rs.length = cs.length := Paired.length hcv
  refine hideI ((defBody s_l_due).drop 2) (pss_one (ps_ret (pv 2))) (fun u2 h2 e2 => ?_)
  refine hideI ((sBody ((defBody s_l_due).getD 1 (.Pass ⟨0, 0, 0, 0⟩))).drop 2) (pss_one (ps_if (pt_cmpR op_eq (pe_ix ix_tup (pv 3) pe_int (fun _ _ => rfl)) pe_str (nomark _))
      (pss_one (ps_set (i := 2) sc_l_due.nd rfl (Or.inl rfl) (pe_op op_add (pv 2) (pe_op op_fdiv (pe_op op_sub (pe_op op_add (pe_has g_l_close hr rfl (pa_cons (pv 0) (pa_cons (pe_ix ix_tup (pv 3) pe_int (fun _ _ => rfl)) pa_nil))) pe_int) (pe_ix ix_tup (pv 3) pe_int (fun _ _ => rfl))) pe_int))))
      pss_nil)) (fun u1_2 h1_2 e1_2 => ?_)
  refine hideI ((sBody ((defBody s_l_due).getD 1 (.Pass ⟨0, 0, 0, 0⟩))).drop 1) (pss_cons (ps_if (pt_cmpR op_eq (pe_ix ix_tup (pv 3) pe_int (fun _ _ => rfl)) pe_str (nomark _))
      (pss_one (ps_set (i := 2) sc_l_due.nd rfl (Or.inl rfl) (pe_op op_add (pv 2) pe_int)))
      pss_nil) h1_2) (fun u1_1 h1_1 e1_1 => ?_)
  refine hideI ((sBody ((defBody s_l_due).getD 1 (.Pass ⟨0, 0, 0, 0⟩))).drop 0) (pss_cons (ps_if (pt_cmpR op_eq (pe_ix ix_tup (pv 3) pe_int (fun _ _ => rfl)) pe_str (nomark _))
      (pss_one (ps_set (i := 2) sc_l_due.nd rfl (Or.inl rfl) (pe_op op_add (pv 2) (pe_op op_fdiv (pe_callB call_len_seq rfl (B "len" (by decide)) PySem.boot_len (pa_cons (pe_has g_l_words hr rfl (pa_cons (pe_tup (pa_cons (pe_ix ix_tup (pv 3) pe_int (fun _ _ => rfl)) pa_nil)) pa_nil)) pa_nil)) pe_int))))
      pss_nil) h1_1) (fun u1_0 h1_0 e1_0 => ?_)
  refine hideI ((defBody s_l_due).drop 1) (pss_cons (ps_for PassesOwn.never rfl (pi_list (pv 1)) (pg_name (i := 3) sc_l_due.nd rfl (Or.inl rfl))
      h1_0) h2) (fun u1 h1 e1 => ?_)
  refine hideI ((defBody s_l_due).drop 0) (pss_cons (ps_set (i := 2) sc_l_due.nd rfl (Or.inl rfl) pe_int) h1) (fun u0 h0 e0 => ?_)
  refine ⟨u0, h0, ?_⟩
  refine by_eq e0 ?_
  show u1 _ _ _
  refine by_eq e1 ?_
  refine ⟨_, rfl, ca, rfl, ⟨_, SqL.of hca⟩, for_list (K := K) (a := ca) (xs := xs) (fun i σ H1 => ∃ v3 : Option V, σ = [some (.ref wa), some (.ref ca), some (.int (costs (cs.take i) : Int)), v3] ∧ Same H H1)
    ⟨none, rfl, Same.refl _⟩ ?_ ?_ ?_⟩
  · rintro i σ H1 _ ⟨_, _, s1⟩
    exact SqL.of (s1 _ _ hca)
  · rintro i x σ H1 hx ⟨v3, rfl, s1⟩
    obtain ⟨r, hri, hrr⟩ := paired_at hrs i x hx
    obtain ⟨c, hci, hcr⟩ := paired_at hcv i r hri
    have okr := hok r (List.mem_of_getElem? hri)
    have hrr := hrr.mono s1.tk
    have e := costs_succ hci
    have hwa1 := s1 _ _ hwa
    cases r with
    | put p t w =>
      obtain ⟨xa, b', q', ys, rfl, h1, h2, h3, h4⟩ := hrr
      obtain ⟨n, e1, e2, rfl⟩ := hcr
      have okz : gsz w ≤ 10 := okr.1
      show u1_0 _ [some (.ref wa), some (.ref ca), some (.int (costs (cs.take i) : Int)), some (.ref xa)] H1
      refine by_eq e1_0 ?_
      refine ⟨_, rfl, xa, _, 0, _, rfl, rfl, SqT.of h1, rfl, rfl, _, rfl, iteT ?_⟩
      refine ⟨_, rfl, _, rfl, xa, _, 2, _, rfl, rfl, SqT.of h1, rfl, (by show 1 ≤ sizeLine; decide), fun p1 hp1 => ?_⟩
      have k7 := Same.new (o := .tup [.ref b']) hp1
      have gd := gdep_le (.cons t w .nil)
      have gz : gsz (.cons t w .nil) = 1 + gsz w + 0 := rfl
      refine ⟨p1, _, .cons t w .nil, rfl, upd_same, .cons (k7 _ _ h2) (k7 _ _ h3) (h4.mono k7.tk) .nil, by (first | lia | omega), by (first | lia | omega), fun l H8 s8 hl0 hl8 => ?_⟩
      refine ⟨l, _, rfl, .inl (SqL.of hl8), _, _, rfl, rfl, ⟨by decide, by decide⟩, _, _, rfl, rfl, ?_⟩
      have s18 := s1.trans (k7.trans s8)
      have hlen : ((((words SL (.cons t w .nil)).map V.str).length : Int)) / 2 = ((1 + gsz w : Nat) : Int) := by
        rw [List.length_map, gsz_words]
        (first | lia | omega)
      show u1_1 _ [some (.ref wa), some (.ref ca), some (.int ((costs (cs.take i) : Int) + (((words SL (.cons t w .nil)).map V.str).length : Int) / 2)), some (.ref xa)] H8
      rw [hlen, show (costs (cs.take i) : Int) + ((1 + gsz w : Nat) : Int) = ((costs (cs.take (i + 1)) : Nat) : Int) by rw [e]; show _ = ((_ + (1 + gsz w) : Nat) : Int); (first | lia | omega)]
      refine by_eq e1_1 ?_
      have h18 := (k7.trans s8) _ _ h1
      refine ⟨_, rfl, xa, _, 0, _, rfl, rfl, SqT.of h18, rfl, rfl, _, rfl, iteF ?_⟩
      show u1_2 _ _ _
      refine by_eq e1_2 ?_
      exact ⟨_, rfl, xa, _, 0, _, rfl, rfl, SqT.of h18, rfl, rfl, _, rfl, iteF ⟨_, rfl, s18⟩⟩
    | cut p =>
      obtain ⟨xa, rfl, h1⟩ := hrr
      obtain ⟨n, m, rfl, e2, rfl⟩ := hcr
      obtain ⟨t1, t2⟩ := prs_top e2
      show u1_0 _ [some (.ref wa), some (.ref ca), some (.int (costs (cs.take i) : Int)), some (.ref xa)] H1
      refine by_eq e1_0 ?_
      refine ⟨_, rfl, xa, _, 0, _, rfl, rfl, SqT.of h1, rfl, rfl, _, rfl, iteF ?_⟩
      show u1_1 _ _ _
      refine by_eq e1_1 ?_
      refine ⟨_, rfl, xa, _, 0, _, rfl, rfl, SqT.of h1, rfl, rfl, _, rfl, iteF ?_⟩
      show u1_2 _ _ _
      refine by_eq e1_2 ?_
      refine ⟨_, rfl, xa, _, 0, _, rfl, rfl, SqT.of h1, rfl, rfl, _, rfl, iteT ?_⟩
      refine ⟨_, rfl, _, rfl, _, rfl, xa, _, 1, _, rfl, rfl, SqT.of h1, rfl, wa, G, n, m, rfl, hwa1, hc, e2, _, _, rfl, rfl, _, rfl, xa, _, 1, _, rfl, rfl, SqT.of h1, rfl, _, _, rfl, rfl, _, _, rfl, rfl, ⟨by decide, by decide⟩, _, _, rfl, rfl, ?_⟩
      refine ⟨some (.ref xa), ?_, s1⟩
      rw [e]
      show [_, _, some (V.int ((costs (cs.take i) : Int) + ((m : Int) + 1 - (n : Int)) / 2)), _] = [_, _, some (V.int ((costs (cs.take i) + (m + 1 - n) / 2 : Nat) : Int)), _]
      rw [show ((costs (cs.take i) + (m + 1 - n) / 2 : Nat) : Int) = (costs (cs.take i) : Int) + ((m : Int) + 1 - (n : Int)) / 2 by (first | lia | omega)]
    | name p t =>
      obtain ⟨xa, rfl, h1⟩ := hrr
      obtain ⟨n, m, rfl, e2, e3, rfl⟩ := hcr
      show u1_0 _ [some (.ref wa), some (.ref ca), some (.int (costs (cs.take i) : Int)), some (.ref xa)] H1
      refine by_eq e1_0 ?_
      refine ⟨_, rfl, xa, _, 0, _, rfl, rfl, SqT.of h1, rfl, rfl, _, rfl, iteF ?_⟩
      show u1_1 _ _ _
      refine by_eq e1_1 ?_
      refine ⟨_, rfl, xa, _, 0, _, rfl, rfl, SqT.of h1, rfl, rfl, _, rfl, iteT ?_⟩
      refine ⟨_, rfl, _, _, rfl, rfl, ?_⟩
      show u1_2 _ [some (.ref wa), some (.ref ca), some (.int ((costs (cs.take i) : Int) + 1)), some (.ref xa)] H1
      refine by_eq e1_2 ?_
      refine ⟨_, rfl, xa, _, 0, _, rfl, rfl, SqT.of h1, rfl, rfl, _, rfl, iteF ⟨some (.ref xa), ?_, s1⟩⟩
      rw [e]
      rfl
  · rintro σ H1 ⟨v3, rfl, s1⟩
    rw [show xs.length = cs.length by (first | lia | omega), List.take_length]
    show u2 _ _ _
    refine by_eq e2 ?_
    exact ⟨_, rfl, q H1 s1⟩
theorem bt_ValueError : bootBuiltins "ValueError" = some (.type "ValueError") := by decide +kernel
theorem fm_nil {α : Type} {p : α → Prop} : ∀ x ∈ ([] : List α), p x := fun _ h => absurd h (List.not_mem_nil)
theorem fm_cons {α : Type} {p : α → Prop} {a : α} {l : List α} (h : p a) (t : ∀ x ∈ l, p x) : ∀ x ∈ a :: l, p x := fun x hx => (List.mem_cons.mp hx).elim (fun e => e ▸ h) (t x)
/-- all is kept but errors -/
def Kp (H H' : Hp) : Prop := ∀ b o, H b = some o → (∀ x, o ≠ .ext x) → H' b = some o
theorem Kp.same {H H' : Hp} (s : Same H H') : Kp H H' := fun b o h _ => s b o h
theorem Kp.trans {H H1 H2 : Hp} (a : Kp H H1) (b : Kp H1 H2) : Kp H H2 := fun c o h n => b c o (a c o h n) n
theorem Kp.ext {H H1 : Hp} {e : Addr} {x : Heap → Prop} {o : HO} (a : Kp H H1) (h : H1 e = some (.ext x)) : Kp H (upd H1 e o) := fun b u q n => by
  have q1 := a b u q n
  have : b ≠ e := fun z => by
    rw [z, h] at q1
    exact n x (Option.some.inj q1).symm
  rw [upd_ne this]
  exact q1
theorem Kp.tk {H H' : Hp} (k : Kp H H') : TK H H' := fun b xs e => k b _ e fun _ z => nomatch z
/-- what the makers are given -/
structure Gvn (H : Hp) (ga ca : Addr) (G : Gr Str) (rs : List Rc) : Prop where
  gv : ∃ xs, H ga = some (.tup xs) ∧ RepG H xs G
  cl : Clean SL G
  lw : LetW (words SL G)
  sz : gsz G ≤ 100
  cv : ∃ vs', H ca = some (.lst vs') ∧ RcL H vs' rs
  ok : ∀ r ∈ rs, r.Ok
  ln : rs.length ≤ 30
theorem Gvn.kp {H H' : Hp} {ga ca : Addr} {G : Gr Str} {rs : List Rc} (h : Gvn H ga ca G rs) (k : Kp H H') : Gvn H' ga ca G rs := by
  obtain ⟨⟨xs, a, b⟩, h2, h3, h4, ⟨vs', c, d⟩, h6, h7⟩ := h
  exact ⟨⟨xs, k.tk _ _ a, b.mono k.tk⟩, h2, h3, h4, ⟨vs', k _ _ c (fun _ z => (nomatch z)), d.mono k.tk⟩, h6, h7⟩
def spPriced82 : Sp := fun vs H Q _ => ∃ (ga ca : Addr) (G : Gr Str) (rs : List Rc), vs = [.ref ga, .ref ca] ∧ Gvn H ga ca G rs ∧
  (Chn G 0 rs → ∀ cs, Paired (Cv G) rs cs → ∀ (r : Addr) (H' : Hp), Kp H H' → H' r = some (.tup [.int (costs cs : Int), .non]) → Q (.ref r) H') ∧ (¬ Chn G 0 rs → ∀ (r : Addr) (H' : Hp), Kp H H' → H' r = some (.tup [.non, .bl true]) → Q (.ref r) H')
def spMade82 : Sp := fun vs H Q _ => ∃ (ga ca : Addr) (G : Gr Str) (rs : List Rc), vs = [.ref ga, .ref ca] ∧ Gvn H ga ca G rs ∧
  (Chn G 0 rs → ∀ (r a : Addr) (zs : List V) (H' : Hp), Kp H H' → H' r = some (.tup [.ref a, .non]) → H' a = some (.tup zs) → Q (.ref r) H') ∧ (¬ Chn G 0 rs → ∀ (r : Addr) (H' : Hp), Kp H H' → H' r = some (.tup [.non, .bl true]) → Q (.ref r) H')
set_option maxHeartbeats 1000000 in
theorem ok_l_priced (B : ∀ x ∈ blts, mg x = none) (xc : XC K mg X_GroveError X_NoGrove X_BadForm X_TooMany X_TooBig X_NoneFits X_NoBook X_TwiceNamed X_NoName X_Ring X_BadChanger X_NoRecipe X_NotStraight X_NoChange X_NoRow) (g_price : HasX P w K mg base "price" ["grove", "changes"] 4 (spPriX X_NoChange)) (F : Fun K "_law_priced" "_law_priced" s_l_priced f fd) : FnOk P w K mg base CX0 5 f fd ["_law_grove_here", "_law_changes"] spPriced82 := by
  refine F.ok sc_l_priced (fun vs H Q E h => ?_) (fun cdv A outer s H vs Q E hr h => ?_)
  · obtain ⟨ga, ca, G, rs, rfl, _⟩ := h
    rfl
  obtain ⟨ga, ca, G, rs, rfl, ⟨⟨xs, hga, hG⟩, hc, hlw, hz, ⟨vs', hca, hrs⟩, hok, hln⟩, q1, q2⟩ := h
  refine ⟨_, (pss_cons (ps_set (i := 2) sc_l_priced.nd rfl (Or.inl rfl) pe_non)
    (pss_cons (ps_set (i := 3) sc_l_priced.nd rfl (Or.inl rfl) pe_non)
    (pss_cons (ps_try rfl rfl (fun E pins E₁ hT hp => (pss_one (ps_set (i := 2) sc_l_priced.nd rfl (Or.inl rfl) (pe_hasX g_price hT hr rfl (pa_cons (pv 0) (pa_cons (pv 1) pa_nil))))))
      (ph_skip (fun e => (pe_tup (pa_cons (pe_glob (v := .ref X_BadChanger) rfl xc.n_BadChanger rfl) (pa_cons (pe_glob (v := .ref X_BadForm) rfl xc.n_BadForm rfl) (pa_cons (pe_glob (v := .ref X_NoBook) rfl xc.n_NoBook rfl) (pa_cons (pe_glob (v := .ref X_NoGrove) rfl xc.n_NoGrove rfl) (pa_cons (pe_glob (v := .ref X_NoName) rfl xc.n_NoName rfl) (pa_cons (pe_glob (v := .ref X_NoneFits) rfl xc.n_NoneFits rfl) (pa_cons (pe_glob (v := .ref X_NoRecipe) rfl xc.n_NoRecipe rfl) (pa_cons (pe_glob (v := .ref X_NoRow) rfl xc.n_NoRow rfl) pa_nil))))))))))
      (ph_skip (fun e => (pe_tup (pa_cons (pe_glob (v := .ref X_NotStraight) rfl xc.n_NotStraight rfl) (pa_cons (pe_glob (v := .ref X_Ring) rfl xc.n_Ring rfl) (pa_cons (pe_glob (v := .ref X_TooBig) rfl xc.n_TooBig rfl) (pa_cons (pe_glob (v := .ref X_TooMany) rfl xc.n_TooMany rfl) (pa_cons (pe_glob (v := .ref X_TwiceNamed) rfl xc.n_TwiceNamed rfl) pa_nil)))))))
      (ph_as (i := 4) (rest := []) (fun e => (pe_glob (v := .ref X_NoChange) rfl xc.n_NoChange rfl)) sc_l_priced.nd rfl rfl (fun e => (pss_one (ps_set (i := 3) sc_l_priced.nd rfl (Or.inl rfl) (pe_and (pe_callB (call_xisRK (K := K) rfl) rfl (B "isinstance" (by decide)) bt_isinstance (pa_cons (pv 4) (pa_cons (pe_glob (v := .ref X_GroveError) rfl xc.n_GroveError rfl) pa_nil))) (pe_one (pe_callB (call_xisTK (K := K) rfl) rfl (B "isinstance" (by decide)) bt_isinstance (pa_cons (pv 4) (pa_cons (pe_ty rfl (B "ValueError" (by decide)) bt_ValueError) pa_nil))))))))))))
    (pss_one (ps_ret (pe_tup (pa_cons (pv 2) (pa_cons (pv 3) pa_nil)))))))), ?_⟩
  refine ⟨fun σ' C d H' => σ' = [some (.ref ga), some (.ref ca), some .non, some .non, none] ∧ C = .ref X_NoChange ∧ ¬ Chn G 0 rs ∧ d = none ∧ Same H H', ?_, ?_⟩
  · refine ⟨_, rfl, _, rfl, ga, ca, xs, vs', G, rs, rfl, hga, hG, hc, hz, hca, hrs, hok, hln, fun ch cs hcv H' s4 => ?_, fun nch H' s4 => ⟨rfl, rfl, nch, rfl, s4⟩⟩
    refine ⟨_, rfl, _, rfl, (by show 2 ≤ sizeLine; decide), fun r hr => ?_⟩
    exact q1 ch cs hcv r _ (Kp.same (s4.trans (Same.new hr))) upd_same
  · rintro σ' C d H' e oe ⟨rfl, rfl, hb, rfl, sm⟩ he hc hd hf
    have k0 : Kp H (upd H' e (Known e oe)) := (Kp.same sm).ext he
    have e3 : (upd H' e (Known e oe)) e = some (Known e oe) := upd_same
    generalize upd H' e (Known e oe) = H1 at k0 e3
    refine ⟨(by show 8 ≤ sizeLine; decide), fun t1 h1 => ?_⟩
    have s1 := Same.new (o := .tup [.ref X_BadChanger, .ref X_BadForm, .ref X_NoBook, .ref X_NoGrove, .ref X_NoName, .ref X_NoneFits, .ref X_NoRecipe, .ref X_NoRow]) h1
    refine ⟨[X_BadChanger, X_BadForm, X_NoBook, X_NoGrove, X_NoName, X_NoneFits, X_NoRecipe, X_NoRow], X_NoChange, .many (SqT.of upd_same) ?_, hc, ?_, s1 _ _ e3, ?_⟩
    · exact fm_cons xc.c_BadChanger (fm_cons xc.c_BadForm (fm_cons xc.c_NoBook (fm_cons xc.c_NoGrove (fm_cons xc.c_NoName (fm_cons xc.c_NoneFits (fm_cons xc.c_NoRecipe (fm_cons xc.c_NoRow fm_nil)))))))
    · exact fm_cons xc.m_NoChange_BadChanger (fm_cons xc.m_NoChange_BadForm (fm_cons xc.m_NoChange_NoBook (fm_cons xc.m_NoChange_NoGrove (fm_cons xc.m_NoChange_NoName (fm_cons xc.m_NoChange_NoneFits (fm_cons xc.m_NoChange_NoRecipe (fm_cons xc.m_NoChange_NoRow fm_nil)))))))
    refine ⟨(by show 5 ≤ sizeLine; decide), fun t2 h2 => ?_⟩
    have s2 := s1.trans (Same.new (o := .tup [.ref X_NotStraight, .ref X_Ring, .ref X_TooBig, .ref X_TooMany, .ref X_TwiceNamed]) h2)
    refine ⟨[X_NotStraight, X_Ring, X_TooBig, X_TooMany, X_TwiceNamed], X_NoChange, .many (SqT.of upd_same) ?_, hc, ?_, s2 _ _ e3, ?_⟩
    · exact fm_cons xc.c_NotStraight (fm_cons xc.c_Ring (fm_cons xc.c_TooBig (fm_cons xc.c_TooMany (fm_cons xc.c_TwiceNamed fm_nil))))
    · exact fm_cons xc.m_NoChange_NotStraight (fm_cons xc.m_NoChange_Ring (fm_cons xc.m_NoChange_TooBig (fm_cons xc.m_NoChange_TooMany (fm_cons xc.m_NoChange_TwiceNamed fm_nil))))
    refine ⟨[X_NoChange], X_NoChange, fun _ => true, .one xc.c_NoChange, hc, ?_, rfl, s2 _ _ e3, ?_⟩
    · intro D hD
      obtain rfl := List.mem_singleton.mp hD
      exact xc.m_NoChange_NoChange
    refine ⟨_, rfl, e, oe, X_NoChange, X_GroveError, rfl, s2 _ _ e3, hc, xc.ne_NoChange, xc.isG, xc.tyG, xc.m_NoChange_GroveError, true, rfl, iteT ?_⟩
    refine ⟨_, rfl, e, oe, X_NoChange, "ValueError", rfl, s2 _ _ e3, hc, rfl, xc.mV_NoChange, ?_⟩
    refine ⟨_, rfl, _, rfl, (by show 2 ≤ sizeLine; decide), fun r hr => ?_⟩
    exact q2 hb r _ (k0.trans (Kp.same (s2.trans (Same.new hr)))) upd_same
set_option maxHeartbeats 1000000 in
theorem ok_l_made (B : ∀ x ∈ blts, mg x = none) (xc : XC K mg X_GroveError X_NoGrove X_BadForm X_TooMany X_TooBig X_NoneFits X_NoBook X_TwiceNamed X_NoName X_Ring X_BadChanger X_NoRecipe X_NotStraight X_NoChange X_NoRow) (g_done : HasX P w K mg base "done" ["grove", "changes"] 3 (spDoneX X_NoChange)) (F : Fun K "_law_made" "_law_made" s_l_made f fd) : FnOk P w K mg base CX0 4 f fd ["_law_grove_here", "_law_changes"] spMade82 := by
  refine F.ok sc_l_made (fun vs H Q E h => ?_) (fun cdv A outer s H vs Q E hr h => ?_)
  · obtain ⟨ga, ca, G, rs, rfl, _⟩ := h
    rfl
  obtain ⟨ga, ca, G, rs, rfl, ⟨⟨xs, hga, hG⟩, hc, hlw, hz, ⟨vs', hca, hrs⟩, hok, hln⟩, q1, q2⟩ := h
  refine ⟨_, (pss_cons (ps_set (i := 2) sc_l_made.nd rfl (Or.inl rfl) pe_non)
    (pss_cons (ps_set (i := 3) sc_l_made.nd rfl (Or.inl rfl) pe_non)
    (pss_cons (ps_try rfl rfl (fun E pins E₁ hT hp => (pss_one (ps_set (i := 2) sc_l_made.nd rfl (Or.inl rfl) (pe_hasX g_done hT hr rfl (pa_cons (pv 0) (pa_cons (pv 1) pa_nil))))))
      (ph_skip (fun e => (pe_tup (pa_cons (pe_glob (v := .ref X_BadChanger) rfl xc.n_BadChanger rfl) (pa_cons (pe_glob (v := .ref X_BadForm) rfl xc.n_BadForm rfl) (pa_cons (pe_glob (v := .ref X_NoBook) rfl xc.n_NoBook rfl) (pa_cons (pe_glob (v := .ref X_NoGrove) rfl xc.n_NoGrove rfl) (pa_cons (pe_glob (v := .ref X_NoName) rfl xc.n_NoName rfl) (pa_cons (pe_glob (v := .ref X_NoneFits) rfl xc.n_NoneFits rfl) (pa_cons (pe_glob (v := .ref X_NoRecipe) rfl xc.n_NoRecipe rfl) (pa_cons (pe_glob (v := .ref X_NoRow) rfl xc.n_NoRow rfl) pa_nil))))))))))
      (ph_skip (fun e => (pe_tup (pa_cons (pe_glob (v := .ref X_NotStraight) rfl xc.n_NotStraight rfl) (pa_cons (pe_glob (v := .ref X_Ring) rfl xc.n_Ring rfl) (pa_cons (pe_glob (v := .ref X_TooBig) rfl xc.n_TooBig rfl) (pa_cons (pe_glob (v := .ref X_TooMany) rfl xc.n_TooMany rfl) (pa_cons (pe_glob (v := .ref X_TwiceNamed) rfl xc.n_TwiceNamed rfl) pa_nil)))))))
      (ph_as (i := 4) (rest := []) (fun e => (pe_glob (v := .ref X_NoChange) rfl xc.n_NoChange rfl)) sc_l_made.nd rfl rfl (fun e => (pss_one (ps_set (i := 3) sc_l_made.nd rfl (Or.inl rfl) (pe_and (pe_callB (call_xisRK (K := K) rfl) rfl (B "isinstance" (by decide)) bt_isinstance (pa_cons (pv 4) (pa_cons (pe_glob (v := .ref X_GroveError) rfl xc.n_GroveError rfl) pa_nil))) (pe_one (pe_callB (call_xisTK (K := K) rfl) rfl (B "isinstance" (by decide)) bt_isinstance (pa_cons (pv 4) (pa_cons (pe_ty rfl (B "ValueError" (by decide)) bt_ValueError) pa_nil))))))))))))
    (pss_one (ps_ret (pe_tup (pa_cons (pv 2) (pa_cons (pv 3) pa_nil)))))))), ?_⟩
  refine ⟨fun σ' C d H' => σ' = [some (.ref ga), some (.ref ca), some .non, some .non, none] ∧ C = .ref X_NoChange ∧ ¬ Chn G 0 rs ∧ d = none ∧ Same H H', ?_, ?_⟩
  · refine ⟨_, rfl, _, rfl, ga, ca, xs, vs', G, rs, rfl, hga, hG, hc, hlw, hz, hca, hrs, hok, hln, fun ch a zs H' s4 ha => ?_, fun nch H' s4 => ⟨rfl, rfl, nch, rfl, s4⟩⟩
    refine ⟨_, rfl, _, rfl, (by show 2 ≤ sizeLine; decide), fun r hr => ?_⟩
    have s5 := Same.new (o := .tup [.ref a, .non]) hr
    exact q1 ch r a zs _ (Kp.same (s4.trans s5)) upd_same (s5 _ _ ha)
  · rintro σ' C d H' e oe ⟨rfl, rfl, hb, rfl, sm⟩ he hc hd hf
    have k0 : Kp H (upd H' e (Known e oe)) := (Kp.same sm).ext he
    have e3 : (upd H' e (Known e oe)) e = some (Known e oe) := upd_same
    generalize upd H' e (Known e oe) = H1 at k0 e3
    refine ⟨(by show 8 ≤ sizeLine; decide), fun t1 h1 => ?_⟩
    have s1 := Same.new (o := .tup [.ref X_BadChanger, .ref X_BadForm, .ref X_NoBook, .ref X_NoGrove, .ref X_NoName, .ref X_NoneFits, .ref X_NoRecipe, .ref X_NoRow]) h1
    refine ⟨[X_BadChanger, X_BadForm, X_NoBook, X_NoGrove, X_NoName, X_NoneFits, X_NoRecipe, X_NoRow], X_NoChange, .many (SqT.of upd_same) ?_, hc, ?_, s1 _ _ e3, ?_⟩
    · exact fm_cons xc.c_BadChanger (fm_cons xc.c_BadForm (fm_cons xc.c_NoBook (fm_cons xc.c_NoGrove (fm_cons xc.c_NoName (fm_cons xc.c_NoneFits (fm_cons xc.c_NoRecipe (fm_cons xc.c_NoRow fm_nil)))))))
    · exact fm_cons xc.m_NoChange_BadChanger (fm_cons xc.m_NoChange_BadForm (fm_cons xc.m_NoChange_NoBook (fm_cons xc.m_NoChange_NoGrove (fm_cons xc.m_NoChange_NoName (fm_cons xc.m_NoChange_NoneFits (fm_cons xc.m_NoChange_NoRecipe (fm_cons xc.m_NoChange_NoRow fm_nil)))))))
    refine ⟨(by show 5 ≤ sizeLine; decide), fun t2 h2 => ?_⟩
    have s2 := s1.trans (Same.new (o := .tup [.ref X_NotStraight, .ref X_Ring, .ref X_TooBig, .ref X_TooMany, .ref X_TwiceNamed]) h2)
    refine ⟨[X_NotStraight, X_Ring, X_TooBig, X_TooMany, X_TwiceNamed], X_NoChange, .many (SqT.of upd_same) ?_, hc, ?_, s2 _ _ e3, ?_⟩
    · exact fm_cons xc.c_NotStraight (fm_cons xc.c_Ring (fm_cons xc.c_TooBig (fm_cons xc.c_TooMany (fm_cons xc.c_TwiceNamed fm_nil))))
    · exact fm_cons xc.m_NoChange_NotStraight (fm_cons xc.m_NoChange_Ring (fm_cons xc.m_NoChange_TooBig (fm_cons xc.m_NoChange_TooMany (fm_cons xc.m_NoChange_TwiceNamed fm_nil))))
    refine ⟨[X_NoChange], X_NoChange, fun _ => true, .one xc.c_NoChange, hc, ?_, rfl, s2 _ _ e3, ?_⟩
    · intro D hD
      obtain rfl := List.mem_singleton.mp hD
      exact xc.m_NoChange_NoChange
    refine ⟨_, rfl, e, oe, X_NoChange, X_GroveError, rfl, s2 _ _ e3, hc, xc.ne_NoChange, xc.isG, xc.tyG, xc.m_NoChange_GroveError, true, rfl, iteT ?_⟩
    refine ⟨_, rfl, e, oe, X_NoChange, "ValueError", rfl, s2 _ _ e3, hc, rfl, xc.mV_NoChange, ?_⟩
    refine ⟨_, rfl, _, rfl, (by show 2 ≤ sizeLine; decide), fun r hr => ?_⟩
    exact q2 hb r _ (k0.trans (Kp.same (s2.trans (Same.new hr)))) upd_same
def dRc : Rc → PyData
  | .put p t w => .tuple [.str "put", .int p, .tuple [.str t, .tuple (dataG w)]]
  | .cut p => .tuple [.str "cut", .int p]
  | .name p t => .tuple [.str "name", .int p, .str t]
theorem dp_rc {K : PySem.W.Frag} {H : Hp} {v : V} : ∀ {r : Rc}, RepR H v r → Dp K H v (dRc r)
  | .put p t w, ⟨a, b, q, ys, e, h1, h2, h3, h4⟩ => by
    subst e
    exact .tup (SqT.of h1) (.cons (.str _) (.cons (.int _) (.cons (.tup (SqT.of h2) (.cons (.str _) (.cons (.tup (SqT.of h3) (dpG h4)) .nil))) .nil)))
  | .cut p, ⟨a, e, h1⟩ => by
    subst e
    exact .tup (SqT.of h1) (.cons (.str _) (.cons (.int _) .nil))
  | .name p t, ⟨a, e, h1⟩ => by
    subst e
    exact .tup (SqT.of h1) (.cons (.str _) (.cons (.int _) (.cons (.str _) .nil)))
theorem dp_rcs {K : PySem.W.Frag} {H : Hp} : ∀ {vs : List V} {rs : List Rc}, RcL H vs rs → DpAll K H vs (rs.map dRc)
  | _, _, .nil => .nil
  | _, _, .cons h t => .cons (dp_rc h) (dp_rcs t)
theorem put_strOk : PyData.strOk "put" = true := by decide +kernel
theorem cut_strOk : PyData.strOk "cut" = true := by decide +kernel
theorem name_strOk : PyData.strOk "name" = true := by decide +kernel
theorem lay_rc : ∀ {r : Rc}, r.Ok → (dRc r).canLay0 = true ∧ (dRc r).depth ≤ 60
  | .put p t w, ⟨h1, h2, h3⟩ => by
    have ok := h3.ok
    have e : words SL (.cons t w .nil) = t :: (words SL w ++ [SL]) := by simp [words]
    rw [e] at ok
    have ht : PyData.strOk t = true := ok t (by simp)
    have hw : OkW (words SL w) := fun x hx => ok x (by simp [hx])
    constructor
    · show (PyData.strOk "put" && (PyData.canLay0 (.int p) && ((PyData.strOk t && (PyData.canLayAll0 (dataG w) && true)) && true))) = true
      rw [put_strOk, ht, layG w hw]
      rfl
    · have h5 := depthG w
      rw [gsz_words] at h5
      have h6 : (dRc (.put p t w)).depth = max 0 (max 0 (max (max 0 (max (PyData.depthAll (dataG w) + 1) 0) + 1) 0)) + 1 := rfl
      (first | lia | omega)
  | .cut p, _ => ⟨by show (PyData.strOk "cut" && _) = true; rw [cut_strOk]; rfl, by show 1 ≤ 60; decide⟩
  | .name p t, ⟨_, _, h⟩ => ⟨by show (PyData.strOk "name" && (PyData.canLay0 (.int p) && (PyData.strOk t && true))) = true; rw [name_strOk, h]; rfl, by show 1 ≤ 60; decide⟩
theorem lay_rcs : ∀ {rs : List Rc}, (∀ r ∈ rs, r.Ok) → PyData.canLayAll0 (rs.map dRc) = true ∧ PyData.depthAll (rs.map dRc) ≤ 60
  | [], _ => ⟨rfl, Nat.zero_le _⟩
  | r :: rs, h => by
    obtain ⟨h1, h2⟩ := lay_rcs (rs := rs) fun x hx => h x (List.mem_cons_of_mem _ hx)
    obtain ⟨h3, h4⟩ := lay_rc (h r (List.mem_cons_self ..))
    constructor
    · show ((dRc r).canLay0 && PyData.canLayAll0 (rs.map dRc)) = true
      rw [h3, h1]
      rfl
    · show max (dRc r).depth (PyData.depthAll (rs.map dRc)) ≤ 60
      (first | lia | omega)
theorem ne_changes {K : PySem.W.Frag} {H : Hp} {a b : Addr} {xs ys : List V} {rs : List Rc} {Q : VK} (hok : ∀ r ∈ rs, r.Ok) (ha : SqL K H a xs) (hb : SqL K H b ys) (ra : RcL H xs rs) (rb : RcL H ys rs) (q : Q (.bl false) H) : rEqD K true (.ref a) (.ref b) H Q := by
  obtain ⟨h1, h2⟩ := lay_rcs hok
  refine ⟨.list (rs.map dRc), .list (rs.map dRc), .lst ha (dp_rcs ra), .lst hb (dp_rcs rb), h1, h1, ?_, ?_⟩
  · show min (PyData.depthAll (rs.map dRc) + 1) (PyData.depthAll (rs.map dRc) + 1) ≤ 200
    (first | lia | omega)
  · rw [PySem.SeqAt.eqv_refl (PyData.list (rs.map dRc)) h1]
    exact q
set_option maxHeartbeats 4000000 in
theorem ok_law (B : ∀ x ∈ blts, mg x = none) (g_l_pool : Has P w K mg base "_law_pool" ["_law_cell", "_law_many"] 2 spPoolV) (g_l_cell_at : Has P w K mg base "_law_cell_at" ["_law_script", "_law_k"] 1 (spCell K)) (g_l_grove : Has P w K mg base "_law_grove" ["_law_script", "_law_start", "_law_many", "_law_tags"] 2 (spGroveV K)) (g_l_words : Has P w K mg base "_law_words" ["_law_row"] 30 (spLWords 30)) (g_l_drawn : Has P w K mg base "_law_drawn" ["_law_script", "_law_words_here", "_law_tags"] 2 (spDrawn82 K)) (g_l_spoiled : Has P w K mg base "_law_spoiled" ["_law_changes", "_law_words_here", "_law_way", "_law_cell"] 1 spSpoil82) (g_l_priced : Has P w K mg base "_law_priced" ["_law_grove_here", "_law_changes"] 5 spPriced82) (g_l_made : Has P w K mg base "_law_made" ["_law_grove_here", "_law_changes"] 4 spMade82) (g_l_right : Has P w K mg base "_law_right" ["_law_words_here", "_law_changes"] 2 spRight82) (g_l_due : Has P w K mg base "_law_due" ["_law_words_here", "_law_changes"] 31 spDue82) (F : Fun K "law" "law" s_law f fd) : FnOk P w K mg base CX0 32 f fd ["_law_script"] (spLaw K) := by
  refine F.ok sc_law (fun vs H Q E h => ?_) (fun cdv A outer s H vs Q E hr h => ?_)
  · obtain ⟨a, ns, rfl, _⟩ := h
    rfl
  obtain ⟨a, ns, rfl, hS, h63, q⟩ := h
  have hu : (A.deeper (PyProof.Rows.envOfC (Str.ofString "law") (defScope s_law) s.heap.objs.size f cdv)).units + 200 < cLine := by have := hr.un; (first | lia | omega)
  refine hideI ((defBody s_law).drop 7) (pss_one (ps_ret pe_bl)) (fun u7 h7 e7 => ?_)
  refine hideI ((sBody ((sBody ((defBody s_law).getD 6 (.Pass ⟨0, 0, 0, 0⟩))).getD 4 (.Pass ⟨0, 0, 0, 0⟩))).drop 0) (pss_one (ps_if (PW.pt (pw_or (pt_cmpR op_notB (pv 10) pe_bl (nomark _)) (pw_or1 (pt_cmpR op_notB (pv 12) pe_bl (nomark _)))))
      (pss_one (ps_ret pe_bl))
      pss_nil)) (fun u6_4t0 h6_4t0 e6_4t0 => ?_)
  refine hideI ((sElse ((sBody ((defBody s_law).getD 6 (.Pass ⟨0, 0, 0, 0⟩))).getD 4 (.Pass ⟨0, 0, 0, 0⟩))).drop 1) (pss_one (ps_if (PW.pt (pw_or (pt_not (pt_truth (pe_callB call_isinst rfl (B "isinstance" (by decide)) bt_isinstance (pa_cons (pv 9) (pa_cons (pe_ty rfl (B "int" (by decide)) bt_int) pa_nil))) (fun _ => rfl))) (pw_or (pt_truth (pe_callB call_isinst rfl (B "isinstance" (by decide)) bt_isinstance (pa_cons (pv 9) (pa_cons (pe_ty rfl (B "bool" (by decide)) bt_bool) pa_nil))) (fun _ => rfl)) (pw_or1 (pt_cmpR op_ne (pv 9) (pe_has g_l_due hr rfl (pa_cons (pv 3) (pa_cons (pv 7) pa_nil))) (nomark _))))))
      (pss_one (ps_ret pe_bl))
      pss_nil)) (fun u6_4e1 h6_4e1 e6_4e1 => ?_)
  refine hideI ((sElse ((sBody ((defBody s_law).getD 6 (.Pass ⟨0, 0, 0, 0⟩))).getD 4 (.Pass ⟨0, 0, 0, 0⟩))).drop 0) (pss_cons (ps_if (PW.pt (pw_or (pt_cmpR op_notN (pv 10) pe_non (nomark _)) (pw_or (pt_cmpR op_notN (pv 12) pe_non (nomark _)) (pw_or1 (pt_not (pt_truth (pe_callB call_isinst rfl (B "isinstance" (by decide)) bt_isinstance (pa_cons (pv 11) (pa_cons (pe_ty rfl (B "tuple" (by decide)) bt_tuple) pa_nil))) (fun _ => rfl)))))))
      (pss_one (ps_ret pe_bl))
      pss_nil) h6_4e1) (fun u6_4e0 h6_4e0 e6_4e0 => ?_)
  refine hideI ((sBody ((defBody s_law).getD 6 (.Pass ⟨0, 0, 0, 0⟩))).drop 4) (pss_one (ps_if (pt_not (pt_truth (pe_has g_l_right hr rfl (pa_cons (pv 3) (pa_cons (pv 7) pa_nil))) (fun _ => rfl)))
      h6_4t0
      h6_4e0)) (fun u6_4 h6_4 e6_4 => ?_)
  refine hideI ((sBody ((defBody s_law).getD 6 (.Pass ⟨0, 0, 0, 0⟩))).drop 3) (pss_cons (ps_if (pt_cmpR (op_neD hu) (pv 8) (pv 7) (nomark _))
      (pss_one (ps_ret pe_bl))
      pss_nil) h6_4) (fun u6_3 h6_3 e6_3 => ?_)
  refine hideI ((sBody ((defBody s_law).getD 6 (.Pass ⟨0, 0, 0, 0⟩))).drop 2) (pss_cons (ps_asg (pe_has g_l_made hr rfl (pa_cons (pv 2) (pa_cons (pv 8) pa_nil))) (pg_tup rfl (pgs_cons (pg_name (i := 11) sc_law.nd rfl (Or.inl rfl)) (pgs_cons (pg_name (i := 12) sc_law.nd rfl (Or.inl rfl)) pgs_nil)))) h6_3) (fun u6_2 h6_2 e6_2 => ?_)
  refine hideI ((sBody ((defBody s_law).getD 6 (.Pass ⟨0, 0, 0, 0⟩))).drop 1) (pss_cons (ps_asg (pe_has g_l_priced hr rfl (pa_cons (pv 2) (pa_cons (pv 8) pa_nil))) (pg_tup rfl (pgs_cons (pg_name (i := 9) sc_law.nd rfl (Or.inl rfl)) (pgs_cons (pg_name (i := 10) sc_law.nd rfl (Or.inl rfl)) pgs_nil)))) h6_2) (fun u6_1 h6_1 e6_1 => ?_)
  refine hideI ((sBody ((defBody s_law).getD 6 (.Pass ⟨0, 0, 0, 0⟩))).drop 0) (pss_cons (ps_set (i := 8) sc_law.nd rfl (Or.inl rfl) (pe_callTy call_list_of rfl (B "list" (by decide)) bt_list (pa_cons (pv 7) pa_nil))) h6_1) (fun u6_0 h6_0 e6_0 => ?_)
  refine hideI ((defBody s_law).drop 6) (pss_cons (ps_for PassesOwn.never rfl (pi_list (pe_lst (pa_cons (pv 6) (pa_cons (pv 4) (pa_cons (pe_lst pa_nil) (pa_cons (pv 6) pa_nil)))))) (pg_name (i := 7) sc_law.nd rfl (Or.inl rfl))
      h6_0) h7) (fun u6 h6 e6 => ?_)
  refine hideI ((defBody s_law).drop 5) (pss_cons (ps_set (i := 6) sc_law.nd rfl (Or.inl rfl) (pe_has g_l_spoiled hr rfl (pa_cons (pv 4) (pa_cons (pv 3) (pa_cons (pv 5) (pa_cons (pe_has g_l_cell_at hr rfl (pa_cons (pv 0) (pa_cons pe_int pa_nil))) pa_nil)))))) h6) (fun u5 h5 e5 => ?_)
  refine hideI ((defBody s_law).drop 4) (pss_cons (ps_set (i := 5) sc_law.nd rfl (Or.inl rfl) (pe_callB (call_max2 rfl) rfl (B "max" (by decide)) bt_max (pa_cons pe_int (pa_cons (pe_op op_sub (pe_op op_mod (pe_has g_l_cell_at hr rfl (pa_cons (pv 0) (pa_cons pe_int pa_nil))) pe_int) pe_int) pa_nil)))) h5) (fun u4 h4 e4 => ?_)
  refine hideI ((defBody s_law).drop 3) (pss_cons (ps_set (i := 4) sc_law.nd rfl (Or.inl rfl) (pe_has g_l_drawn hr rfl (pa_cons (pv 0) (pa_cons (pv 3) (pa_cons (pv 1) pa_nil))))) h4) (fun u3 h3 e3 => ?_)
  refine hideI ((defBody s_law).drop 2) (pss_cons (ps_set (i := 3) sc_law.nd rfl (Or.inl rfl) (pe_has g_l_words hr rfl (pa_cons (pv 2) pa_nil))) h3) (fun u2 h2 e2 => ?_)
  refine hideI ((defBody s_law).drop 1) (pss_cons (ps_set (i := 2) sc_law.nd rfl (Or.inl rfl) (pe_has g_l_grove hr rfl (pa_cons (pv 0) (pa_cons pe_int (pa_cons (pe_op op_mod (pe_op op_fdiv (pe_has g_l_cell_at hr rfl (pa_cons (pv 0) (pa_cons pe_int pa_nil))) pe_int) pe_int) (pa_cons (pv 1) pa_nil)))))) h2) (fun u1 h1 e1 => ?_)
  refine hideI ((defBody s_law).drop 0) (pss_cons (ps_set (i := 1) sc_law.nd rfl (Or.inl rfl) (pe_has g_l_pool hr rfl (pa_cons (pe_has g_l_cell_at hr rfl (pa_cons (pv 0) (pa_cons pe_int pa_nil))) (pa_cons pe_int pa_nil)))) h1) (fun u0 h0 e0 => ?_)
  refine ⟨u0, h0, ?_⟩
  refine by_eq e0 ?_
  refine ⟨_, rfl, a, ns, 1, rfl, hS, h63, by decide, fun v1 => ⟨v1, 3, rfl, by decide, by decide, fun ta ts H1 s1 hta0 hta htl hts => ?_⟩⟩
  have ht3 : ts.length = 3 := by (first | lia | omega)
  show u1 _ _ _
  refine by_eq e1 ?_
  refine ⟨_, rfl, _, rfl, a, ns, 0, rfl, s1.seq hS, h63, by decide, fun v0 => ⟨_, _, rfl, rfl, ⟨by decide, by decide⟩, _, _, rfl, rfl, (by show (0 : Int) < 11; decide), _, rfl, ?_⟩⟩
  have m0 := Int.emod_nonneg (v0 / 12) (by decide : (11 : Int) ≠ 0)
  have m1 := Int.emod_lt_of_pos (v0 / 12) (by decide : (0 : Int) < 11)
  have tnS : ∀ t ∈ ts, t ≠ SL := fun t ht z => by
    have := tagB_lets (hts t ht).1 (hts t ht).2
    rw [z, tagB_SL] at this
    cases this
  refine ⟨a, ta, ns, 12, _, ts, rfl, s1.seq hS, h63, by decide, by (first | lia | omega), by (first | lia | omega), hta, by (first | lia | omega), tnS, fun ga xs G H2 s2 hga0 hga hG hc hwn hwt => ?_⟩
  have s12 := s1.trans s2
  have hwl := gsz_words G
  have hz : gsz G ≤ 10 := by (first | lia | omega)
  have hlw : LetW (words SL G) := fun x hx => (hwt x hx).elim .inl fun h => .inr (hts x h)
  have gd := gdep_le G
  show u2 _ _ _
  refine by_eq e2 ?_
  refine ⟨_, rfl, ga, xs, G, rfl, hga, hG, by (first | lia | omega), by (first | lia | omega), fun wa H3 s3 hwa0 hwa => ?_⟩
  have s13 := s12.trans s3
  show u3 _ _ _
  refine by_eq e3 ?_
  refine ⟨_, rfl, _, rfl, _, rfl, a, wa, ta, ns, G, ts, rfl, s13.seq hS, h63, hwa, hc, by (first | lia | omega), (s2.trans s3) _ _ hta, ht3, hts, fun Gd gx gr H4 s4 hGd0 hGd hgr hgok hgl => ?_⟩
  have s14 := s13.trans s4
  show u4 _ _ _
  refine by_eq e4 ?_
  refine ⟨_, rfl, a, ns, 0, rfl, s14.seq hS, h63, by decide, fun v2 => ⟨_, _, rfl, rfl, (by show (0 : Int) < 12; decide), _, _, rfl, rfl, _, _, rfl, ?_⟩⟩
  show u5 _ [some (.ref a), some (.ref ta), some (.ref ga), some (.ref wa), some (.ref Gd), some (.int (if v2 % 12 - 6 > 0 then v2 % 12 - 6 else 0)), none, none, none, none, none, none, none] H4
  generalize (if v2 % 12 - 6 > 0 then v2 % 12 - 6 else 0) = wy
  refine by_eq e5 ?_
  have hwa4 := s4 _ _ hwa
  refine ⟨_, rfl, _, rfl, _, rfl, _, rfl, a, ns, 13, rfl, s14.seq hS, h63, by decide, fun v13 => ⟨Gd, wa, G, gx, gr, wy, v13, rfl, hGd, hgr, hgok, hgl, hwa4, by (first | lia | omega), fun Sp sx sr H5 s5 hSp hsr hsok hsl => ?_⟩⟩
  have s45 := s4.trans s5
  show u6 _ _ _
  refine by_eq e6 ?_
  refine ⟨_, rfl, _, rfl, by decide, fun Em hEm => ?_⟩
  have z1 := Same.new (o := .lst []) hEm
  refine ⟨_, rfl, (by show 4 ≤ sizeLine; decide), fun L4 hL4 => ?_⟩
  have z2 := Same.new (o := .lst [.ref Sp, .ref Gd, .ref Em, .ref Sp]) hL4
  have z12 := z1.trans z2
  have hL6 : (upd (upd H5 Em (.lst [])) L4 (.lst [.ref Sp, .ref Gd, .ref Em, .ref Sp])) L4 = some (.lst [.ref Sp, .ref Gd, .ref Em, .ref Sp]) := upd_same
  have hEm6 : (upd (upd H5 Em (.lst [])) L4 (.lst [.ref Sp, .ref Gd, .ref Em, .ref Sp])) Em = some (.lst []) := z2 _ _ upd_same
  have s56 := s5.trans z12
  have hga6 := ((s3.trans s4).trans s56) _ _ hga
  have hG6 := hG.mono ((s3.trans s4).trans s56).tk
  have hwa6 := s56 _ _ hwa4
  have hGd6 := s56 _ _ hGd
  have hgr6 := hgr.mono s56.tk
  have hSp6 := z12 _ _ hSp
  have hsr6 := hsr.mono z12.tk
  generalize upd (upd H5 Em (.lst [])) L4 (.lst [.ref Sp, .ref Gd, .ref Em, .ref Sp]) = H6 at hL6 hEm6 hga6 hG6 hwa6 hGd6 hgr6 hSp6 hsr6 ⊢
  have each : ∀ (j : Nat) (x : V), [V.ref Sp, .ref Gd, .ref Em, .ref Sp][j]? = some x → ∃ (ca : Addr) (cx : List V) (rs : List Rc), x = .ref ca ∧ H6 ca = some (.lst cx) ∧ RcL H6 cx rs ∧ (∀ r ∈ rs, r.Ok) ∧ rs.length ≤ 10 := fun j x hx => by
    match j, hx with
    | 0, hx => injection hx with hx; exact ⟨Sp, sx, sr, hx.symm, hSp6, hsr6, hsok, hsl⟩
    | 1, hx => injection hx with hx; exact ⟨Gd, gx, gr, hx.symm, hGd6, hgr6, hgok, by (first | lia | omega)⟩
    | 2, hx => injection hx with hx; exact ⟨Em, [], [], hx.symm, hEm6, .nil, fun _ h => (nomatch h), by decide⟩
    | 3, hx => injection hx with hx; exact ⟨Sp, sx, sr, hx.symm, hSp6, hsr6, hsok, hsl⟩
    | j + 4, hx => cases hx
  refine ⟨L4, rfl, ⟨_, SqL.of hL6⟩, for_list (K := K) (a := L4) (xs := [.ref Sp, .ref Gd, .ref Em, .ref Sp]) (fun j σ H7 => ∃ (v7 v8 v9 v10 v11 v12 : Option V), σ = [some (.ref a), some (.ref ta), some (.ref ga), some (.ref wa), some (.ref Gd), some (.int wy), some (.ref Sp), v7, v8, v9, v10, v11, v12] ∧ Kp H6 H7)
    ⟨none, none, none, none, none, none, rfl, Kp.same (Same.refl _)⟩ ?_ ?_ ?_⟩
  · rintro j σ H7 _ ⟨_, _, _, _, _, _, _, kp⟩
    exact SqL.of (kp _ _ hL6 fun _ z => nomatch z)
  · rintro j x σ H7 hx ⟨v7, v8, v9, v10, v11, v12, rfl, kp⟩
    obtain ⟨ca, cx, rs, rfl, hca, hrs, hok, hrl⟩ := each j x hx
    have hca7 : H7 ca = some (.lst cx) := kp _ _ hca fun _ z => nomatch z
    have hrs7 := hrs.mono kp.tk
    show u6_0 _ [some (.ref a), some (.ref ta), some (.ref ga), some (.ref wa), some (.ref Gd), some (.int wy), some (.ref Sp), some (.ref ca), v8, v9, v10, v11, v12] H7
    refine by_eq e6_0 ?_
    refine ⟨_, rfl, ca, cx, rfl, .inl (SqL.of hca7), fun hn hhn => ?_⟩
    have y1 := Same.new (o := .lst cx) hhn
    have k8 : Kp H6 (upd H7 hn (.lst cx)) := kp.trans (Kp.same y1)
    have hn8 : (upd H7 hn (.lst cx)) hn = some (.lst cx) := upd_same
    show u6_1 _ [some (.ref a), some (.ref ta), some (.ref ga), some (.ref wa), some (.ref Gd), some (.int wy), some (.ref Sp), some (.ref ca), some (.ref hn), v9, v10, v11, v12] _
    generalize upd H7 hn (.lst cx) = H8 at y1 k8 hn8 ⊢
    have gvn : Gvn H8 ga hn G rs := ⟨⟨xs, k8.tk _ _ hga6, hG6.mono k8.tk⟩, hc, hlw, by (first | lia | omega), ⟨cx, hn8, hrs.mono k8.tk⟩, hok, by (first | lia | omega)⟩
    have hnd := prs_nd hc
    -- behind both answers
    have rest : ∀ (H9 : Hp) (o9 o10 o11 o12 : V), Kp H8 H9 → ((Chn G 0 rs ∧ o10 = .non ∧ o12 = .non ∧ (∃ (ma : Addr) (zs : List V), o11 = .ref ma ∧ H9 ma = some (.tup zs)) ∧ ∀ cs, Paired (Cv G) rs cs → o9 = .int (costs cs : Int)) ∨ (¬ Chn G 0 rs ∧ o10 = .bl true ∧ o12 = .bl true)) →
        ∀ D : Ends, (∀ σ H', (∃ (v7 v8 v9 v10 v11 v12 : Option V), σ = [some (.ref a), some (.ref ta), some (.ref ga), some (.ref wa), some (.ref Gd), some (.int wy), some (.ref Sp), v7, v8, v9, v10, v11, v12] ∧ Kp H6 H') → D.nx σ H') → u6_3 D [some (.ref a), some (.ref ta), some (.ref ga), some (.ref wa), some (.ref Gd), some (.int wy), some (.ref Sp), some (.ref ca), some (.ref hn), some o9, some o10, some o11, some o12] H9 := fun H9 o9 o10 o11 o12 k9 ho D hD => by
      refine by_eq e6_3 ?_
      have k69 := k8.trans k9
      have hca9 : H9 ca = some (.lst cx) := k69 _ _ hca fun _ z => nomatch z
      have hwa9 : H9 wa = some (.lst ((words SL G).map V.str)) := k69 _ _ hwa6 fun _ z => nomatch z
      have hn9 : H9 hn = some (.lst cx) := k9 _ _ hn8 fun _ z => nomatch z
      have hrs9 := hrs.mono k69.tk
      refine ⟨_, rfl, _, rfl, ne_changes hok (SqL.of hn9) (SqL.of hca9) hrs9 hrs9 ⟨_, rfl, iteF ?_⟩⟩
      show u6_4 _ _ _
      refine by_eq e6_4 ?_
      rcases ho with ⟨ch, rfl, rfl, ⟨ma, zs, rfl, hma⟩, hcost⟩ | ⟨nch, rfl, rfl⟩
      · obtain ⟨cs, _, _, hcv, _⟩ := ch.get hrs9 hok
        have ec := hcost cs hcv
        subst ec
        refine ⟨_, rfl, _, rfl, wa, ca, G, cx, rs, rfl, hwa9, hc, by (first | lia | omega), hca9, hrs9, hok, by (first | lia | omega), fun _ Ha sa => ⟨true, rfl, iteF ?_⟩, fun nr => absurd ((chn0_rgt hnd).mp ch) nr⟩
        show u6_4e0 _ _ _
        refine by_eq e6_4e0 ?_
        have ka := k69.trans (Kp.same sa)
        refine ⟨_, rfl, rfl, _, rfl, iteF ⟨_, rfl, rfl, _, rfl, iteF ?_⟩⟩
        refine ⟨_, rfl, .ref ma, "tuple", .type "tuple", true, rfl, .tup (sa _ _ hma), rfl, true, rfl, iteF ?_⟩
        show u6_4e1 _ _ _
        refine by_eq e6_4e1 ?_
        refine ⟨_, rfl, .int (costs cs : Int), "int", .type "int", true, rfl, .int _, rfl, true, rfl, iteF ?_⟩
        refine ⟨_, rfl, .int (costs cs : Int), "bool", .type "int", false, rfl, .int _, rfl, false, rfl, iteF ?_⟩
        refine ⟨_, rfl, _, rfl, _, rfl, wa, ca, G, cx, rs, cs, rfl, sa _ _ hwa9, hc, by (first | lia | omega), sa _ _ hca9, hrs9.mono sa.tk, hok, hcv, fun Hb sb => ⟨rfl, _, rfl, ite2 (fun z => absurd z (by simp)) (fun _ => hD _ _ ⟨_, _, _, _, _, _, rfl, ka.trans (Kp.same sb)⟩)⟩⟩
      · refine ⟨_, rfl, _, rfl, wa, ca, G, cx, rs, rfl, hwa9, hc, by (first | lia | omega), hca9, hrs9, hok, by (first | lia | omega), fun rg => absurd ((chn0_rgt hnd).mpr rg) nch, fun _ Ha sa => ⟨false, rfl, iteT ?_⟩⟩
        have ka := k69.trans (Kp.same sa)
        show u6_4t0 _ _ _
        refine by_eq e6_4t0 ?_
        refine ⟨_, rfl, true, true, rfl, rfl, _, rfl, iteF ⟨_, rfl, true, true, rfl, rfl, _, rfl, iteF (hD _ _ ⟨_, _, _, _, _, _, rfl, ka⟩)⟩⟩
    refine by_eq e6_1 ?_
    refine ⟨_, rfl, _, rfl, ga, hn, G, rs, rfl, gvn, fun ch cs hcv r H9 k9 hr9 => ?_, fun nch r H9 k9 hr9 => ?_⟩
    · refine ⟨r, _, rfl, SqT.of hr9, rfl, _, _, rfl, _, _, rfl, rfl, ?_⟩
      show u6_2 _ _ _
      refine by_eq e6_2 ?_
      refine ⟨_, rfl, _, rfl, ga, hn, G, rs, rfl, gvn.kp k9, fun _ r2 ma zs Ha ka hr2 hma => ?_, fun nch => absurd ch nch⟩
      refine ⟨r2, _, rfl, SqT.of hr2, rfl, _, _, rfl, _, _, rfl, rfl, ?_⟩
      refine rest Ha _ _ _ _ (k9.trans ka) (.inl ⟨ch, rfl, rfl, ⟨ma, zs, rfl, hma⟩, fun cs' hcv' => ?_⟩) _ fun σ H' h => h
      have : ∀ {rs : List Rc} {cs cs' : List Ch}, Paired (Cv G) rs cs → Paired (Cv G) rs cs' → cs = cs' := fun {rs} => by
        induction rs with
        | nil =>
          intro cs cs' h1 h2
          cases h1
          cases h2
          rfl
        | cons y ys ih =>
          intro cs cs' h1 h2
          cases h1 with
          | cons a b =>
            cases h2 with
            | cons c d => rw [a.fn hnd c, ih b d]
      rw [this hcv hcv']
    · refine ⟨r, _, rfl, SqT.of hr9, rfl, _, _, rfl, _, _, rfl, rfl, ?_⟩
      show u6_2 _ _ _
      refine by_eq e6_2 ?_
      refine ⟨_, rfl, _, rfl, ga, hn, G, rs, rfl, gvn.kp k9, fun ch => absurd ch nch, fun _ r2 Ha ka hr2 => ?_⟩
      refine ⟨r2, _, rfl, SqT.of hr2, rfl, _, _, rfl, _, _, rfl, rfl, ?_⟩
      exact rest Ha _ _ _ _ (k9.trans ka) (.inr ⟨nch, rfl, rfl⟩) _ fun σ H' h => h
  · rintro σ H7 ⟨v7, v8, v9, v10, v11, v12, rfl, kp⟩
    show u7 _ _ _
    refine by_eq e7 ?_
    exact q _
end
theorem all_mk {l : PySem.W.OpenLaw} {w : World} {K : PySem.W.Frag} {h : Heap} {mg : Str → Option Value} {fa f1 f2 f3 f4 f5 f6 f7 f8 f9 f10 f11 f12 f13 f14 f15 f16 f17 f18 f19 f20 f21 f22 f23 f24 f25 f26 : Addr} (X : K.In h) (G : h.Ns mainGlobals mg) (hfa : mg "law" = some (.ref fa))
    {od1 an1 od2 an2 od3 an3 od4 an4 od5 an5 od6 an6 od7 an7 od8 an8 od9 an9 od10 an10 od11 an11 od12 an12 od13 an13 od14 an14 od15 an15 od16 an16 od17 an17 od18 an18 od19 an19 od20 an20 od21 an21 od22 an22 od23 an23 od24 an24 od25 an25 od26 an26 : Option Addr} {sl1 sl2 sl3 sl4 sl5 sl6 sl7 sl8 sl9 sl10 sl11 sl12 sl13 sl14 sl15 sl16 sl17 sl18 sl19 sl20 sl21 sl22 sl23 sl24 sl25 sl26 : Array (Option Value)} {oc1 kV1 dc1 pm1 cd1 ct1 oc2 kV2 dc2 pm2 cd2 ct2 oc3 kV3 dc3 pm3 cd3 ct3 oc4 kV4 dc4 pm4 cd4 ct4 oc5 kV5 dc5 pm5 cd5 ct5 oc6 kV6 dc6 pm6 cd6 ct6 oc7 kV7 dc7 pm7 cd7 ct7 oc8 kV8 dc8 pm8 cd8 ct8 oc9 kV9 dc9 pm9 cd9 ct9 oc10 kV10 dc10 pm10 cd10 ct10 oc11 kV11 dc11 pm11 cd11 ct11 oc12 kV12 dc12 pm12 cd12 ct12 oc13 kV13 dc13 pm13 cd13 ct13 oc14 kV14 dc14 pm14 cd14 ct14 oc15 kV15 dc15 pm15 cd15 ct15 oc16 kV16 dc16 pm16 cd16 ct16 oc17 kV17 dc17 pm17 cd17 ct17 oc18 kV18 dc18 pm18 cd18 ct18 oc19 kV19 dc19 pm19 cd19 ct19 oc20 kV20 dc20 pm20 cd20 ct20 oc21 kV21 dc21 pm21 cd21 ct21 oc22 kV22 dc22 pm22 cd22 ct22 oc23 kV23 dc23 pm23 cd23 ct23 oc24 kV24 dc24 pm24 cd24 ct24 oc25 kV25 dc25 pm25 cd25 ct25 oc26 kV26 dc26 pm26 cd26 ct26 : Value}
    {X_GroveError X_NoGrove X_BadForm X_TooMany X_TooBig X_NoneFits X_NoBook X_TwiceNamed X_NoName X_Ring X_BadChanger X_NoRecipe X_NotStraight X_NoChange X_NoRow : Addr}
    (xn_GroveError : PySem.W.nsIn K mainGlobals "GroveError" = some (some (.ref X_GroveError)))
    (xn_NoGrove : PySem.W.nsIn K mainGlobals "NoGrove" = some (some (.ref X_NoGrove)))
    (xn_BadForm : PySem.W.nsIn K mainGlobals "BadForm" = some (some (.ref X_BadForm)))
    (xn_TooMany : PySem.W.nsIn K mainGlobals "TooMany" = some (some (.ref X_TooMany)))
    (xn_TooBig : PySem.W.nsIn K mainGlobals "TooBig" = some (some (.ref X_TooBig)))
    (xn_NoneFits : PySem.W.nsIn K mainGlobals "NoneFits" = some (some (.ref X_NoneFits)))
    (xn_NoBook : PySem.W.nsIn K mainGlobals "NoBook" = some (some (.ref X_NoBook)))
    (xn_TwiceNamed : PySem.W.nsIn K mainGlobals "TwiceNamed" = some (some (.ref X_TwiceNamed)))
    (xn_NoName : PySem.W.nsIn K mainGlobals "NoName" = some (some (.ref X_NoName)))
    (xn_Ring : PySem.W.nsIn K mainGlobals "Ring" = some (some (.ref X_Ring)))
    (xn_BadChanger : PySem.W.nsIn K mainGlobals "BadChanger" = some (some (.ref X_BadChanger)))
    (xn_NoRecipe : PySem.W.nsIn K mainGlobals "NoRecipe" = some (some (.ref X_NoRecipe)))
    (xn_NotStraight : PySem.W.nsIn K mainGlobals "NotStraight" = some (some (.ref X_NotStraight)))
    (xn_NoChange : PySem.W.nsIn K mainGlobals "NoChange" = some (some (.ref X_NoChange)))
    (xn_NoRow : PySem.W.nsIn K mainGlobals "NoRow" = some (some (.ref X_NoRow)))
    {g0 goc : Value} {gdd god : Option Addr} {gcd : ClassData} {gsl gsl' : Array (Option Value)} {ges : Array DictEntry} {gep : Nat} (xg1 : K.lookup X_GroveError = some ⟨g0, gdd, .cls gcd, gsl⟩) (xg2 : K.lookup gcd.ns = some ⟨goc, god, .dict ges gep, gsl'⟩) (xg3 : keysOk ges = true) (xg4 : PySem.W.nsIn K gcd.ns "__init__" = some none)
    (xb1 : PySem.W.specialIn K (.ref X_GroveError) "__getattribute__" = some (some (.builtin "type.__getattribute__"))) (xb2 : PySem.W.readsIn K X_GroveError (.type "type") = true) (xb3 : PySem.W.findCls K (.ref X_GroveError) (.type "type") "__init__" = some (.val (.builtin "ValueError.__init__"))) (xb4 : PySem.W.isClsIn K X_GroveError = true) (xb5 : PySem.W.typeIn K (.ref X_GroveError) = some (.type "type"))
    (d1_GroveError : PySem.W.isClsIn K X_GroveError = true) (d2_GroveError : PySem.W.mroIn K X_GroveError (.type "BaseException") = some true) (d3_GroveError : PySem.W.instIn K (.ref X_GroveError) (.type "tuple") = some false)
    (d1_NoGrove : PySem.W.isClsIn K X_NoGrove = true) (d2_NoGrove : PySem.W.mroIn K X_NoGrove (.type "BaseException") = some true) (d3_NoGrove : PySem.W.instIn K (.ref X_NoGrove) (.type "tuple") = some false)
    (d1_BadForm : PySem.W.isClsIn K X_BadForm = true) (d2_BadForm : PySem.W.mroIn K X_BadForm (.type "BaseException") = some true) (d3_BadForm : PySem.W.instIn K (.ref X_BadForm) (.type "tuple") = some false)
    (d1_TooMany : PySem.W.isClsIn K X_TooMany = true) (d2_TooMany : PySem.W.mroIn K X_TooMany (.type "BaseException") = some true) (d3_TooMany : PySem.W.instIn K (.ref X_TooMany) (.type "tuple") = some false)
    (d1_TooBig : PySem.W.isClsIn K X_TooBig = true) (d2_TooBig : PySem.W.mroIn K X_TooBig (.type "BaseException") = some true) (d3_TooBig : PySem.W.instIn K (.ref X_TooBig) (.type "tuple") = some false)
    (d1_NoneFits : PySem.W.isClsIn K X_NoneFits = true) (d2_NoneFits : PySem.W.mroIn K X_NoneFits (.type "BaseException") = some true) (d3_NoneFits : PySem.W.instIn K (.ref X_NoneFits) (.type "tuple") = some false)
    (d1_NoBook : PySem.W.isClsIn K X_NoBook = true) (d2_NoBook : PySem.W.mroIn K X_NoBook (.type "BaseException") = some true) (d3_NoBook : PySem.W.instIn K (.ref X_NoBook) (.type "tuple") = some false)
    (d1_TwiceNamed : PySem.W.isClsIn K X_TwiceNamed = true) (d2_TwiceNamed : PySem.W.mroIn K X_TwiceNamed (.type "BaseException") = some true) (d3_TwiceNamed : PySem.W.instIn K (.ref X_TwiceNamed) (.type "tuple") = some false)
    (d1_NoName : PySem.W.isClsIn K X_NoName = true) (d2_NoName : PySem.W.mroIn K X_NoName (.type "BaseException") = some true) (d3_NoName : PySem.W.instIn K (.ref X_NoName) (.type "tuple") = some false)
    (d1_Ring : PySem.W.isClsIn K X_Ring = true) (d2_Ring : PySem.W.mroIn K X_Ring (.type "BaseException") = some true) (d3_Ring : PySem.W.instIn K (.ref X_Ring) (.type "tuple") = some false)
    (d1_BadChanger : PySem.W.isClsIn K X_BadChanger = true) (d2_BadChanger : PySem.W.mroIn K X_BadChanger (.type "BaseException") = some true) (d3_BadChanger : PySem.W.instIn K (.ref X_BadChanger) (.type "tuple") = some false)
    (d1_NoRecipe : PySem.W.isClsIn K X_NoRecipe = true) (d2_NoRecipe : PySem.W.mroIn K X_NoRecipe (.type "BaseException") = some true) (d3_NoRecipe : PySem.W.instIn K (.ref X_NoRecipe) (.type "tuple") = some false)
    (d1_NotStraight : PySem.W.isClsIn K X_NotStraight = true) (d2_NotStraight : PySem.W.mroIn K X_NotStraight (.type "BaseException") = some true) (d3_NotStraight : PySem.W.instIn K (.ref X_NotStraight) (.type "tuple") = some false)
    (d1_NoChange : PySem.W.isClsIn K X_NoChange = true) (d2_NoChange : PySem.W.mroIn K X_NoChange (.type "BaseException") = some true) (d3_NoChange : PySem.W.instIn K (.ref X_NoChange) (.type "tuple") = some false)
    (d1_NoRow : PySem.W.isClsIn K X_NoRow = true) (d2_NoRow : PySem.W.mroIn K X_NoRow (.type "BaseException") = some true) (d3_NoRow : PySem.W.instIn K (.ref X_NoRow) (.type "tuple") = some false)
    {nm_NoChange q_NoChange : Str} {N_NoChange : Addr} {bs_NoChange : List Value} {hdct_NoChange : Bool} {sn_NoChange : List Str} {sub_NoChange : List Value} {ab_NoChange : Bool} {col_NoChange : Option Bool} {dd_NoChange : Option Addr} {k0_NoChange k1_NoChange k2_NoChange k3_NoChange k5_NoChange : Option Value}
    (xl_NoChange : K.lookup X_NoChange = some (excClassObj nm_NoChange q_NoChange X_NoChange N_NoChange bs_NoChange (.ref X_GroveError :: bmV) hdct_NoChange sn_NoChange sub_NoChange ab_NoChange col_NoChange dd_NoChange k0_NoChange k1_NoChange k2_NoChange k3_NoChange k5_NoChange "ValueError.__new__"))
    (xc_NoChange : PySem.W.specialIn K (.ref X_NoChange) "__call__" = some (some (.builtin "type.__call__"))) (xt_NoChange : PySem.W.instIn K (.ref X_NoChange) (.type "type") = some true) (xk_NoChange : PySem.W.keepIn K (.ref X_NoChange) = true) (xv_NoChange : PySem.W.mroIn K X_NoChange (.type "ValueError") = some true)
    (xe_NoChange : X_NoChange ≠ X_GroveError)
    (xi_NoChange : PySem.W.findIn K (.ref X_NoChange) "__init__" = some (some (.builtin "ValueError.__init__")))
    (m_NoChange_GroveError : PySem.W.mroIn K X_NoChange (.ref X_GroveError) = some true)
    (m_NoChange_NoGrove : PySem.W.mroIn K X_NoChange (.ref X_NoGrove) = some false)
    (m_NoChange_BadForm : PySem.W.mroIn K X_NoChange (.ref X_BadForm) = some false)
    (m_NoChange_TooMany : PySem.W.mroIn K X_NoChange (.ref X_TooMany) = some false)
    (m_NoChange_TooBig : PySem.W.mroIn K X_NoChange (.ref X_TooBig) = some false)
    (m_NoChange_NoneFits : PySem.W.mroIn K X_NoChange (.ref X_NoneFits) = some false)
    (m_NoChange_NoBook : PySem.W.mroIn K X_NoChange (.ref X_NoBook) = some false)
    (m_NoChange_TwiceNamed : PySem.W.mroIn K X_NoChange (.ref X_TwiceNamed) = some false)
    (m_NoChange_NoName : PySem.W.mroIn K X_NoChange (.ref X_NoName) = some false)
    (m_NoChange_Ring : PySem.W.mroIn K X_NoChange (.ref X_Ring) = some false)
    (m_NoChange_BadChanger : PySem.W.mroIn K X_NoChange (.ref X_BadChanger) = some false)
    (m_NoChange_NoRecipe : PySem.W.mroIn K X_NoChange (.ref X_NoRecipe) = some false)
    (m_NoChange_NotStraight : PySem.W.mroIn K X_NoChange (.ref X_NotStraight) = some false)
    (m_NoChange_NoChange : PySem.W.mroIn K X_NoChange (.ref X_NoChange) = some true)
    (m_NoChange_NoRow : PySem.W.mroIn K X_NoChange (.ref X_NoRow) = some false)
    (a1 : PySem.W.nsIn K mainGlobals "_law_word" = some (some (.ref f1))) (l1 : K.lookup f1 = some ⟨oc1, od1, .func (PySem.W.fnOf "_law_word" "_law_word" (defArgs s_l_word) (defBody s_l_word) (defScope s_l_word) .none kV1 dc1 pm1 an1 cd1 ct1), sl1⟩) (c1 : PySem.W.codeIn K cd1 "_law_word" = true) (k1 : PySem.W.keepIn K (.ref f1) = true)
    (a2 : PySem.W.nsIn K mainGlobals "_law_pool" = some (some (.ref f2))) (l2 : K.lookup f2 = some ⟨oc2, od2, .func (PySem.W.fnOf "_law_pool" "_law_pool" (defArgs s_l_pool) (defBody s_l_pool) (defScope s_l_pool) .none kV2 dc2 pm2 an2 cd2 ct2), sl2⟩) (c2 : PySem.W.codeIn K cd2 "_law_pool" = true) (k2 : PySem.W.keepIn K (.ref f2) = true)
    (a3 : PySem.W.nsIn K mainGlobals "_law_cell_at" = some (some (.ref f3))) (l3 : K.lookup f3 = some ⟨oc3, od3, .func (PySem.W.fnOf "_law_cell_at" "_law_cell_at" (defArgs s_l_cell_at) (defBody s_l_cell_at) (defScope s_l_cell_at) .none kV3 dc3 pm3 an3 cd3 ct3), sl3⟩) (c3 : PySem.W.codeIn K cd3 "_law_cell_at" = true) (k3 : PySem.W.keepIn K (.ref f3) = true)
    (a4 : PySem.W.nsIn K mainGlobals "_law_grove" = some (some (.ref f4))) (l4 : K.lookup f4 = some ⟨oc4, od4, .func (PySem.W.fnOf "_law_grove" "_law_grove" (defArgs s_l_grove) (defBody s_l_grove) (defScope s_l_grove) .none kV4 dc4 pm4 an4 cd4 ct4), sl4⟩) (c4 : PySem.W.codeIn K cd4 "_law_grove" = true) (k4 : PySem.W.keepIn K (.ref f4) = true)
    (a5 : PySem.W.nsIn K mainGlobals "_law_words" = some (some (.ref f5))) (l5 : K.lookup f5 = some ⟨oc5, od5, .func (PySem.W.fnOf "_law_words" "_law_words" (defArgs s_l_words) (defBody s_l_words) (defScope s_l_words) .none kV5 dc5 pm5 an5 cd5 ct5), sl5⟩) (c5 : PySem.W.codeIn K cd5 "_law_words" = true) (k5 : PySem.W.keepIn K (.ref f5) = true)
    (a6 : PySem.W.nsIn K mainGlobals "_law_close" = some (some (.ref f6))) (l6 : K.lookup f6 = some ⟨oc6, od6, .func (PySem.W.fnOf "_law_close" "_law_close" (defArgs s_l_close) (defBody s_l_close) (defScope s_l_close) .none kV6 dc6 pm6 an6 cd6 ct6), sl6⟩) (c6 : PySem.W.codeIn K cd6 "_law_close" = true) (k6 : PySem.W.keepIn K (.ref f6) = true)
    (a7 : PySem.W.nsIn K mainGlobals "_law_change" = some (some (.ref f7))) (l7 : K.lookup f7 = some ⟨oc7, od7, .func (PySem.W.fnOf "_law_change" "_law_change" (defArgs s_l_change) (defBody s_l_change) (defScope s_l_change) .none kV7 dc7 pm7 an7 cd7 ct7), sl7⟩) (c7 : PySem.W.codeIn K cd7 "_law_change" = true) (k7 : PySem.W.keepIn K (.ref f7) = true)
    (a8 : PySem.W.nsIn K mainGlobals "_law_drawn" = some (some (.ref f8))) (l8 : K.lookup f8 = some ⟨oc8, od8, .func (PySem.W.fnOf "_law_drawn" "_law_drawn" (defArgs s_l_drawn) (defBody s_l_drawn) (defScope s_l_drawn) .none kV8 dc8 pm8 an8 cd8 ct8), sl8⟩) (c8 : PySem.W.codeIn K cd8 "_law_drawn" = true) (k8 : PySem.W.keepIn K (.ref f8) = true)
    (a9 : PySem.W.nsIn K mainGlobals "_law_spoiled" = some (some (.ref f9))) (l9 : K.lookup f9 = some ⟨oc9, od9, .func (PySem.W.fnOf "_law_spoiled" "_law_spoiled" (defArgs s_l_spoiled) (defBody s_l_spoiled) (defScope s_l_spoiled) .none kV9 dc9 pm9 an9 cd9 ct9), sl9⟩) (c9 : PySem.W.codeIn K cd9 "_law_spoiled" = true) (k9 : PySem.W.keepIn K (.ref f9) = true)
    (a10 : PySem.W.nsIn K mainGlobals "words_of" = some (some (.ref f10))) (l10 : K.lookup f10 = some ⟨oc10, od10, .func (PySem.W.fnOf "words_of" "words_of" (defArgs s_words_of) (defBody s_words_of) (defScope s_words_of) .none kV10 dc10 pm10 an10 cd10 ct10), sl10⟩) (c10 : PySem.W.codeIn K cd10 "words_of" = true) (k10 : PySem.W.keepIn K (.ref f10) = true)
    (a11 : PySem.W.nsIn K mainGlobals "closings" = some (some (.ref f11))) (l11 : K.lookup f11 = some ⟨oc11, od11, .func (PySem.W.fnOf "closings" "closings" (defArgs s_closings) (defBody s_closings) (defScope s_closings) .none kV11 dc11 pm11 an11 cd11 ct11), sl11⟩) (c11 : PySem.W.codeIn K cd11 "closings" = true) (k11 : PySem.W.keepIn K (.ref f11) = true)
    (a12 : PySem.W.nsIn K mainGlobals "is_tag" = some (some (.ref f12))) (l12 : K.lookup f12 = some ⟨oc12, od12, .func (PySem.W.fnOf "is_tag" "is_tag" (defArgs s_is_tag) (defBody s_is_tag) (defScope s_is_tag) .none kV12 dc12 pm12 an12 cd12 ct12), sl12⟩) (c12 : PySem.W.codeIn K cd12 "is_tag" = true) (k12 : PySem.W.keepIn K (.ref f12) = true)
    (a13 : PySem.W.nsIn K mainGlobals "behind_change" = some (some (.ref f13))) (l13 : K.lookup f13 = some ⟨oc13, od13, .func (PySem.W.fnOf "behind_change" "behind_change" (defArgs s_behind_change) (defBody s_behind_change) (defScope s_behind_change) .none kV13 dc13 pm13 an13 cd13 ct13), sl13⟩) (c13 : PySem.W.codeIn K cd13 "behind_change" = true) (k13 : PySem.W.keepIn K (.ref f13) = true)
    (a14 : PySem.W.nsIn K mainGlobals "refuse_bad_changes" = some (some (.ref f14))) (l14 : K.lookup f14 = some ⟨oc14, od14, .func (PySem.W.fnOf "refuse_bad_changes" "refuse_bad_changes" (defArgs s_refuse_bad_changes) (defBody s_refuse_bad_changes) (defScope s_refuse_bad_changes) .none kV14 dc14 pm14 an14 cd14 ct14), sl14⟩) (c14 : PySem.W.codeIn K cd14 "refuse_bad_changes" = true) (k14 : PySem.W.keepIn K (.ref f14) = true)
    (a15 : PySem.W.nsIn K mainGlobals "size" = some (some (.ref f15))) (l15 : K.lookup f15 = some ⟨oc15, od15, .func (PySem.W.fnOf "size" "size" (defArgs s_size) (defBody s_size) (defScope s_size) .none kV15 dc15 pm15 an15 cd15 ct15), sl15⟩) (c15 : PySem.W.codeIn K cd15 "size" = true) (k15 : PySem.W.keepIn K (.ref f15) = true)
    (a16 : PySem.W.nsIn K mainGlobals "tree_size" = some (some (.ref f16))) (l16 : K.lookup f16 = some ⟨oc16, od16, .func (PySem.W.fnOf "tree_size" "tree_size" (defArgs s_tree_size) (defBody s_tree_size) (defScope s_tree_size) .none kV16 dc16 pm16 an16 cd16 ct16), sl16⟩) (c16 : PySem.W.codeIn K cd16 "tree_size" = true) (k16 : PySem.W.keepIn K (.ref f16) = true)
    (a17 : PySem.W.nsIn K mainGlobals "price_of" = some (some (.ref f17))) (l17 : K.lookup f17 = some ⟨oc17, od17, .func (PySem.W.fnOf "price_of" "price_of" (defArgs s_price_of) (defBody s_price_of) (defScope s_price_of) .none kV17 dc17 pm17 an17 cd17 ct17), sl17⟩) (c17 : PySem.W.codeIn K cd17 "price_of" = true) (k17 : PySem.W.keepIn K (.ref f17) = true)
    (a18 : PySem.W.nsIn K mainGlobals "price" = some (some (.ref f18))) (l18 : K.lookup f18 = some ⟨oc18, od18, .func (PySem.W.fnOf "price" "price" (defArgs s_price) (defBody s_price) (defScope s_price) .none kV18 dc18 pm18 an18 cd18 ct18), sl18⟩) (c18 : PySem.W.codeIn K cd18 "price" = true) (k18 : PySem.W.keepIn K (.ref f18) = true)
    (a19 : PySem.W.nsIn K mainGlobals "_law_priced" = some (some (.ref f19))) (l19 : K.lookup f19 = some ⟨oc19, od19, .func (PySem.W.fnOf "_law_priced" "_law_priced" (defArgs s_l_priced) (defBody s_l_priced) (defScope s_l_priced) .none kV19 dc19 pm19 an19 cd19 ct19), sl19⟩) (c19 : PySem.W.codeIn K cd19 "_law_priced" = true) (k19 : PySem.W.keepIn K (.ref f19) = true)
    (a20 : PySem.W.nsIn K mainGlobals "grove_of" = some (some (.ref f20))) (l20 : K.lookup f20 = some ⟨oc20, od20, .func (PySem.W.fnOf "grove_of" "grove_of" (defArgs s_grove_of) (defBody s_grove_of) (defScope s_grove_of) .none kV20 dc20 pm20 an20 cd20 ct20), sl20⟩) (c20 : PySem.W.codeIn K cd20 "grove_of" = true) (k20 : PySem.W.keepIn K (.ref f20) = true)
    (a21 : PySem.W.nsIn K mainGlobals "done" = some (some (.ref f21))) (l21 : K.lookup f21 = some ⟨oc21, od21, .func (PySem.W.fnOf "done" "done" (defArgs s_done) (defBody s_done) (defScope s_done) .none kV21 dc21 pm21 an21 cd21 ct21), sl21⟩) (c21 : PySem.W.codeIn K cd21 "done" = true) (k21 : PySem.W.keepIn K (.ref f21) = true)
    (a22 : PySem.W.nsIn K mainGlobals "_law_made" = some (some (.ref f22))) (l22 : K.lookup f22 = some ⟨oc22, od22, .func (PySem.W.fnOf "_law_made" "_law_made" (defArgs s_l_made) (defBody s_l_made) (defScope s_l_made) .none kV22 dc22 pm22 an22 cd22 ct22), sl22⟩) (c22 : PySem.W.codeIn K cd22 "_law_made" = true) (k22 : PySem.W.keepIn K (.ref f22) = true)
    (a23 : PySem.W.nsIn K mainGlobals "_law_is_tag" = some (some (.ref f23))) (l23 : K.lookup f23 = some ⟨oc23, od23, .func (PySem.W.fnOf "_law_is_tag" "_law_is_tag" (defArgs s_l_is_tag) (defBody s_l_is_tag) (defScope s_l_is_tag) .none kV23 dc23 pm23 an23 cd23 ct23), sl23⟩) (c23 : PySem.W.codeIn K cd23 "_law_is_tag" = true) (k23 : PySem.W.keepIn K (.ref f23) = true)
    (a24 : PySem.W.nsIn K mainGlobals "_law_right" = some (some (.ref f24))) (l24 : K.lookup f24 = some ⟨oc24, od24, .func (PySem.W.fnOf "_law_right" "_law_right" (defArgs s_l_right) (defBody s_l_right) (defScope s_l_right) .none kV24 dc24 pm24 an24 cd24 ct24), sl24⟩) (c24 : PySem.W.codeIn K cd24 "_law_right" = true) (k24 : PySem.W.keepIn K (.ref f24) = true)
    (a25 : PySem.W.nsIn K mainGlobals "_law_due" = some (some (.ref f25))) (l25 : K.lookup f25 = some ⟨oc25, od25, .func (PySem.W.fnOf "_law_due" "_law_due" (defArgs s_l_due) (defBody s_l_due) (defScope s_l_due) .none kV25 dc25 pm25 an25 cd25 ct25), sl25⟩) (c25 : PySem.W.codeIn K cd25 "_law_due" = true) (k25 : PySem.W.keepIn K (.ref f25) = true)
    (a26 : PySem.W.nsIn K mainGlobals "law" = some (some (.ref f26))) (l26 : K.lookup f26 = some ⟨oc26, od26, .func (PySem.W.fnOf "law" "law" (defArgs s_law) (defBody s_law) (defScope s_law) .none kV26 dc26 pm26 an26 cd26 ct26), sl26⟩) (c26 : PySem.W.codeIn K cd26 "law" = true) (k26 : PySem.W.keepIn K (.ref f26) = true)
    {tk0 : Tok} (y0 : PySem.W.nsIn K mainGlobals "LONGEST_TAG" = some (some (.int 8 tk0)))
    (z0 : PySem.W.nsIn K mainGlobals "ValueError" = some none) (z1 : PySem.W.nsIn K mainGlobals "all" = some none) (z2 : PySem.W.nsIn K mainGlobals "bool" = some none) (z3 : PySem.W.nsIn K mainGlobals "enumerate" = some none) (z4 : PySem.W.nsIn K mainGlobals "int" = some none) (z5 : PySem.W.nsIn K mainGlobals "isinstance" = some none) (z6 : PySem.W.nsIn K mainGlobals "len" = some none) (z7 : PySem.W.nsIn K mainGlobals "list" = some none) (z8 : PySem.W.nsIn K mainGlobals "max" = some none) (z9 : PySem.W.nsIn K mainGlobals "min" = some none) (z10 : PySem.W.nsIn K mainGlobals "range" = some none) (z11 : PySem.W.nsIn K mainGlobals "sum" = some none) (z12 : PySem.W.nsIn K mainGlobals "tuple" = some none) :
    ∃ fd : FuncData, (∀ (s : Shared) (v : Value), BindsTo s fd ⟨[v], []⟩ [("_law_script", v)]) ∧ ∀ base : Heap, K.In base → base.Ns mainGlobals mg → FnOk l.prog w K mg base CX0 32 fa fd ["_law_script"] (Fg.spLaw K) := by
  have e := hfa.symm.trans (PySem.W.mg_of X G a26)
  cases e
  have B : ∀ x ∈ blts, mg x = none := List.forall_mem_cons.mpr ⟨PySem.W.mg_none_of X G z0, List.forall_mem_cons.mpr ⟨PySem.W.mg_none_of X G z1, List.forall_mem_cons.mpr ⟨PySem.W.mg_none_of X G z2, List.forall_mem_cons.mpr ⟨PySem.W.mg_none_of X G z3, List.forall_mem_cons.mpr ⟨PySem.W.mg_none_of X G z4, List.forall_mem_cons.mpr ⟨PySem.W.mg_none_of X G z5, List.forall_mem_cons.mpr ⟨PySem.W.mg_none_of X G z6, List.forall_mem_cons.mpr ⟨PySem.W.mg_none_of X G z7, List.forall_mem_cons.mpr ⟨PySem.W.mg_none_of X G z8, List.forall_mem_cons.mpr ⟨PySem.W.mg_none_of X G z9, List.forall_mem_cons.mpr ⟨PySem.W.mg_none_of X G z10, List.forall_mem_cons.mpr ⟨PySem.W.mg_none_of X G z11, List.forall_mem_cons.mpr ⟨PySem.W.mg_none_of X G z12, List.forall_mem_nil _⟩⟩⟩⟩⟩⟩⟩⟩⟩⟩⟩⟩⟩
  have Cc_LONGEST_TAG : ∃ t : Tok, mg "LONGEST_TAG" = some (.int 8 t) := ⟨_, PySem.W.mg_of X G y0⟩
  have F1 := fun_mk (st := s_l_word) l1 c1 k1
  have b1 := F1.binds (ps := ["_law_cell"]) fun _ _ _ _ _ _ us hl => by obtain ⟨_, rfl⟩ := len1 hl; rfl
  have F2 := fun_mk (st := s_l_pool) l2 c2 k2
  have b2 := F2.binds (ps := ["_law_cell", "_law_many"]) fun _ _ _ _ _ _ us hl => by obtain ⟨_, _, rfl⟩ := len2 hl; rfl
  have F3 := fun_mk (st := s_l_cell_at) l3 c3 k3
  have b3 := F3.binds (ps := ["_law_script", "_law_k"]) fun _ _ _ _ _ _ us hl => by obtain ⟨_, _, rfl⟩ := len2 hl; rfl
  have F4 := fun_mk (st := s_l_grove) l4 c4 k4
  have b4 := F4.binds (ps := ["_law_script", "_law_start", "_law_many", "_law_tags"]) fun _ _ _ _ _ _ us hl => by obtain ⟨_, _, _, _, rfl⟩ := len4 hl; rfl
  have F5 := fun_mk (st := s_l_words) l5 c5 k5
  have b5 := F5.binds (ps := ["_law_row"]) fun _ _ _ _ _ _ us hl => by obtain ⟨_, rfl⟩ := len1 hl; rfl
  have F6 := fun_mk (st := s_l_close) l6 c6 k6
  have b6 := F6.binds (ps := ["_law_words_here", "_law_place"]) fun _ _ _ _ _ _ us hl => by obtain ⟨_, _, rfl⟩ := len2 hl; rfl
  have F7 := fun_mk (st := s_l_change) l7 c7 k7
  have b7 := F7.binds (ps := ["_law_words_here", "_law_place", "_law_cell", "_law_tags"]) fun _ _ _ _ _ _ us hl => by obtain ⟨_, _, _, _, rfl⟩ := len4 hl; rfl
  have F8 := fun_mk (st := s_l_drawn) l8 c8 k8
  have b8 := F8.binds (ps := ["_law_script", "_law_words_here", "_law_tags"]) fun _ _ _ _ _ _ us hl => by obtain ⟨_, _, _, rfl⟩ := len3 hl; rfl
  have F9 := fun_mk (st := s_l_spoiled) l9 c9 k9
  have b9 := F9.binds (ps := ["_law_changes", "_law_words_here", "_law_way", "_law_cell"]) fun _ _ _ _ _ _ us hl => by obtain ⟨_, _, _, _, rfl⟩ := len4 hl; rfl
  have F10 := fun_mk (st := s_words_of) l10 c10 k10
  have b10 := F10.binds (ps := ["grove"]) fun _ _ _ _ _ _ us hl => by obtain ⟨_, rfl⟩ := len1 hl; rfl
  have F11 := fun_mk (st := s_closings) l11 c11 k11
  have b11 := F11.binds (ps := ["words"]) fun _ _ _ _ _ _ us hl => by obtain ⟨_, rfl⟩ := len1 hl; rfl
  have F12 := fun_mk (st := s_is_tag) l12 c12 k12
  have b12 := F12.binds (ps := ["text"]) fun _ _ _ _ _ _ us hl => by obtain ⟨_, rfl⟩ := len1 hl; rfl
  have F13 := fun_mk (st := s_behind_change) l13 c13 k13
  have b13 := F13.binds (ps := ["ended_at", "change"]) fun _ _ _ _ _ _ us hl => by obtain ⟨_, _, rfl⟩ := len2 hl; rfl
  have F14 := fun_mk (st := s_refuse_bad_changes) l14 c14 k14
  have b14 := F14.binds (ps := ["words", "changes"]) fun _ _ _ _ _ _ us hl => by obtain ⟨_, _, rfl⟩ := len2 hl; rfl
  have F15 := fun_mk (st := s_size) l15 c15 k15
  have b15 := F15.binds (ps := ["grove"]) fun _ _ _ _ _ _ us hl => by obtain ⟨_, rfl⟩ := len1 hl; rfl
  have F16 := fun_mk (st := s_tree_size) l16 c16 k16
  have b16 := F16.binds (ps := ["ended_at", "place"]) fun _ _ _ _ _ _ us hl => by obtain ⟨_, _, rfl⟩ := len2 hl; rfl
  have F17 := fun_mk (st := s_price_of) l17 c17 k17
  have b17 := F17.binds (ps := ["ended_at", "change"]) fun _ _ _ _ _ _ us hl => by obtain ⟨_, _, rfl⟩ := len2 hl; rfl
  have F18 := fun_mk (st := s_price) l18 c18 k18
  have b18 := F18.binds (ps := ["grove", "changes"]) fun _ _ _ _ _ _ us hl => by obtain ⟨_, _, rfl⟩ := len2 hl; rfl
  have F19 := fun_mk (st := s_l_priced) l19 c19 k19
  have b19 := F19.binds (ps := ["_law_grove_here", "_law_changes"]) fun _ _ _ _ _ _ us hl => by obtain ⟨_, _, rfl⟩ := len2 hl; rfl
  have F20 := fun_mk (st := s_grove_of) l20 c20 k20
  have b20 := F20.binds (ps := ["words"]) fun _ _ _ _ _ _ us hl => by obtain ⟨_, rfl⟩ := len1 hl; rfl
  have F21 := fun_mk (st := s_done) l21 c21 k21
  have b21 := F21.binds (ps := ["grove", "changes"]) fun _ _ _ _ _ _ us hl => by obtain ⟨_, _, rfl⟩ := len2 hl; rfl
  have F22 := fun_mk (st := s_l_made) l22 c22 k22
  have b22 := F22.binds (ps := ["_law_grove_here", "_law_changes"]) fun _ _ _ _ _ _ us hl => by obtain ⟨_, _, rfl⟩ := len2 hl; rfl
  have F23 := fun_mk (st := s_l_is_tag) l23 c23 k23
  have b23 := F23.binds (ps := ["_law_word_here"]) fun _ _ _ _ _ _ us hl => by obtain ⟨_, rfl⟩ := len1 hl; rfl
  have F24 := fun_mk (st := s_l_right) l24 c24 k24
  have b24 := F24.binds (ps := ["_law_words_here", "_law_changes"]) fun _ _ _ _ _ _ us hl => by obtain ⟨_, _, rfl⟩ := len2 hl; rfl
  have F25 := fun_mk (st := s_l_due) l25 c25 k25
  have b25 := F25.binds (ps := ["_law_words_here", "_law_changes"]) fun _ _ _ _ _ _ us hl => by obtain ⟨_, _, rfl⟩ := len2 hl; rfl
  have F26 := fun_mk (st := s_law) l26 c26 k26
  refine ⟨PySem.W.fnOf "law" "law" (defArgs s_law) (defBody s_law) (defScope s_law) .none kV26 dc26 pm26 an26 cd26 ct26, fun s v => .of_eq rfl, fun base _ _ => ?_⟩
  have xc : XC K mg X_GroveError X_NoGrove X_BadForm X_TooMany X_TooBig X_NoneFits X_NoBook X_TwiceNamed X_NoName X_Ring X_BadChanger X_NoRecipe X_NotStraight X_NoChange X_NoRow := ⟨PySem.W.mg_of X G xn_GroveError, PySem.W.mg_of X G xn_NoGrove, PySem.W.mg_of X G xn_BadForm, PySem.W.mg_of X G xn_TooMany, PySem.W.mg_of X G xn_TooBig, PySem.W.mg_of X G xn_NoneFits, PySem.W.mg_of X G xn_NoBook, PySem.W.mg_of X G xn_TwiceNamed, PySem.W.mg_of X G xn_NoName, PySem.W.mg_of X G xn_Ring, PySem.W.mg_of X G xn_BadChanger, PySem.W.mg_of X G xn_NoRecipe, PySem.W.mg_of X G xn_NotStraight, PySem.W.mg_of X G xn_NoChange, PySem.W.mg_of X G xn_NoRow, ⟨xb1, xb2, xb3⟩, xb4, xb5, ⟨d1_GroveError, d2_GroveError, d3_GroveError⟩, ⟨d1_NoGrove, d2_NoGrove, d3_NoGrove⟩, ⟨d1_BadForm, d2_BadForm, d3_BadForm⟩, ⟨d1_TooMany, d2_TooMany, d3_TooMany⟩, ⟨d1_TooBig, d2_TooBig, d3_TooBig⟩, ⟨d1_NoneFits, d2_NoneFits, d3_NoneFits⟩, ⟨d1_NoBook, d2_NoBook, d3_NoBook⟩, ⟨d1_TwiceNamed, d2_TwiceNamed, d3_TwiceNamed⟩, ⟨d1_NoName, d2_NoName, d3_NoName⟩, ⟨d1_Ring, d2_Ring, d3_Ring⟩, ⟨d1_BadChanger, d2_BadChanger, d3_BadChanger⟩, ⟨d1_NoRecipe, d2_NoRecipe, d3_NoRecipe⟩, ⟨d1_NotStraight, d2_NotStraight, d3_NotStraight⟩, ⟨d1_NoChange, d2_NoChange, d3_NoChange⟩, ⟨d1_NoRow, d2_NoRow, d3_NoRow⟩, ⟨⟨_, _, _, _, _, _, _, _, _, _, _, _, _, _, _, xl_NoChange⟩, ⟨⟨_, _, _, _, _, _, _, _, _, xg1, xg2, xg3, xg4⟩⟩, xc_NoChange, xt_NoChange, xk_NoChange⟩, xi_NoChange, xv_NoChange, xe_NoChange, m_NoChange_GroveError, m_NoChange_NoGrove, m_NoChange_BadForm, m_NoChange_TooMany, m_NoChange_TooBig, m_NoChange_NoneFits, m_NoChange_NoBook, m_NoChange_TwiceNamed, m_NoChange_NoName, m_NoChange_Ring, m_NoChange_BadChanger, m_NoChange_NoRecipe, m_NoChange_NotStraight, m_NoChange_NoChange, m_NoChange_NoRow⟩
  have g_l_word : Has l.prog w K mg base "_law_word" ["_law_cell"] 1 (K82.spWordV) := ⟨⟨f1, _, ok_l_word B  F1, b1, k1, PySem.W.mg_of X G a1⟩⟩
  have g_l_pool : Has l.prog w K mg base "_law_pool" ["_law_cell", "_law_many"] 2 (K82.spPoolV) := ⟨⟨f2, _, ok_l_pool B g_l_word F2, b2, k2, PySem.W.mg_of X G a2⟩⟩
  have g_l_cell_at : Has l.prog w K mg base "_law_cell_at" ["_law_script", "_law_k"] 1 (Fg.spCell K) := ⟨⟨f3, _, ok_l_cell_at B  F3, b3, k3, PySem.W.mg_of X G a3⟩⟩
  have g_l_grove : Has l.prog w K mg base "_law_grove" ["_law_script", "_law_start", "_law_many", "_law_tags"] 2 (K82.spGroveV K) := ⟨⟨f4, _, ok_l_grove B g_l_cell_at F4, b4, k4, PySem.W.mg_of X G a4⟩⟩
  have r_lw : ∀ d : Nat, Has l.prog w K mg base "_law_words" ["_law_row"] d (K82.spLWords d) := by
    intro d
    induction d with
    | zero => exact ⟨⟨f5, _, FnOk.none (fun vs H Q E z => by obtain ⟨p, xs, g, _, _, _, hd, _⟩ := z; exact absurd hd (Nat.not_lt_zero _)), b5, k5, PySem.W.mg_of X G a5⟩⟩
    | succ d ih => exact ⟨⟨f5, _, ok_l_words d B ih F5, b5, k5, PySem.W.mg_of X G a5⟩⟩
  have g_l_words := r_lw 30
  have g_l_close : Has l.prog w K mg base "_law_close" ["_law_words_here", "_law_place"] 1 (K82.spClose82) := ⟨⟨f6, _, ok_l_close B  F6, b6, k6, PySem.W.mg_of X G a6⟩⟩
  have g_l_change : Has l.prog w K mg base "_law_change" ["_law_words_here", "_law_place", "_law_cell", "_law_tags"] 1 (K82.spChange82) := ⟨⟨f7, _, ok_l_change B  F7, b7, k7, PySem.W.mg_of X G a7⟩⟩
  have g_l_drawn : Has l.prog w K mg base "_law_drawn" ["_law_script", "_law_words_here", "_law_tags"] 2 (K82.spDrawn82 K) := ⟨⟨f8, _, ok_l_drawn B g_l_cell_at g_l_close g_l_change F8, b8, k8, PySem.W.mg_of X G a8⟩⟩
  have g_l_spoiled : Has l.prog w K mg base "_law_spoiled" ["_law_changes", "_law_words_here", "_law_way", "_law_cell"] 1 (K82.spSpoil82) := ⟨⟨f9, _, ok_l_spoiled B  F9, b9, k9, PySem.W.mg_of X G a9⟩⟩
  have g_words_of : Has l.prog w K mg base "words_of" ["grove"] 1 (Fg.spWords K) := ⟨⟨f10, _, ok_words_of B  F10, b10, k10, PySem.W.mg_of X G a10⟩⟩
  have g_closings : Has l.prog w K mg base "closings" ["words"] 1 (K82.spClosK K) := ⟨⟨f11, _, ok_closings B  F11, b11, k11, PySem.W.mg_of X G a11⟩⟩
  have g_is_tag : Has l.prog w K mg base "is_tag" ["text"] 1 (Fg.spIsTag) := ⟨⟨f12, _, ok_is_tag B Cc_LONGEST_TAG  F12, b12, k12, PySem.W.mg_of X G a12⟩⟩
  have g_behind_change : Has l.prog w K mg base "behind_change" ["ended_at", "change"] 1 (K82.spBehC) := ⟨⟨f13, _, ok_behind_change B  F13, b13, k13, PySem.W.mg_of X G a13⟩⟩
  have g_refuse_bad_changes : HasX l.prog w K mg base "refuse_bad_changes" ["words", "changes"] 2 (K82.spRefX K X_NoChange) := ⟨⟨f14, _, ok_refuse_bad_changes B xc g_closings g_is_tag g_behind_change F14, b14, k14, PySem.W.mg_of X G a14⟩⟩
  have g_size : Has l.prog w K mg base "size" ["grove"] 2 (Fg.spSize K) := ⟨⟨f15, _, ok_size B g_words_of F15, b15, k15, PySem.W.mg_of X G a15⟩⟩
  have g_tree_size : Has l.prog w K mg base "tree_size" ["ended_at", "place"] 1 (K82.spTreeV) := ⟨⟨f16, _, ok_tree_size B  F16, b16, k16, PySem.W.mg_of X G a16⟩⟩
  have g_price_of : Has l.prog w K mg base "price_of" ["ended_at", "change"] 3 (K82.spPriOf) := ⟨⟨f17, _, ok_price_of B g_size g_tree_size F17, b17, k17, PySem.W.mg_of X G a17⟩⟩
  have g_price : HasX l.prog w K mg base "price" ["grove", "changes"] 4 (K82.spPriX X_NoChange) := ⟨⟨f18, _, ok_price B g_words_of g_closings g_refuse_bad_changes g_price_of F18, b18, k18, PySem.W.mg_of X G a18⟩⟩
  have g_l_priced : Has l.prog w K mg base "_law_priced" ["_law_grove_here", "_law_changes"] 5 (K82.spPriced82) := ⟨⟨f19, _, ok_l_priced B xc g_price F19, b19, k19, PySem.W.mg_of X G a19⟩⟩
  have g_grove_of : Has l.prog w K mg base "grove_of" ["words"] 2 (K82.spGroveOf K) := ⟨⟨f20, _, ok_grove_of B g_is_tag F20, b20, k20, PySem.W.mg_of X G a20⟩⟩
  have g_done : HasX l.prog w K mg base "done" ["grove", "changes"] 3 (K82.spDoneX X_NoChange) := ⟨⟨f21, _, ok_done B g_words_of g_closings g_refuse_bad_changes g_behind_change g_grove_of F21, b21, k21, PySem.W.mg_of X G a21⟩⟩
  have g_l_made : Has l.prog w K mg base "_law_made" ["_law_grove_here", "_law_changes"] 4 (K82.spMade82) := ⟨⟨f22, _, ok_l_made B xc g_done F22, b22, k22, PySem.W.mg_of X G a22⟩⟩
  have g_l_is_tag : Has l.prog w K mg base "_law_is_tag" ["_law_word_here"] 1 (K82.spIsTagA) := ⟨⟨f23, _, ok_l_is_tag B  F23, b23, k23, PySem.W.mg_of X G a23⟩⟩
  have g_l_right : Has l.prog w K mg base "_law_right" ["_law_words_here", "_law_changes"] 2 (K82.spRight82) := ⟨⟨f24, _, ok_l_right B g_l_is_tag g_l_close F24, b24, k24, PySem.W.mg_of X G a24⟩⟩
  have g_l_due : Has l.prog w K mg base "_law_due" ["_law_words_here", "_law_changes"] 31 (K82.spDue82) := ⟨⟨f25, _, ok_l_due B g_l_words g_l_close F25, b25, k25, PySem.W.mg_of X G a25⟩⟩
  exact ok_law B g_l_pool g_l_cell_at g_l_grove g_l_words g_l_drawn g_l_spoiled g_l_priced g_l_made g_l_right g_l_due F26
theorem walk {l : PySem.W.OpenLaw} {q : Program} {loose : List Str} {XP : (Str → Option Value) → Heap → Prop} {YP : World → Heap → Prop} {d : DefRec} {K : Params → PySem.W.Frag} (hn : l.most = some 63) (hdf : d.params.defaults = [])
    (hY : ∀ (w : World) (h : Heap), YP w h → (K w.params).In h)
    (F : ∀ (w : World) (mg : Str → Option Value) (fa : Addr) (h : Heap), (K w.params).In h → h.Ns mainGlobals mg → mg d.name = some (.ref fa) →
      ∃ fd : FuncData, (∀ (s : Shared) (u : Value), BindsTo s fd ⟨[u], []⟩ [("_law_script", u)]) ∧ ∀ base : Heap, (K w.params).In base → base.Ns mainGlobals mg → FnOk l.prog w (K w.params) mg base CX0 32 fa fd ["_law_script"] (Fg.spLaw (K w.params))) :
    PySem.W.WalkO q loose XP YP l.row.toRowW d [] (fun f vs => PySem.call f vs) :=
  L2.walk_of (n := 63) (k := 32) (x := "_law_script") (CX := fun _ => CX0) (sp := fun w => Fg.spLaw (K w.params)) hn (by decide) hdf ⟨rfl, by decide, by decide⟩ hY F (fun _ _ a ns hl _ hS => ⟨a, ns, rfl, hS, hl, fun _ => rfl⟩) fun _ _ _ _ _ z => z
end K82
def PySem.W.Fast.tw16548363294660432594 := 0
def PySem.W.Fast.tw7524897391037623405 := 0
def PySem.W.Fast.tw15029254929192142645 := 0
def PySem.W.Fast.tw3437994538484756672 := 0
def PySem.W.Fast.tw1805407510439956158 := 0
def PySem.W.Fast.tw2855144834003206169 := 0
def PySem.W.Fast.tw13790823923168281578 := 0
def PySem.W.Fast.tw16252597133800616557 := 0
def PySem.W.Fast.tw1943091727229465329 := 0
def PySem.W.Fast.tw2035271921807435739 := 0
def PySem.W.Fast.tw15213317793974257445 := 0
def PySem.W.Fast.tw17495280364611245064 := 0
def PySem.W.Fast.tw9312188518958497345 := 0
def PySem.W.Fast.tw9484696485391069510 := 0
def PySem.W.Fast.tw2556340455926951301 := 0
def PySem.W.Fast.tw15004641582998685674 := 0
def PySem.W.Fast.tw5896352972783868448 := 0
def PySem.W.Fast.tw12451259192428234221 := 0
def PySem.W.Fast.tw4665500424607485040 := 0
def PySem.W.Fast.tw1374428047917137942 := 0
def PySem.W.Fast.tw6334404869128044717 := 0
def PySem.W.Fast.tw14486561109573163791 := 0
def PySem.W.Fast.tw10121297277490215303 := 0
def PySem.W.Fast.tw3995839789022284614 := 0
def PySem.W.Fast.tw17130463985464317044 := 0
def PySem.W.Fast.tw16599443690896906632 := 0
def PySem.W.Fast.tw15409730002122162273 := 0
def PySem.W.Fast.tw490358959208943555 := 0
def PySem.W.Fast.tw11510649117932890547 := 0
def PySem.W.Fast.tw16565908955514126921 := 0
def PySem.W.Fast.tw12421982526061560280 := 0
def PySem.W.Fast.tw903695275312318970 := 0
def PySem.W.Fast.tw5233650638471430319 := 0
def PySem.W.Fast.tw9378194018374268928 := 0
def PySem.W.Fast.tw11958582527383809222 := 0
def PySem.W.Fast.tw1608342136568891612 := 0
def PySem.W.Fast.tw18230823650344474939 := 0
def PySem.W.Fast.tw4195027293320401133 := 0
def PySem.W.Fast.tw9091304223888068550 := 0
def PySem.W.Fast.tw1009526507388616793 := 0
def PySem.W.Fast.tw5661765336647922420 := 0
def PySem.W.Fast.tw11079569273289152182 := 0
def PySem.W.Fast.tw5333264501473428539 := 0
def PySem.W.Fast.tw10498897786636564485 := 0
def PySem.W.Fast.tw9820518968715507164 := 0
def PySem.W.Fast.tw4231099135817686529 := 0
def PySem.W.Fast.tw7747850356670878144 := 0
def PySem.W.Fast.tw11883520745927303832 := 0
def PySem.W.Fast.tw3441036064660713862 := 0
def PySem.W.Fast.tw17990129039065263769 := 0
def PySem.W.Fast.tw9729946671207071065 := 0
def PySem.W.Fast.tw8605817402239749515 := 0
def PySem.W.Fast.tw18411909540010052833 := 0
def PySem.W.Fast.tw16977912270003677104 := 0
def PySem.W.Fast.tw1587687077743301382 := 0
def PySem.W.Fast.tw8276815639143908100 := 0
def PySem.W.Fast.tw16456180266011488672 := 0
def PySem.W.Fast.tw5614410911816324065 := 0
def PySem.W.Fast.tw17385020258417258045 := 0
def PySem.W.Fast.tw3380817839371187404 := 0
def PySem.W.Fast.tw5130073635500428803 := 0
def PySem.W.Fast.tw4048989341818772985 := 0
def PySem.W.Fast.tw15916702015447822430 := 0
def PySem.W.Fast.tw18366901932043669503 := 0
def PySem.W.Fast.tw15441482832388746886 := 0
def PySem.W.Fast.tw895481279496748189 := 0
def PySem.W.Fast.tw817089363484876457 := 0
def PySem.W.Fast.tw7711022476986557624 := 0
def PySem.W.Fast.tw4735304326164592906 := 0
def PySem.W.Fast.tw11790948950608691337 := 0
def PySem.W.Fast.tw1112387966368128971 := 0
def PySem.W.Fast.tw9683362727228895726 := 0
def PySem.W.Fast.tw3852562753105066177 := 0
def PySem.W.Fast.tw822196593387773137 := 0
def PySem.W.Fast.tw8620384324680916733 := 0
def PySem.W.Fast.tw11261161151560700842 := 0
def PySem.W.Fast.tw5794800884801658595 := 0
def PySem.W.Fast.tw2553937458995634053 := 0
def PySem.W.Fast.tw18009762542680738448 := 0
def PySem.W.Fast.tw10393362443904655193 := 0
def PySem.W.Fast.tw2238429028348721720 := 0
def PySem.W.Fast.tw10733198616891491968 := 0
def PySem.W.Fast.tw11853594750885750134 := 0
def PySem.W.Fast.tw3949531638457245152 := 0
def PySem.W.Fast.tw11165039346684021077 := 0
def PySem.W.Fast.tw1365604375079561670 := 0
def PySem.W.Fast.tw14970508941396084720 := 0
def PySem.W.Fast.tw6674934753892760079 := 0
def PySem.W.Fast.tw2535960127539225387 := 0
def PySem.W.Fast.tw3211525841278898552 := 0
def PySem.W.Fast.tw13058363332544822906 := 0
def PySem.W.Fast.tw10320910887762395165 := 0
def PySem.W.Fast.tw13362881650032695875 := 0
def PySem.W.Fast.tw192579918416354224 := 0
def PySem.W.Fast.tw10959176333112466301 := 0
def PySem.W.Fast.tw16141098971321866232 := 0
def PySem.W.Fast.tw15873658807503359147 := 0
def PySem.W.Fast.tw7954315480473599615 := 0
def PySem.W.Fast.tw15278088677535423247 := 0
def PySem.W.Fast.tw190726446398339792 := 0
def PySem.W.Fast.tw3139437944942810546 := 0
def PySem.W.Fast.tw410982659990877381 := 0
def PySem.W.Fast.tw7171406157724563282 := 0
def PySem.W.Fast.tw14465421677022255658 := 0
def PySem.W.Fast.tw18096004958313205501 := 0
def PySem.W.Fast.tw6336876829163620645 := 0
def PySem.W.Fast.tw6698010800786790485 := 0
def PySem.W.Fast.tw1227866223741056713 := 0
def PySem.W.Fast.tw8597993971610257077 := 0
def PySem.W.Fast.tw17143499434841585912 := 0
def PySem.W.Fast.tw17900173402534517736 := 0
def PySem.W.Fast.tw823484375121581237 := 0
def PySem.W.Fast.tw9403019015091248240 := 0
def PySem.W.Fast.tw4812689876053001903 := 0
def PySem.W.Fast.tw17465909294844875627 := 0
def PySem.W.Fast.tw6173067331168268864 := 0
def PySem.W.Fast.tw9790399138460934020 := 0
def PySem.W.Fast.tw8851542030666542107 := 0
def PySem.W.Fast.tw325012189953574528 := 0
def PySem.W.Fast.tw7752405618147550629 := 0
def PySem.W.Fast.tw9134902074114994777 := 0
def PySem.W.Fast.tw14682776399030655670 := 0
def PySem.W.Fast.tw16473846512642797275 := 0
def PySem.W.Fast.tw12365685643502880708 := 0
def PySem.W.Fast.tw1976531476264012199 := 0
def PySem.W.Fast.tw10911723508233212968 := 0
def PySem.W.Fast.tw6294302893326884718 := 0
def PySem.W.Fast.tw11899961293196873524 := 0
def PySem.W.Fast.tw11357531325825587338 := 0
def PySem.W.Fast.tw5555488904574758143 := 0
def PySem.W.Fast.tw2250162536559919830 := 0
def PySem.W.Fast.tw16881404913593671747 := 0
def PySem.W.Fast.tw13364828415293739614 := 0
def PySem.W.Fast.tw11704126376432322802 := 0
def PySem.W.Fast.tw2440228931082924710 := 0
def PySem.W.Fast.tw6874367067551319964 := 0
def PySem.W.Fast.tw883929120552647933 := 0
def PySem.W.Fast.tw12060891761551455294 := 0
def PySem.W.Fast.tw8499799394235936140 := 0
def PySem.W.Fast.tw15610618067352642111 := 0
def PySem.W.Fast.tw16345378509715519235 := 0
def PySem.W.Fast.tw11021855662936683103 := 0
def PySem.W.Fast.tw16056905812126589756 := 0
def PySem.W.Fast.tw10095565815265293740 := 0
def PySem.W.Fast.tw11861752650336283689 := 0
def PySem.W.Fast.tw13660408792460537815 := 0
def PySem.W.Fast.tw16443252552092647660 := 0
def PySem.W.Fast.tw16111189215485139321 := 0
def PySem.W.Fast.tw4653776110561402934 := 0
def PySem.W.Fast.tw11607952371600772610 := 0
def PySem.W.Fast.tw4661725159805253547 := 0
def PySem.W.Fast.tw9014518026435338539 := 0
def PySem.W.Fast.tw16982833031150233710 := 0
def PySem.W.Fast.tw6355577930593810125 := 0
def PySem.W.Fast.tw13796733390485086098 := 0
def PySem.W.Fast.tw5611987500849823670 := 0
def PySem.W.Fast.tw7483365763591638005 := 0
def PySem.W.Fast.tw12607151966622311006 := 0
def PySem.W.Fast.tw14570675598437578981 := 0
def PySem.W.Fast.tw16064454874074955468 := 0
def PySem.W.Fast.tw5422594868639238368 := 0
def PySem.W.Fast.tw1229825031422749132 := 0
def PySem.W.Fast.tw1485581847396570402 := 0
def PySem.W.Fast.tw1585644394026615130 := 0
def PySem.W.Fast.tw18084054897224451851 := 0
def PySem.W.Fast.tw6915091536753756035 := 0
def PySem.W.Fast.tw6356585156123191499 := 0
def PySem.W.Fast.tw13003462255369877326 := 0
def PySem.W.Fast.tw15623905942988283377 := 0
def PySem.W.Fast.tw13277870405629573712 := 0
def PySem.W.Fast.tw10041069688792497613 := 0
def PySem.W.Fast.tw6272103712364153268 := 0
def PySem.W.Fast.tw15952440722481305530 := 0
def PySem.W.Fast.tw5808736366377259638 := 0
def PySem.W.Fast.tw5607646163792159007 := 0
def PySem.W.Fast.tw4849107794296097495 := 0
def PySem.W.Fast.tw5966910576639496622 := 0
def PySem.W.Fast.tw5056417711511687976 := 0
def PySem.W.Fast.tw15731355446671926230 := 0
def PySem.W.Fast.tw2914266038014020042 := 0
def PySem.W.Fast.tw4062515650316756775 := 0
def PySem.W.Fast.tw9805278988525551056 := 0
def PySem.W.Fast.tw17897453199353623623 := 0
def PySem.W.Fast.tw8822628600496965473 := 0
def PySem.W.Fast.tw2550374465225888631 := 0
def PySem.W.Fast.tw3316828237667103980 := 0
def PySem.W.Fast.tw1814580169051860722 := 0
def PySem.W.Fast.tw13870389412146911690 := 0
def PySem.W.Fast.tw13823407412555772893 := 0
def PySem.W.Fast.tw9349106835434775293 := 0
def PySem.W.Fast.tw3019066253768087819 := 0
def PySem.W.Fast.tw15817838929311736049 := 0
def PySem.W.Fast.tw10567893891749361906 := 0
def PySem.W.Fast.tw7570385340835924579 := 0
def PySem.W.Fast.tw15819249625362064466 := 0
def PySem.W.Fast.tw17200367543078590443 := 0
def PySem.W.Fast.tw3392694861440474588 := 0
def PySem.W.Fast.tw13476818275072317784 := 0
def PySem.W.Fast.tw500096890097935096 := 0
def PySem.W.Fast.tw17435063662908025343 := 0
def PySem.W.Fast.tw14925514323256904873 := 0
def PySem.W.Fast.tw16685708074863008074 := 0
def PySem.W.Fast.tw14926755058840100570 := 0
def PySem.W.Fast.tw6347509117922374305 := 0
def PySem.W.Fast.tw17594062446014870665 := 0
def PySem.W.Fast.tw10713559042816135097 := 0
def PySem.W.Fast.tw3187137551561729087 := 0
def PySem.W.Fast.tw6928578748783999448 := 0
def PySem.W.Fast.tw12363276072291109095 := 0
def PySem.W.Fast.tw7709108042501292115 := 0
def PySem.W.Fast.tw14827408911463297193 := 0
def PySem.W.Fast.tw16605708203577341939 := 0
def PySem.W.Fast.tw9035048603066620203 := 0
def PySem.W.Fast.tw3124236695186908965 := 0
def PySem.W.Fast.tw11714328246610041400 := 0
def PySem.W.Fast.tw9579695742582520742 := 0
def PySem.W.Fast.tw12800434066138749836 := 0
def PySem.W.Fast.tw16531379540149195992 := 0
def PySem.W.Fast.tw481124349015897231 := 0
def PySem.W.Fast.tw6641918150045301419 := 0
def PySem.W.Fast.tw5430916362501857976 := 0
def PySem.W.Fast.tw14707013954569677075 := 0
def PySem.W.Fast.tw15596810032656493175 := 0
def PySem.W.Fast.tw9755014260923227911 := 0
def PySem.W.Fast.tw325642969581815128 := 0
def PySem.W.Fast.tw15750132174314997507 := 0
def PySem.W.Fast.tw14917766815139379242 := 0
def PySem.W.Fast.tw7951123924685216455 := 0
def PySem.W.Fast.tw11885151665688722697 := 0
def PySem.W.Fast.tw3960086699023015073 := 0
def PySem.W.Fast.tw2014915172455107661 := 0
def PySem.W.Fast.tw15479778840999378263 := 0
def PySem.W.Fast.tw6664013305914742969 := 0
def PySem.W.Fast.tw16218005817590052426 := 0
def PySem.W.Fast.tw929399909553995001 := 0
def PySem.W.Fast.tw12901240163505287290 := 0
def PySem.W.Fast.tw5228309314665205048 := 0
def PySem.W.Fast.tw2749482153117993250 := 0
def PySem.W.Fast.tw11867587454031076390 := 0
def PySem.W.Fast.tw16929302788494801305 := 0
def PySem.W.Fast.tw10112972718352372125 := 0
def PySem.W.Fast.tw6517608700688768876 := 0
def PySem.W.Fast.tw2346331830503114758 := 0
def PySem.W.Fast.tw539809646167927601 := 0
def PySem.W.Fast.tw16412913726115636518 := 0
def PySem.W.Fast.tw9390034490559545434 := 0
def PySem.W.Fast.tw11913726725620451372 := 0
def PySem.W.Fast.tw11246697935778748097 := 0
def PySem.W.Fast.tw14587439660597775117 := 0
def PySem.W.Fast.tw10146633880126739835 := 0
def PySem.W.Fast.tw4756315754677005428 := 0
def PySem.W.Fast.tw9299943797576970462 := 0
def PySem.W.Fast.tw372384292860202009 := 0
def PySem.W.Fast.tw5887035767422324984 := 0
def PySem.W.Fast.tw18437870818042626946 := 0
def PySem.W.Fast.tw13110773832447605054 := 0
def PySem.W.Fast.tw4457669694728748607 := 0
def PySem.W.Fast.tw1160672058142462039 := 0
def PySem.W.Fast.tw2842040301535894353 := 0
def PySem.W.Fast.tw8046248280839542759 := 0
def PySem.W.Fast.tw11557404219988345042 := 0
def PySem.W.Fast.tw16615159234828465341 := 0
def PySem.W.Fast.tw9159888230573171692 := 0
def PySem.W.Fast.tw13226264233333525795 := 0
def PySem.W.Fast.tw7648616186001114331 := 0
def PySem.W.Fast.tw6156693406901133557 := 0
def PySem.W.Fast.tw16700866305179838121 := 0
def PySem.W.Fast.tw6525350910546746864 := 0
def PySem.W.Fast.tw10555291350491458520 := 0
def PySem.W.Fast.tw14847525132505073880 := 0
def PySem.W.Fast.tw13531900318676867186 := 0
def PySem.W.Fast.tw15069598523803978526 := 0
def PySem.W.Fast.tw8144754450331767518 := 0
def PySem.W.Fast.tw15940389630068325624 := 0
def PySem.W.Fast.tw1834692756339564340 := 0
def PySem.W.Fast.tw864351315388931790 := 0
def PySem.W.Fast.tw5675516361108591021 := 0
def PySem.W.Fast.tw14596539990383401035 := 0
def PySem.W.Fast.tw12830468644206711081 := 0
def PySem.W.Fast.tw5870682478886630305 := 0
def PySem.W.Fast.tw10238188366774252865 := 0
def PySem.W.Fast.tw3898990265794731974 := 0
def PySem.W.Fast.tw6173864818246426961 := 0
def PySem.W.Fast.tw12444229401416611718 := 0
def PySem.W.Fast.tw10114823937301847778 := 0
def PySem.W.Fast.tw12794930247070032529 := 0
def PySem.W.Fast.tw11062945076342428671 := 0
def PySem.W.Fast.tw13742429001092241472 := 0
def PySem.W.Fast.tw10056188500307180915 := 0
def PySem.W.Fast.tw3236290759472298205 := 0
def PySem.W.Fast.tw8214832598904282348 := 0
def PySem.W.Fast.tw18121231840459005018 := 0
def PySem.W.Fast.tw8496890110109380193 := 0
def PySem.W.Fast.tw10060382114182740459 := 0
def PySem.W.Fast.tw16812747233705311980 := 0
def PySem.W.Fast.tw13856080108859088378 := 0
def PySem.W.Fast.tw270135267884067732 := 0
def PySem.W.Fast.tw9521036503931700269 := 0
def PySem.W.Fast.tw11138742099475172077 := 0
def PySem.W.Fast.tw5603584203526439560 := 0
def PySem.W.Fast.tw17610991672240890665 := 0
def PySem.W.Fast.tw2649870420034904490 := 0
def PySem.W.Fast.tw2710928320361260123 := 0
def PySem.W.Fast.tw11505039381073622534 := 0
def PySem.W.Fast.tw10286571754884315929 := 0
def PySem.W.Fast.tw711384307104903217 := 0
def PySem.W.Fast.tw4471897540300780396 := 0
def PySem.W.Fast.tw15335210918360923338 := 0
def PySem.W.Fast.tw8928137710078973617 := 0
def PySem.W.Fast.tw14787074881945539057 := 0
def PySem.W.Fast.tw10921268982151456326 := 0
def PySem.W.Fast.tw17390002775908753699 := 0
def PySem.W.Fast.tw6839063075783105682 := 0
def PySem.W.Fast.tw1150960873423458394 := 0
def PySem.W.Fast.tw17134173997124331824 := 0
def PySem.W.Fast.tw10511517943003336168 := 0
def PySem.W.Fast.tw5790624834824804313 := 0
def PySem.W.Fast.tw13987459854764552376 := 0
def PySem.W.Fast.tw143959446888341427 := 0
def PySem.W.Fast.tw365533080850141809 := 0
def PySem.W.Fast.tw15719563657556092508 := 0
def PySem.W.Fast.tw6923218923007666462 := 0
def PySem.W.Fast.tw12654190785030058081 := 0
def PySem.W.Fast.tw10799477785718220133 := 0
def PySem.W.Fast.tw7042780650242497427 := 0
def PySem.W.Fast.tw17325204004843765846 := 0
def PySem.W.Fast.tw9444626642243315912 := 0
def PySem.W.Fast.tw331027572882590603 := 0
def PySem.W.Fast.tw6507802890518089856 := 0
def PySem.W.Fast.tw18087547723784110654 := 0
def PySem.W.Fast.tw14027922200732216425 := 0
def PySem.W.Fast.tw8875636153407276457 := 0
def PySem.W.Fast.tw1863372656579462480 := 0
def PySem.W.Fast.tw8285794737767530817 := 0
def PySem.W.Fast.tw9843958122275607111 := 0
def PySem.W.Fast.tw1588740374206969740 := 0
def PySem.W.Fast.tw10324954855099016618 := 0
def PySem.W.Fast.tw5365225230268348199 := 0
def PySem.W.Fast.tw17433917285763937609 := 0
def PySem.W.Fast.tw14257017970751850004 := 0
def PySem.W.Fast.tw195600917522345154 := 0
def PySem.W.Fast.tw16931119700142867742 := 0
def PySem.W.Fast.tw14424247344943309829 := 0
def PySem.W.Fast.tw7785974322759514773 := 0
def PySem.W.Fast.tw3266577697556311272 := 0
def PySem.W.Fast.tw17202505188160259708 := 0
def PySem.W.Fast.tw7781050736499376148 := 0
def PySem.W.Fast.tw14087939097186303830 := 0
def PySem.W.Fast.tw15386298355950581611 := 0
def PySem.W.Fast.tw2599341602103295046 := 0
def PySem.W.Fast.tw15934740138235089237 := 0
def PySem.W.Fast.tw3438169975861983844 := 0
def PySem.W.Fast.tw7435630609322094823 := 0
def PySem.W.Fast.tw13111352470400222561 := 0
def PySem.W.Fast.tw226542522306536300 := 0
def PySem.W.Fast.tw6134953214396312718 := 0
def PySem.W.Fast.tw17217472566962809350 := 0
def PySem.W.Fast.tw9901804412979374468 := 0
def PySem.W.Fast.tw16970031455960055313 := 0
def PySem.W.Fast.tw7754709964288925997 := 0
def PySem.W.Fast.tw14965235782166055391 := 0
def PySem.W.Fast.tw11100460986960992463 := 0
def PySem.W.Fast.tw11989621213696559466 := 0
def PySem.W.Fast.tw18298012044252133216 := 0
def PySem.W.Fast.tw4815790704748138006 := 0
def PySem.W.Fast.tw38568182377854284 := 0
def PySem.W.Fast.tw14157476669094942861 := 0
def PySem.W.Fast.tw10137659275454618016 := 0
def PySem.W.Fast.tw167469845470099224 := 0
def PySem.W.Fast.tw14668772785356597191 := 0
def PySem.W.Fast.tw12359518974118317163 := 0
def PySem.W.Fast.tw10977949923687902226 := 0
def PySem.W.Fast.tw2872638576799508751 := 0
def PySem.W.Fast.tw13861624177574041056 := 0
def PySem.W.Fast.tw13873529280573281406 := 0
def PySem.W.Fast.tw1613510959077966616 := 0
def PySem.W.Fast.tw11904814724877554784 := 0
def PySem.W.Fast.tw7620339015993605261 := 0
def PySem.W.Fast.tw15476147028338608889 := 0
def PySem.W.Fast.tw2519330612332859141 := 0
def PySem.W.Fast.tw2305676043632643928 := 0
def PySem.W.Fast.tw15823323368280051424 := 0
def PySem.W.Fast.tw11144116774937096080 := 0
def PySem.W.Fast.tw3281394475190186696 := 0
def PySem.W.Fast.tw1795038331738347647 := 0
def PySem.W.Fast.tw11010350925707674771 := 0
def PySem.W.Fast.tw6323567711404139288 := 0
def PySem.W.Fast.tw13217161205523949733 := 0
def PySem.W.Fast.tw12995129427202053658 := 0
def PySem.W.Fast.tw1156006076443761645 := 0
def PySem.W.Fast.tw6873053845027438517 := 0
def PySem.W.Fast.tw4893230129777361039 := 0
def PySem.W.Fast.tw9800767153651449007 := 0
def PySem.W.Fast.tw10800091985724856239 := 0
def PySem.W.Fast.tw5585338062411060998 := 0
def PySem.W.Fast.tw7165928891484569816 := 0
def PySem.W.Fast.tw6701620670131634140 := 0
def PySem.W.Fast.tw17496501352801094724 := 0
def PySem.W.Fast.tw10960952284027520344 := 0
def PySem.W.Fast.tw9706205411489447332 := 0
def PySem.W.Fast.tw1625484662902654570 := 0
def PySem.W.Fast.tw4196461833030199309 := 0
def PySem.W.Fast.tw7529288194339410771 := 0
def PySem.W.Fast.tw1540098208935569107 := 0
def PySem.W.Fast.tw7915535595697782623 := 0
def PySem.W.Fast.tw3248603991314462225 := 0
def PySem.W.Fast.tw7521502967381003121 := 0
def PySem.W.Fast.tw2858951392910267919 := 0
def PySem.W.Fast.tw16767009976384100246 := 0
def PySem.W.Fast.tw13959159080957477832 := 0
def PySem.W.Fast.tw3479392097240073999 := 0
def PySem.W.Fast.tw6933580327537397819 := 0
def PySem.W.Fast.tw2868073885120380967 := 0
def PySem.W.Fast.tw16990054785913253003 := 0
def PySem.W.Fast.tw11874687371833794284 := 0
def PySem.W.Fast.tw4764208654243113933 := 0
def PySem.W.Fast.tw9128886065289900687 := 0
def PySem.W.Fast.tw1586372080871055816 := 0
def PySem.W.Fast.tw7786297205739947129 := 0
def PySem.W.Fast.tw2938377314973639780 := 0
def PySem.W.Fast.tw12693100874174179486 := 0
def PySem.W.Fast.tw706326089361366773 := 0
def PySem.W.Fast.tw5509750373435482824 := 0
def PySem.W.Fast.tw16817491766506239115 := 0
def PySem.W.Fast.tw6987123051355645686 := 0
def PySem.W.Fast.tw18061174828863793059 := 0
def PySem.W.Fast.tw424096388574476686 := 0
def PySem.W.Fast.tw16655680495836208450 := 0
def PySem.W.Fast.tw17364946153377691805 := 0
def PySem.W.Fast.tw1215709187402275101 := 0
def PySem.W.Fast.tw6630171144405458429 := 0
def PySem.W.Fast.tw4291837055927090613 := 0
def PySem.W.Fast.tw4666562803887269269 := 0
def PySem.W.Fast.tw12250223288904686824 := 0
def PySem.W.Fast.tw14363976756784966441 := 0
def PySem.W.Fast.tw8267812551523794178 := 0
def PySem.W.Fast.tw2130921776996821592 := 0
def PySem.W.Fast.tw10422907505409398544 := 0
def PySem.W.Fast.tw15346672149389390715 := 0
def PySem.W.Fast.tw11974251375418641444 := 0
def PySem.W.Fast.tw5297167026631443086 := 0
def PySem.W.Fast.tw14248233040836792364 := 0
def PySem.W.Fast.tw14910357549996969149 := 0
def PySem.W.Fast.tw13641794369163386641 := 0
def PySem.W.Fast.tw9256915362605936960 := 0
def PySem.W.Fast.tw5742229538450396862 := 0
def PySem.W.Fast.tw4244055923349902365 := 0
def PySem.W.Fast.tw9458564597637272745 := 0
def PySem.W.Fast.tw17998978734112549752 := 0
def PySem.W.Fast.tw17739221644348280426 := 0
def PySem.W.Fast.tw3411743337170463847 := 0
def PySem.W.Fast.tw15498011938203002723 := 0
def PySem.W.Fast.tw10546543740027514971 := 0
def PySem.W.Fast.tw10696242331476312189 := 0
def PySem.W.Fast.tw11515193397140777585 := 0
def PySem.W.Fast.tw9894500828667553139 := 0
def PySem.W.Fast.tw17076933093562585239 := 0
def PySem.W.Fast.tw16165020256447200673 := 0
def PySem.W.Fast.tw13395824963024574007 := 0
def PySem.W.Fast.tw4350771696208558914 := 0
def PySem.W.Fast.tw7984139595717018860 := 0
def PySem.W.Fast.tw7264183729751826183 := 0
def PySem.W.Fast.tw1823753928072954484 := 0
def PySem.W.Fast.tw17716636224276210397 := 0
def PySem.W.Fast.tw17604656582669008792 := 0
def PySem.W.Fast.tw11000413849921476572 := 0
def PySem.W.Fast.tw17957547223935266008 := 0
def PySem.W.Fast.tw17842986608419102144 := 0
def PySem.W.Fast.tw8975055839866646298 := 0
def PySem.W.Fast.tw3563623288939758898 := 0
def PySem.W.Fast.tw16216401749979688727 := 0
def PySem.W.Fast.tw14916107704469384651 := 0
def PySem.W.Fast.tw7178223574458947108 := 0
def PySem.W.Fast.tw12796744373409853455 := 0
def PySem.W.Fast.tw13810583348838377099 := 0
def PySem.W.Fast.tw17679541403356740315 := 0
def PySem.W.Fast.tw541437610764976104 := 0
open PySem PySem.W PyProof.Rows
set_option maxRecDepth 100000 in
set_option maxHeartbeats 0 in
theorem PySem.Challenge.cw_formgrove_k82_no_changes_holds : PySem.Challenge.rw_formgrove_k82_no_changes.Holds := by
  w_on; o_law; k_head; (case hw => w_witness2)
  k_fill
  refine K82.walk (l := PySem.Challenge.rw_formgrove_k82_no_changes) rfl rfl (fun w h Y => PySem.W.kIn_of Y) ?F
  case F =>
    intro w mg fa h KX G hmg
    refine' K82.all_mk KX G hmg ?xn_GroveError ?xn_NoGrove ?xn_BadForm ?xn_TooMany ?xn_TooBig ?xn_NoneFits ?xn_NoBook ?xn_TwiceNamed ?xn_NoName ?xn_Ring ?xn_BadChanger ?xn_NoRecipe ?xn_NotStraight ?xn_NoChange ?xn_NoRow ?xg1 ?xg2 ?xg3 ?xg4 ?xb1 ?xb2 ?xb3 ?xb4 ?xb5 ?d1_GroveError ?d2_GroveError ?d3_GroveError ?d1_NoGrove ?d2_NoGrove ?d3_NoGrove ?d1_BadForm ?d2_BadForm ?d3_BadForm ?d1_TooMany ?d2_TooMany ?d3_TooMany ?d1_TooBig ?d2_TooBig ?d3_TooBig ?d1_NoneFits ?d2_NoneFits ?d3_NoneFits ?d1_NoBook ?d2_NoBook ?d3_NoBook ?d1_TwiceNamed ?d2_TwiceNamed ?d3_TwiceNamed ?d1_NoName ?d2_NoName ?d3_NoName ?d1_Ring ?d2_Ring ?d3_Ring ?d1_BadChanger ?d2_BadChanger ?d3_BadChanger ?d1_NoRecipe ?d2_NoRecipe ?d3_NoRecipe ?d1_NotStraight ?d2_NotStraight ?d3_NotStraight ?d1_NoChange ?d2_NoChange ?d3_NoChange ?d1_NoRow ?d2_NoRow ?d3_NoRow ?xl_NoChange ?xc_NoChange ?xt_NoChange ?xk_NoChange ?xv_NoChange ?xe_NoChange ?xi_NoChange ?m_NoChange_GroveError ?m_NoChange_NoGrove ?m_NoChange_BadForm ?m_NoChange_TooMany ?m_NoChange_TooBig ?m_NoChange_NoneFits ?m_NoChange_NoBook ?m_NoChange_TwiceNamed ?m_NoChange_NoName ?m_NoChange_Ring ?m_NoChange_BadChanger ?m_NoChange_NoRecipe ?m_NoChange_NotStraight ?m_NoChange_NoChange ?m_NoChange_NoRow ?a1 ?l1 ?c1 ?k1 ?a2 ?l2 ?c2 ?k2 ?a3 ?l3 ?c3 ?k3 ?a4 ?l4 ?c4 ?k4 ?a5 ?l5 ?c5 ?k5 ?a6 ?l6 ?c6 ?k6 ?a7 ?l7 ?c7 ?k7 ?a8 ?l8 ?c8 ?k8 ?a9 ?l9 ?c9 ?k9 ?a10 ?l10 ?c10 ?k10 ?a11 ?l11 ?c11 ?k11 ?a12 ?l12 ?c12 ?k12 ?a13 ?l13 ?c13 ?k13 ?a14 ?l14 ?c14 ?k14 ?a15 ?l15 ?c15 ?k15 ?a16 ?l16 ?c16 ?k16 ?a17 ?l17 ?c17 ?k17 ?a18 ?l18 ?c18 ?k18 ?a19 ?l19 ?c19 ?k19 ?a20 ?l20 ?c20 ?k20 ?a21 ?l21 ?c21 ?k21 ?a22 ?l22 ?c22 ?k22 ?a23 ?l23 ?c23 ?k23 ?a24 ?l24 ?c24 ?k24 ?a25 ?l25 ?c25 ?k25 ?a26 ?l26 ?c26 ?k26 ?y0 ?z0 ?z1 ?z2 ?z3 ?z4 ?z5 ?z6 ?z7 ?z8 ?z9 ?z10 ?z11 ?z12
    (case xn_GroveError => k_is)
    (case xn_NoGrove => k_is)
    (case xn_BadForm => k_is)
    (case xn_TooMany => k_is)
    (case xn_TooBig => k_is)
    (case xn_NoneFits => k_is)
    (case xn_NoBook => k_is)
    (case xn_TwiceNamed => k_is)
    (case xn_NoName => k_is)
    (case xn_Ring => k_is)
    (case xn_BadChanger => k_is)
    (case xn_NoRecipe => k_is)
    (case xn_NotStraight => k_is)
    (case xn_NoChange => k_is)
    (case xn_NoRow => k_is)
    (case xg1 => k_is)
    (case xg2 => k_is)
    (case xg3 => rfl)
    (case xg4 => k_is)
    (case xb1 => k_is)
    (case xb2 => k_is)
    (case xb3 => k_is)
    (case xb4 => k_is)
    (case xb5 => k_is)
    (case d1_GroveError => k_is)
    (case d2_GroveError => k_is)
    (case d3_GroveError => k_is)
    (case d1_NoGrove => k_is)
    (case d2_NoGrove => k_is)
    (case d3_NoGrove => k_is)
    (case d1_BadForm => k_is)
    (case d2_BadForm => k_is)
    (case d3_BadForm => k_is)
    (case d1_TooMany => k_is)
    (case d2_TooMany => k_is)
    (case d3_TooMany => k_is)
    (case d1_TooBig => k_is)
    (case d2_TooBig => k_is)
    (case d3_TooBig => k_is)
    (case d1_NoneFits => k_is)
    (case d2_NoneFits => k_is)
    (case d3_NoneFits => k_is)
    (case d1_NoBook => k_is)
    (case d2_NoBook => k_is)
    (case d3_NoBook => k_is)
    (case d1_TwiceNamed => k_is)
    (case d2_TwiceNamed => k_is)
    (case d3_TwiceNamed => k_is)
    (case d1_NoName => k_is)
    (case d2_NoName => k_is)
    (case d3_NoName => k_is)
    (case d1_Ring => k_is)
    (case d2_Ring => k_is)
    (case d3_Ring => k_is)
    (case d1_BadChanger => k_is)
    (case d2_BadChanger => k_is)
    (case d3_BadChanger => k_is)
    (case d1_NoRecipe => k_is)
    (case d2_NoRecipe => k_is)
    (case d3_NoRecipe => k_is)
    (case d1_NotStraight => k_is)
    (case d2_NotStraight => k_is)
    (case d3_NotStraight => k_is)
    (case d1_NoChange => k_is)
    (case d2_NoChange => k_is)
    (case d3_NoChange => k_is)
    (case d1_NoRow => k_is)
    (case d2_NoRow => k_is)
    (case d3_NoRow => k_is)
    (case xl_NoChange => k_is)
    (case xc_NoChange => k_is)
    (case xt_NoChange => k_is)
    (case xk_NoChange => k_is)
    (case xv_NoChange => k_is)
    (case xe_NoChange => decide)
    (case xi_NoChange => k_is)
    (case m_NoChange_GroveError => k_is)
    (case m_NoChange_NoGrove => k_is)
    (case m_NoChange_BadForm => k_is)
    (case m_NoChange_TooMany => k_is)
    (case m_NoChange_TooBig => k_is)
    (case m_NoChange_NoneFits => k_is)
    (case m_NoChange_NoBook => k_is)
    (case m_NoChange_TwiceNamed => k_is)
    (case m_NoChange_NoName => k_is)
    (case m_NoChange_Ring => k_is)
    (case m_NoChange_BadChanger => k_is)
    (case m_NoChange_NoRecipe => k_is)
    (case m_NoChange_NotStraight => k_is)
    (case m_NoChange_NoChange => k_is)
    (case m_NoChange_NoRow => k_is)
    (case a1 => k_is)
    (case l1 => k_is)
    (case c1 => k_is)
    (case k1 => k_is)
    (case a2 => k_is)
    (case l2 => k_is)
    (case c2 => k_is)
    (case k2 => k_is)
    (case a3 => k_is)
    (case l3 => k_is)
    (case c3 => k_is)
    (case k3 => k_is)
    (case a4 => k_is)
    (case l4 => k_is)
    (case c4 => k_is)
    (case k4 => k_is)
    (case a5 => k_is)
    (case l5 => k_is)
    (case c5 => k_is)
    (case k5 => k_is)
    (case a6 => k_is)
    (case l6 => k_is)
    (case c6 => k_is)
    (case k6 => k_is)
    (case a7 => k_is)
    (case l7 => k_is)
    (case c7 => k_is)
    (case k7 => k_is)
    (case a8 => k_is)
    (case l8 => k_is)
    (case c8 => k_is)
    (case k8 => k_is)
    (case a9 => k_is)
    (case l9 => k_is)
    (case c9 => k_is)
    (case k9 => k_is)
    (case a10 => k_is)
    (case l10 => k_is)
    (case c10 => k_is)
    (case k10 => k_is)
    (case a11 => k_is)
    (case l11 => k_is)
    (case c11 => k_is)
    (case k11 => k_is)
    (case a12 => k_is)
    (case l12 => k_is)
    (case c12 => k_is)
    (case k12 => k_is)
    (case a13 => k_is)
    (case l13 => k_is)
    (case c13 => k_is)
    (case k13 => k_is)
    (case a14 => k_is)
    (case l14 => k_is)
    (case c14 => k_is)
    (case k14 => k_is)
    (case a15 => k_is)
    (case l15 => k_is)
    (case c15 => k_is)
    (case k15 => k_is)
    (case a16 => k_is)
    (case l16 => k_is)
    (case c16 => k_is)
    (case k16 => k_is)
    (case a17 => k_is)
    (case l17 => k_is)
    (case c17 => k_is)
    (case k17 => k_is)
    (case a18 => k_is)
    (case l18 => k_is)
    (case c18 => k_is)
    (case k18 => k_is)
    (case a19 => k_is)
    (case l19 => k_is)
    (case c19 => k_is)
    (case k19 => k_is)
    (case a20 => k_is)
    (case l20 => k_is)
    (case c20 => k_is)
    (case k20 => k_is)
    (case a21 => k_is)
    (case l21 => k_is)
    (case c21 => k_is)
    (case k21 => k_is)
    (case a22 => k_is)
    (case l22 => k_is)
    (case c22 => k_is)
    (case k22 => k_is)
    (case a23 => k_is)
    (case l23 => k_is)
    (case c23 => k_is)
    (case k23 => k_is)
    (case a24 => k_is)
    (case l24 => k_is)
    (case c24 => k_is)
    (case k24 => k_is)
    (case a25 => k_is)
    (case l25 => k_is)
    (case c25 => k_is)
    (case k25 => k_is)
    (case a26 => k_is)
    (case l26 => k_is)
    (case c26 => k_is)
    (case k26 => k_is)
    (case y0 => k_is)
    (case z0 => k_is)
    (case z1 => k_is)
    (case z2 => k_is)
    (case z3 => k_is)
    (case z4 => k_is)
    (case z5 => k_is)
    (case z6 => k_is)
    (case z7 => k_is)
    (case z8 => k_is)
    (case z9 => k_is)
    (case z10 => k_is)
    (case z11 => k_is)
    (case z12 => k_is)
