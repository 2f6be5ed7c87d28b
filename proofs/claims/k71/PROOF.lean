import PyProof.Rows.All
import Wide.All
import OpenK.AllK
import Wide.FinOn
import Lean
import PyProof.EqAt
import PyProof.EqKinds
import PyProof.TupleCall
import PySem.Challenge.RW_formgrove_k71_a_changer_made
set_option Elab.async false
set_option linter.all false
set_option maxRecDepth 100000
/-! THE HAND LAYER, for ints, bools, texts, own classes, LISTS and tuples (index, slices, in, append, pop ..), calls, loops. Paste it whole ahead of your own text; what your proof does not reach may be deleted. -/
namespace L2
open PySem PySem.Spec PyProof.Rows

/-- a key: an int or a str -/
abbrev Key := Sum Int Str
def keyIs : Key → Value → Bool
  | .inl k, v => Value.isInt k v
  | .inr x, v => Value.isStrOf x v
def keyH (w : World) : Key → Int
  | .inl k => hashInt k
  | .inr x => hashStr w x
theorem keyIs_shape : ∀ {k : Key} {v : Value}, keyIs k v = true → (∃ i t, k = Sum.inl i ∧ v = Value.int i t) ∨ (∃ x t, k = Sum.inr x ∧ v = Value.str x t)
  | .inl i, v, h => by
    obtain ⟨t, e⟩ := Value.isInt_shape (k := i) (v := v) h
    exact .inl ⟨i, t, rfl, e⟩
  | .inr x, v, h => by
    obtain ⟨t, e⟩ := Value.isStrOf_shape (x := x) (v := v) h
    exact .inr ⟨x, t, rfl, e⟩
theorem keyIs_int (i : Int) (t : Tok) : keyIs (.inl i) (.int i t) = true := by simp [keyIs, Value.isInt]
theorem keyIs_str (x : Str) (t : Tok) : keyIs (.inr x) (.str x t) = true := by simp [keyIs, Value.isStrOf]
theorem key_ll (a b : Int) : decide ((Sum.inl a : Key) = Sum.inl b) = (a == b) := by
  by_cases e : a = b
  · subst e; simp
  · have h : ¬ (Sum.inl a : Key) = Sum.inl b := fun q => e (Sum.inl.inj q)
    rw [decide_eq_false h]
    exact (beq_eq_false_iff_ne.mpr e).symm
theorem key_rr (a b : Str) : decide ((Sum.inr a : Key) = Sum.inr b) = decide (a = b) := by
  by_cases e : a = b
  · subst e; simp
  · have h : ¬ (Sum.inr a : Key) = Sum.inr b := fun q => e (Sum.inr.inj q)
    rw [decide_eq_false h, decide_eq_false e]
theorem key_lr (a : Int) (b : Str) : decide ((Sum.inl a : Key) = Sum.inr b) = false := decide_eq_false (fun q => nomatch q)
theorem key_rl (a : Str) (b : Int) : decide ((Sum.inr a : Key) = Sum.inl b) = false := decide_eq_false (fun q => nomatch q)

def mixKind (prog : Program) (w : World) : PySem.KeyKind prog w Key where
  is := keyIs
  hash := keyH w
  inj := fun v a b ha hb => by
    rcases keyIs_shape ha with ⟨i, t, rfl, rfl⟩ | ⟨x, t, rfl, rfl⟩
    · rcases keyIs_shape hb with ⟨j, u, rfl, e⟩ | ⟨y, u, rfl, e⟩
      · injection e with e1 _; rw [e1]
      · exact nomatch e
    · rcases keyIs_shape hb with ⟨j, u, rfl, e⟩ | ⟨y, u, rfl, e⟩
      · exact nomatch e
      · injection e with e1 _; rw [e1]
  byValue := fun k v h => by
    rcases keyIs_shape h with ⟨i, t, rfl, rfl⟩ | ⟨x, t, rfl, rfl⟩ <;> rfl
  pyHash := fun hv h => by
    rcases keyIs_shape hv with ⟨i, t, rfl, rfl⟩ | ⟨x, t, rfl, rfl⟩
    · exact wpAny_pyHash_int h
    · exact wpAny_pyHash_str h
  eqBool := fun hu hv h => by
    rcases keyIs_shape hu with ⟨i, t, rfl, rfl⟩ | ⟨x, t, rfl, rfl⟩
    · rcases keyIs_shape hv with ⟨j, u, rfl, rfl⟩ | ⟨y, u, rfl, rfl⟩
      · rw [key_ll] at h; exact wpAny_eqBool_int h
      · rw [key_lr] at h; exact SeqAt.EqAt.int_str i t y u _ _ _ _ h
    · rcases keyIs_shape hv with ⟨j, u, rfl, rfl⟩ | ⟨y, u, rfl, rfl⟩
      · rw [key_rl] at h; exact SeqAt.EqAt.str_int x t j u _ _ _ _ h
      · rw [key_rr] at h; exact wpAny_eqBool_str h
  «strs» := fun k x t v h => by
    rcases keyIs_shape h with ⟨i, u, rfl, e⟩ | ⟨y, u, rfl, e⟩
    · exact nomatch e
    · injection e with e1 _
      subst e1
      cases v <;> rfl

theorem mixKind_int (prog : Program) (w : World) (i : Int) (t : Tok) : (mixKind prog w).is (.inl i) (.int i t) = true := keyIs_int i t
theorem mixKind_str (prog : Program) (w : World) (x : Str) (t : Tok) : (mixKind prog w).is (.inr x) (.str x t) = true := keyIs_str x t
end L2

namespace L2
open PySem PySem.Spec PyProof.Rows

/-- a value, without the heap -/
inductive V where
  | non | bl (b : Bool) | int (i : Int) | str (x : Str) | byt (b : Array UInt8) | flt (b : UInt64) | ref (a : Addr) | ty (n : String)
  deriving DecidableEq

def RelV : V → Value → Prop
  | .non, u => u = Value.none
  | .bl b, u => u = Value.bool b
  | .int i, u => ∃ t, u = Value.int i t
  | .str x, u => ∃ t, u = Value.str x t
  | .byt b, u => ∃ t, u = Value.bytes b t
  | .flt b, u => ∃ t, u = Value.float b t
  | .ref a, u => u = Value.ref a
  | .ty n, u => u = Value.type n

abbrev Vals : List V → List Value → Prop := Paired RelV
theorem Vals.length {xs : List V} {us : List Value} (r : Vals xs us) : xs.length = us.length := Paired.length r
theorem Vals.get : ∀ {xs : List V} {us : List Value} {i : Nat} {x : V}, Vals xs us → xs[i]? = some x → ∃ u, us[i]? = some u ∧ RelV x u
  | _, _, _, _, .nil, e => by simp at e
  | _, _, 0, _, .cons r _, e => by simp at e; subst e; exact ⟨_, rfl, r⟩
  | _, _, i + 1, x, .cons _ t, e => by
    obtain ⟨u, h1, h2⟩ := Vals.get (i := i) (x := x) t (by simpa using e)
    exact ⟨u, by simpa using h1, h2⟩
theorem Vals.append : ∀ {xs ys : List V} {us ws : List Value}, Vals xs us → Vals ys ws → Vals (xs ++ ys) (us ++ ws)
  | _, _, _, _, .nil, s => s
  | _, _, _, _, .cons r t, s => .cons r (Vals.append t s)
theorem Vals.take : ∀ {xs : List V} {us : List Value} (n : Nat), Vals xs us → Vals (xs.take n) (us.take n)
  | _, _, 0, _ => .nil
  | _, _, _ + 1, .nil => .nil
  | _, _, n + 1, .cons r t => .cons r (Vals.take n t)
theorem Vals.drop : ∀ {xs : List V} {us : List Value} (n : Nat), Vals xs us → Vals (xs.drop n) (us.drop n)
  | _, _, 0, r => r
  | _, _, _ + 1, .nil => .nil
  | _, _, n + 1, .cons _ t => Vals.drop n t
def RelO : Option V → Option Value → Prop
  | some v, some u => RelV v u
  | none, none => True
  | _, _ => False
def KV {κ : Type} : List (κ × V) → List (κ × Value) → Prop := Paired fun (p : κ × V) (q : κ × Value) => p.1 = q.1 ∧ RelV p.2 q.2

/-- a key of a dict (00_mix): an int or a text -/
def kV : Key → V
  | .inl i => .int i
  | .inr x => .str x

/-- what stands at a tracked address -/
inductive HO where
  /-- a list -/
  | lst (xs : List V)
  /-- a tuple (never changes) -/
  | tup (xs : List V)
  /-- a dict whose keys are ints and texts; one whose keys are tuples of ints and texts (the empty one is both) -/
  | dK (kvs : List (Key × V)) | dT (kvs : List (List Key × V))
  /-- a set of ints: its members, its size -/
  | set (S : Int → Bool) (n : Nat)
  /-- an instance of the class at C, its dict at dx, its attributes -/
  | ins (C dx : Addr) (fs : List (Str × V))
  /-- the dict of the instance at x -/
  | own (x : Addr)
  /-- the dict of an exception -/
  | xd (fs : List (Str × V))
  /-- a bound method, f of x -/
  | met (f x : Addr)
  /-- a range object lo, lo + 1, .. below hi -/
  | rng (lo hi : Int)
  /-- a thing that is known to the object (the script; a dict while a loop walks it): read, never written while it is so -/
  | frz (o : Obj) (u : HO)
  /-- a code object's table -/
  | tbl (ps : Array Value)
  /-- any other thing, by what is true of its one object (a def of one's own: SetO a S n := HO.ext fun h => ..) -/
  | ext (φ : Heap → Prop)

abbrev Hp := Addr → Option HO
def upd (H : Hp) (a : Addr) (o : HO) : Hp := fun b => if b = a then some o else H b
theorem upd_same {H : Hp} {a : Addr} {o : HO} : upd H a o a = some o := by unfold upd; rw [if_pos rfl]
theorem upd_ne {H : Hp} {a b : Addr} {o : HO} (h : b ≠ a) : upd H a o b = H b := by unfold upd; rw [if_neg h]
/-- two objects of different content stand apart -/
theorem ne_of {H : Hp} {a b : Addr} {o u : HO} (h : H a = some o) (h' : H b = some u) (d : o ≠ u) : a ≠ b := by
  intro e; subst e; rw [h] at h'; exact d (Option.some.inj h')
theorem ne_of_none {H : Hp} {a b : Addr} {o : HO} (h : H a = some o) (h' : H b = none) : a ≠ b := by
  intro e; subst e; rw [h] at h'; cases h'

section
variable (P : Program) (w : World)
def ObjOk (H : Hp) (h : Heap) (a : Addr) : HO → Prop
  | .lst xs => xs.length ≤ sizeLine ∧ ∃ (its : List Value) (n : Nat), Vals xs its ∧ h.get? a = some { cls := .type "list", data := .seq its.toArray n }
  | .tup xs => xs.length ≤ sizeLine ∧ ∃ its : List Value, Vals xs its ∧ IsTup h a its.toArray
  | .dK kvs => kvs.length ≤ sizeLine ∧ (a == sysModules) = false ∧ ∃ vs, KV kvs vs ∧ h.DictOf (mixKind P w) a vs
  | .dT kvs => kvs.length ≤ sizeLine ∧ (a == sysModules) = false ∧ ∃ xs : List (List Key × Addr × Value),
      Paired (fun (p : List Key × V) (q : List Key × Addr × Value) => p.1 = q.1 ∧ H q.2.1 = some (.tup (p.1.map kV)) ∧ RelV p.2 q.2.2) kvs xs ∧
      ∃ o es ep, h.get? a = some o ∧ o.ExactDict ∧ o.data = .dict es ep ∧ es.toList = xs.map (entryOfKey (tupleKind (mixKind P w))) ∧ (xs.map (·.1)).Nodup
  | .set S n => h.SetOf (intKind P w) a S n
  | .ins C dx fs => H dx = some (.own a) ∧ fs.length ≤ 1000 ∧ dx ≠ a ∧ h.get? a = some (PySem.W.instObj C dx) ∧
      ∃ mA, h.Ns1 dx mA ∧ (∀ f, RelO (fs.lookup f) (mA f)) ∧ PySem.Within mA (fs.map (·.1))
  | .own _ => ∃ o, h.get? a = some o
  | .xd fs => ∃ mA, h.Ns1 a mA ∧ ∀ f, RelO (fs.lookup f) (mA f)
  | .rng lo hi => ∃ t u v, h.get? a = some { cls := .type "range", data := .fields #[.int lo t, .int hi u, .int 1 v] }
  | .frz o u => h.get? a = some o ∧ ObjOk H h a u
  | .tbl ps => h.get? a = some { cls := .none, data := .fields ps }
  | .met f x => h.get? a = some (PySem.W.methodObj (.ref f) (.ref x))
  | .ext φ => φ h ∧ (∃ o, h.get? a = some o) ∧ ∀ h1 h2 : Heap, φ h1 → (∀ o, h1.get? a = some o → h2.get? a = some o) → φ h2
/-- the abstract heap is held -/
def HOk (H : Hp) (h : Heap) : Prop := ∀ a o, H a = some o → ObjOk P w H h a o
end

section
variable {P : Program} {w : World} {H H' : Hp} {h h' : Heap} {a : Addr} {o : HO}
theorem ObjOk.lt (x : ObjOk P w H h a o) : a < h.objs.size := by
  cases o with
  | lst xs => obtain ⟨_, _, _, _, e⟩ := x; exact Heap.lt_size e
  | tup xs => obtain ⟨_, _, _, p⟩ := x; exact p.lt
  | dK kvs => obtain ⟨_, _, _, _, o, _, _, e, _⟩ := x; exact Heap.lt_size e
  | dT kvs => obtain ⟨_, _, _, _, o, _, _, e, _⟩ := x; exact Heap.lt_size e
  | set S n => obtain ⟨o, _, _, _, e, _⟩ := x; exact Heap.lt_size e
  | ins C dx fs => obtain ⟨_, _, _, e, _⟩ := x; exact Heap.lt_size e
  | own y => obtain ⟨_, e⟩ := x; exact Heap.lt_size e
  | xd fs => obtain ⟨_, ⟨_, _, _, e, _⟩, _⟩ := x; exact Heap.lt_size e
  | rng lo hi => obtain ⟨_, _, _, e⟩ := x; exact Heap.lt_size e
  | frz ob u => obtain ⟨e, _⟩ := x; exact Heap.lt_size e
  | tbl ps => exact Heap.lt_size (show h.get? a = some _ from x)
  | met f y => exact Heap.lt_size (show h.get? a = some _ from x)
  | ext φ => obtain ⟨_, ⟨_, e⟩, _⟩ := x; exact Heap.lt_size e
theorem Paired.mapP {α β : Type} {F G : α → β → Prop} : ∀ {l₁ : List α} {l₂ : List β}, Paired F l₁ l₂ → (∀ a b, F a b → G a b) → Paired G l₁ l₂
  | _, _, .nil, _ => .nil
  | _, _, .cons r t, f => .cons (f _ _ r) (Paired.mapP t f)
/-- what an object's description leans on: its own object, its own dict, the tuples -/
theorem ObjOk.stay (x : ObjOk P w H h a o) (k : ∀ b u, (b = a ∨ H b = some (.own a)) → h.get? b = some u → h'.get? b = some u)
    (ho : ∀ b, H b = some (.own a) → H' b = some (.own a)) (ht : ∀ b xs, H b = some (.tup xs) → H' b = some (.tup xs)) : ObjOk P w H' h' a o := by
  induction o with
  | lst xs => obtain ⟨z, its, n, r, e⟩ := x; exact ⟨z, its, n, r, k _ _ (.inl rfl) e⟩
  | tup xs => obtain ⟨z, its, r, ob, e, c⟩ := x; exact ⟨z, its, r, ob, k _ _ (.inl rfl) e, c⟩
  | dK kvs => obtain ⟨z, y, vs, r, ob, es, ep, e, c⟩ := x; exact ⟨z, y, vs, r, ob, es, ep, k _ _ (.inl rfl) e, c⟩
  | dT kvs =>
    obtain ⟨z, y, xs, r, ob, es, ep, e, c⟩ := x
    exact ⟨z, y, xs, Paired.mapP r fun p q z => ⟨z.1, ht _ _ z.2.1, z.2.2⟩, ob, es, ep, k _ _ (.inl rfl) e, c⟩
  | set S n => obtain ⟨ob, es, ep, t, e, c⟩ := x; exact ⟨ob, es, ep, t, k _ _ (.inl rfl) e, c⟩
  | ins C dx fs =>
    obtain ⟨d, z, ne, e, mA, ⟨od, es, ep, e2, c⟩, r⟩ := x
    exact ⟨ho _ d, z, ne, k _ _ (.inl rfl) e, mA, ⟨od, es, ep, k _ _ (.inr d) e2, c⟩, r⟩
  | own y => obtain ⟨ob, e⟩ := x; exact ⟨ob, k _ _ (.inl rfl) e⟩
  | xd fs => obtain ⟨mA, ⟨od, es, ep, e, c⟩, r⟩ := x; exact ⟨mA, ⟨od, es, ep, k _ _ (.inl rfl) e, c⟩, r⟩
  | rng lo hi => obtain ⟨t, u, v, e⟩ := x; exact ⟨t, u, v, k _ _ (.inl rfl) e⟩
  | frz ob u ih => obtain ⟨e, q⟩ := x; exact ⟨k _ _ (.inl rfl) e, ih q⟩
  | tbl ps =>
    have e : h.get? a = some { cls := .none, data := .fields ps } := x
    show h'.get? a = some { cls := .none, data := .fields ps }
    exact k a _ (.inl rfl) e
  | met f y =>
    have e : h.get? a = some (PySem.W.methodObj (.ref f) (.ref y)) := x
    show h'.get? a = some (PySem.W.methodObj (.ref f) (.ref y))
    exact k a _ (.inl rfl) e
  | ext φ => obtain ⟨p, ⟨o, e⟩, st⟩ := x; exact ⟨st _ _ p fun o q => k _ _ (.inl rfl) q, ⟨o, k _ _ (.inl rfl) e⟩, st⟩
theorem HOk.lt (x : HOk P w H h) (e : H a = some o) : a < h.objs.size := (x a o e).lt
theorem HOk.fresh (x : HOk P w H h) (e : h.objs.size ≤ a) : H a = none := by
  cases q : H a with
  | none => rfl
  | some u => exact absurd (Nat.lt_of_lt_of_le (x.lt q) e) (Nat.lt_irrefl _)
/-- every object of the heap is kept -/
theorem HOk.kept (x : HOk P w H h) (k : ∀ b u, h.get? b = some u → h'.get? b = some u) : HOk P w H h' := fun a o e =>
  (x a o e).stay (fun b u _ q => k b u q) (fun _ q => q) fun _ _ q => q
/-- a new object is laid and tracked -/
theorem HOk.laid (x : HOk P w H h) (k : ∀ b u, h.get? b = some u → h'.get? b = some u) (hp : h.objs.size ≤ a) (new : ObjOk P w (upd H a o) h' a o) : HOk P w (upd H a o) h' := fun b u e => by
  have hn := x.fresh hp
  by_cases hb : b = a
  · subst hb; rw [upd_same] at e; cases e; exact new
  · rw [upd_ne hb] at e
    exact (x b u e).stay (fun c v _ q => k c v q) (fun c q => by rw [upd_ne (ne_of_none q hn)]; exact q) fun c xs q => by rw [upd_ne (ne_of_none q hn)]; exact q
end

/-- what may be read as u: it is u, or a known u -/
def Rd (H : Hp) (a : Addr) (u : HO) : Prop := H a = some u ∨ ∃ o, H a = some (.frz o u)
theorem Rd.ok {P : Program} {w : World} {H : Hp} {h : Heap} {a : Addr} {u : HO} (r : Rd H a u) (x : HOk P w H h) : ObjOk P w H h a u := by
  rcases r with r | ⟨o, r⟩
  · exact x a u r
  · obtain ⟨_, q⟩ := x a _ r
    exact q
/-- what may be written -/
def Mut : Option HO → Prop
  | some (.lst _) => True
  | some (.dK _) => True
  | some (.dT _) => True
  | some (.set _ _) => True
  | some (.ins _ _ _) => True
  | some (.ext _) => True
  | _ => False
section
variable {P : Program} {w : World} {H : Hp} {h h' : Heap} {x e : Addr} {o' : HO}
/-- the object at e is changed: x itself, or the dict of the instance x -/
theorem HOk.write (ok : HOk P w H h) (mu : Mut (H x)) (he : e = x ∨ H e = some (.own x)) (k : ∀ b u, b ≠ e → h.get? b = some u → h'.get? b = some u) (heo : ∃ u, h'.get? e = some u)
    (new : ObjOk P w (upd H x o') h' x o') : HOk P w (upd H x o') h' := fun b u q => by
  have nown : ∀ c y, H c = some (.own y) → c ≠ x := fun c y r z => by subst z; rw [r] at mu; exact mu
  have ntup : ∀ c xs, H c = some (.tup xs) → c ≠ x := fun c xs r z => by subst z; rw [r] at mu; exact mu
  by_cases hb : b = x
  · subst hb; rw [upd_same] at q; cases q; exact new
  · rw [upd_ne hb] at q
    by_cases hbe : b = e
    · have q' : H b = some (.own x) := by
        rcases he with z | z
        · exact absurd (hbe.trans z) hb
        · rw [hbe]; exact z
      rw [q] at q'; cases q'
      obtain ⟨v, hv⟩ := heo
      exact ⟨v, by rw [hbe]; exact hv⟩
    · refine (ok b u q).stay (fun c v hc r => k c v ?_ r) (fun c r => by rw [upd_ne (nown c b r)]; exact r) fun c xs r => by rw [upd_ne (ntup c xs r)]; exact r
      rcases hc with rfl | hc
      · exact hbe
      · rintro rfl
        rcases he with z | z
        · exact nown c b hc z
        · rw [hc] at z; cases z; exact hb rfl
end

/-! ### kept unless tracked; of the frames at fs (the callers') the slots may change (an exception that passes writes there); of the records at ex (iterators) nothing is said -/
structure Un (fs ex : List Addr) (H H' : Hp) (h h' : Heap) : Prop where
  keep : ∀ b o, h.get? b = some o → H b = none → b ∉ fs → b ∉ ex → h'.get? b = some o
  slot : ∀ b o, h.get? b = some o → H b = none → b ∈ fs → b ∉ ex → ∃ sl, h'.get? b = some { o with slots := sl }
  free : ∀ b o, h.get? b = some o → H b = none → b ∉ ex → H' b = none
  there : ∀ b o, h.get? b = some o → b ∉ ex → ∃ o', h'.get? b = some o'
  tups : ∀ b xs, H b = some (.tup xs) → H' b = some (.tup xs)
  frzs : ∀ b o u, H b = some (.frz o u) → H' b = some (.frz o u)
  tbls : ∀ b ps, H b = some (.tbl ps) → ∃ more, H' b = some (.tbl (ps ++ more))
section
variable {fs fs' ex ex' : List Addr} {H H1 H2 : Hp} {h h1 h2 h' : Heap} {a x e : Addr} {o : HO}
theorem Un.any (u : Un fs ex H H1 h h1) {b : Addr} {ob : Obj} (q : h.get? b = some ob) (n : H b = none) (hx : b ∉ ex) : ∃ sl, h1.get? b = some { ob with slots := sl } := by
  by_cases hb : b ∈ fs
  · exact u.slot b ob q n hb hx
  · exact ⟨ob.slots, u.keep b ob q n hb hx⟩
theorem Un.kept (k : ∀ b u, h.get? b = some u → h'.get? b = some u) : Un fs ex H H h h' :=
  ⟨fun b ob q _ _ _ => k b ob q, fun b ob q _ _ _ => ⟨ob.slots, k b ob q⟩, fun _ _ _ n _ => n, fun b ob q _ => ⟨ob, k b ob q⟩, fun _ _ q => q, fun _ _ _ q => q, fun _ ps q => ⟨#[], by rw [q]; simp⟩⟩
theorem Un.refl : Un fs ex H H h h := Un.kept fun _ _ q => q
theorem Un.laid (k : ∀ b u, h.get? b = some u → h'.get? b = some u) (hp : h.objs.size ≤ a) (hn : H a = none) : Un fs ex H (upd H a o) h h' where
  keep := fun b u q _ _ _ => k b u q
  slot := fun b u q _ _ _ => ⟨u.slots, k b u q⟩
  free := fun b u q n _ => by rw [upd_ne (Nat.ne_of_lt (Nat.lt_of_lt_of_le (Heap.lt_size q) hp))]; exact n
  there := fun b u q _ => ⟨u, k b u q⟩
  tups := fun b xs q => by rw [upd_ne (ne_of_none q hn)]; exact q
  frzs := fun b u xs q => by rw [upd_ne (ne_of_none q hn)]; exact q
  tbls := fun b ps q => ⟨#[], by rw [upd_ne (ne_of_none q hn), q]; simp⟩
theorem Un.write (mu : Mut (H x)) (he : e = x ∨ H e = some (.own x)) (k : ∀ b u, b ≠ e → h.get? b = some u → h'.get? b = some u) (heo : ∃ u, h'.get? e = some u) : Un fs ex H (upd H x o) h h' := by
  have hx : ∀ b, H b = none → b ≠ x := fun b n z => by subst z; rw [n] at mu; exact mu
  have hb : ∀ b, H b = none → b ≠ e := fun b n z => by
    subst z
    rcases he with r | r
    · exact hx b n r
    · rw [n] at r; cases r
  have hm : ∀ b u, H b = some u → ¬ Mut (some u) → b ≠ x := fun b u q nm z => by subst z; rw [q] at mu; exact nm mu
  refine ⟨fun b u q n _ _ => k b u (hb b n) q, fun b u q n _ _ => ⟨u.slots, k b u (hb b n) q⟩, fun b u q n _ => by rw [upd_ne (hx b n)]; exact n, fun b u q _ => ?_,
    fun b xs q => by rw [upd_ne (hm b _ q fun z => z)]; exact q, fun b u xs q => by rw [upd_ne (hm b _ q fun z => z)]; exact q, fun b ps q => ⟨#[], by rw [upd_ne (hm b _ q fun z => z), q]; simp⟩⟩
  by_cases hbe : b = e
  · subst hbe; exact heo
  · exact ⟨u, k b u hbe q⟩
end

/-! ### the heap without what is tracked -/
def trk (h : Heap) (H : Hp) : List Addr := (List.range h.objs.size).filter fun a => (H a).isSome
def hidT (h : Heap) (H : Hp) : Heap := PySem.W.hideAll h (trk h H)
theorem hidT_size (h : Heap) (H : Hp) : (hidT h H).objs.size = h.objs.size := PySem.W.hideAll_size _ _
theorem hidT_get {h : Heap} {H : Hp} {b : Addr} {o : Obj} (e : h.get? b = some o) (n : H b = none) : (hidT h H).get? b = some o :=
  PySem.W.hideAll_get _ e fun hm => by
    have q : (H b).isSome = true := (List.mem_filter.mp hm).2
    rw [n] at q; simp at q
theorem of_hidT {h : Heap} {H : Hp} {b : Addr} {o : Obj} (e : (hidT h H).get? b = some o) : h.get? b = some o ∧ H b = none := by
  have e' : h.get? b = some o := PySem.W.of_hideAll (trk h H) e
  refine ⟨e', ?_⟩
  cases q : H b with
  | none => rfl
  | some x =>
    have hm : b ∈ trk h H := List.mem_filter.mpr ⟨List.mem_range.mpr (Heap.lt_size e'), by simp [q]⟩
    have z : (hidT h H).get? b = none := PySem.W.hideAll_none (trk h H) hm
    rw [z] at e; cases e

/-! ### OpenK's ledger, filled with every new object but one -/
end L2

namespace L2
open PySem PySem.Spec PyProof.Rows

/-- the module's facts, over the base: the heap at the law's entry without what is tracked there -/
structure Mod (K : PySem.W.Frag) (mg : Str → Option Value) (base : Heap) : Prop where
  kin : K.In base
  glob : base.Ns mainGlobals mg
  blt : ∃ mb, base.Ns builtinsNs mb ∧ ∀ x : Str, x ≠ "__name__" → mb x = bootBuiltins x
  nolimit : base.NoLimit

/-- the context: a def's body (or a comprehension's block) running. base: fixed through the whole law; s₀, H₀: the entry; outer: the frames whose slots others may change (a def's callers); stack: all frames that run;
   ex: iterators that were made ahead of the entry and are walked here (a comprehension's); fn: the names whose cells were made at the entry (a def: all; a comprehension's block: its own); calm: not within an except suite; pn: pins that every state bears; xe: what is wanted of an exception that leaves the code -/
structure Cx where
  prog : Program
  w : World
  K : PySem.W.Frag
  mg : Str → Option Value
  base : Heap
  A : Around
  N : List Str
  s₀ : Shared
  H₀ : Hp
  env : Env
  outer : List Env
  stack : List Env
  ex : List Addr
  fn : Str → Bool
  calm : Bool
  pn : List (Addr × Obj)
  xe : Value → Shared → Prop
/-- the callers' frames -/
def frs (l : List Env) : List Addr := l.filterMap (·.frame)
abbrev Cx.fs (X : Cx) : List Addr := frs X.outer

def Vis (sc : Scope) (x : Str) : Prop := sc.names.lookup x = some .local ∨ sc.names.lookup x = some .cell ∨ sc.names.lookup x = some .free
def Loc (sc : Scope) (x : Str) : Prop := sc.names.lookup x = some .local ∨ sc.names.lookup x = some .cell
def Look (env : Env) (h : Heap) (m : Str → Option Value) (x : Str) (u : Value) : Prop :=
  (env.kindOf x = some .local ∧ m x = some u) ∨ ((env.kindOf x = some .cell ∨ env.kindOf x = some .free) ∧ ∃ c, env.cells.lookup x = some c ∧ h.IsCell c (some u))

structure Cx.Ok (X : Cx) : Prop where
  mod : Mod X.K X.mg X.base
  kind : X.env.scope.kind = .function
  glob : X.env.globals = mainGlobals
  blt : X.env.builtins = builtinsNs
  above : X.s₀.heap.objs.size ≤ X.env.locals
  inj : ∀ x y c, X.env.cells.lookup x = some c → X.env.cells.lookup y = some c → x = y
  has : ∀ x, (X.env.kindOf x = some .cell ∨ X.env.kindOf x = some .free) → ∃ c, X.env.cells.lookup x = some c
  cab : ∀ x c, X.fn x = true → X.env.cells.lookup x = some c → X.s₀.heap.objs.size ≤ c
  hd : X.calm = true → X.A.handled = none
  frames : X.A.frames = some X.stack
  stk : X.stack = X.outer ∨ (X.stack = X.env :: X.outer ∧ X.env.frame = some X.env.locals)
  exf : ∀ b ∈ X.ex, b ≠ X.env.locals ∧ ∀ x c, X.env.cells.lookup x = some c → c ≠ b
  bs : ∀ b o, X.base.get? b = some o → X.s₀.heap.get? b = some o ∧ X.H₀ b = none
  bsz : X.base.objs.size ≤ X.s₀.heap.objs.size
  noex : ∀ b o, X.base.get? b = some o → b ∉ X.ex
  exfs : ∀ b ∈ X.ex, b ∉ X.fs
  funs : X.s₀.heap.FunFrames X.base X.outer
  frf : ∀ b ∈ X.fs, X.H₀ b = none

structure Inv (X : Cx) (pins : List (Addr × Obj)) (σ : List (Option V)) (H : Hp) (s : Shared) : Prop where
  ok : X.Ok
  os : s.os = X.s₀.os
  bare : AllBare s.gens
  base : Un X.fs X.ex X.H₀ H X.s₀.heap s.heap
  loc : ∃ m, s.heap.Ns X.env.locals m ∧ ∀ (i : Nat) (x : Str) (v : V), X.N[i]? = some x → σ[i]? = some (some v) → Vis X.env.scope x → ∃ u, RelV v u ∧ Look X.env s.heap m x u
  cell : ∀ x c, X.env.cells.lookup x = some c → ∃ v, s.heap.IsCell c v
  free : H X.env.locals = none
  freeC : ∀ x c, X.env.cells.lookup x = some c → H c = none
  pin : ∀ p ∈ X.pn ++ pins, s.heap.get? p.1 = some p.2 ∧ H p.1 = none ∧ p.1 ≠ X.env.locals ∧ p.1 ∉ X.fs ∧ ∀ v, p.2.data ≠ .cell v
  hok : HOk X.prog X.w H s.heap
  len : σ.length = X.N.length

section
variable {X : Cx} {pins : List (Addr × Obj)} {σ : List (Option V)} {H H' : Hp} {s : Shared} {h' : Heap}

theorem Cx.Ok.nofr (ok : X.Ok) {b : Addr} {o : Obj} (e : X.base.get? b = some o) : b ∉ X.fs := fun hb => by
  have := (ok.funs.mem hb).1
  rw [e] at this; cases this
theorem Inv.bs (I : Inv X pins σ H s) : ∀ b o, X.base.get? b = some o → s.heap.get? b = some o ∧ H b = none := fun b o e =>
  ⟨I.base.keep b o (I.ok.bs b o e).1 (I.ok.bs b o e).2 (I.ok.nofr e) (I.ok.noex b o e), I.base.free b o (I.ok.bs b o e).1 (I.ok.bs b o e).2 (I.ok.noex b o e)⟩
theorem Inv.bk (I : Inv X pins σ H s) : ∀ b o, X.base.get? b = some o → s.heap.get? b = some o := fun b o e => (I.bs b o e).1
theorem Inv.mod (I : Inv X pins σ H s) : Mod X.K X.mg X.base := I.ok.mod
theorem Inv.kIn (I : Inv X pins σ H s) : X.K.In s.heap := I.ok.mod.kin.keeps I.bk
theorem Inv.lt (I : Inv X pins σ H s) : X.env.locals < s.heap.objs.size := let ⟨_, hn, _⟩ := I.loc; hn.lt
theorem Inv.sz (I : Inv X pins σ H s) : X.s₀.heap.objs.size ≤ s.heap.objs.size := Nat.le_trans I.ok.above (Nat.le_of_lt I.lt)
theorem Inv.nofs (I : Inv X pins σ H s) {a : Addr} (h : s.heap.objs.size ≤ a) : a ∉ X.fs := fun hb => by
  obtain ⟨_, o, ho, _⟩ := I.ok.funs.mem hb
  exact absurd (Nat.lt_of_lt_of_le (Heap.lt_size ho) (Nat.le_trans I.sz h)) (Nat.lt_irrefl _)
theorem Inv.cne (I : Inv X pins σ H s) : ∀ x c, X.env.cells.lookup x = some c → c ≠ X.env.locals := fun x c e z => by
  obtain ⟨v, o, ho, hd⟩ := I.cell x c e
  obtain ⟨m, ⟨o', es, ep, ho', hd', _⟩, _⟩ := I.loc
  rw [z, ho'] at ho; cases ho; rw [hd'] at hd; cases hd
theorem Inv.funs (I : Inv X pins σ H s) : s.heap.FunFrames X.base X.outer := by
  have all : ∀ (l : List Env), (∀ b ∈ frs l, b ∈ X.fs) → X.s₀.heap.FunFrames X.base l → s.heap.FunFrames X.base l := by
    intro l
    induction l with
    | nil => intro _ _; trivial
    | cons env r ih =>
      intro hs hl
      obtain ⟨hk, ⟨L, o, hf, hn, ho, hd⟩, hr⟩ := hl
      have hL : L ∈ X.fs := hs L (by unfold frs; rw [List.filterMap_cons, hf]; exact List.mem_cons_self)
      obtain ⟨sl, e⟩ := I.base.slot L o ho (I.ok.frf L hL) hL fun z => I.ok.exfs L z hL
      exact ⟨hk, ⟨L, _, hf, hn, e, hd⟩, ih (fun b hb => hs b (by unfold frs; rw [List.filterMap_cons, hf]; exact List.mem_cons_of_mem _ hb)) hr⟩
  exact all X.outer (fun _ hb => hb) I.ok.funs

/-- the frames that run, for a call -/
theorem Inv.stack (I : Inv X pins σ H s) : s.heap.FunFrames X.base X.stack := by
  rcases I.ok.stk with e | ⟨e, hf⟩
  · rw [e]; exact I.funs
  · rw [e]
    obtain ⟨m, hn, _⟩ := I.loc
    refine .cons (by rw [I.ok.kind]; decide) hf hn ?_ I.funs
    exact Heap.get?_none_of_le (Nat.le_trans I.ok.bsz I.ok.above)
theorem Inv.stkSub (I : Inv X pins σ H s) : ∀ b ∈ frs X.stack, b ∈ X.env.locals :: X.fs := fun b hb => by
  rcases I.ok.stk with e | ⟨e, hf⟩
  · rw [e] at hb; exact List.mem_cons_of_mem _ hb
  · rw [e] at hb
    unfold frs at hb
    rw [List.filterMap_cons, hf] at hb
    exact hb
theorem Inv.stkFree (I : Inv X pins σ H s) : ∀ b ∈ frs X.stack, H b = none := fun b hb => by
  rcases List.mem_cons.mp (I.stkSub b hb) with e | hb
  · rw [e]; exact I.free
  · obtain ⟨_, o, ho, _⟩ := I.ok.funs.mem hb
    exact I.base.free b o ho (I.ok.frf b hb) fun z => I.ok.exfs b z hb

/-- THE STEP: the untracked objects but the frame and the records at ch are kept (the callers' frames up to slots), the frame's map is kept, the new abstract heap is held -/
theorem Inv.step {g' : Array GenState} {t' : Nat} {d' : Drawn} {ch : List Addr} (I : Inv X pins σ H s)
    (hch : ∀ b ∈ ch, (b ∈ X.ex ∨ X.s₀.heap.objs.size ≤ b) ∧ b ≠ X.env.locals ∧ (∀ x c, X.env.cells.lookup x = some c → c ≠ b) ∧ ∀ p ∈ X.pn ++ pins, p.1 ≠ b)
    (keep : ∀ b o, b ≠ X.env.locals → b ∉ X.fs → b ∉ ch → s.heap.get? b = some o → H b = none → h'.get? b = some o)
    (slot : ∀ b o, b ≠ X.env.locals → b ∈ X.fs → b ∉ ch → s.heap.get? b = some o → H b = none → ∃ sl, h'.get? b = some { o with slots := sl }) (free : ∀ b o, b ∉ ch → s.heap.get? b = some o → H b = none → H' b = none)
    (there : ∀ b o, b ∉ ch → s.heap.get? b = some o → ∃ o', h'.get? b = some o')
    (tups : ∀ b xs, H b = some (.tup xs) → H' b = some (.tup xs)) (frzs : ∀ b o u, H b = some (.frz o u) → H' b = some (.frz o u)) (tbls : ∀ b ps, H b = some (.tbl ps) → ∃ more, H' b = some (.tbl (ps ++ more)))
    (ns : ∀ m, s.heap.Ns X.env.locals m → h'.Ns X.env.locals m) (hok : HOk X.prog X.w H' h') (hg : AllBare g') :
    Inv X pins σ H' { s with heap := h', gens := g', drawn := d', toks := t' } := by
  have neL : ∀ b o, X.s₀.heap.get? b = some o → b ≠ X.env.locals := fun b o e => Nat.ne_of_lt (Nat.lt_of_lt_of_le (Heap.lt_size e) I.ok.above)
  have neC : ∀ b o, X.s₀.heap.get? b = some o → b ∉ X.ex → b ∉ ch := fun b o e hx hb => by
    rcases (hch b hb).1 with z | z
    · exact hx z
    · exact absurd (Nat.lt_of_lt_of_le (Heap.lt_size e) z) (Nat.lt_irrefl _)
  have cellK : ∀ x c, X.env.cells.lookup x = some c → ∀ v, s.heap.IsCell c v → h'.IsCell c v := fun x c e v ⟨o, ho, hd⟩ => by
    have nch : c ∉ ch := fun z => (hch c z).2.2.1 x c e rfl
    by_cases hc : c ∈ X.fs
    · obtain ⟨sl, q⟩ := slot c o (I.cne x c e) hc nch ho (I.freeC x c e)
      exact ⟨_, q, hd⟩
    · exact ⟨o, keep c o (I.cne x c e) hc nch ho (I.freeC x c e), hd⟩
  refine ⟨I.ok, I.os, hg, ⟨fun b o e n hb hx => ?_, fun b o e n hb hx => ?_, fun b o e n hx => ?_, fun b o e hx => ?_, fun b xs e => tups b xs (I.base.tups b xs e), fun b o xs e => frzs b o xs (I.base.frzs b o xs e), fun b ps e => ?_⟩, ?_, fun x c e => ?_, ?_, fun x c e => ?_, fun p hp => ?_, hok, I.len⟩
  · exact keep b o (neL b o e) hb (neC b o e hx) (I.base.keep b o e n hb hx) (I.base.free b o e n hx)
  · obtain ⟨sl, e1⟩ := I.base.slot b o e n hb hx
    obtain ⟨sl', e2⟩ := slot b _ (neL b o e) hb (neC b o e hx) e1 (I.base.free b o e n hx)
    exact ⟨sl', e2⟩
  · obtain ⟨o', e1⟩ := I.base.there b o e hx
    exact free b o' (neC b o e hx) e1 (I.base.free b o e n hx)
  · obtain ⟨o', e1⟩ := I.base.there b o e hx
    exact there b o' (neC b o e hx) e1
  · obtain ⟨m1, e1⟩ := I.base.tbls b ps e
    obtain ⟨m2, e2⟩ := tbls b _ e1
    exact ⟨m1 ++ m2, by rw [e2, Array.append_assoc]⟩
  · obtain ⟨m, hn, hl⟩ := I.loc
    refine ⟨m, ns m hn, fun i x v e1 e2 e3 => ?_⟩
    obtain ⟨u, r, l⟩ := hl i x v e1 e2 e3
    refine ⟨u, r, ?_⟩
    rcases l with l | ⟨k, c, e, z⟩
    · exact .inl l
    · exact .inr ⟨k, c, e, cellK x c e _ z⟩
  · obtain ⟨v, z⟩ := I.cell x c e
    exact ⟨v, cellK x c e v z⟩
  · obtain ⟨m, ⟨o, _, _, ho, _⟩, _⟩ := I.loc
    exact free _ o (fun z => (hch _ z).2.1 rfl) ho I.free
  · obtain ⟨v, o, ho, hd⟩ := I.cell x c e
    exact free c o (fun z => (hch c z).2.2.1 x c e rfl) ho (I.freeC x c e)
  · obtain ⟨e, n, ne, nf, d⟩ := I.pin p hp
    have nch : p.1 ∉ ch := fun z => (hch p.1 z).2.2.2 p hp rfl
    exact ⟨keep p.1 p.2 ne nf nch e n, free p.1 p.2 nch e n, ne, nf, d⟩
/-- .. where the frame's own object is kept too -/
theorem Inv.un {t' : Nat} (I : Inv X pins σ H s) (u : Un X.fs [] H H' s.heap h') (hok : HOk X.prog X.w H' h') : Inv X pins σ H' { s with heap := h', toks := t' } := by
  obtain ⟨m, ⟨o, es, ep, ho, r⟩, _⟩ := id I.loc
  obtain ⟨sl, hL⟩ := u.any ho I.free (by simp)
  exact I.step (g' := s.gens) (d' := s.drawn) (ch := []) (fun _ z => nomatch z) (fun b o _ hb _ e n => u.keep b o e n hb (by simp)) (fun b o _ hb _ e n => u.slot b o e n hb (by simp)) (fun b o _ e n => u.free b o e n (by simp)) (fun b o _ e => u.there b o e (by simp)) u.tups u.frzs u.tbls (fun m' hm => by
    obtain ⟨o', es', ep', ho', r'⟩ := hm
    rw [ho] at ho'; cases ho'
    exact ⟨_, es', ep', hL, r'⟩) hok I.bare
/-- behind a call (or a comprehension's block): the slots of this frame may have changed too, the records at ch may have turned -/
theorem Inv.call {g' : Array GenState} {t' : Nat} {d' : Drawn} {ch : List Addr} (I : Inv X pins σ H s) (u : Un (frs X.stack) ch H H' s.heap h') (hok : HOk X.prog X.w H' h') (hg : AllBare g')
    (hch : ∀ b ∈ ch, (b ∈ X.ex ∨ X.s₀.heap.objs.size ≤ b) ∧ b ≠ X.env.locals ∧ (∀ x c, X.env.cells.lookup x = some c → c ≠ b) ∧ ∀ p ∈ X.pn ++ pins, p.1 ≠ b) :
    Inv X pins σ H' { s with heap := h', gens := g', drawn := d', toks := t' } := by
  obtain ⟨m, ⟨o, es, ep, ho, r⟩, _⟩ := id I.loc
  obtain ⟨sl, hL⟩ := u.any ho I.free fun z => (hch _ z).2.1 rfl
  exact I.step (ch := ch) hch (fun b o hL hb hc e n => u.keep b o e n (fun z => (List.mem_cons.mp (I.stkSub b z)).elim hL hb) hc) (fun b o _ _ hc e n => u.any e n hc) (fun b o hc e n => u.free b o e n hc) (fun b o hc e => u.there b o e hc) u.tups u.frzs u.tbls (fun m' hm => by
    obtain ⟨o', es', ep', ho', r'⟩ := hm
    rw [ho] at ho'; cases ho'
    exact ⟨_, es', ep', hL, r'⟩) hok hg
/-- an untracked record of ours (an iterator) has turned -/
theorem Inv.turned {t' : Nat} {it : Addr} (I : Inv X pins σ H s) (k : ∀ b o, b ≠ it → s.heap.get? b = some o → h'.get? b = some o) (hn : H it = none) (hL : it ≠ X.env.locals)
    (h1 : it ∈ X.ex ∨ X.s₀.heap.objs.size ≤ it) (h2 : ∀ x c, X.env.cells.lookup x = some c → c ≠ it) (h3 : ∀ p ∈ X.pn ++ pins, p.1 ≠ it) : Inv X pins σ H { s with heap := h', toks := t' } := by
  have nit : ∀ b u, H b = some u → b ≠ it := fun b u e z => by rw [z, hn] at e; cases e
  refine I.step (g' := s.gens) (d' := s.drawn) (ch := [it]) (fun b hb => ?_) (fun b o _ _ hc e _ => k b o (fun z => hc (by simp [z])) e) (fun b o _ _ hc e _ => ⟨o.slots, k b o (fun z => hc (by simp [z])) e⟩) (fun _ _ _ _ n => n)
    (fun b o hc e => ⟨o, k b o (fun z => hc (by simp [z])) e⟩) (fun _ _ e => e) (fun _ _ _ e => e) (fun b ps e => ⟨#[], by rw [e]; simp⟩) (fun m hm => ?_) (fun b u e => ?_) I.bare
  · have e : b = it := by simpa using hb
    subst e
    exact ⟨h1, hL, h2, h3⟩
  · obtain ⟨o, es, ep, ho, r⟩ := hm
    exact ⟨o, es, ep, k _ o (Ne.symm hL) ho, r⟩
  · refine (I.hok b u e).stay (fun c v hc q => k c v ?_ q) (fun _ q => q) fun _ _ q => q
    rcases hc with z | z
    · rw [z]; exact nit b u e
    · exact nit c _ z
theorem Inv.tok (I : Inv X pins σ H s) (t : Nat) : Inv X pins σ H { s with toks := t } := I.un (h' := s.heap) (t' := t) Un.refl I.hok
/-- all objects kept -/
theorem Inv.kept {t' : Nat} (I : Inv X pins σ H s) (k : ∀ b u, s.heap.get? b = some u → h'.get? b = some u) : Inv X pins σ H { s with heap := h', toks := t' } := I.un (Un.kept k) (I.hok.kept k)
/-- a new object laid and tracked -/
theorem Inv.laid {a : Addr} {o : HO} {t' : Nat} (I : Inv X pins σ H s) (k : ∀ b u, s.heap.get? b = some u → h'.get? b = some u) (hp : s.heap.objs.size ≤ a) (new : ObjOk X.prog X.w (upd H a o) h' a o) :
    Inv X pins σ (upd H a o) { s with heap := h', toks := t' } := I.un (Un.laid k hp (I.hok.fresh hp)) (I.hok.laid k hp new)
/-- an object written -/
theorem Inv.write {x e : Addr} {o : HO} {t' : Nat} (I : Inv X pins σ H s) (mu : Mut (H x)) (he : e = x ∨ H e = some (.own x)) (k : ∀ b u, b ≠ e → s.heap.get? b = some u → h'.get? b = some u) (heo : ∃ u, h'.get? e = some u)
    (new : ObjOk X.prog X.w (upd H x o) h' x o) : Inv X pins σ (upd H x o) { s with heap := h', toks := t' } := I.un (Un.write mu he k heo) (I.hok.write mu he k heo new)
theorem Inv.pins_of {pins' : List (Addr × Obj)} (I : Inv X pins σ H s) (h : ∀ p ∈ pins', s.heap.get? p.1 = some p.2 ∧ H p.1 = none ∧ p.1 ≠ X.env.locals ∧ p.1 ∉ X.fs ∧ ∀ v, p.2.data ≠ .cell v) : Inv X pins' σ H s :=
  ⟨I.ok, I.os, I.bare, I.base, I.loc, I.cell, I.free, I.freeC, fun p hp => (List.mem_append.mp hp).elim (fun z => I.pin p (List.mem_append_left _ z)) (h p), I.hok, I.len⟩

theorem nodup_ix {N : List Str} (hN : N.Nodup) {i j : Nat} {x : Str} (a : N[i]? = some x) (b : N[j]? = some x) : i = j := by
  obtain ⟨h1, e1⟩ := List.getElem?_eq_some_iff.mp a
  obtain ⟨h2, e2⟩ := List.getElem?_eq_some_iff.mp b
  exact (List.getElem_inj hN).mp (e1.trans e2.symm)

/-- a name is stored; what changed -/
theorem store_ok2 {M : Model} {A : Around} {E : Value → Shared → Prop} {i : Nat} {x : Str} {v : V} {u : Value} {Q : Unit → Shared → Prop} (I : Inv X pins σ H s) (hN : X.N.Nodup) (hi : X.N[i]? = some x) (hx : Loc X.env.scope x) (r : RelV v u)
    (h : ∀ s', Inv X pins (σ.set i (some v)) H s' → (∃ a, Heap.SameBut a s.heap s'.heap ∧ (a = X.env.locals ∨ X.env.cells.lookup x = some a)) → Q () s') (hf : X.fn x = true ∨ X.env.scope.names.lookup x = some .local := by first | exact .inl rfl | exact .inr rfl | assumption) : wpAny M A (storeName X.env x u) Q E s := by
  obtain ⟨m, hn, hl⟩ := id I.loc
  have hcls : (X.env.scope.kind == .class || (X.env.scope.kind == .module && X.env.locals != X.env.globals)) = false := by rw [I.ok.kind]; rfl
  have hiσ : i < σ.length := by rw [I.len]; exact (List.getElem?_eq_some_iff.mp hi).1
  have cne := I.cne
  have tracked : ∀ {a : Addr} {h' : Heap}, (∃ o, s.heap.get? a = some o ∧ H a = none) → Heap.SameBut a s.heap h' → HOk X.prog X.w H h' := fun {a h'} ha hs b ob e => by
    obtain ⟨_, _, hfree⟩ := ha
    refine (I.hok b ob e).stay (fun c w' hc q => (hs.2 c ?_).trans q) (fun _ q => q) fun _ _ q => q
    rintro rfl
    rcases hc with rfl | hc
    · rw [hfree] at e; cases e
    · rw [hfree] at hc; cases hc
  rcases hx with hk | hk
  · refine wpAny_storeName_local hk hn (fun h' hn' hs => ?_) hcls
    obtain ⟨oL, _, _, hoL, _⟩ := id hn
    refine h _ ⟨I.ok, I.os, I.bare, ⟨fun b o e n hb hx => ?_, fun b o e n hb hx => ?_, I.base.free, fun b o e hx => ?_, I.base.tups, I.base.frzs, I.base.tbls⟩, ⟨_, hn', fun j y v' e1 e2 e3 => ?_⟩, fun y c e => ?_, I.free, I.freeC, fun p hp => ?_, tracked ⟨oL, hoL, I.free⟩ hs, by simpa using I.len⟩ ⟨_, hs, .inl rfl⟩
    · exact (hs.2 b (Nat.ne_of_lt (Nat.lt_of_lt_of_le (Heap.lt_size e) I.ok.above))).trans (I.base.keep b o e n hb hx)
    · obtain ⟨sl, e1⟩ := I.base.slot b o e n hb hx
      exact ⟨sl, (hs.2 b (Nat.ne_of_lt (Nat.lt_of_lt_of_le (Heap.lt_size e) I.ok.above))).trans e1⟩
    · obtain ⟨o', e1⟩ := I.base.there b o e hx
      exact ⟨o', (hs.2 b (Nat.ne_of_lt (Nat.lt_of_lt_of_le (Heap.lt_size e) I.ok.above))).trans e1⟩
    · by_cases hj : j = i
      · subst hj
        rw [hi] at e1; cases e1
        rw [List.getElem?_set_self hiσ] at e2
        cases e2
        exact ⟨u, r, .inl ⟨hk, by simp⟩⟩
      · rw [List.getElem?_set_ne (Ne.symm hj)] at e2
        obtain ⟨u', r', q⟩ := hl j y v' e1 e2 e3
        refine ⟨u', r', ?_⟩
        rcases q with ⟨k, e⟩ | ⟨k, c, e, z⟩
        · refine .inl ⟨k, ?_⟩
          have : y ≠ x := fun e => hj (nodup_ix hN e1 (e ▸ hi))
          simp [this, e]
        · exact .inr ⟨k, c, e, z.sameBut hs (cne y c e)⟩
    · obtain ⟨w', z⟩ := I.cell y c e
      exact ⟨w', z.sameBut hs (cne y c e)⟩
    · obtain ⟨e, n, ne, nf, d⟩ := I.pin p hp
      exact ⟨(hs.2 p.1 ne).trans e, n, ne, nf, d⟩
  · have hfn : X.fn x = true := by
      rcases hf with z | z
      · exact z
      · rw [z] at hk; cases hk
    obtain ⟨c, hc⟩ := I.ok.has x (.inl hk)
    obtain ⟨w', z⟩ := I.cell x c hc
    refine wpAny_storeName_cell I.ok.kind hk hc z (fun h' hc' hs => ?_)
    obtain ⟨oc, hoc, hocd⟩ := id z
    refine h { s with heap := h' } ⟨I.ok, I.os, I.bare, ⟨fun b o e n hb hx => ?_, fun b o e n hb hx => ?_, I.base.free, fun b o e hx => ?_, I.base.tups, I.base.frzs, I.base.tbls⟩, ⟨m, hn.sameBut hs (Ne.symm (cne x c hc)), fun j y v' e1 e2 e3 => ?_⟩, fun y c' e => ?_, I.free, I.freeC, fun p hp => ?_, tracked ⟨oc, hoc, I.freeC x c hc⟩ hs, by simpa using I.len⟩ ⟨c, hs, .inr hc⟩
    · exact (hs.2 b (Nat.ne_of_lt (Nat.lt_of_lt_of_le (Heap.lt_size e) (I.ok.cab x c hfn hc)))).trans (I.base.keep b o e n hb hx)
    · obtain ⟨sl, e1⟩ := I.base.slot b o e n hb hx
      exact ⟨sl, (hs.2 b (Nat.ne_of_lt (Nat.lt_of_lt_of_le (Heap.lt_size e) (I.ok.cab x c hfn hc)))).trans e1⟩
    · obtain ⟨o', e1⟩ := I.base.there b o e hx
      exact ⟨o', (hs.2 b (Nat.ne_of_lt (Nat.lt_of_lt_of_le (Heap.lt_size e) (I.ok.cab x c hfn hc)))).trans e1⟩
    · by_cases hj : j = i
      · subst hj
        rw [hi] at e1; cases e1
        rw [List.getElem?_set_self hiσ] at e2
        cases e2
        exact ⟨u, r, .inr ⟨.inl hk, c, hc, hc'⟩⟩
      · rw [List.getElem?_set_ne (Ne.symm hj)] at e2
        obtain ⟨u', r', q⟩ := hl j y v' e1 e2 e3
        refine ⟨u', r', ?_⟩
        rcases q with q | ⟨k, c', e, z'⟩
        · exact .inl q
        · refine .inr ⟨k, c', e, z'.sameBut hs ?_⟩
          rintro rfl
          exact hj (nodup_ix hN e1 (I.ok.inj _ _ _ e hc ▸ hi))
    · by_cases hcc : c' = c
      · subst hcc; exact ⟨_, hc'⟩
      · obtain ⟨w2, z2⟩ := I.cell y c' e
        exact ⟨w2, z2.sameBut hs hcc⟩
    · obtain ⟨e, n, ne, nf, d⟩ := I.pin p hp
      refine ⟨(hs.2 p.1 ?_).trans e, n, ne, nf, d⟩
      intro q
      rw [q, hoc] at e
      have q' : oc = p.2 := Option.some.inj e
      exact d w' (by rw [← q']; exact hocd)
theorem store_ok {M : Model} {A : Around} {E : Value → Shared → Prop} {i : Nat} {x : Str} {v : V} {u : Value} {Q : Unit → Shared → Prop} (I : Inv X pins σ H s) (hN : X.N.Nodup) (hi : X.N[i]? = some x) (hx : Loc X.env.scope x) (r : RelV v u)
    (h : ∀ s', Inv X pins (σ.set i (some v)) H s' → Q () s') (hf : X.fn x = true ∨ X.env.scope.names.lookup x = some .local := by first | exact .inl rfl | exact .inr rfl | assumption) : wpAny M A (storeName X.env x u) Q E s :=
  store_ok2 I hN hi hx r (fun s' I' _ => h s' I') hf
/-- behind a call or a block, the state as it is -/
theorem Inv.call' {s' : Shared} {ch : List Addr} (I : Inv X pins σ H s) (ho : s'.os = s.os) (u : Un (frs X.stack) ch H H' s.heap s'.heap) (hok : HOk X.prog X.w H' s'.heap) (hg : AllBare s'.gens)
    (hch : ∀ b ∈ ch, (b ∈ X.ex ∨ X.s₀.heap.objs.size ≤ b) ∧ b ≠ X.env.locals ∧ (∀ x c, X.env.cells.lookup x = some c → c ≠ b) ∧ ∀ p ∈ X.pn ++ pins, p.1 ≠ b) : Inv X pins σ H' s' := by
  obtain ⟨h', g', d', t', o'⟩ := s'
  have e : o' = s.os := ho
  subst e
  exact I.call (g' := g') (t' := t') (d' := d') u hok hg hch
end

/-! ### the judgements -/
/-- an exception: its class, its own dict's address (where it has one), the abstract heap behind it -/
abbrev XK := Value → Option Addr → Hp → Prop
abbrev St := List (Option V)
abbrev VK := V → Hp → Prop
/-- an expression's reading; a test's; an argument list's -/
abbrev TE := St → Hp → VK → Prop
abbrev TT := St → Hp → (Bool → Hp → Prop) → Prop
abbrev TA := St → Hp → (List V → Hp → Prop) → Prop
/-- what is wanted behind a statement -/
structure Ends where
  nx : St → Hp → Prop
  rt : VK
  bk : St → Hp → Prop := fun _ _ => False
  ct : St → Hp → Prop := fun _ _ => False
abbrev TS := Ends → St → Hp → Prop

def EP (X : Cx) (pins : List (Addr × Obj)) (σ : St) (Q : VK) (u : Value) (s' : Shared) : Prop := ∃ v H', Inv X pins σ H' s' ∧ RelV v u ∧ Q v H'
def TP (X : Cx) (pins : List (Addr × Obj)) (σ : St) (Q : Bool → Hp → Prop) (b : Bool) (s' : Shared) : Prop := ∃ H', Inv X pins σ H' s' ∧ Q b H'
def AP (X : Cx) (pins : List (Addr × Obj)) (σ : St) (Q : List V → Hp → Prop) (us : List Value) (s' : Shared) : Prop := ∃ vs H', Inv X pins σ H' s' ∧ Vals vs us ∧ Q vs H'
def SP (X : Cx) (pins : List (Addr × Obj)) (D : Ends) (f : Flow) (s' : Shared) : Prop :=
  match f with
  | .next => ∃ σ' H', Inv X pins σ' H' s' ∧ D.nx σ' H'
  | .brk => ∃ σ' H', Inv X pins σ' H' s' ∧ D.bk σ' H'
  | .cont => ∃ σ' H', Inv X pins σ' H' s' ∧ D.ct σ' H'
  | .ret u => ∃ v σ' H', Inv X pins σ' H' s' ∧ RelV v u ∧ D.rt v H'

def PE (X : Cx) (e : Expr) (t : TE) : Prop :=
  ∀ (pins : List (Addr × Obj)) (s : Shared) (σ : St) (H : Hp) (Q : VK), Inv X pins σ H s → t σ H Q → wpAny (model X.prog X.w) X.A (eval e X.env) (EP X pins σ Q) X.xe s
def PT (X : Cx) (e : Expr) (t : TT) : Prop :=
  ∀ (pins : List (Addr × Obj)) (s : Shared) (σ : St) (H : Hp) (Q : Bool → Hp → Prop), Inv X pins σ H s → t σ H Q → wpAny (model X.prog X.w) X.A (isTrue e X.env (eval e X.env)) (TP X pins σ Q) X.xe s
/-- a test whatever its 'whole' is (and, or) -/
def PW (X : Cx) (e : Expr) (t : TT) : Prop :=
  ∀ (whole : Sem Value) (pins : List (Addr × Obj)) (s : Shared) (σ : St) (H : Hp) (Q : Bool → Hp → Prop), Inv X pins σ H s → t σ H Q → wpAny (model X.prog X.w) X.A (isTrue e X.env whole) (TP X pins σ Q) X.xe s
theorem PW.pt {X : Cx} {e : Expr} {t : TT} (h : PW X e t) : PT X e t := h _
/-- an argument list (no star), from the left -/
def PA (X : Cx) (es : List Expr) (t : TA) : Prop :=
  ∀ (pos : Pos) (pins : List (Addr × Obj)) (s : Shared) (σ : St) (H : Hp) (Q : List V → Hp → Prop), Inv X pins σ H s → t σ H Q → wpAny (model X.prog X.w) X.A (spliced (backTo pos (starEach es X.env))) (AP X pins σ Q) X.xe s
def PS (X : Cx) (st : Stmt) (t : TS) : Prop :=
  ∀ (pins : List (Addr × Obj)) (s : Shared) (σ : St) (H : Hp) (D : Ends), Inv X pins σ H s → t D σ H → wpAny (model X.prog X.w) X.A (exec st X.env) (SP X pins D) X.xe s
def PSs (X : Cx) (st : List Stmt) (t : TS) : Prop :=
  ∀ (pins : List (Addr × Obj)) (s : Shared) (σ : St) (H : Hp) (D : Ends), Inv X pins σ H s → t D σ H → wpAny (model X.prog X.w) X.A (execs st X.env) (SP X pins D) X.xe s
/-- weaken the end -/
theorem thn {α : Type} {t : Sem α} {Q Q' : α → Shared → Prop} {M : Model} {A : Around} {E : Value → Shared → Prop} {s : Shared} (h : wpAny M A t Q E s) (hQ : ∀ a s, Q a s → Q' a s) : wpAny M A t Q' E s := wpAny_mono h hQ fun _ _ x => x
end L2

namespace L2
open PySem PySem.Spec PyProof.Rows
section
variable {X : Cx}

/-! ### names and constants -/
def tVar (i : Nat) : TE := fun σ H Q => ∃ v, σ[i]? = some (some v) ∧ Q v H
def tC (v : V) : TE := fun _ H Q => Q v H
theorem pe_var {i : Nat} {x : Str} {pos : Pos} (hN : X.N[i]? = some x) (hv : Vis X.env.scope x) (hd : (x == ("__debug__" : Str)) = false := by decide) (hcd : (x == ("__classdict__" : Str)) = false := by decide) : PE X (.Name x pos) (tVar i) := by
  intro pins s σ H Q I h
  obtain ⟨v, e, h⟩ := h
  obtain ⟨m, hn, hl⟩ := I.loc
  obtain ⟨u, r, l⟩ := hl i x v hN e hv
  have fin : EP X pins σ Q u s := ⟨v, H, I, r, h⟩
  rcases l with ⟨hk, hm⟩ | ⟨hk, c, hc, hcell⟩
  · exact wpAny_Name (wpAny_loadName_local I.ok.kind hk hn hm fin) hd
  · rcases hk with hk | hk
    · exact wpAny_Name (wpAny_loadName_cell I.ok.kind hk hc hcell fin) hd
    · exact wpAny_Name (wpAny_loadName_free I.ok.kind hk hc hcell fin hcd) hd
theorem pe_int {i j pos} : PE X (.Constant (.int i) j pos) (tC (.int i)) := fun _ _ _ H _ I h => wpAny_Constant_int ⟨.int i, H, I.tok _, ⟨_, rfl⟩, h⟩
theorem pe_bl {b j pos} : PE X (.Constant (.bool b) j pos) (tC (.bl b)) := fun _ _ _ H _ I h => Constant_bool ⟨.bl b, H, I, rfl, h⟩
theorem pe_non {j pos} : PE X (.Constant .none j pos) (tC .non) := fun _ _ _ H _ I h => Constant_none ⟨.non, H, I, rfl, h⟩
theorem pe_str {x j pos} : PE X (.Constant (.str x) j pos) (tC (.str x)) := fun _ _ _ H _ I h => Calls.Constant_str ⟨.str x, H, I.tok _, ⟨_, rfl⟩, h⟩

/-- a global name of the def -/
def Gl (X : Cx) (x : Str) : Prop := X.env.kindOf x = some .globalImplicit
theorem ld_glob {E : Value → Shared → Prop} {pins : List (Addr × Obj)} {s : Shared} {σ : St} {H : Hp} {x : Str} {u : Value} {pos : Pos} {Q : Value → Shared → Prop} (I : Inv X pins σ H s) (hg : Gl X x) (hm : X.mg x = some u) (h : Q u s)
    (hd : (x == ("__debug__" : Str)) = false := by decide) : wpAny (model X.prog X.w) X.A (eval (.Name x pos) X.env) Q E s :=
  Calls.Name_function_global I.ok.kind hg (Calls.loadGlobal_global (by rw [I.ok.glob]; exact I.mod.glob.keeps I.bk) hm h) hd
theorem ld_blt {E : Value → Shared → Prop} {pins : List (Addr × Obj)} {s : Shared} {σ : St} {H : Hp} {x : Str} {u : Value} {pos : Pos} {Q : Value → Shared → Prop} (I : Inv X pins σ H s) (hg : Gl X x) (hm : X.mg x = none) (hv : bootBuiltins x = some u) (h : Q u s)
    (hn : x ≠ "__name__" := by decide) (hd : (x == ("__debug__" : Str)) = false := by decide) : wpAny (model X.prog X.w) X.A (eval (.Name x pos) X.env) Q E s := by
  obtain ⟨mb, h1, h2⟩ := I.mod.blt
  exact Calls.Name_function_global I.ok.kind hg (Calls.loadGlobal_builtin (by rw [I.ok.glob]; exact I.mod.glob.keeps I.bk) hm (by rw [I.ok.blt]; exact h1.keeps I.bk) ((h2 x hn).trans hv) h) hd
/-- a module's constant, a class, a function, as a value -/
theorem pe_glob {x : Str} {v : V} {u : Value} {pos : Pos} (hg : Gl X x) (hm : X.mg x = some u) (r : RelV v u) (hd : (x == ("__debug__" : Str)) = false := by decide) : PE X (.Name x pos) (tC v) :=
  fun _ _ _ H _ I h => ld_glob I hg hm ⟨v, H, I, r, h⟩ hd
theorem pe_bltn {x : Str} {v : V} {u : Value} {pos : Pos} (hg : Gl X x) (hm : X.mg x = none) (hv : bootBuiltins x = some u) (r : RelV v u) (hn : x ≠ "__name__" := by decide) (hd : (x == ("__debug__" : Str)) = false := by decide) : PE X (.Name x pos) (tC v) :=
  fun _ _ _ H _ I h => ld_blt I hg hm hv ⟨v, H, I, r, h⟩ hn hd

/-! ### arithmetic -/
variable {a b : Expr} {ta tb : TE} {pos : Pos}
/-! ### comparisons -/
def PC (X : Cx) (op : CmpOp) (a b : Expr) (t : TE) : Prop :=
  ∀ (pins : List (Addr × Obj)) (s : Shared) (σ : St) (H : Hp) (Q : VK), Inv X pins σ H s → t σ H Q →
    wpAny (model X.prog X.w) X.A (eval a X.env) (fun v s₁ => wpAny (model X.prog X.w) X.A (eval b X.env) (fun u s₂ => wpAny (model X.prog X.w) X.A (compareOp op v u) (EP X pins σ Q) X.xe s₂) X.xe s₁) X.xe s
/-- a comparison as a value, as a test -/
def tB (t : TE) : TT := fun σ H Q => t σ H fun x H1 => ∃ c, x = .bl c ∧ Q c H1
theorem pt_cmp {op : CmpOp} {t : TE} (h : PC X op a b t) (h1 : behindInMarks op b = false := by first | exact nobehind _ (by decide) (by decide) | rfl) : PT X (.Compare a [op] [b] pos) (tB t) := by
  intro pins s σ H Q I hw
  refine wpAny_isTrue_Compare1 (thn (h pins s σ H _ I hw) fun v s1 h1 => thn h1 fun u s2 h2 => thn h2 fun c s3 ⟨x, H1, I1, r1, q1⟩ => ?_) h1
  obtain ⟨d, rfl, q⟩ := q1
  cases r1
  exact wpAny_truthy_bool ⟨H1, I1, q⟩
/-! ### and, or, not -/
variable {tA tB' : TT} {rest : List Expr}
def tAnd (t u : TT) : TT := fun σ H Q => t σ H fun c H1 => if c = true then u σ H1 Q else Q false H1
def tOr (t u : TT) : TT := fun σ H Q => t σ H fun c H1 => if c = true then Q true H1 else u σ H1 Q
def tNot (t : TT) : TT := fun σ H Q => t σ H fun c H1 => Q (!c) H1
theorem pw_and1 (ha : PT X a tA) : PW X (.BoolOp .And [a] pos) tA := by
  intro wh pins s σ H Q I h
  refine isTrue_and (thn (ha pins s σ H Q I h) fun c s1 e => ?_)
  cases c with
  | true => exact isTrue_and_nil e
  | false => exact e
theorem pw_or1 (ha : PT X a tA) : PW X (.BoolOp .Or [a] pos) tA := by
  intro wh pins s σ H Q I h
  refine isTrue_or (thn (ha pins s σ H Q I h) fun c s1 e => ?_)
  cases c with
  | false => exact isTrue_or_nil e
  | true => exact e
theorem pw_and (ha : PT X a tA) (hb : PW X (.BoolOp .And (b :: rest) pos) tB') : PW X (.BoolOp .And (a :: b :: rest) pos) (tAnd tA tB') := by
  intro wh pins s σ H Q I h
  refine isTrue_and (thn (ha pins s σ H _ I h) fun c s1 ⟨H1, I1, q1⟩ => ?_)
  cases c with
  | true => exact hb wh pins s1 σ H1 Q I1 q1
  | false => exact ⟨H1, I1, q1⟩
theorem pw_or (ha : PT X a tA) (hb : PW X (.BoolOp .Or (b :: rest) pos) tB') : PW X (.BoolOp .Or (a :: b :: rest) pos) (tOr tA tB') := by
  intro wh pins s σ H Q I h
  refine isTrue_or (thn (ha pins s σ H _ I h) fun c s1 ⟨H1, I1, q1⟩ => ?_)
  cases c with
  | true => exact ⟨H1, I1, q1⟩
  | false => exact hb wh pins s1 σ H1 Q I1 q1
theorem pt_not (ha : PT X a tA) : PT X (.UnaryOp .Not a pos) (tNot tA) := by
  intro pins s σ H Q I h
  exact isTrue_not (ha pins s σ H (fun c H1 => Q (!c) H1) I h)
/-- .. as values (bools) -/
def tAndV (ta tb : TE) : TE := fun σ H Q => ta σ H fun x H1 => ∃ c, x = .bl c ∧ if c = true then tb σ H1 Q else Q (.bl false) H1
def tNotV (ta : TE) : TE := fun σ H Q => ta σ H fun x H1 => ∃ c, x = .bl c ∧ Q (.bl (!c)) H1
theorem pe_one {op} {t : TE} (h : PE X a t) : PE X (.BoolOp op [a] pos) t := fun pins s σ H Q I hw => BoolOp_one (h pins s σ H Q I hw)
theorem pe_and (ha : PE X a ta) (hb : PE X (.BoolOp .And (b :: rest) pos) tb) : PE X (.BoolOp .And (a :: b :: rest) pos) (tAndV ta tb) := by
  intro pins s σ H Q I h
  refine BoolOp_and (thn (ha pins s σ H _ I h) fun v s1 ⟨x, H1, I1, r1, q1⟩ => ?_)
  obtain ⟨c, rfl, q1⟩ := q1
  cases r1
  refine wpAny_truthy_bool ?_
  cases c with
  | true => exact hb pins s1 σ H1 Q I1 q1
  | false => exact ⟨.bl false, H1, I1, rfl, q1⟩
theorem pe_not (ha : PE X a ta) : PE X (.UnaryOp .Not a pos) (tNotV ta) := by
  intro pins s σ H Q I h
  refine UnaryOp_ (thn (ha pins s σ H _ I h) fun v s1 ⟨x, H1, I1, r1, q1⟩ => ?_)
  obtain ⟨c, rfl, q1⟩ := q1
  cases r1
  exact not_of (wpAny_truthy_bool ⟨.bl (!c), H1, I1, rfl, q1⟩)
end
end L2

namespace L2
open PySem PySem.Spec PyProof.Rows

/-! ### a list, a tuple that is read: tracked, frozen, or an object of the module -/
def SqL (K : PySem.W.Frag) (H : Hp) (a : Addr) (xs : List V) : Prop :=
  Rd H a (.lst xs) ∨
    ∃ (o : Obj) (its : Array Value) (n : Nat), K.lookup a = some o ∧ o.cls = .type "list" ∧ o.dict = none ∧ o.data = .seq its n ∧ its.size ≤ sizeLine ∧ Vals xs its.toList
def SqT (K : PySem.W.Frag) (H : Hp) (a : Addr) (xs : List V) : Prop :=
  Rd H a (.tup xs) ∨
    ∃ (o : Obj) (its : Array Value) (n : Nat), K.lookup a = some o ∧ o.cls = .type "tuple" ∧ o.data = .seq its n ∧ its.size ≤ sizeLine ∧ Vals xs its.toList
def absV : Value → Option V
  | .none => some .non
  | .bool b => some (.bl b)
  | .int i _ => some (.int i)
  | .str x _ => some (.str x)
  | .bytes b _ => some (.byt b)
  | .float b _ => some (.flt b)
  | .ref a => some (.ref a)
  | .type n => some (.ty n)
  | _ => none
theorem RelV.abs {x : V} {u : Value} (r : RelV x u) : absV u = some x := by
  cases x with
  | non => cases r; rfl
  | bl _ => cases r; rfl
  | int _ => obtain ⟨t, rfl⟩ := r; rfl
  | str _ => obtain ⟨t, rfl⟩ := r; rfl
  | byt _ => obtain ⟨t, rfl⟩ := r; rfl
  | flt _ => obtain ⟨t, rfl⟩ := r; rfl
  | ref _ => cases r; rfl
  | ty _ => cases r; rfl
theorem RelV.inj {x y : V} {u : Value} (r : RelV x u) (q : RelV y u) : x = y := Option.some.inj (r.abs.symm.trans q.abs)
theorem Vals.inj : ∀ {xs ys : List V} {us : List Value}, Vals xs us → Vals ys us → xs = ys
  | _, _, _, .nil, .nil => rfl
  | _, _, _, .cons r t, .cons r' t' => by rw [r.inj r', Vals.inj t t']
section
variable {X : Cx} {pins : List (Addr × Obj)} {σ : St} {H : Hp} {s : Shared} {a : Addr} {xs ys : List V}
theorem SqL.of {K : PySem.W.Frag} (h : H a = some (.lst xs)) : SqL K H a xs := .inl (.inl h)
theorem SqT.of {K : PySem.W.Frag} (h : H a = some (.tup xs)) : SqT K H a xs := .inl (.inl h)
theorem Inv.list (I : Inv X pins σ H s) (h : SqL X.K H a xs) : ∃ its : List Value, Vals xs its ∧ PlainL s.heap a its.toArray ∧ xs.length ≤ sizeLine := by
  rcases h with h | ⟨o, its, n, hk, hc, hd, hs, hz, r⟩
  · obtain ⟨z, its, n, r, e⟩ := h.ok I.hok
    exact ⟨its, r, ⟨_, n, e, rfl, rfl, rfl⟩, z⟩
  · refine ⟨its.toList, r, ⟨o, n, I.kIn a o hk, hc, hd, by simpa using hs⟩, ?_⟩
    have e := r.length
    simp only [Array.length_toList] at e
    (first | lia | omega)
theorem Inv.tuple (I : Inv X pins σ H s) (h : SqT X.K H a xs) : ∃ its : List Value, Vals xs its ∧ IsTup s.heap a its.toArray ∧ xs.length ≤ sizeLine := by
  rcases h with h | ⟨o, its, n, hk, hc, hs, hz, r⟩
  · obtain ⟨z, its, r, p⟩ := h.ok I.hok
    exact ⟨its, r, p, z⟩
  · refine ⟨its.toList, r, ⟨o, I.kIn a o hk, hc, n, by simpa using hs⟩, ?_⟩
    have e := r.length
    simp only [Array.length_toList] at e
    (first | lia | omega)
theorem Inv.list_inj (I : Inv X pins σ H s) (h : SqL X.K H a xs) (h' : SqL X.K H a ys) : xs = ys := by
  obtain ⟨its, r, ⟨o, n, e, _, _, d⟩, _⟩ := I.list h
  obtain ⟨its', r', ⟨o', n', e', _, _, d'⟩, _⟩ := I.list h'
  rw [e] at e'; cases e'
  rw [d] at d'
  injection d' with d1 _
  have : its = its' := by simpa using congrArg Array.toList d1
  subst this
  exact r.inj r'
theorem Inv.tuple_inj (I : Inv X pins σ H s) (h : SqT X.K H a xs) (h' : SqT X.K H a ys) : xs = ys := by
  obtain ⟨its, r, ⟨o, e, _, n, d⟩, _⟩ := I.tuple h
  obtain ⟨its', r', ⟨o', e', _, n', d'⟩, _⟩ := I.tuple h'
  rw [e] at e'; cases e'
  rw [d] at d'
  injection d' with d1 _
  have : its = its' := by simpa using congrArg Array.toList d1
  subst this
  exact r.inj r'
end

/-! ### another wish about exceptions -/
abbrev Cx.wish (X : Cx) (E : Value → Shared → Prop) : Cx := { X with xe := E }
/-- no exception leaves -/
abbrev Cx.nox (X : Cx) : Cx := X.wish fun _ _ => False
theorem Cx.Ok.wish {X : Cx} (ok : X.Ok) (E : Value → Shared → Prop) : (X.wish E).Ok :=
  ⟨ok.mod, ok.kind, ok.glob, ok.blt, ok.above, ok.inj, ok.has, ok.cab, ok.hd, ok.frames, ok.stk, ok.exf, ok.bs, ok.bsz, ok.noex, ok.exfs, ok.funs, ok.frf⟩
theorem Cx.Ok.unwish {X : Cx} {E : Value → Shared → Prop} (ok : (X.wish E).Ok) : X.Ok :=
  ⟨ok.mod, ok.kind, ok.glob, ok.blt, ok.above, ok.inj, ok.has, ok.cab, ok.hd, ok.frames, ok.stk, ok.exf, ok.bs, ok.bsz, ok.noex, ok.exfs, ok.funs, ok.frf⟩
section
variable {X : Cx} {pins : List (Addr × Obj)} {σ : St} {H : Hp} {s : Shared} {E : Value → Shared → Prop}
theorem Inv.wish (I : Inv X pins σ H s) (E : Value → Shared → Prop) : Inv (X.wish E) pins σ H s := ⟨I.ok.wish E, I.os, I.bare, I.base, I.loc, I.cell, I.free, I.freeC, I.pin, I.hok, I.len⟩
theorem Inv.unwish (I : Inv (X.wish E) pins σ H s) : Inv X pins σ H s := ⟨I.ok.unwish, I.os, I.bare, I.base, I.loc, I.cell, I.free, I.freeC, I.pin, I.hok, I.len⟩
theorem SP.unwish {D : Ends} {f : Flow} {s' : Shared} (h : SP (X.wish E) pins D f s') : SP X pins D f s' := by
  cases f with
  | next => obtain ⟨σ', H', I, q⟩ := h; exact ⟨σ', H', I.unwish, q⟩
  | brk => obtain ⟨σ', H', I, q⟩ := h; exact ⟨σ', H', I.unwish, q⟩
  | cont => obtain ⟨σ', H', I, q⟩ := h; exact ⟨σ', H', I.unwish, q⟩
  | ret u => obtain ⟨v, σ', H', I, r, q⟩ := h; exact ⟨v, σ', H', I.unwish, r, q⟩
theorem PSs.nox {st : List Stmt} {t : TS} (h : PSs X.nox st t) : PSs X st t := fun pins s σ H D I hw =>
  wpAny_mono (h pins s σ H D (I.wish _) hw) (fun _ _ q => q.unwish) fun _ _ z => False.elim z
end

/-! ### blocks and small statements -/
section
variable {X : Cx} {st : Stmt} {rest : List Stmt} {t u : TS} {e : Expr} {te : TE} {pos : Pos}
def tNext : TS := fun D σ H => D.nx σ H
def tSeq (t u : TS) : TS := fun D σ H => t { D with nx := u D } σ H
theorem pss_nil : PSs X [] tNext := fun _ _ σ H _ I h => wpAny_execs_nil ⟨σ, H, I, h⟩
theorem pss_cons (h1 : PS X st t) (h2 : PSs X rest u) : PSs X (st :: rest) (tSeq t u) := by
  intro pins s σ H D I h
  refine wpAny_execs_cons (thn (h1 pins s σ H { D with nx := u D } I h) fun f s1 q => ?_)
  cases f with
  | next =>
    obtain ⟨σ', H', I', q⟩ := q
    exact h2 pins s1 σ' H' D I' q
  | ret v => exact q
  | brk => exact q
  | cont => exact q
theorem pss_one (h1 : PS X st t) : PSs X [st] t := by
  intro pins s σ H D I h
  refine wpAny_execs_cons (thn (h1 pins s σ H D I h) fun f s1 q => ?_)
  cases f with
  | next => exact wpAny_execs_nil q
  | ret v => exact q
  | brk => exact q
  | cont => exact q
def tCont : TS := fun D σ H => D.ct σ H
theorem ps_continue : PS X (.Continue pos) tCont := fun _ _ σ H _ I h => wpAny_Continue ⟨σ, H, I, h⟩
/-- in a def's body nothing is shown -/
theorem Inv.quiet {pins : List (Addr × Obj)} {σ : St} {H : Hp} {s : Shared} (I : Inv X pins σ H s) : interactive X.env = false := by simp [interactive, I.ok.kind]
/-- an expression whose value is dropped -/
def tDrop (te : TE) : TS := fun D σ H => te σ H fun _ H1 => D.nx σ H1
theorem ps_expr (he : PE X e te) (hs : swapsWith e none pos.line X.env = pure false := by rfl) : PS X (.Expr e pos) (tDrop te) := by
  intro pins s σ H D I h
  exact wpAny_Expr_any (thn (he pins s σ H _ I h) fun v s1 ⟨x, H1, I1, r1, q1⟩ => ⟨σ, H1, I1, q1⟩) I.quiet hs
def tRet (te : TE) : TS := fun D σ H => te σ H D.rt
theorem ps_ret (he : PE X e te) : PS X (.Return (some e) pos) (tRet te) := by
  intro pins s σ H D I h
  exact wpAny_Return_some (thn (he pins s σ H _ I h) fun v s1 ⟨x, H1, I1, r1, q1⟩ => ⟨x, σ, H1, I1, r1, q1⟩)
def tIfS (c : TT) (t u : TS) : TS := fun D σ H => c σ H fun b H1 => if b = true then t D σ H1 else u D σ H1
theorem ps_if {c : Expr} {a b : List Stmt} {tc : TT} (hc : PT X c tc) (ha : PSs X a t) (hb : PSs X b u) : PS X (.If c a b pos) (tIfS tc t u) := by
  intro pins s σ H D I h
  refine wpAny_If (thn (hc pins s σ H _ I h) fun d s1 ⟨H1, I1, q1⟩ => ?_)
  cases d with
  | true => exact ha pins s1 σ H1 D I1 q1
  | false => exact hb pins s1 σ H1 D I1 q1
end

/-! ### targets -/
abbrev TG := V → St → Hp → (St → Hp → Prop) → Prop
abbrev TGs := List V → St → Hp → (St → Hp → Prop) → Prop
def PG (X : Cx) (target : Expr) (t : TG) : Prop :=
  ∀ (pins : List (Addr × Obj)) (s : Shared) (σ : St) (H : Hp) (v : V) (u : Value) (Q : St → Hp → Prop), Inv X pins σ H s → RelV v u → t v σ H Q →
    wpAny (model X.prog X.w) X.A (assign target X.env u) (fun _ s' => ∃ σ' H', Inv X pins σ' H' s' ∧ Q σ' H') X.xe s
/-- several targets, one after another -/
def PGs (X : Cx) (ts : List Expr) (t : TGs) : Prop :=
  ∀ (pins : List (Addr × Obj)) (s : Shared) (σ : St) (H : Hp) (vs : List V) (us : List Value) (Q : St → Hp → Prop), Inv X pins σ H s → Vals vs us → t vs σ H Q →
    wpAny (model X.prog X.w) X.A (assignInOrder ((assignEach ts X.env).map (·.2)) us) (fun _ s' => ∃ σ' H', Inv X pins σ' H' s' ∧ Q σ' H') X.xe s
section
variable {X : Cx} {pos : Pos}
def gName (i : Nat) : TG := fun v σ H Q => Q (σ.set i (some v)) H
theorem pg_name {i : Nat} {x : Str} (hN : X.N.Nodup) (hi : X.N[i]? = some x) (hx : Loc X.env.scope x) (hf : X.fn x = true ∨ X.env.scope.names.lookup x = some .local := by first | exact .inl rfl | exact .inr rfl | assumption) : PG X (.Name x pos) (gName i) := by
  intro pins s σ H v u Q I r h
  exact wpAny_assign_Name (store_ok I hN hi hx r (fun s' I' => ⟨_, H, I', h⟩) hf)
def gNil : TGs := fun vs σ H Q => vs = [] ∧ Q σ H
def gCons (t : TG) (u : TGs) : TGs := fun vs σ H Q => ∃ v r, vs = v :: r ∧ t v σ H fun σ' H' => u r σ' H' Q
theorem pgs_nil : PGs X [] gNil := by
  intro pins s σ H vs us Q I r h
  obtain ⟨e, h⟩ := h
  subst e
  cases r
  exact assignInOrder_nil ⟨σ, H, I, h⟩
theorem pgs_cons {e : Expr} {es : List Expr} {t : TG} {u : TGs} (h1 : PG X e t) (h2 : PGs X es u)
    (hs : (assignEach (e :: es) X.env).map (·.2) = assign e X.env :: (assignEach es X.env).map (·.2) := by rfl) : PGs X (e :: es) (gCons t u) := by
  intro pins s σ H vs us Q I r h
  obtain ⟨v, vr, e1, h⟩ := h
  subst e1
  cases r with
  | cons r rr =>
    rw [hs]
    refine assignInOrder_cons (thn (h1 pins s σ H _ _ _ I r h) fun _ s1 ⟨σ1, H1, I1, q1⟩ => ?_)
    exact h2 pins s1 σ1 H1 _ _ Q I1 rr q1
/-- (a, b, ..) = a tuple of that length -/
def gTup (K : PySem.W.Frag) (n : Nat) (t : TGs) : TG := fun v σ H Q => ∃ a xs, v = .ref a ∧ SqT K H a xs ∧ xs.length = n ∧ t xs σ H Q
theorem pg_tup {es : List Expr} {k : Nat} {t : TGs} {n : Nat} (hc : X.calm = true) (h : PGs X es t)
    (hn : (assignEach es X.env).length = n := by rfl) (hst : (assignEach es X.env).findIdx? (·.1) = none := by rfl) : PG X (.Tuple es k pos) (gTup X.K n t) := by
  intro pins s σ H v u Q I r hw
  obtain ⟨a, xs, e1, hq, hl, hw⟩ := hw
  subst e1
  cases r
  obtain ⟨its, rv, ht, hz⟩ := I.tuple hq
  refine assign_Tuple_tuple (I.ok.hd hc) ht (by simp [hn, ← hl, rv.length]) hst fun h' hx => ?_
  have I1 : Inv X pins σ H { s with heap := h' } := I.kept (t' := s.toks) fun b o e => hx b o (Nat.ne_of_lt (Heap.lt_size e)) e
  exact h pins _ σ H xs _ Q I1 (by simpa using rv) hw
/-- target = value -/
def tAsg (te : TE) (g : TG) : TS := fun D σ H => te σ H fun x H1 => g x σ H1 D.nx
theorem ps_asg {tg e : Expr} {te : TE} {g : TG} (he : PE X e te) (hg : PG X tg g) (hs : swapsWithSole [tg] e pos.line X.env = pure false := by rfl) (hw : swappedStores [tg] e X.env = pure none := by rfl)
    (h1 : (assignEach [tg] X.env).map (·.2) = [assign tg X.env] := by rfl) : PS X (.Assign [tg] e pos) (tAsg te g) := by
  intro pins s σ H D I h
  refine wpAny_Assign_stores (thn (he pins s σ H _ I h) fun v s1 ⟨x, H1, I1, r1, q1⟩ => ?_) hs hw
  rw [h1]
  exact thn (hg pins s1 σ H1 x v _ I1 r1 q1) fun _ s2 q => q
/-- name = value -/
theorem ps_set {i : Nat} {x : Str} {e : Expr} {te : TE} {pos' : Pos} (hN : X.N.Nodup) (hi : X.N[i]? = some x) (hx : Loc X.env.scope x) (he : PE X e te) (hs : swapsWith e (some (.Name x pos')) pos.line X.env = pure false := by rfl) (hf : X.fn x = true ∨ X.env.scope.names.lookup x = some .local := by first | exact .inl rfl | exact .inr rfl | assumption) :
    PS X (.Assign [.Name x pos'] e pos) (tAsg te (gName i)) := by
  intro pins s σ H D I h
  refine wpAny_Assign_Name (thn (he pins s σ H _ I h) fun v s1 ⟨y, H1, I1, r1, q1⟩ => ?_) hs
  exact store_ok I1 hN hi hx r1 (fun s2 I2 => ⟨_, H1, I2, q1⟩) hf
end

/-! ### while -/
section
variable {X : Cx} {pos : Pos}
/-- the invariant W with its measure -/
def tWhile (c : TT) (tb : TS) : TS := fun D σ H => ∃ W : Nat → St → Hp → Prop, (∃ m, W m σ H) ∧ ∀ m σ H, W m σ H →
  c σ H fun b H1 => if b = true then ∃ N : St → Hp → Prop, (∀ σ' H', N σ' H' → ∃ m', m' < m ∧ W m' σ' H') ∧ tb { D with nx := N, ct := N, bk := D.nx } σ H1 else D.nx σ H1
theorem ps_while {c : Expr} {body : List Stmt} {tc : TT} {tb : TS} (hp : PassesOwn (model X.prog X.w) X.A X.env X.xe) (hc : PT X c tc) (hb : PSs X body tb) : PS X (.While c body [] pos) (tWhile tc tb) := by
  intro pins s σ H D I h
  obtain ⟨W, ⟨m0, w0⟩, turn⟩ := h
  refine wpAny_While (codeAny_whileLoop (fun n s' => ∃ σ' H', Inv X pins σ' H' s' ∧ W n σ' H') ?_ m0 ⟨σ, H, I, w0⟩)
  rintro n s1 ⟨σ1, H1, I1, w1⟩
  refine wpAny_passesOwn hp (thn (hc pins s1 σ1 H1 _ I1 (turn n σ1 H1 w1)) fun b s2 ⟨H2, I2, q2⟩ => ?_)
  cases b with
  | true =>
    obtain ⟨N, hN, q2⟩ := q2
    rw [if_pos rfl]
    refine wpAny_passesOwn hp (thn (hb pins s2 σ1 H2 _ I2 q2) fun f s3 q3 => ?_)
    cases f with
    | next =>
      obtain ⟨σ3, H3, I3, n3⟩ := q3
      obtain ⟨m', hm, w3⟩ := hN σ3 H3 n3
      exact ⟨m', hm, σ3, H3, I3, w3⟩
    | cont =>
      obtain ⟨σ3, H3, I3, n3⟩ := q3
      obtain ⟨m', hm, w3⟩ := hN σ3 H3 n3
      exact ⟨m', hm, σ3, H3, I3, w3⟩
    | brk => exact q3
    | ret v => exact q3
  | false =>
    rw [if_neg Bool.false_ne_true]
    exact wpAny_execs_nil ⟨σ1, H2, I2, q2⟩
end

/-! ### what a loop or a comprehension walks -/
/-- at turn i: it yields x (the heap may grow), or it stops -/
structure It where
  go : Nat → Hp → Prop
  yld : Nat → Hp → V → Hp → Prop
  stop : Nat → Hp → Prop
/-- the iterator's own objects may turn: they are not the frame's, not pinned, younger than the entry (or a comprehension's own) -/
def FpOk (X : Cx) (pins : List (Addr × Obj)) (H : Hp) (b : Addr) : Prop :=
  H b = none ∧ b ≠ X.env.locals ∧ b ∉ X.fs ∧ (b ∈ X.ex ∨ X.s₀.heap.objs.size ≤ b) ∧ (∀ x c, X.env.cells.lookup x = some c → c ≠ b) ∧ ∀ p ∈ X.pn ++ pins, p.1 ≠ b
theorem Inv.fpOk {X : Cx} {pins : List (Addr × Obj)} {σ : St} {H H' : Hp} {s : Shared} {b : Addr} (I : Inv X pins σ H s) (hb : s.heap.objs.size ≤ b) (hn : H' b = none) : FpOk X pins H' b := by
  refine ⟨hn, Nat.ne_of_gt (Nat.lt_of_lt_of_le I.lt hb), I.nofs hb, .inr (Nat.le_trans I.sz hb), fun x c e z => ?_, fun p hp z => ?_⟩
  · obtain ⟨v, q⟩ := I.cell x c e
    exact absurd (Nat.lt_of_lt_of_le q.lt (by rw [z]; exact hb)) (Nat.lt_irrefl _)
  · exact absurd (Nat.lt_of_lt_of_le (Heap.lt_size (I.pin p hp).1) (by rw [z]; exact hb)) (Nat.lt_irrefl _)
structure Turn (P : Program) (w : World) (K : PySem.W.Frag) (tg : Expr) (J : It) (fp : List Addr) (it : Addr) (tn : Nat → Heap → Prop) : Prop where
  mem : it ∈ fp
  obj : ∀ i h, tn i h → ∀ b ∈ fp, ∃ o, h.get? b = some o ∧ ∀ v, o.data ≠ .cell v
  keep : ∀ i h h', tn i h → (∀ b ∈ fp, ∀ o, h.get? b = some o → h'.get? b = some o) → tn i h'
  item : ∀ (X : Cx), X.prog = P → X.w = w → X.K = K → X.calm = true → ∀ (i : Nat) (pins : List (Addr × Obj)) (s : Shared) (σ : St) (H : Hp) (E : Value → Shared → Prop), Inv X pins σ H s → (∀ b ∈ fp, FpOk X pins H b) → tn i s.heap → J.go i H →
    wpAny (model P w) X.A (pyNext (.ref it)) (fun r s1 => ∃ u, r = some u ∧
      wpAny (model P w) X.A (letOwnedTupleGo tg (.ref it) u) (fun _ s2 => ∃ x H', Inv X pins σ H' s2 ∧ RelV x u ∧ J.yld i H x H' ∧ tn (i + 1) s2.heap ∧ ∀ b ∈ fp, H' b = none) E s1) E s
  done : ∀ (X : Cx), X.prog = P → X.w = w → X.K = K → X.calm = true → ∀ (i : Nat) (pins : List (Addr × Obj)) (s : Shared) (σ : St) (H : Hp) (E : Value → Shared → Prop), Inv X pins σ H s → (∀ b ∈ fp, FpOk X pins H b) → tn i s.heap → J.stop i H →
    wpAny (model P w) X.A (pyNext (.ref it)) (fun r s1 => r = none ∧ Inv X pins σ H s1) E s
  self : ∀ (A : Around) (i : Nat) (s : Shared) (Q : Value → Shared → Prop) (E : Value → Shared → Prop), tn i s.heap → Q (.ref it) s → wpAny (model P w) A (pyIter (.ref it)) Q E s
abbrev TI := St → Hp → (It → Hp → Prop) → Prop
/-- an iterator has come -/
def PIE (X : Cx) (pins : List (Addr × Obj)) (σ : St) (tg : Expr) (R : It → Hp → Prop) (itv : Value) (s2 : Shared) : Prop :=
  ∃ (it : Addr) (fp : List Addr) (tn : Nat → Heap → Prop) (J : It) (H' : Hp), itv = .ref it ∧ Inv X pins σ H' s2 ∧ Turn X.prog X.w X.K tg J fp it tn ∧ tn 0 s2.heap ∧ (∀ b ∈ fp, FpOk X pins H' b) ∧ R J H'
def PI (X : Cx) (tg iter : Expr) (wi : TI) : Prop :=
  ∀ (pins : List (Addr × Obj)) (s : Shared) (σ : St) (H : Hp) (R : It → Hp → Prop), Inv X pins σ H s → wi σ H R →
    wpAny (model X.prog X.w) X.A (eval iter X.env) (fun v s1 => wpAny (model X.prog X.w) X.A (pyIter v) (PIE X pins σ tg R) X.xe s1) X.xe s

/-- the step ahead of the store is nothing for an iterator that keeps no tuple -/
theorem go_of {M : Model} {A : Around} {E : Value → Shared → Prop} {s : Shared} {tg : Expr} {it : Addr} {u : Value} {o : Obj} {n : String} {vs : Array Value} {Q : Unit → Shared → Prop} (ho : s.heap.get? it = some o) (hc : o.cls = .type n) (hd : o.data = .fields vs)
    (hn : ["enumerate", "zip", "dict_itemiterator", "dict_reverseitemiterator", "odict_iterator", "itertools.zip_longest", "itertools.pairwise"].contains n = false) (hQ : Q () s) : wpAny M A (letOwnedTupleGo tg (.ref it) u) Q E s := by
  unfold letOwnedTupleGo
  cases tg <;> first
    | exact wpAny_pure hQ
    | (cases u <;> first
        | exact wpAny_pure hQ
        | (refine wpAny_bind (wpAny_load ho ?_)
           rw [hc, hd]
           show wpAny M A (if (["enumerate", "zip", "dict_itemiterator", "dict_reverseitemiterator", "odict_iterator", "itertools.zip_longest", "itertools.pairwise"].contains n && vs[0]? == some (rawInt _)) = true then _ else _) Q E s
           rw [if_neg (by intro h; rw [hn, Bool.false_and] at h; cases h)]
           exact wpAny_pure hQ))

/-- the list at a, as it stands at each turn (a loop may append to it) -/
def Itl (K : PySem.W.Frag) (a : Addr) : It :=
  ⟨fun i H => ∃ xs x, SqL K H a xs ∧ xs[i]? = some x, fun i H x H' => H' = H ∧ ∀ xs, SqL K H a xs → xs[i]? = some x, fun i H => ∃ xs, SqL K H a xs ∧ xs.length ≤ i⟩
def Itt (K : PySem.W.Frag) (a : Addr) : It :=
  ⟨fun i H => ∃ xs x, SqT K H a xs ∧ xs[i]? = some x, fun i H x H' => H' = H ∧ ∀ xs, SqT K H a xs → xs[i]? = some x, fun i H => ∃ xs, SqT K H a xs ∧ xs.length ≤ i⟩
/-- lo, lo + 1, .. (n of them) -/
def Itr (lo : Int) (n : Nat) : It := ⟨fun i _ => i < n, fun i H x H' => H' = H ∧ x = .int (lo + i), fun i _ => n ≤ i⟩
theorem turn_list {P : Program} {w : World} {K : PySem.W.Frag} {tg : Expr} (a it : Addr) : Turn P w K tg (Itl K a) [it] it (fun i h => h.IsListIter it a i) where
  mem := by simp
  obj := fun i h st b hb => by
    have e : b = it := by simpa using hb
    subst e
    obtain ⟨o, e, c, d⟩ := st
    exact ⟨o, e, fun v z => by rw [d] at z; cases z⟩
  keep := fun i h h' st k => st.at fun o e => k it (by simp) o e
  item := by
    intro X hP hw hK hc i pins s σ H E I hf st hg
    subst hP hw hK
    obtain ⟨xs, x, hq, hx⟩ := hg
    obtain ⟨its, rv, p, hz⟩ := I.list hq
    obtain ⟨u, hu, ru⟩ := rv.get hx
    obtain ⟨f0, f1, f2, f3, f4, f5⟩ := hf it (by simp)
    refine wpAny_pyNext_list_item st p.isList (x := u) (by simpa using hu) fun h' st' sb => ?_
    have I1 : Inv X pins σ H { s with heap := h' } := I.turned (t' := s.toks) (fun b o hb e => (sb.2 b hb).trans e) f0 f1 f3 f4 f5
    obtain ⟨o, e, c, d⟩ := id st'
    exact ⟨u, rfl, go_of (s := { s with heap := h' }) e c d (by decide) ⟨x, H, I1, ru, ⟨rfl, fun ys hy => by rw [I.list_inj hy hq]; exact hx⟩, st', fun b hb => (hf b hb).1⟩⟩
  done := by
    intro X hP hw hK hc i pins s σ H E I hf st hg
    subst hP hw hK
    obtain ⟨xs, hq, hx⟩ := hg
    obtain ⟨its, rv, p, hz⟩ := I.list hq
    obtain ⟨f0, f1, f2, f3, f4, f5⟩ := hf it (by simp)
    have hl := rv.length
    exact wpAny_pyNext_list_end (I.ok.hd hc) st p.isList (by simp; (first | lia | omega)) fun h' eb => ⟨rfl, I.turned (t' := s.toks) (fun b o hb e => eb b o hb e) f0 f1 f3 f4 f5⟩
  self := fun _ _ _ _ _ st h => wpAny_pyIter_listiter st h
theorem turn_tuple {P : Program} {w : World} {K : PySem.W.Frag} {tg : Expr} (a it : Addr) : Turn P w K tg (Itt K a) [it] it (fun i h => h.IsTupleIter it a i) where
  mem := by simp
  obj := fun i h st b hb => by
    have e : b = it := by simpa using hb
    subst e
    obtain ⟨o, e, c, d⟩ := st
    exact ⟨o, e, fun v z => by rw [d] at z; cases z⟩
  keep := fun i h h' st k => st.at fun o e => k it (by simp) o e
  item := by
    intro X hP hw hK hc i pins s σ H E I hf st hg
    subst hP hw hK
    obtain ⟨xs, x, hq, hx⟩ := hg
    obtain ⟨its, rv, p, hz⟩ := I.tuple hq
    obtain ⟨u, hu, ru⟩ := rv.get hx
    obtain ⟨f0, f1, f2, f3, f4, f5⟩ := hf it (by simp)
    refine wpAny_pyNext_tuple_item st (show s.heap.IsTuple a its.toArray from p) (x := u) (by simpa using hu) fun h' st' sb => ?_
    have I1 : Inv X pins σ H { s with heap := h' } := I.turned (t' := s.toks) (fun b o hb e => (sb.2 b hb).trans e) f0 f1 f3 f4 f5
    obtain ⟨o, e, c, d⟩ := id st'
    exact ⟨u, rfl, go_of (s := { s with heap := h' }) e c d (by decide) ⟨x, H, I1, ru, ⟨rfl, fun ys hy => by rw [I.tuple_inj hy hq]; exact hx⟩, st', fun b hb => (hf b hb).1⟩⟩
  done := by
    intro X hP hw hK hc i pins s σ H E I hf st hg
    subst hP hw hK
    obtain ⟨xs, hq, hx⟩ := hg
    obtain ⟨its, rv, p, hz⟩ := I.tuple hq
    obtain ⟨f0, f1, f2, f3, f4, f5⟩ := hf it (by simp)
    have hl := rv.length
    exact wpAny_pyNext_tuple_end (I.ok.hd hc) st (show s.heap.IsTuple a its.toArray from p) (by simp; (first | lia | omega)) fun h' eb => ⟨rfl, I.turned (t' := s.toks) (fun b o hb e => eb b o hb e) f0 f1 f3 f4 f5⟩
  self := fun _ _ _ _ _ st h => wpAny_pyIter_tupleiter st h
theorem turn_range {P : Program} {w : World} {K : PySem.W.Frag} {tg : Expr} (it : Addr) (lo : Int) (n : Nat) : Turn P w K tg (Itr lo n) [it] it (fun i h => IsRangeIter h it (lo + (i : Nat) * 1) ((n : Int) - (i : Nat)) 1) where
  mem := by simp
  obj := fun i h st b hb => by
    have e : b = it := by simpa using hb
    subst e
    exact ⟨_, st, fun v z => by
      have z' : Data.fields _ = Data.cell v := z
      cases z'⟩
  keep := fun i h h' st k => k it (by simp) _ st
  item := by
    intro X hP hw hK hc i pins s σ H E I hf st hg
    subst hP hw hK
    obtain ⟨f0, f1, f2, f3, f4, f5⟩ := hf it (by simp)
    have W := Walks.range (prog := X.prog) (w := X.w) (I.ok.hd hc) it lo 1 n
    refine W.item i s _ _ hg st fun v h' tk hv st' kk => ?_
    obtain ⟨t, rfl⟩ := hv
    have I1 : Inv X pins σ H { s with heap := h', toks := tk } := I.turned (fun b o hb e => kk b o (by simpa using hb) e) f0 f1 f3 f4 f5
    refine ⟨_, rfl, go_of (s := { s with heap := h', toks := tk }) (n := "range_iterator") st' rfl rfl (by decide) ⟨.int (lo + i), H, I1, ⟨t, ?_⟩, ⟨rfl, rfl⟩, st', fun b hb => (hf b hb).1⟩⟩
    rw [Int.mul_one]
  done := by
    intro X hP hw hK hc i pins s σ H E I hf st hg
    subst hP hw hK
    obtain ⟨f0, f1, f2, f3, f4, f5⟩ := hf it (by simp)
    exact wpAny_pyNext_range_end (I.ok.hd hc) st (by have : n ≤ i := hg; (first | lia | omega)) fun h' eb => ⟨rfl, I.turned (t' := s.toks) (fun b o hb e => eb b o hb e) f0 f1 f3 f4 f5⟩
  self := fun _ _ _ _ _ st h => wpAny_pyIter_rangeiter st h
end L2

namespace L2
open PySem PySem.Spec PyProof.Rows
section
variable {X : Cx} {tg : Expr}
def iList (K : PySem.W.Frag) (tl : TE) : TI := fun σ H R => tl σ H fun x H1 => ∃ a, x = .ref a ∧ (∃ xs, SqL K H1 a xs) ∧ R (Itl K a) H1
def iTup (K : PySem.W.Frag) (tl : TE) : TI := fun σ H R => tl σ H fun x H1 => ∃ a, x = .ref a ∧ (∃ xs, SqT K H1 a xs) ∧ R (Itt K a) H1
theorem pi_list {l : Expr} {tl : TE} (hl : PE X l tl) : PI X tg l (iList X.K tl) := by
  intro pins s σ H R I h
  refine thn (hl pins s σ H _ I h) fun v s1 ⟨x, H1, I1, r1, q1⟩ => ?_
  obtain ⟨a, e, ⟨xs, hq⟩, q⟩ := q1
  subst e
  cases r1
  obtain ⟨its, rv, p, hz⟩ := I1.list hq
  refine wpAny_pyIter_list p.isList ?_
  refine ⟨s1.heap.objs.size, [s1.heap.objs.size], _, _, H1, rfl, I1.kept (t' := s1.toks) fun b o e => Heap.get?_push_of_some _ e, turn_list a _, ⟨_, Heap.get?_push_size _ rfl, rfl, rfl⟩, fun b hb => ?_, q⟩
  have e : b = s1.heap.objs.size := by simpa using hb
  subst e
  exact I1.fpOk (Nat.le_refl _) (I1.hok.fresh (Nat.le_refl _))
theorem pi_tup {l : Expr} {tl : TE} (hl : PE X l tl) : PI X tg l (iTup X.K tl) := by
  intro pins s σ H R I h
  refine thn (hl pins s σ H _ I h) fun v s1 ⟨x, H1, I1, r1, q1⟩ => ?_
  obtain ⟨a, e, ⟨xs, hq⟩, q⟩ := q1
  subst e
  cases r1
  obtain ⟨its, rv, p, hz⟩ := I1.tuple hq
  refine wpAny_pyIter_tuple (show s1.heap.IsTuple a its.toArray from p) ?_
  refine ⟨s1.heap.objs.size, [s1.heap.objs.size], _, _, H1, rfl, I1.kept (t' := s1.toks) fun b o e => Heap.get?_push_of_some _ e, turn_tuple a _, ⟨_, Heap.get?_push_size _ rfl, rfl, rfl⟩, fun b hb => ?_, q⟩
  have e : b = s1.heap.objs.size := by simpa using hb
  subst e
  exact I1.fpOk (Nat.le_refl _) (I1.hok.fresh (Nat.le_refl _))
/-- a range object just made, walked -/
theorem range_it {pins : List (Addr × Obj)} {σ : St} {H : Hp} {s : Shared} {R : It → Hp → Prop} {E : Value → Shared → Prop} {lo hi : Int} {t u v : Tok} {tk : Nat} (I : Inv X pins σ H s) (h1 : -(2 ^ 62) ≤ lo) (h2 : lo < 2 ^ 62) (h3 : -(2 ^ 62) ≤ hi) (h4 : hi < 2 ^ 62)
    (q : R (Itr lo (hi - lo).toNat) H) : wpAny (model X.prog X.w) X.A (pyIter (.ref s.heap.objs.size)) (PIE X pins σ tg R) E { s with heap := s.heap.push { cls := .type "range", data := .fields #[.int lo t, .int hi u, .int 1 v] }, toks := tk } := by
  refine wpAny_pyIter_range (IsRange.new ..) (small_one h1 h2 h3 h4) ?_
  have I1 : Inv X pins σ H { s with heap := s.heap.push { cls := .type "range", data := .fields #[.int lo t, .int hi u, .int 1 v] }, toks := tk } := I.kept fun b o e => Heap.get?_push_of_some _ e
  refine ⟨(s.heap.push { cls := .type "range", data := .fields #[.int lo t, .int hi u, .int 1 v] }).objs.size, [(s.heap.push { cls := .type "range", data := .fields #[.int lo t, .int hi u, .int 1 v] }).objs.size], _, _, H, rfl,
    I1.kept (t' := tk) fun b o e => Heap.get?_push_of_some _ e, turn_range _ lo (hi - lo).toNat, ?_, fun b hb => ?_, q⟩
  · have e1 : lo + ((0 : Nat) : Int) * 1 = lo := by simp
    have e2 : (((hi - lo).toNat : Nat) : Int) - ((0 : Nat) : Int) = Builtin.Range.rangeSize lo hi 1 := by rw [rangeSize_one]; split <;> (first | lia | omega)
    show IsRangeIter _ _ (lo + ((0 : Nat) : Int) * 1) ((((hi - lo).toNat : Nat) : Int) - ((0 : Nat) : Int)) 1
    rw [e1, e2]
    exact Heap.get?_push_size _ rfl
  · have e : b = (s.heap.push { cls := .type "range", data := .fields #[.int lo t, .int hi u, .int 1 v] }).objs.size := by simpa using hb
    subst e
    exact I1.fpOk (Nat.le_refl _) (I1.hok.fresh (Nat.le_refl _))
def iRng1 (ta : TA) : TI := fun σ H R => ta σ H fun vs H1 => ∃ j : Int, vs = [.int j] ∧ -(2 ^ 62) ≤ j ∧ j < 2 ^ 62 ∧ R (Itr 0 j.toNat) H1
theorem pi_range1 {a : Expr} {ta : TA} {p pos : Pos} (hg : Gl X "range") (hm : X.mg "range" = none) (ha : PA X [a] ta) (hs : starEach [a] X.env = [(false, eval a X.env)] := by rfl) : PI X tg (.Call (.Name "range" p) [a] [] pos) (iRng1 ta) := by
  intro pins s σ H R I h
  refine Call_ (ld_blt I hg hm boot_range (PyProof.Rows.callWith_type1 (thn (ha pos pins s σ H _ I h) fun us s1 ⟨vs, H1, I1, r1, q1⟩ => ?_) hs rfl))
  obtain ⟨j, e, q1, q2, q⟩ := q1
  subst e
  cases r1 with
  | cons r rr =>
    cases rr
    obtain ⟨t, rfl⟩ := r
    exact call_range_1 (range_it I1 (by (first | lia | omega)) (by (first | lia | omega)) q1 q2 (by simpa using q))
/-! ### for -/
/-- W: the invariant by the turn and a measure; N: what the body is to reach -/
def tFor (wi : TI) (g : TG) (tb : TS) : TS := fun D σ H => wi σ H fun J H1 => ∃ W : Nat → Nat → St → Hp → Prop, (∃ m, W 0 m σ H1) ∧ ∀ i m σ H, W i m σ H →
  (J.stop i H ∧ D.nx σ H) ∨ (J.go i H ∧ ∃ N : St → Hp → Prop, (∀ σ' H', N σ' H' → ∃ m', m' < m ∧ W (i + 1) m' σ' H') ∧ ∀ x H', J.yld i H x H' → g x σ H' fun σ2 H2 => tb { D with nx := N, ct := N, bk := D.nx } σ2 H2)
/-- the records at fp as they stand -/
def pinsAt (fp : List Addr) (h : Heap) : List (Addr × Obj) := fp.filterMap fun b => (h.get? b).map fun o => (b, o)
theorem mem_pinsAt {fp : List Addr} {h : Heap} {b : Addr} {o : Obj} (hb : b ∈ fp) (e : h.get? b = some o) : (b, o) ∈ pinsAt fp h := List.mem_filterMap.mpr ⟨b, hb, by rw [e]; rfl⟩
theorem of_pinsAt {fp : List Addr} {h : Heap} {p : Addr × Obj} (hp : p ∈ pinsAt fp h) : p.1 ∈ fp ∧ h.get? p.1 = some p.2 := by
  obtain ⟨b, hb, e⟩ := List.mem_filterMap.mp hp
  cases q : h.get? b with
  | none => rw [q] at e; cases e
  | some o =>
    rw [q] at e
    have e' : (b, o) = p := Option.some.inj e
    subst e'
    exact ⟨hb, q⟩
theorem Inv.pinned {pins : List (Addr × Obj)} {σ : St} {H : Hp} {s : Shared} {fp : List Addr} (I : Inv X pins σ H s) (hf : ∀ b ∈ fp, FpOk X pins H b) (ho : ∀ b ∈ fp, ∃ o, s.heap.get? b = some o ∧ ∀ v, o.data ≠ .cell v) : Inv X (pins ++ pinsAt fp s.heap) σ H s :=
  I.pins_of fun p hp => (List.mem_append.mp hp).elim (fun z => I.pin p (List.mem_append_right _ z)) fun z => by
    obtain ⟨hb, e⟩ := of_pinsAt z
    obtain ⟨f0, f1, f2, _⟩ := hf p.1 hb
    obtain ⟨o, e', d⟩ := ho p.1 hb
    rw [e] at e'; cases e'
    exact ⟨e, f0, f1, f2, d⟩
theorem Inv.unpinned {pins pl : List (Addr × Obj)} {σ : St} {H : Hp} {s : Shared} (I : Inv X (pins ++ pl) σ H s) : Inv X pins σ H s := I.pins_of fun p hp => I.pin p (List.mem_append_right _ (List.mem_append_left _ hp))
theorem ps_for {iter : Expr} {body : List Stmt} {wi : TI} {g : TG} {tb : TS} {pos : Pos} (hp : PassesOwn (model X.prog X.w) X.A X.env X.xe) (hc : X.calm = true) (hi : PI X tg iter wi) (hg : PG X tg g) (hb : PSs X body tb)
    (hs : ∀ x, foldedSetIterable iter X.env x = pure x := by intro _; rfl) : PS X (.For tg iter body [] pos) (tFor wi g tb) := by
  intro pins s σ H D I h
  refine wpAny_For (thn (hi pins s σ H _ I h) fun v s1 h1 => thn h1 fun itv s2 h2 => ?_) hs
  obtain ⟨it, fp, tn, J, H2, e, I2, T, st2, f2, W, ⟨m0, w0⟩, turn⟩ := h2
  subst e
  -- what stays true of the iterator's objects through the loop
  have stat : ∀ {H' : Hp}, (∀ b ∈ fp, H' b = none) → ∀ b ∈ fp, FpOk X pins H' b := fun hn b hb => ⟨hn b hb, (f2 b hb).2⟩
  refine codeAny_forLoop_any (fun n s' => ∃ i σ' H', Inv X pins σ' H' s' ∧ tn i s'.heap ∧ (∀ b ∈ fp, H' b = none) ∧ W i n σ' H') ?_ m0 ⟨0, σ, H2, I2, st2, fun b hb => (f2 b hb).1, w0⟩
  rintro n s3 ⟨i, σ3, H3, I3, st3, fr3, w3⟩
  rcases turn i n σ3 H3 w3 with ⟨stop, qn⟩ | ⟨go, N, hN, step⟩
  · refine wpAny_passesOwn hp (thn (T.done X rfl rfl rfl hc i pins s3 σ3 H3 X.xe I3 (stat fr3) st3 stop) fun r s4 ⟨hr, I4⟩ => ?_)
    subst hr
    exact wpAny_execs_nil ⟨σ3, H3, I4, qn⟩
  · refine wpAny_passesOwn hp (thn (T.item X rfl rfl rfl hc i pins s3 σ3 H3 X.xe I3 (stat fr3) st3 go) fun r s4 ⟨u, hr, h4⟩ => ?_)
    subst hr
    refine wpAny_passesOwn hp (thn h4 fun _ s5 ⟨x, H5, I5, r5, y5, st5, fr5⟩ => ?_)
    have I5' := I5.pinned (stat fr5) (T.obj _ _ st5)
    refine wpAny_passesOwn hp (thn (hg _ s5 σ3 H5 x u _ I5' r5 (step x H5 y5)) fun _ s6 ⟨σ6, H6, I6, q6⟩ => ?_)
    refine wpAny_passesOwn hp (thn (hb _ s6 σ6 H6 _ I6 q6) fun f s7 q7 => ?_)
    have again : ∀ {σ7 : St} {H7 : Hp}, Inv X (pins ++ pinsAt fp s5.heap) σ7 H7 s7 → N σ7 H7 → ∃ m, m < n ∧ ∃ i σ' H', Inv X pins σ' H' s7 ∧ tn i s7.heap ∧ (∀ b ∈ fp, H' b = none) ∧ W i m σ' H' := fun {σ7 H7} I7 n7 => by
      obtain ⟨m', hm, w7⟩ := hN σ7 H7 n7
      refine ⟨m', hm, i + 1, σ7, H7, I7.unpinned, T.keep _ _ _ st5 fun b hb o e => (I7.pin (b, o) (List.mem_append_right _ (List.mem_append_right _ (mem_pinsAt hb e)))).1, fun b hb => ?_, w7⟩
      obtain ⟨o, e, d⟩ := T.obj _ _ st5 b hb
      exact (I7.pin (b, o) (List.mem_append_right _ (List.mem_append_right _ (mem_pinsAt hb e)))).2.1
    cases f with
    | next => obtain ⟨σ7, H7, I7, n7⟩ := q7; exact again I7 n7
    | cont => obtain ⟨σ7, H7, I7, n7⟩ := q7; exact again I7 n7
    | brk => obtain ⟨σ7, H7, I7, q7⟩ := q7; exact ⟨σ7, H7, I7.unpinned, q7⟩
    | ret v => obtain ⟨x7, σ7, H7, I7, r7, q7⟩ := q7; exact ⟨x7, σ7, H7, I7.unpinned, r7, q7⟩
end

/-! ### the forms one uses -/
/-- over a list that the body leaves as it is -/
theorem for_list {K : PySem.W.Frag} {a : Addr} {xs : List V} {g : TG} {tb : TS} {D : Ends} {σ : St} {H : Hp} (Pv : Nat → St → Hp → Prop) (h0 : Pv 0 σ H) (hl : ∀ i σ H, i ≤ xs.length → Pv i σ H → SqL K H a xs)
    (hs : ∀ i x σ H, xs[i]? = some x → Pv i σ H → g x σ H fun σ2 H2 => tb { D with nx := Pv (i + 1), ct := Pv (i + 1), bk := D.nx } σ2 H2) (hd : ∀ σ H, Pv xs.length σ H → D.nx σ H) :
    ∃ W : Nat → Nat → St → Hp → Prop, (∃ m, W 0 m σ H) ∧ ∀ i m σ H, W i m σ H →
      ((Itl K a).stop i H ∧ D.nx σ H) ∨ ((Itl K a).go i H ∧ ∃ N : St → Hp → Prop, (∀ σ' H', N σ' H' → ∃ m', m' < m ∧ W (i + 1) m' σ' H') ∧ ∀ x H', (Itl K a).yld i H x H' → g x σ H' fun σ2 H2 => tb { D with nx := N, ct := N, bk := D.nx } σ2 H2) := by
  refine ⟨fun i m σ H => m = xs.length - i ∧ i ≤ xs.length ∧ Pv i σ H, ⟨xs.length, by simp, Nat.zero_le _, h0⟩, ?_⟩
  rintro i m σ H ⟨rfl, hi, p⟩
  have q := hl i σ H hi p
  by_cases hlt : i < xs.length
  · refine .inr ⟨⟨xs, xs[i], q, by simp [hlt]⟩, Pv (i + 1), fun σ' H' p' => ⟨xs.length - (i + 1), by (first | lia | omega), rfl, hlt, p'⟩, fun x H' y => ?_⟩
    obtain ⟨e, y⟩ := y
    subst e
    exact hs i x σ _ (y xs q) p
  · have e : i = xs.length := by (first | lia | omega)
    subst e
    exact .inl ⟨⟨xs, q, Nat.le_refl _⟩, hd σ H p⟩
theorem for_tup {K : PySem.W.Frag} {a : Addr} {xs : List V} {g : TG} {tb : TS} {D : Ends} {σ : St} {H : Hp} (Pv : Nat → St → Hp → Prop) (h0 : Pv 0 σ H) (hl : ∀ i σ H, i ≤ xs.length → Pv i σ H → SqT K H a xs)
    (hs : ∀ i x σ H, xs[i]? = some x → Pv i σ H → g x σ H fun σ2 H2 => tb { D with nx := Pv (i + 1), ct := Pv (i + 1), bk := D.nx } σ2 H2) (hd : ∀ σ H, Pv xs.length σ H → D.nx σ H) :
    ∃ W : Nat → Nat → St → Hp → Prop, (∃ m, W 0 m σ H) ∧ ∀ i m σ H, W i m σ H →
      ((Itt K a).stop i H ∧ D.nx σ H) ∨ ((Itt K a).go i H ∧ ∃ N : St → Hp → Prop, (∀ σ' H', N σ' H' → ∃ m', m' < m ∧ W (i + 1) m' σ' H') ∧ ∀ x H', (Itt K a).yld i H x H' → g x σ H' fun σ2 H2 => tb { D with nx := N, ct := N, bk := D.nx } σ2 H2) := by
  refine ⟨fun i m σ H => m = xs.length - i ∧ i ≤ xs.length ∧ Pv i σ H, ⟨xs.length, by simp, Nat.zero_le _, h0⟩, ?_⟩
  rintro i m σ H ⟨rfl, hi, p⟩
  have q := hl i σ H hi p
  by_cases hlt : i < xs.length
  · refine .inr ⟨⟨xs, xs[i], q, by simp [hlt]⟩, Pv (i + 1), fun σ' H' p' => ⟨xs.length - (i + 1), by (first | lia | omega), rfl, hlt, p'⟩, fun x H' y => ?_⟩
    obtain ⟨e, y⟩ := y
    subst e
    exact hs i x σ _ (y xs q) p
  · have e : i = xs.length := by (first | lia | omega)
    subst e
    exact .inl ⟨⟨xs, q, Nat.le_refl _⟩, hd σ H p⟩
theorem for_range {lo : Int} {n : Nat} {g : TG} {tb : TS} {D : Ends} {σ : St} {H : Hp} (Pv : Nat → St → Hp → Prop) (h0 : Pv 0 σ H)
    (hs : ∀ i σ H, i < n → Pv i σ H → g (.int (lo + i)) σ H fun σ2 H2 => tb { D with nx := Pv (i + 1), ct := Pv (i + 1), bk := D.nx } σ2 H2) (hd : ∀ σ H, Pv n σ H → D.nx σ H) :
    ∃ W : Nat → Nat → St → Hp → Prop, (∃ m, W 0 m σ H) ∧ ∀ i m σ H, W i m σ H →
      ((Itr lo n).stop i H ∧ D.nx σ H) ∨ ((Itr lo n).go i H ∧ ∃ N : St → Hp → Prop, (∀ σ' H', N σ' H' → ∃ m', m' < m ∧ W (i + 1) m' σ' H') ∧ ∀ x H', (Itr lo n).yld i H x H' → g x σ H' fun σ2 H2 => tb { D with nx := N, ct := N, bk := D.nx } σ2 H2) := by
  refine ⟨fun i m σ H => m = n - i ∧ i ≤ n ∧ Pv i σ H, ⟨n, by simp, Nat.zero_le _, h0⟩, ?_⟩
  rintro i m σ H ⟨rfl, hi, p⟩
  by_cases hlt : i < n
  · refine .inr ⟨hlt, Pv (i + 1), fun σ' H' p' => ⟨n - (i + 1), by (first | lia | omega), rfl, hlt, p'⟩, fun x H' y => ?_⟩
    obtain ⟨e, y⟩ := y
    subst e y
    exact hs i σ _ hlt p
  · have e : i = n := by (first | lia | omega)
    subst e
    exact .inl ⟨Nat.le_refl _, hd σ H p⟩
end L2

namespace L2
open PySem PySem.Spec PyProof.Rows

abbrev R2 := V → V → Hp → VK → Prop
/-- a two-place operation on values: f is binaryOp op, inplaceOp op or compareOp op -/
def OpR (X : Cx) (f : Value → Value → Sem Value) (r : R2) : Prop :=
  ∀ (pins : List (Addr × Obj)) (s : Shared) (σ : St) (H : Hp) (x y : V) (v u : Value) (Q : VK), Inv X pins σ H s → RelV x v → RelV y u → r x y H Q →
    wpAny (model X.prog X.w) X.A (f v u) (EP X pins σ Q) X.xe s
/-- a one-place operation -/
def UnR (X : Cx) (f : Value → Sem Value) (r : V → Hp → VK → Prop) : Prop :=
  ∀ (pins : List (Addr × Obj)) (s : Shared) (σ : St) (H : Hp) (x : V) (v : Value) (Q : VK), Inv X pins σ H s → RelV x v → r x H Q →
    wpAny (model X.prog X.w) X.A (f v) (EP X pins σ Q) X.xe s
/-- a call of a value that is known (a builtin, a type) with values -/
def CallR (X : Cx) (f : Value) (r : List V → Hp → VK → Prop) : Prop :=
  ∀ (pins : List (Addr × Obj)) (s : Shared) (σ : St) (H : Hp) (xs : List V) (us : List Value) (Q : VK), Inv X pins σ H s → Vals xs us → r xs H Q →
    wpAny (model X.prog X.w) X.A (call f us) (EP X pins σ Q) X.xe s
/-- a value's truth -/
def TruR (X : Cx) (r : V → Hp → (Bool → Hp → Prop) → Prop) : Prop :=
  ∀ (pins : List (Addr × Obj)) (s : Shared) (σ : St) (H : Hp) (x : V) (v : Value) (Q : Bool → Hp → Prop), Inv X pins σ H s → RelV x v → r x H Q →
    wpAny (model X.prog X.w) X.A (truthy v) (TP X pins σ Q) X.xe s

def tOp (r : R2) (ta tb : TE) : TE := fun σ H Q => ta σ H fun x H1 => tb σ H1 fun y H2 => r x y H2 Q
def tUn (r : V → Hp → VK → Prop) (ta : TE) : TE := fun σ H Q => ta σ H fun x H1 => r x H1 Q
/-- ints in, under C, and a value out -/
def rI (C : Int → Int → Prop) (g : Int → Int → V) : R2 := fun x y H Q => ∃ i j, x = .int i ∧ y = .int j ∧ C i j ∧ Q (g i j) H
def rI0 (g : Int → Int → V) : R2 := fun x y H Q => ∃ i j, x = .int i ∧ y = .int j ∧ Q (g i j) H
def rU (g : Int → V) : V → Hp → VK → Prop := fun x H Q => ∃ i, x = .int i ∧ Q (g i) H

section
variable {X : Cx} {a b c : Expr} {ta tb tc : TE} {pos : Pos}

theorem binT (ha : PE X a ta) (hb : PE X b tb) {pins : List (Addr × Obj)} {s : Shared} {σ : St} {H : Hp} {R : V → V → Hp → Prop} (I : Inv X pins σ H s)
    (h : ta σ H fun x H1 => tb σ H1 fun y H2 => R x y H2) {Q : Value → Shared → Prop} {f : Value → Value → Sem Value}
    (hf : ∀ v u s2 x y H2, Inv X pins σ H2 s2 → RelV x v → RelV y u → R x y H2 → wpAny (model X.prog X.w) X.A (f v u) Q X.xe s2) :
    wpAny (model X.prog X.w) X.A (eval a X.env) (fun v s₁ => wpAny (model X.prog X.w) X.A (eval b X.env) (fun u s₂ => wpAny (model X.prog X.w) X.A (f v u) Q X.xe s₂) X.xe s₁) X.xe s := by
  refine thn (ha pins s σ H _ I h) fun v s1 ⟨x, H1, I1, r1, q1⟩ => ?_
  refine thn (hb pins s1 σ H1 _ I1 q1) fun u s2 ⟨y, H2, I2, r2, q2⟩ => ?_
  exact hf v u s2 x y H2 I2 r1 r2 q2

theorem pe_op {op : Operator} {r : R2} (ho : OpR X (binaryOp op) r) (ha : PE X a ta) (hb : PE X b tb) : PE X (.BinOp a op b pos) (tOp r ta tb) := by
  intro pins s σ H Q I h
  exact wpAny_BinOp (binT ha hb I h fun v u s2 x y H2 I2 rx ry q => ho pins s2 σ H2 x y v u Q I2 rx ry q)
theorem pe_un {op : UnaryOp} {r : V → Hp → VK → Prop} (ho : UnR X (unaryOp op) r) (ha : PE X a ta) : PE X (.UnaryOp op a pos) (tUn r ta) := by
  intro pins s σ H Q I h
  exact UnaryOp_ (thn (ha pins s σ H _ I h) fun v s1 ⟨x, H1, I1, r1, q1⟩ => ho pins s1 σ H1 x v Q I1 r1 q1)
/-! ### ints -/
theorem opI {f : Value → Value → Sem Value} {C : Int → Int → Prop} {g : Int → Int → Int}
    (rule : ∀ (i j : Int) (t u : Tok) (s : Shared) (Q : Value → Shared → Prop) (E : Value → Shared → Prop), C i j → Q (.int (g i j) s.toks) { s with toks := s.toks + 1 } → wpAny (model X.prog X.w) X.A (f (.int i t) (.int j u)) Q E s) :
    OpR X f (rI C fun i j => .int (g i j)) := by
  intro pins s σ H x y v u Q I rx ry h
  obtain ⟨i, j, rfl, rfl, hc, q⟩ := h
  obtain ⟨t, rfl⟩ := rx
  obtain ⟨t', rfl⟩ := ry
  exact rule i j t t' s _ _ hc ⟨.int (g i j), H, I.tok _, ⟨_, rfl⟩, q⟩
theorem opI0 {f : Value → Value → Sem Value} {g : Int → Int → Int}
    (rule : ∀ (i j : Int) (t u : Tok) (s : Shared) (Q : Value → Shared → Prop) (E : Value → Shared → Prop), Q (.int (g i j) s.toks) { s with toks := s.toks + 1 } → wpAny (model X.prog X.w) X.A (f (.int i t) (.int j u)) Q E s) :
    OpR X f (rI0 fun i j => .int (g i j)) := by
  intro pins s σ H x y v u Q I rx ry h
  obtain ⟨i, j, rfl, rfl, q⟩ := h
  obtain ⟨t, rfl⟩ := rx
  obtain ⟨t', rfl⟩ := ry
  exact rule i j t t' s _ _ ⟨.int (g i j), H, I.tok _, ⟨_, rfl⟩, q⟩
theorem opB0 {f : Value → Value → Sem Value} {g : Int → Int → Bool}
    (rule : ∀ (i j : Int) (t u : Tok) (s : Shared) (Q : Value → Shared → Prop) (E : Value → Shared → Prop), Q (.bool (g i j)) s → wpAny (model X.prog X.w) X.A (f (.int i t) (.int j u)) Q E s) :
    OpR X f (rI0 fun i j => .bl (g i j)) := by
  intro pins s σ H x y v u Q I rx ry h
  obtain ⟨i, j, rfl, rfl, q⟩ := h
  obtain ⟨t, rfl⟩ := rx
  obtain ⟨t', rfl⟩ := ry
  exact rule i j t t' s _ _ ⟨.bl (g i j), H, I, rfl, q⟩

def CDiv (i j : Int) : Prop := 0 < j ∧ j < 1073741824
def CPow (i j : Int) : Prop := 0 ≤ j ∧ j ≤ 1000000 ∧ i.natAbs < 2 ^ 64
def CMul (i j : Int) : Prop := (-(2 ^ 64) < i ∧ i < 2 ^ 64) ∨ (-(2 ^ 64) < j ∧ j < 2 ^ 64)
theorem CMul.ok {i j : Int} (h : CMul i j) : IntMulOk i j := by
  rcases h with ⟨h1, h2⟩ | ⟨h1, h2⟩
  · exact .of_left (intBits_le_64 h1 h2)
  · exact .of_right (intBits_le_64 h1 h2)
theorem op_add : OpR X (binaryOp .Add) (rI0 fun i j => .int (i + j)) := opI0 fun _ _ _ _ _ _ _ q => add_int q
theorem op_sub : OpR X (binaryOp .Sub) (rI0 fun i j => .int (i - j)) := opI0 fun _ _ _ _ _ _ _ q => sub_int q
theorem op_mul : OpR X (binaryOp .Mult) (rI CMul fun i j => .int (i * j)) := opI fun _ _ _ _ _ _ _ hc q => mul_int q hc.ok
/-- // by a positive divisor -/
theorem op_fdiv : OpR X (binaryOp .FloorDiv) (rI CDiv fun i j => .int (i / j)) := opI fun i j _ _ _ _ _ hc q => by
  have h1 : (0 : Int) < j := hc.1
  have h2 : j < 1073741824 := hc.2
  exact floordiv_int (by (first | lia | omega)) (by rw [Int.fdiv_eq_ediv_of_nonneg i (by (first | lia | omega))]; exact q) (.inl (PyProof.noPylong_small (by (first | lia | omega))))
/-- % by a positive divisor of any size -/
theorem op_mod : OpR X (binaryOp .Mod) (rI (fun _ j => 0 < j) fun i j => .int (i % j)) := opI fun i j _ _ _ _ _ hc q => by
  have h1 : (0 : Int) < j := hc
  exact mod_int' (by (first | lia | omega)) (by rw [Int.fmod_eq_emod_of_nonneg i (by (first | lia | omega))]; exact q)
theorem op_pow : OpR X (binaryOp .Pow) (rI CPow fun i j => .int (i ^ j.toNat)) := opI fun _ _ _ _ _ _ _ hc q => pow_int_small hc.1 hc.2.1 hc.2.2 q
theorem unI {f : Value → Sem Value} {g : Int → Int}
    (rule : ∀ (i : Int) (t : Tok) (s : Shared) (Q : Value → Shared → Prop) (E : Value → Shared → Prop), Q (.int (g i) s.toks) { s with toks := s.toks + 1 } → wpAny (model X.prog X.w) X.A (f (.int i t)) Q E s) :
    UnR X f (rU fun i => .int (g i)) := by
  intro pins s σ H x v Q I rx h
  obtain ⟨i, rfl, q⟩ := h
  obtain ⟨t, rfl⟩ := rx
  exact rule i t s _ _ ⟨.int (g i), H, I.tok _, ⟨_, rfl⟩, q⟩
theorem un_neg : UnR X (unaryOp .USub) (rU fun i => .int (-i)) := unI fun _ _ _ _ _ q => neg_int q
/-! ### bools among ints: n += (a < b) -/
end

/-! ### comparisons -/
/-- the scalars that == tells apart as data does -/
def scal : V → V → Bool
  | .non, .non => true | .non, .int _ => true | .int _, .non => true | .non, .bl _ => true | .bl _, .non => true | .non, .str _ => true | .str _, .non => true
  | .int _, .int _ => true | .bl _, .bl _ => true | .str _, .str _ => true | .byt _, .byt _ => true
  | .int _, .str _ => true | .str _, .int _ => true | .bl _, .str _ => true | .str _, .bl _ => true
  | _, _ => false
def rEq : R2 := fun x y H Q => scal x y = true ∧ Q (.bl (decide (x = y))) H
def rNe : R2 := fun x y H Q => scal x y = true ∧ Q (.bl (!decide (x = y))) H

theorem dec_int {i j : Int} : decide (V.int i = V.int j) = (i == j) := by
  rw [Bool.eq_iff_iff]
  simp
theorem dec_bl {i j : Bool} : decide (V.bl i = V.bl j) = (i == j) := by
  rw [Bool.eq_iff_iff]
  simp
theorem dec_str {i j : Str} : decide (V.str i = V.str j) = (i == j) := by
  rw [Bool.eq_iff_iff]
  simp
theorem dec_byt {i j : Array UInt8} : decide (V.byt i = V.byt j) = (i.toList == j.toList) := by
  rw [Bool.eq_iff_iff]
  cases i
  cases j
  simp

section
variable {X : Cx} {a b c : Expr} {ta tb tc : TE} {pos : Pos}
theorem fin_bl {pins : List (Addr × Obj)} {σ : St} {H : Hp} {s : Shared} {Q : VK} {k k' : Bool} (I : Inv X pins σ H s) (q : Q (.bl k) H) (e : k = k') : EP X pins σ Q (.bool k') s := by
  subst e
  exact ⟨.bl k, H, I, rfl, q⟩
theorem op_eq : OpR X (compareOp .Eq) rEq := by
  intro pins s σ H x y v u Q I rx ry h
  obtain ⟨hs, q⟩ := h
  cases x with
  | non =>
    cases rx
    cases y with
    | non => cases ry; exact PySem.EqNone.eq_none_none (fin_bl I q (by simp))
    | bl j => cases ry; exact PySem.EqNone.eq_none_bool (fin_bl I q (by simp))
    | int j => obtain ⟨t', rfl⟩ := ry; exact PySem.EqNone.eq_none_int (fin_bl I q (by simp))
    | str j => obtain ⟨t', rfl⟩ := ry; exact PySem.EqNone.eq_none_str (fin_bl I q (by simp))
    | _ => exact absurd (show false = true from hs) Bool.false_ne_true
  | bl i =>
    cases rx
    cases y with
    | non => cases ry; exact PySem.EqNone.eq_bool_none (fin_bl I q (by simp))
    | bl j => cases ry; exact eq_bool (fin_bl I q dec_bl)
    | str j => obtain ⟨t', rfl⟩ := ry; exact PySem.EqMixed.eq_bool_str (fin_bl I q (by simp))
    | _ => exact absurd (show false = true from hs) Bool.false_ne_true
  | int i =>
    obtain ⟨t, rfl⟩ := rx
    cases y with
    | non => cases ry; exact PySem.EqNone.eq_int_none (fin_bl I q (by simp))
    | int j => obtain ⟨t', rfl⟩ := ry; exact eq_int (fin_bl I q dec_int)
    | str j => obtain ⟨t', rfl⟩ := ry; exact PySem.EqMixed.eq_int_str (fin_bl I q (by simp))
    | _ => exact absurd (show false = true from hs) Bool.false_ne_true
  | str i =>
    obtain ⟨t, rfl⟩ := rx
    cases y with
    | non => cases ry; exact PySem.EqNone.eq_str_none (fin_bl I q (by simp))
    | bl j => cases ry; exact PySem.EqMixed.eq_str_bool (fin_bl I q (by simp))
    | int j => obtain ⟨t', rfl⟩ := ry; exact PySem.EqMixed.eq_str_int (fin_bl I q (by simp))
    | str j => obtain ⟨t', rfl⟩ := ry; exact eq_str (fin_bl I q dec_str)
    | _ => exact absurd (show false = true from hs) Bool.false_ne_true
  | byt i =>
    obtain ⟨t, rfl⟩ := rx
    cases y with
    | byt j => obtain ⟨t', rfl⟩ := ry; exact PySem.W.eq_bytes (fin_bl I q dec_byt)
    | _ => exact absurd (show false = true from hs) Bool.false_ne_true
  | _ => cases y <;> exact absurd (show false = true from hs) Bool.false_ne_true
theorem op_ne : OpR X (compareOp .NotEq) rNe := by
  intro pins s σ H x y v u Q I rx ry h
  obtain ⟨hs, q⟩ := h
  cases x with
  | non =>
    cases rx
    cases y with
    | non => cases ry; exact PySem.EqNone.ne_none_none (fin_bl I q (by simp))
    | bl j => cases ry; exact PySem.EqNone.ne_none_bool (fin_bl I q (by simp))
    | int j => obtain ⟨t', rfl⟩ := ry; exact PySem.EqNone.ne_none_int (fin_bl I q (by simp))
    | str j => obtain ⟨t', rfl⟩ := ry; exact PySem.EqNone.ne_none_str (fin_bl I q (by simp))
    | _ => exact absurd (show false = true from hs) Bool.false_ne_true
  | bl i =>
    cases rx
    cases y with
    | non => cases ry; exact PySem.EqNone.ne_bool_none (fin_bl I q (by simp))
    | bl j => cases ry; exact ne_bool (fin_bl I q (congrArg not dec_bl))
    | str j => obtain ⟨t', rfl⟩ := ry; exact PySem.EqMixed.ne_bool_str (fin_bl I q (by simp))
    | _ => exact absurd (show false = true from hs) Bool.false_ne_true
  | int i =>
    obtain ⟨t, rfl⟩ := rx
    cases y with
    | non => cases ry; exact PySem.EqNone.ne_int_none (fin_bl I q (by simp))
    | int j => obtain ⟨t', rfl⟩ := ry; exact ne_int (fin_bl I q (congrArg not dec_int))
    | str j => obtain ⟨t', rfl⟩ := ry; exact PySem.EqMixed.ne_int_str (fin_bl I q (by simp))
    | _ => exact absurd (show false = true from hs) Bool.false_ne_true
  | str i =>
    obtain ⟨t, rfl⟩ := rx
    cases y with
    | non => cases ry; exact PySem.EqNone.ne_str_none (fin_bl I q (by simp))
    | bl j => cases ry; exact PySem.EqMixed.ne_str_bool (fin_bl I q (by simp))
    | int j => obtain ⟨t', rfl⟩ := ry; exact PySem.EqMixed.ne_str_int (fin_bl I q (by simp))
    | str j => obtain ⟨t', rfl⟩ := ry; exact ne_str (fin_bl I q (congrArg not dec_str))
    | _ => exact absurd (show false = true from hs) Bool.false_ne_true
  | byt i =>
    obtain ⟨t, rfl⟩ := rx
    cases y with
    | byt j => obtain ⟨t', rfl⟩ := ry; exact PySem.W.ne_bytes (fin_bl I q (congrArg not dec_byt))
    | _ => exact absurd (show false = true from hs) Bool.false_ne_true
  | _ => cases y <;> exact absurd (show false = true from hs) Bool.false_ne_true

theorem op_lt : OpR X (compareOp .Lt) (rI0 fun i j => .bl (decide (i < j))) := opB0 fun _ _ _ _ _ _ _ q => lt_int q
theorem op_le : OpR X (compareOp .LtE) (rI0 fun i j => .bl (decide (i ≤ j))) := opB0 fun _ _ _ _ _ _ _ q => le_int q
theorem op_gt : OpR X (compareOp .Gt) (rI0 fun i j => .bl (decide (j < i))) := opB0 fun _ _ _ _ _ _ _ q => gt_int q
theorem nomark (b : Expr) {op : CmpOp} (h : op ≠ .In := by decide) (h2 : op ≠ .NotIn := by decide) : behindInMarks op b = false := by
  have e1 : (op == CmpOp.In) = false := by cases op <;> first | rfl | exact absurd rfl h
  have e2 : (op == CmpOp.NotIn) = false := by cases op <;> first | rfl | exact absurd rfl h2
  cases b <;> simp [behindInMarks, e1, e2]
/-- a comparison as a value; hm: nomark b, or (for in, not in) by with_unfolding_all rfl -/
theorem pe_cmpR {op : CmpOp} {r : R2} (ho : OpR X (compareOp op) r) (ha : PE X a ta) (hb : PE X b tb) (hm : behindInMarks op b = false) : PE X (.Compare a [op] [b] pos) (tOp r ta tb) := by
  intro pins s σ H Q I h
  exact wpAny_Compare1 (binT ha hb I h fun v u s2 x y H2 I2 rx ry q => ho pins s2 σ H2 x y v u Q I2 rx ry q) hm
/-- a reading of a value as a test -/
def tTest (t : TE) : TT := fun σ H Q => t σ H fun x H' => ∃ k, x = .bl k ∧ Q k H'
theorem pt_cmpR {op : CmpOp} {r : R2} (ho : OpR X (compareOp op) r) (ha : PE X a ta) (hb : PE X b tb) (hm : behindInMarks op b = false) : PT X (.Compare a [op] [b] pos) (tTest (tOp r ta tb)) := by
  intro pins s σ H Q I h
  refine wpAny_isTrue_Compare1 (thn (ha pins s σ H _ I h) fun v s1 ⟨x, H1, I1, r1, q1⟩ => thn (hb pins s1 σ H1 _ I1 q1) fun u s2 ⟨y, H2, I2, r2, q2⟩ =>
    thn (ho pins s2 σ H2 x y v u _ I2 r1 r2 q2) fun c s3 ⟨z, H3, I3, r3, k, e, q3⟩ => ?_) hm
  subst e
  cases r3
  exact wpAny_truthy_bool ⟨H3, I3, q3⟩
/-- a op1 b op2 c -/
def tChain (r r' : R2) (ta tb tc : TE) : TE := fun σ H Q => ta σ H fun x H1 => tb σ H1 fun y H2 => r x y H2 fun z H3 => ∃ k, z = .bl k ∧
  (if k = true then tc σ H3 fun w' H4 => r' y w' H4 Q else Q (.bl false) H3)
theorem pe_chain {op op' : CmpOp} {r r' : R2} (ho : OpR X (compareOp op) r) (ho' : OpR X (compareOp op') r') (ha : PE X a ta) (hb : PE X b tb) (hc : PE X c tc)
    (hm : lastMarks [op, op'] [b, c] = false := by with_unfolding_all rfl) : PE X (.Compare a [op, op'] [b, c] pos) (tChain r r' ta tb tc) := by
  intro pins s σ H Q I h
  refine Compare_chain (thn (ha pins s σ H _ I h) fun v s1 ⟨x, H1, I1, r1, q1⟩ => chain_link (thn (hb pins s1 σ H1 _ I1 q1) fun u s2 ⟨y, H2, I2, r2, q2⟩ =>
    thn (ho pins s2 σ H2 x y v u _ I2 r1 r2 q2) fun d s3 ⟨z, H3, I3, r3, k, e, q3⟩ => ?_)) hm
  subst e
  cases r3
  refine wpAny_truthy_bool ?_
  cases k with
  | false => exact ite_ff ⟨.bl false, H3, I3, rfl, q3⟩
  | true => exact ite_tt (chain_last (thn (hc pins s3 σ H3 _ I3 q3) fun w' s4 ⟨z', H4, I4, r4, q4⟩ => ho' pins s4 σ H4 y z' u w' Q I4 r2 r4 q4))
theorem pt_chain {op op' : CmpOp} {r r' : R2} (ho : OpR X (compareOp op) r) (ho' : OpR X (compareOp op') r') (ha : PE X a ta) (hb : PE X b tb) (hc : PE X c tc)
    (hm : lastMarks [op, op'] [b, c] = false := by with_unfolding_all rfl) : PT X (.Compare a [op, op'] [b, c] pos) (tTest (tChain r r' ta tb tc)) := by
  intro pins s σ H Q I h
  refine isTrue_chain (thn (ha pins s σ H _ I h) fun v s1 ⟨x, H1, I1, r1, q1⟩ => test_link (thn (hb pins s1 σ H1 _ I1 q1) fun u s2 ⟨y, H2, I2, r2, q2⟩ =>
    thn (ho pins s2 σ H2 x y v u _ I2 r1 r2 q2) fun d s3 ⟨z, H3, I3, r3, k, e, q3⟩ => ?_)) hm
  subst e
  cases r3
  refine wpAny_truthy_bool ?_
  cases k with
  | false =>
    obtain ⟨k', e', q'⟩ := q3
    cases e'
    exact ite_ff ⟨H3, I3, q'⟩
  | true =>
    refine ite_tt (test_last (thn (hc pins s3 σ H3 _ I3 q3) fun w' s4 ⟨z', H4, I4, r4, q4⟩ => thn (ho' pins s4 σ H4 y z' u w' _ I4 r2 r4 q4) fun d' s5 ⟨z2, H5, I5, r5, k2, e2, q5⟩ => ?_))
    subst e2
    cases r5
    exact wpAny_truthy_bool ⟨H5, I5, q5⟩

/-! ### truth -/
/-- a value's truth by the abstract heap -/
def TruV (K : PySem.W.Frag) (x : V) (H : Hp) (k : Bool) : Prop :=
  match x with
  | .non => k = false
  | .bl b => k = b
  | .int i => k = (i != 0)
  | .str y => y.length ≤ sizeLine ∧ k = ((y.length : Int) != 0)
  | .byt y => y.size ≤ sizeLine ∧ k = ((y.size : Int) != 0)
  | .ref p => (∃ xs, SqL K H p xs ∧ k = !xs.isEmpty) ∨ (∃ xs, SqT K H p xs ∧ k = !xs.isEmpty) ∨ ∃ kvs, H p = some (.dK kvs) ∧ k = !kvs.isEmpty
  | _ => False
theorem isEmpty_kv {κ : Type} {kvs : List (κ × V)} {vs : List (κ × Value)} (r : KV kvs vs) : (!vs.isEmpty) = !kvs.isEmpty := by
  cases r <;> rfl
theorem isEmpty_of {xs : List V} {its : List Value} (r : Vals xs its) : (!its.toArray.isEmpty) = !xs.isEmpty := by
  cases r <;> simp
theorem line63 : (sizeLine : Nat) < 2 ^ 63 := by rw [sizeLine_eq]; decide
theorem tru_ok : TruR X (fun x H Q => ∃ k, TruV X.K x H k ∧ Q k H) := by
  intro pins s σ H x v Q I rx h
  obtain ⟨k, e, q⟩ := h
  have hl := line63
  have hs : sizeLine = 16777216 := sizeLine_eq
  cases x with
  | non =>
    cases rx
    have e' : k = false := e
    subst e'
    exact truthy_none ⟨H, I, q⟩
  | bl b =>
    cases rx
    have e' : k = b := e
    subst e'
    exact wpAny_truthy_bool ⟨H, I, q⟩
  | int i =>
    obtain ⟨t, rfl⟩ := rx
    have e' : k = (i != 0) := e
    subst e'
    exact PySem.P.truthy_int ⟨H, I, q⟩
  | str y =>
    obtain ⟨t, rfl⟩ := rx
    obtain ⟨hy, e'⟩ : y.length ≤ sizeLine ∧ k = ((y.length : Int) != 0) := e
    subst e'
    exact PySem.P.truthy_str (by (first | lia | omega)) ⟨H, I.tok _, q⟩
  | byt y =>
    obtain ⟨t, rfl⟩ := rx
    obtain ⟨hy, e'⟩ : y.size ≤ sizeLine ∧ k = ((y.size : Int) != 0) := e
    subst e'
    exact PySem.W.truthy_bytes (by (first | lia | omega)) ⟨H, I.tok _, q⟩
  | ref p =>
    cases rx
    have e' : (∃ xs, SqL X.K H p xs ∧ k = !xs.isEmpty) ∨ (∃ xs, SqT X.K H p xs ∧ k = !xs.isEmpty) ∨ ∃ kvs, H p = some (.dK kvs) ∧ k = !kvs.isEmpty := e
    rcases e' with ⟨xs, hx, e'⟩ | ⟨xs, hx, e'⟩ | ⟨kvs, hx, e'⟩
    · subst e'
      obtain ⟨its, r, pl, hz⟩ := I.list hx
      have hlen := r.length
      exact wpAny_truthy_list pl.isList (by simp only [List.size_toArray]; (first | lia | omega)) ⟨H, I.tok _, by rw [isEmpty_of r]; exact q⟩
    · subst e'
      obtain ⟨its, r, pl, hz⟩ := I.tuple hx
      have hlen := r.length
      exact truthy_tuple pl (by simp only [List.size_toArray]; (first | lia | omega)) ⟨H, I.tok _, by rw [isEmpty_of r]; exact q⟩
    · subst e'
      obtain ⟨hz, hS, vs, r, m⟩ : kvs.length ≤ sizeLine ∧ (p == sysModules) = false ∧ ∃ vs, KV kvs vs ∧ s.heap.DictOf (mixKind X.prog X.w) p vs := I.hok p _ hx
      have hlen : kvs.length = vs.length := Paired.length r
      exact wpAny_truthy_dict hS m (by (first | lia | omega)) ⟨H, I.tok _, by rw [isEmpty_kv r]; exact q⟩
  | _ => exact (show False from e).elim
/-- any expression whose test is its value's truth (a name, a call, a subscript, a field ..: he by fun _ => rfl) -/
theorem pt_truth (ha : PE X a ta) (he : ∀ whole, isTrue a X.env whole = (do let v ← whole; standAt a.pos; holding [v] (truthy v))) :
    PT X a (fun σ H Q => ta σ H fun x H' => ∃ k, TruV X.K x H' k ∧ Q k H') := by
  intro pins s σ H Q I h
  exact isTrue_plain (thn (ha pins s σ H _ I h) fun v s1 ⟨x, H1, I1, r1, q1⟩ => tru_ok pins s1 σ H1 x v Q I1 r1 q1) (he _)

/-! ### strs and bytes -/
theorem op_add_str : OpR X (binaryOp .Add) (fun x y H Q => ∃ i j, x = .str i ∧ y = .str j ∧ i.length + j.length ≤ sizeLine ∧ Q (.str (i ++ j)) H) := by
  intro pins s σ H x y v u Q I rx ry h
  obtain ⟨i, j, rfl, rfl, hz, q⟩ := h
  obtain ⟨t, rfl⟩ := rx
  obtain ⟨t', rfl⟩ := ry
  exact add_str (fun t' tk => ⟨.str (i ++ j), H, I.tok _, ⟨_, rfl⟩, q⟩) hz
/-! ### scalar builtins, by CallR -/
theorem vals1 {x : V} {us : List Value} (r : Vals [x] us) : ∃ u, us = [u] ∧ RelV x u := by
  cases r with
  | cons r1 r2 => cases r2; exact ⟨_, rfl, r1⟩
theorem vals2 {x y : V} {us : List Value} (r : Vals [x, y] us) : ∃ u w', us = [u, w'] ∧ RelV x u ∧ RelV y w' := by
  cases r with
  | cons r1 r2 =>
    cases r2 with
    | cons r3 r4 => cases r4; exact ⟨_, _, rfl, r1, r3⟩
theorem call_max2 (hc : X.calm = true) : CallR X (.builtin "max") (fun xs H Q => ∃ i j, xs = [.int i, .int j] ∧ Q (.int (if j > i then j else i)) H) := by
  intro pins s σ H xs us Q I r h
  obtain ⟨i, j, rfl, q⟩ := h
  obtain ⟨u, w', rfl, ⟨t, rfl⟩, ⟨t', rfl⟩⟩ := vals2 r
  refine max_two_ints (I.ok.hd hc) fun h' tk k => ⟨_, H, I.kept k, ?_, q⟩
  by_cases hj : j > i
  · rw [if_pos hj, if_pos hj]; exact ⟨_, rfl⟩
  · rw [if_neg hj, if_neg hj]; exact ⟨_, rfl⟩
theorem call_min2 (hc : X.calm = true) : CallR X (.builtin "min") (fun xs H Q => ∃ i j, xs = [.int i, .int j] ∧ Q (.int (if j < i then j else i)) H) := by
  intro pins s σ H xs us Q I r h
  obtain ⟨i, j, rfl, q⟩ := h
  obtain ⟨u, w', rfl, ⟨t, rfl⟩, ⟨t', rfl⟩⟩ := vals2 r
  refine min_two_ints (I.ok.hd hc) fun h' tk k => ⟨_, H, I.kept k, ?_, q⟩
  by_cases hj : j < i
  · rw [if_pos hj, if_pos hj]; exact ⟨_, rfl⟩
  · rw [if_neg hj, if_neg hj]; exact ⟨_, rfl⟩
end
end L2

namespace L2
open PySem PySem.Spec PyProof.Rows

/-! ### an instance, its attributes a map -/
structure ObjM (h : Heap) (x dx C : Addr) (mA : Str → Option Value) : Prop where
  obj : h.get? x = some (PySem.W.instObj C dx)
  ns : h.Ns1 dx mA
  ne : dx ≠ x

theorem lookIn_ns {h : Heap} {dx : Addr} {mA : Str → Option Value} (n : h.Ns1 dx mA) : ∃ od, h.get? dx = some od ∧ ∀ name, PySem.W.lookIn name od = some (mA name) := by
  obtain ⟨o, es, ep, ho, hd, hk, _, hm⟩ := n
  refine ⟨o, ho, fun name => ?_⟩
  have e := hm name
  unfold nsFind findBy at e
  rw [← Array.find?_toList] at e
  unfold PySem.W.lookIn
  rw [hd]
  dsimp only
  split
  · rename_i y q
    rw [q] at e
    exact congrArg some e
  · rename_i q
    rw [q] at e
    have a : es.toList.any (·.refKey) = false := by
      rw [List.any_eq_false]
      intro y hy
      obtain ⟨z, t, hkey⟩ := hk y (Array.mem_toList_iff.mp hy)
      simp [DictEntry.refKey, hkey]
    have a' : ¬ es.toList.any (·.refKey) = true := by rw [a]; exact Bool.false_ne_true
    rw [if_neg a']
    exact congrArg some e

theorem ObjM.look {h : Heap} {x dx C : Addr} {mA : Str → Option Value} (I : ObjM h x dx C mA) : ∃ od, PySem.W.InstAt h x (PySem.W.instObj C dx) C (some od) ∧ ∀ name, PySem.W.lookIn name od = some (mA name) :=
  let ⟨od, ho, hl⟩ := lookIn_ns I.ns
  ⟨od, ⟨I.obj, rfl, rfl, ho⟩, hl⟩


/-! ### the attributes as a list of pairs -/
theorem RelO.some_of {v : V} {o : Option Value} (r : RelO (some v) o) : ∃ u, o = some u ∧ RelV v u := by
  cases o with
  | none => exact (show False from r).elim
  | some u => exact ⟨u, rfl, r⟩
section
variable {P : Program} {w : World} {H H' : Hp} {h h' : Heap} {a C dx : Addr} {fs fs' : List (Str × V)}
theorem ins_get (hok : HOk P w H h) (e : H a = some (.ins C dx fs)) : ∃ mA, ObjM h a dx C mA ∧ (∀ f, RelO (fs.lookup f) (mA f)) ∧ PySem.Within mA (fs.map (·.1)) ∧ fs.length ≤ 1000 ∧ H dx = some (.own a) := by
  obtain ⟨d, z, ne, ob, mA, n, r, q⟩ := (show ObjOk P w H h a (.ins C dx fs) from hok a _ e)
  exact ⟨mA, ⟨ob, n, ne⟩, r, q, z, d⟩
end

/-! ### what of the text a class must have -/
structure Cls (K : PySem.W.Frag) (C : Addr) : Prop where
  pg : PySem.W.plainGet K C Str.empty = true
  hd : PySem.W.hasDictIn K C = true
  po : PySem.W.plainOver K C = true
  sa : PySem.W.findIn K (.ref C) "__setattr__" = some (some (.builtin "object.__setattr__"))
theorem Cls.get {K : PySem.W.Frag} {C : Addr} (c : Cls K C) (f : Str) : PySem.W.plainGet K C f = true := c.pg

/-! ### readings and rules -/

/-! ### isinstance -/
section
variable {X : Cx} {pins : List (Addr × Obj)} {σ : St} {H : Hp} {s : Shared} {A : Around} {E : Value → Shared → Prop} {Q : Value → Shared → Prop} {c : Value} {b : Bool}
/-- the type of a value, as the fragment's deciders take it; for an instance its class -/
inductive TyOf (K : PySem.W.Frag) (H : Hp) : V → Value → Prop where
  | non : TyOf K H .non (.type "NoneType")
  | bl (x : Bool) : TyOf K H (.bl x) (.type "bool")
  | int (i : Int) : TyOf K H (.int i) (.type "int")
  | str (x : Str) : TyOf K H (.str x) (.type "str")
  | flt (x : UInt64) : TyOf K H (.flt x) (.type "float")
  | lst {a : Addr} {xs : List V} (e : H a = some (.lst xs)) : TyOf K H (.ref a) (.type "list")
  | frz {a : Addr} {o : Obj} {xs : List V} (e : H a = some (.frz o (.lst xs))) : TyOf K H (.ref a) (.type "list")
  | tup {a : Addr} {xs : List V} (e : H a = some (.tup xs)) : TyOf K H (.ref a) (.type "tuple")
  | dK {a : Addr} {kvs : List (Key × V)} (e : H a = some (.dK kvs)) : TyOf K H (.ref a) (.type "dict")
  | dT {a : Addr} {kvs : List (List Key × V)} (e : H a = some (.dT kvs)) : TyOf K H (.ref a) (.type "dict")
  | ins {a C dx : Addr} {fs : List (Str × V)} (e : H a = some (.ins C dx fs)) (cl : Cls K C) (ha : PySem.W.findIn K (.ref C) "__class__" = some (some (.builtin "object.__class__")))
      (hn : PySem.W.specialIn K (.builtin "object.__class__") "__get__" = some (some (.builtin "getset_descriptor.__get__"))) (htk : PySem.W.takesIn K (.builtin "object.__class__") = some true)
      (hm : PySem.W.mroIn K C (.type "object") = some true) : TyOf K H (.ref a) (.ref C)
/-- isinstance(x, c) for one class c, a built-in or an own one: kitOne's answer -/
theorem isinst_ok {x : V} {u t : Value} (I : Inv X pins σ H s) (rx : RelV x u) (ty : TyOf X.K H x t) (e : PySem.W.kitOne X.K t c = some b) (h : ∀ tk, Q (.bool b) { s with toks := tk }) :
    wpAny (model X.prog X.w) A (call (.builtin "isinstance") [u, c]) Q E s := by
  cases ty with
  | non => cases (show u = Value.none from rx); exact PySem.W.kia_one PySem.W.kitx_none I.kIn True.intro e (fun z => nomatch z) h
  | bl y => cases (show u = Value.bool y from rx); exact PySem.W.kia_one PySem.W.kitx_bool I.kIn True.intro e (fun z => nomatch z) h
  | int i => obtain ⟨t, q⟩ := (show ∃ t, u = Value.int i t from rx); cases q; exact PySem.W.kia_one PySem.W.kitx_int I.kIn True.intro e (fun z => nomatch z) h
  | str y => obtain ⟨t, q⟩ := (show ∃ t, u = Value.str y t from rx); cases q; exact PySem.W.kia_one PySem.W.kitx_str I.kIn True.intro e (fun z => nomatch z) h
  | flt y => obtain ⟨t, q⟩ := (show ∃ t, u = Value.float y t from rx); cases q; exact PySem.W.kia_one PySem.W.kitx_float I.kIn True.intro e (fun z => nomatch z) h
  | @lst a xs ea =>
    cases (show u = Value.ref a from rx)
    obtain ⟨_, _, n, _, h1⟩ := (show ObjOk X.prog X.w H s.heap a (.lst xs) from I.hok a _ ea)
    exact PySem.W.kia_one PySem.W.kitx_list I.kIn ⟨_, h1, rfl⟩ e (fun z => nomatch z) h
  | @frz a ob xs ea =>
    cases (show u = Value.ref a from rx)
    obtain ⟨_, _, _, n, _, h1⟩ := (show ObjOk X.prog X.w H s.heap a (.frz ob (.lst xs)) from I.hok a _ ea)
    exact PySem.W.kia_one PySem.W.kitx_list I.kIn ⟨_, h1, rfl⟩ e (fun z => nomatch z) h
  | @tup a xs ea =>
    cases (show u = Value.ref a from rx)
    obtain ⟨_, _, _, p⟩ := (show ObjOk X.prog X.w H s.heap a (.tup xs) from I.hok a _ ea)
    obtain ⟨o, h1, h2, _⟩ := p
    exact PySem.W.kia_one PySem.W.kitx_tuple I.kIn ⟨o, h1, h2⟩ e (fun z => nomatch z) h
  | @dK a kvs ea =>
    cases (show u = Value.ref a from rx)
    obtain ⟨_, _, vs, _, p⟩ := (show ObjOk X.prog X.w H s.heap a (.dK kvs) from I.hok a _ ea)
    obtain ⟨o, es, ep, h1, h2, _⟩ := p
    exact PySem.W.kia_one PySem.W.kitx_dict I.kIn ⟨o, h1, h2.1⟩ e (fun z => nomatch z) h
  | @dT a kvs ea =>
    cases (show u = Value.ref a from rx)
    obtain ⟨_, _, xs, _, o, es, ep, h1, h2, _⟩ := (show ObjOk X.prog X.w H s.heap a (.dT kvs) from I.hok a _ ea)
    exact PySem.W.kia_one PySem.W.kitx_dict I.kIn ⟨o, h1, h2.1⟩ e (fun z => nomatch z) h
  | @ins a C dx fs ea cl ha hn htk hm =>
    cases (show u = Value.ref a from rx)
    obtain ⟨mA, O, _⟩ := ins_get I.hok ea
    obtain ⟨od, J, _⟩ := O.look
    exact PySem.W.kia_one (PySem.W.kitx_own (cl.get _) cl.hd ha hn htk hm) I.kIn J e (fun z => nomatch z) h
end
end L2

namespace L2
open PySem PySem.Spec PyProof.Rows

/-! ### room -/
structure Room (k : Nat) (A : Around) : Prop where
  hd : A.handled = none
  dp : A.depth + 2 * k + 5 < recursionLimit
  un : A.units + 16 * k + 200 < cLine
theorem Room.mono {j k : Nat} {A : Around} (r : Room k A) (h : j ≤ k) : Room j A := ⟨r.hd, by have := r.dp; (first | lia | omega), by have := r.un; (first | lia | omega)⟩
theorem Room.deeper {k : Nat} {A : Around} (r : Room (k + 1) A) (env : Env) : Room k (A.deeper env) :=
  ⟨r.hd, by have := r.dp; show A.depth + 1 + 2 * k + 5 < _; (first | lia | omega), by have := r.un; show A.units + 3 + 16 * k + 200 < _; (first | lia | omega)⟩
theorem Room.depth {k : Nat} {A : Around} (r : Room k A) : A.depth < recursionLimit := by have := r.dp; (first | lia | omega)
/-! ### argument lists and displays -/
def tNil : TA := fun _ H Q => Q [] H
def tCons (ta : TE) (tr : TA) : TA := fun σ H Q => ta σ H fun x H1 => tr σ H1 fun xs H2 => Q (x :: xs) H2
section
variable {X : Cx} {e : Expr} {es : List Expr} {te : TE} {t : TA} {pos : Pos}
theorem pa_nil : PA X [] tNil := fun _ _ _ _ H Q I h => Calls.spliced_nil ⟨[], H, I, .nil, h⟩
theorem pa_cons (ha : PE X e te) (hr : PA X es t) (hs : starEach (e :: es) X.env = (false, eval e X.env) :: starEach es X.env := by rfl) : PA X (e :: es) (tCons te t) := by
  intro pos pins s σ H Q I h
  rw [hs]
  show wpAny _ _ (spliced ((false, eval e X.env) :: backTo pos (starEach es X.env))) _ _ s
  refine Calls.spliced_cons (thn (ha pins s σ H _ I h) fun u s1 ⟨x, H1, I1, r1, q1⟩ => ?_)
  exact thn (hr pos pins s1 σ H1 _ I1 q1) fun us s2 ⟨xs, H2, I2, r2, q2⟩ => ⟨x :: xs, H2, I2, .cons r1 r2, q2⟩

/-- a tuple, a list of written items -/
def tTup (t : TA) : TE := fun σ H Q => t σ H fun xs H1 => xs.length ≤ sizeLine ∧ ∀ p, H1 p = none → Q (.ref p) (upd H1 p (.tup xs))
def tLst (t : TA) : TE := fun σ H Q => t σ H fun xs H1 => xs.length ≤ sizeLine ∧ ∀ p, H1 p = none → Q (.ref p) (upd H1 p (.lst xs))
theorem pe_tup {x1} (h : PA X es t) : PE X (.Tuple es x1 pos) (tTup t) := by
  intro pins s σ H Q I hq
  refine wpAny_Tuple_spliced (thn (h pos pins s σ H _ I hq) fun us s1 ⟨xs, H1, I1, r, z, q⟩ => ⟨by rw [← r.length]; exact z, ?_⟩)
  have hf : H1 s1.heap.objs.size = none := I1.hok.fresh (Nat.le_refl _)
  refine ⟨.ref s1.heap.objs.size, upd H1 s1.heap.objs.size (.tup xs), I1.laid (t' := s1.toks) (fun b u e => Heap.get?_push_of_some _ e) (Nat.le_refl _) ?_, rfl, q _ hf⟩
  exact ⟨z, us, r, ⟨_, Heap.get?_push_size _ rfl, rfl, _, rfl⟩⟩
theorem pe_lst (h : PA X es t) : PE X (.List es pos) (tLst t) := by
  intro pins s σ H Q I hq
  refine wpAny_List_spliced (thn (h pos pins s σ H _ I hq) fun us s1 ⟨xs, H1, I1, r, z, q⟩ => ⟨by rw [← r.length]; exact z, ?_⟩)
  have hf : H1 s1.heap.objs.size = none := I1.hok.fresh (Nat.le_refl _)
  refine ⟨.ref s1.heap.objs.size, upd H1 s1.heap.objs.size (.lst xs), I1.laid (t' := s1.toks) (fun b u e => Heap.get?_push_of_some _ e) (Nat.le_refl _) ?_, rfl, q _ hf⟩
  exact ⟨z, us, 0, r, Heap.get?_push_size _ rfl⟩
end

/-! ### what a def promises -/
/-- a def's promise: the bound arguments in the parameters' order, the heap, the wanted end, the wanted exception -/
abbrev Sp := List V → Hp → VK → XK → Prop
/-- how an exception lies behind a call (file 08 gives it): the callers' frames, abstract heap and state ahead of the call, the wish, the exception, the state -/
abbrev CXT := List Env → Hp → Shared → XK → Value → Shared → Prop

/-- the state at a call -/
structure Env0 (P : Program) (w : World) (K : PySem.W.Frag) (mg : Str → Option Value) (base : Heap) (A : Around) (outer : List Env) (s : Shared) (H : Hp) : Prop where
  frames : A.frames = some outer
  mod : Mod K mg base
  bs : ∀ b o, base.get? b = some o → s.heap.get? b = some o ∧ H b = none
  bsz : base.objs.size ≤ s.heap.objs.size
  funs : s.heap.FunFrames base outer
  frf : ∀ b ∈ frs outer, H b = none
  hok : HOk P w H s.heap
  bare : AllBare s.gens
/-- a call's end -/
def CE (outer : List Env) (P : Program) (w : World) (H : Hp) (s : Shared) (Q : VK) (u : Value) (s' : Shared) : Prop :=
  ∃ v H', s'.os = s.os ∧ AllBare s'.gens ∧ Un (frs outer) [] H H' s.heap s'.heap ∧ HOk P w H' s'.heap ∧ RelV v u ∧ Q v H'
def CR (CX : CXT) (outer : List Env) (P : Program) (w : World) (H : Hp) (s : Shared) (Q : VK) (E : XK) (r : Result) (s' : Shared) : Prop :=
  match r with
  | .ok (.ret u) => CE outer P w H s Q u s'
  | .ok _ => False
  | .error e => CX outer H s E e s'
structure FnOk (P : Program) (w : World) (K : PySem.W.Frag) (mg : Str → Option Value) (base : Heap) (CX : CXT) (k : Nat) (f : Addr) (fd : FuncData) (ps : List Str) (sp : Sp) : Prop where
  len : ∀ vs H Q E, sp vs H Q E → vs.length = ps.length
  run : ∀ (A : Around) (outer : List Env) (s : Shared) (H : Hp) (args : Args) (us : List Value) (vs : List V) (Q : VK) (E : XK), Room k A → Env0 P w K mg base A outer s H → BindsTo s fd args (ps.zip us) → Vals vs us → sp vs H Q E →
    codeAny (model P w) A (.call (.ref f) args) (CR CX outer P w H s Q E) s
section
variable {X : Cx} {pins : List (Addr × Obj)} {σ : St} {H : Hp} {s s' : Shared}
/-- from a body: what a callee wants -/
theorem Inv.env0 (I : Inv X pins σ H s) : Env0 X.prog X.w X.K X.mg X.base X.A X.stack s H :=
  ⟨I.ok.frames, I.ok.mod, I.bs, Nat.le_trans I.ok.bsz I.sz, I.stack, I.stkFree, I.hok, I.bare⟩
/-- behind a call -/
theorem Inv.after {Q : VK} {u : Value} (I : Inv X pins σ H s) (h : CE X.stack X.prog X.w H s Q u s') : EP X pins σ Q u s' := by
  obtain ⟨v, H', os, bare, un, hok, r, q⟩ := h
  obtain ⟨hh, g, d, t, os'⟩ := s'
  obtain rfl : os' = s.os := os
  exact ⟨v, H', I.call (h' := hh) (g' := g) (d' := d) (t' := t) (ch := []) un hok bare (fun b z => absurd z (by simp)), r, q⟩
end

/-! ### calls -/
/-- f(..): the written arguments, then the defaults dvs; E: what is wanted of an exception -/
def tCall (sp : Sp) (dvs : List V) (E : XK) (t : TA) : TE := fun σ H Q => t σ H fun vs H1 => sp (vs ++ dvs) H1 Q E
/-- how the parameters are bound: us the positional arguments, kw the keywords' values by name, ds the defaults that fill up -/
def Binds (K : PySem.W.Frag) (fd : FuncData) (ps : List Str) (ds : List Value) : Prop :=
  ∀ (s : Shared) (us : List Value), K.In s.heap → (us ++ ds).length = ps.length → BindsTo s fd ⟨us, []⟩ (ps.zip (us ++ ds))
/-- every parameter is given -/
theorem Binds.all {K : PySem.W.Frag} {fd : FuncData} {ps : List Str} (h : ∀ us : List Value, us.length = ps.length → bindArgs fd ⟨us, []⟩ = pure (ps.zip us)) : Binds K fd ps [] := fun s us _ hl => by
  rw [List.append_nil] at hl ⊢
  exact .of_eq (h us hl)

/-- an exception of a callee reaches what this body wants of exceptions -/
def Passes (CX : CXT) (X : Cx) (E : XK) : Prop := ∀ (pins : List (Addr × Obj)) (σ : St) (H : Hp) (s : Shared) (e : Value) (s' : Shared), Inv X pins σ H s → CX X.stack H s E e s' → X.xe e s'

section
variable {X : Cx} {CX : CXT} {k : Nat} {f C : Addr} {fd : FuncData} {ps : List Str} {sp : Sp} {dvs : List V} {ds : List Value} {E : XK} {x m : Str} {p pos apos : Pos} {e o : Expr} {es : List Expr} {ta : TE} {t : TA}

/-- the callee runs -/
theorem run_fn {pins : List (Addr × Obj)} {σ : St} {H : Hp} {s : Shared} {Q : VK} {us : List Value} {vs : List V} (F : FnOk X.prog X.w X.K X.mg X.base CX k f fd ps sp) (hr : Room k X.A) (hb : Binds X.K fd ps ds) (hd : Vals dvs ds) (hx : Passes CX X E)
    (I : Inv X pins σ H s) (r : Vals vs us) (h : sp (vs ++ dvs) H Q E) : wpAny (model X.prog X.w) X.A (call (.ref f) us) (EP X pins σ Q) X.xe s := by
  have r2 : Vals (vs ++ dvs) (us ++ ds) := r.append hd
  have hl : (us ++ ds).length = ps.length := by rw [← r2.length]; exact F.len _ _ _ _ h
  refine wpAny_call (codeAny_mono (F.run X.A X.stack s H ⟨us, []⟩ (us ++ ds) (vs ++ dvs) Q E hr I.env0 (hb s us I.kIn hl) r2 h) fun r s' hq => ?_)
  cases r with
  | error e => exact hx pins σ H s e s' I hq
  | ok fl =>
    cases fl with
    | ret u => exact I.after hq
    | next => exact False.elim hq
    | brk => exact False.elim hq
    | cont => exact False.elim hq

theorem pe_call (F : FnOk X.prog X.w X.K X.mg X.base CX k f fd ps sp) (hr : Room k X.A) (hg : Gl X x) (hm : X.mg x = some (.ref f)) (hk : PySem.W.keepIn X.K (.ref f) = true) (hb : Binds X.K fd ps ds) (hd : Vals dvs ds) (hx : Passes CX X E)
    (ha : PA X (e :: es) t) (hdb : (x == ("__debug__" : Str)) = false := by decide) (he : starEach (e :: es) X.env = (false, eval e X.env) :: starEach es X.env := by rfl) (hpl : (backTo pos (starEach es X.env)).any (·.1) = false := by rfl) :
    PE X (.Call (.Name x p) (e :: es) [] pos) (tCall sp dvs E t) := by
  intro pins s σ H Q I h
  refine wpAny_Call_Name_kw (ld_glob I hg hm ?_ hdb)
  refine PySem.W.callWith_K (h₀ := X.base) I.ok.mod.kin hk (thn (ha pos pins s σ H _ I h) fun us s1 ⟨vs, H1, I1, r, q⟩ => ⟨I1.kIn, ?_⟩) he hpl
  exact run_fn F hr hb hd hx I1 r q
end

/-! ### keywords -/

/-! ### a def's body keeps its promise -/
/-- names: the parameters first -/
structure FnScope (N P : List Str) (sc : Scope) : Prop where
  kind : sc.kind = .function
  co : sc.isCoroutine = false
  gen : sc.isGenerator = false
  nd : N.Nodup
  pre : N.take P.length = P
  par : ∀ x ∈ P, sc.names.lookup x = some .local ∨ sc.names.lookup x = some .cell
  nofree : ∀ y ∈ sc.names, y.2 ≠ .free

theorem bindL_out {kindOf : Str → Option NameKind} {x : Str} : ∀ {binds : List (Str × Value)} {m : Str → Option Value}, (∀ v, (x, v) ∉ binds) → bindL kindOf binds m x = m x
  | [], _, _ => rfl
  | (n, v) :: r, m, h => by
    unfold bindL
    rw [bindL_out fun w hw => h w (List.mem_cons_of_mem _ hw)]
    split
    · have : x ≠ n := by rintro rfl; exact h v List.mem_cons_self
      simp [this]
    · rfl
theorem bindC_out {kindOf : Str → Option NameKind} {x : Str} : ∀ {binds : List (Str × Value)} {m : Str → Option Value}, (∀ v, (x, v) ∉ binds) → bindC kindOf binds m x = m x
  | [], _, _ => rfl
  | (n, v) :: r, m, h => by
    unfold bindC
    rw [bindC_out fun w hw => h w (List.mem_cons_of_mem _ hw)]
    split
    · rfl
    · have : x ≠ n := by rintro rfl; exact h v List.mem_cons_self
      simp [this]
theorem bindL_get {kindOf : Str → Option NameKind} {x : Str} {v : Value} : ∀ {P : List Str} {vs : List Value} {i : Nat} {m : Str → Option Value}, P.Nodup → P[i]? = some x → vs[i]? = some v → kindOf x = some .local →
    bindL kindOf (P.zip vs) m x = some v
  | [], _, _, _, _, h, _, _ => by simp at h
  | _ :: _, [], _, _, _, _, h, _ => by simp at h
  | p :: P, w :: vs, 0, m, nd, h1, h2, hk => by
    simp at h1 h2; subst h1; subst h2
    show bindL kindOf ((p, w) :: P.zip vs) m p = _
    unfold bindL
    rw [bindL_out fun v hv => (List.nodup_cons.mp nd).1 (List.of_mem_zip hv).1, if_pos hk]
    simp
  | p :: P, w :: vs, i + 1, m, nd, h1, h2, hk => by
    show bindL kindOf ((p, w) :: P.zip vs) m x = _
    unfold bindL
    exact bindL_get (i := i) (List.nodup_cons.mp nd).2 (by simpa using h1) (by simpa using h2) hk
theorem bindC_get {kindOf : Str → Option NameKind} {x : Str} {v : Value} : ∀ {P : List Str} {vs : List Value} {i : Nat} {m : Str → Option Value}, P.Nodup → P[i]? = some x → vs[i]? = some v → kindOf x ≠ some .local →
    bindC kindOf (P.zip vs) m x = some v
  | [], _, _, _, _, h, _, _ => by simp at h
  | _ :: _, [], _, _, _, _, h, _ => by simp at h
  | p :: P, w :: vs, 0, m, nd, h1, h2, hk => by
    simp at h1 h2; subst h1; subst h2
    show bindC kindOf ((p, w) :: P.zip vs) m p = _
    unfold bindC
    rw [bindC_out fun v hv => (List.nodup_cons.mp nd).1 (List.of_mem_zip hv).1, if_neg hk]
    simp
  | p :: P, w :: vs, i + 1, m, nd, h1, h2, hk => by
    show bindC kindOf ((p, w) :: P.zip vs) m x = _
    unfold bindC
    exact bindC_get (i := i) (List.nodup_cons.mp nd).2 (by simpa using h1) (by simpa using h2) hk

/-- the names' values at the entry -/
def start (N : List Str) (vs : List V) : St := vs.map some ++ List.replicate (N.length - vs.length) none

/-- the context of a def's body, at its entry; an exception leaves the frame, then lies as CX says -/
def cxOf (CX : CXT) (P : Program) (w : World) (K : PySem.W.Frag) (mg : Str → Option Value) (base : Heap) (N : List Str) (qual : Str) (scope : Scope) (f : Addr) (cd : Value) (A : Around) (outer : List Env) (s : Shared) (H : Hp) (E : XK) : Cx where
  prog := P
  w := w
  K := K
  mg := mg
  base := base
  A := A.deeper (envOfC qual scope s.heap.objs.size f cd)
  N := N
  s₀ := s
  H₀ := H
  env := envOfC qual scope s.heap.objs.size f cd
  outer := outer
  stack := envOfC qual scope s.heap.objs.size f cd :: outer
  ex := []
  calm := true
  fn := fun _ => true
  pn := []
  xe := fun e s' => wpAny (model P w) (A.deeper (envOfC qual scope s.heap.objs.size f cd)) (leaving (envOfC qual scope s.heap.objs.size f cd) e) (fun _ s'' => CX outer H s E e s'') (fun e' s'' => CX outer H s E e' s'') s'

theorem cell_has {sc : Scope} {n : Nat} {x : Str} (h : sc.names.lookup x = some .cell) : ∃ c, (cellsFrom n sc.names []).lookup x = some c := by
  have q := PySem.W.cellsFrom_some sc.names n [] (.inl h)
  exact Option.isSome_iff_exists.mp q

theorem inv_start {CX : CXT} {P : Program} {w : World} {K : PySem.W.Frag} {mg : Str → Option Value} {base : Heap} {N ps : List Str} {qual : Str} {scope : Scope} {f : Addr} {cd : Value} {A : Around} {outer : List Env} {s s1 : Shared} {H : Hp} {E : XK} {us : List Value} {vs : List V}
    (S : FnScope N ps scope) (hd : A.handled = none) (e0 : Env0 P w K mg base A outer s H) (hl : vs.length = ps.length) (r : Vals vs us)
    (x : InCallC s s.heap.objs.size (bindL (envOfC qual scope s.heap.objs.size f cd).kindOf (ps.zip us) fun _ => none) (cellsFrom (s.heap.objs.size + 1) scope.names []) (bindC (envOfC qual scope s.heap.objs.size f cd).kindOf (ps.zip us) fun _ => none) s1) :
    Inv (cxOf CX P w K mg base N qual scope f cd A outer s H E) [] (start N vs) H s1 := by
  have hpl : ps.length ≤ N.length := by have := congrArg List.length S.pre; rw [List.length_take] at this; (first | lia | omega)
  obtain ⟨h1, tk, rfl, hk⟩ := x.done
  have noA : ∀ b : Addr, b ∉ (cxOf CX P w K mg base N qual scope f cd A outer s H E).ex := fun b z => absurd (show b ∈ ([] : List Addr) from z) (by simp)
  refine ⟨⟨e0.mod, S.kind, rfl, rfl, Nat.le_refl _, fun y z c h1 h2 => ?_, fun y hy => ?_, fun y c _ h => ?_, fun _ => hd, Around.frames_deeper e0.frames, .inr ⟨rfl, rfl⟩, fun b z => absurd z (noA b), e0.bs, e0.bsz, fun b _ _ => noA b, fun b z => absurd z (noA b), e0.funs, e0.frf⟩,
    rfl, e0.bare, Un.kept hk, ⟨_, x.toInCall.ns, fun i y v h1 h2 h3 => ?_⟩, fun y c h => ⟨_, x.cell y c h⟩, e0.hok.fresh (Nat.le_refl _), fun y c h => ?_, fun p hp => absurd (show p ∈ ([] : List (Addr × Obj)) from hp) (by simp), e0.hok.kept hk, ?_⟩
  · exact name_of_addr x.apart (PySem.mem_of_lookup h1) (PySem.mem_of_lookup h2)
  · have hy : scope.names.lookup y = some .cell ∨ scope.names.lookup y = some .free := hy
    rcases hy with hy | hy
    · exact cell_has hy
    · exact absurd rfl (S.nofree _ (PySem.mem_of_lookup hy))
  · exact Nat.le_of_lt (x.above y c (PySem.mem_of_lookup h))
  · have hi : i < vs.length := by
      unfold start at h2
      by_cases hi : i < vs.length
      · exact hi
      · rw [List.getElem?_append_right (by simpa using hi)] at h2
        rw [List.getElem?_replicate] at h2
        split at h2 <;> cases h2
    have ha : vs[i]? = some v := by
      unfold start at h2
      rw [List.getElem?_append_left (by simpa using hi), List.getElem?_map] at h2
      cases e : vs[i]? with
      | none => rw [e] at h2; cases h2
      | some a => rw [e] at h2; cases h2; rfl
    obtain ⟨u, hu, rv⟩ := r.get ha
    have hp : ps[i]? = some y := by
      rw [← S.pre, List.getElem?_take_of_lt (by (first | lia | omega))]; exact h1
    have ndP : ps.Nodup := by rw [← S.pre]; exact S.nd.sublist (List.take_sublist _ _)
    refine ⟨u, rv, ?_⟩
    rcases S.par y (List.mem_of_getElem? hp) with k | k
    · exact .inl ⟨k, bindL_get ndP hp hu k⟩
    · obtain ⟨c, e⟩ := cell_has (n := s.heap.objs.size + 1) k
      refine .inr ⟨.inl k, c, e, ?_⟩
      have q := x.cell y c e
      rw [bindC_get ndP hp hu (by show scope.names.lookup y ≠ _; rw [k]; decide)] at q
      exact q
  · exact e0.hok.fresh (Nat.le_of_lt (x.above y c (PySem.mem_of_lookup h)))
  · unfold start
    show _ = N.length
    rw [List.length_append, List.length_map, List.length_replicate]
    (first | lia | omega)

/-- THE RULE: a def (or a method) of the text, by its body. The body's reading t is chosen for each entry; it is run at the parameters' values -/
theorem fn_of {CX : CXT} {P : Program} {w : World} {K : PySem.W.Frag} {mg : Str → Option Value} {base : Heap} {k : Nat} {f : Addr} {name qual : Str} {params : Arguments} {body : List Stmt} {scope : Scope} {dV kV doc pm cdv ct oc : Value} {an od : Option Addr}
    {osl : Array (Option Value)} {N ps : List Str} {sp : Sp} (lk : K.lookup f = some ⟨oc, od, .func (PySem.W.fnOf name qual params body scope dV kV doc pm an cdv ct), osl⟩) (hcd : PySem.W.codeIn K cdv qual = true) (S : FnScope N ps scope)
    (len : ∀ vs H Q E, sp vs H Q E → vs.length = ps.length)
    (hbody : ∀ (A : Around) (outer : List Env) (s : Shared) (H : Hp) (vs : List V) (Q : VK) (E : XK), Room k (A.deeper (envOfC qual scope s.heap.objs.size f cdv)) → sp vs H Q E →
      ∃ t, PSs (cxOf CX P w K mg base N qual scope f cdv A outer s H E) body t ∧ t { nx := fun _ H' => Q .non H', rt := Q } (start N vs) H) :
    FnOk P w K mg base CX (k + 1) f (PySem.W.fnOf name qual params body scope dV kV doc pm an cdv ct) ps sp := by
  refine ⟨len, fun A outer s H args us vs Q E hr e0 hb r hsp => ?_⟩
  have hl := len _ _ _ _ hsp
  have KX : K.In s.heap := e0.mod.kin.keeps fun b o e => (e0.bs b o e).1
  have lim : s.heap.NoLimit := e0.mod.nolimit.keeps fun b o e => (e0.bs b o e).1
  have hkind : ∀ y ∈ ps.zip us, scope.names.lookup y.1 = some .local ∨ (scope.names.lookup y.1 = some .cell ∧ ((cellsFrom (s.heap.objs.size + 1) scope.names []).lookup y.1).isSome = true) := fun ⟨n, v⟩ hy => by
    rcases S.par n (List.of_mem_zip hy).1 with q | q
    · exact .inl q
    · exact .inr ⟨q, PySem.W.cellsFrom_some _ _ _ (.inl q)⟩
  refine codeAny_call_function hr.depth (KX _ _ lk) rfl S.co S.gen rfl (PySem.W.codeRec_of KX hcd) (hb _ _ _ _ ?_)
  refine wpAny_newFunctionEnv_cells S.kind hkind fun env he s1 x => ?_
  subst he
  refine ⟨lim.keeps x.toInCall.keep, codeAny_func ?_⟩
  obtain ⟨t, ht, hq⟩ := hbody A outer s H vs Q E (hr.deeper _) hsp
  have I : Inv (cxOf CX P w K mg base N qual scope f cdv A outer s H E) [] (start N vs) H s1 := inv_start S hr.hd e0 hl r x
  refine wpAny_mono (ht [] s1 (start N vs) H _ I hq) (fun fl s' hs => ?_) fun e s' hs => hs
  have fin : ∀ {σ' : St} {H' : Hp} {v : V} {u : Value}, Inv (cxOf CX P w K mg base N qual scope f cdv A outer s H E) [] σ' H' s' → RelV v u → Q v H' → CE outer P w H s Q u s' :=
    fun {σ' H' v u} J rv q => ⟨v, H', J.os, J.bare, J.base, J.hok, rv, q⟩
  cases fl with
  | ret u =>
    obtain ⟨v, σ', H', J, rv, q⟩ := hs
    exact fin J rv q
  | next =>
    obtain ⟨σ', H', J, q⟩ := hs
    exact fin (v := V.non) (u := Value.none) J rfl q
  | brk =>
    obtain ⟨_, _, _, q⟩ := hs
    exact False.elim q
  | cont =>
    obtain ⟨_, _, _, q⟩ := hs
    exact False.elim q
end L2

namespace L2
open PySem PySem.Spec PyProof.Rows
section
variable {X : Cx} {x : Str} {p pos : Pos} {e : Expr} {es : List Expr} {t : TA} {id T : String} {r : List V → Hp → VK → Prop}

def tCB (r : List V → Hp → VK → Prop) (t : TA) : TE := fun σ H Q => t σ H fun vs H1 => r vs H1 Q
/-- f(e, ..), f a built-in function -/
theorem pe_callB (hc : CallR X (.builtin id) r) (hg : Gl X x) (hm : X.mg x = none) (hv : bootBuiltins x = some (.builtin id)) (ha : PA X (e :: es) t) (hn : x ≠ "__name__" := by decide) (hdb : (x == ("__debug__" : Str)) = false := by decide)
    (he : starEach (e :: es) X.env = (false, eval e X.env) :: starEach es X.env := by rfl) (hpl : (backTo pos (starEach es X.env)).any (·.1) = false := by rfl) : PE X (.Call (.Name x p) (e :: es) [] pos) (tCB r t) := by
  intro pins s σ H Q I h
  refine wpAny_Call_Name_kw (ld_blt I hg hm hv ?_ hn hdb)
  exact PyProof.Rows.callWith_builtin1 (thn (ha pos pins s σ H _ I h) fun us s1 ⟨vs, H1, I1, r1, q1⟩ => hc pins s1 σ H1 vs us Q I1 r1 q1) he hpl
/-- T(e, ..), T a built-in type -/
theorem pe_callTy (hc : CallR X (.type T) r) (hg : Gl X x) (hm : X.mg x = none) (hv : bootBuiltins x = some (.type T)) (ha : PA X (e :: es) t) (hn : x ≠ "__name__" := by decide) (hdb : (x == ("__debug__" : Str)) = false := by decide)
    (he : starEach (e :: es) X.env = (false, eval e X.env) :: starEach es X.env := by rfl) (hpl : (backTo pos (starEach es X.env)).any (·.1) = false := by rfl) : PE X (.Call (.Name x p) (e :: es) [] pos) (tCB r t) := by
  intro pins s σ H Q I h
  refine wpAny_Call_Name_kw (ld_blt I hg hm hv ?_ hn hdb)
  exact PyProof.Rows.callWith_type1 (thn (ha pos pins s σ H _ I h) fun us s1 ⟨vs, H1, I1, r1, q1⟩ => hc pins s1 σ H1 vs us Q I1 r1 q1) he hpl
end
end L2

namespace HT
open PySem PyProof.Rows


section
variable {prog : Program} {w : World} {A : Around} {E : Value → Shared → Prop} {s : Shared}

/-! ### t[a:b], not the whole -/
/-- a slice's bound as a place among n (d where it is left out) -/
def sIx (n d : Nat) : Option Int → Nat
  | none => d
  | some v => if v < 0 then (v + (n : Int)).toNat else min v.toNat n
theorem sIx_none (n d : Nat) : sIx n d none = d := rfl
theorem sIx_nat (n d k : Nat) : sIx n d (some (k : Int)) = min k n := by
  show (if (k : Int) < 0 then ((k : Int) + (n : Int)).toNat else min (k : Int).toNat n) = min k n
  rw [if_neg (by (first | lia | omega)), Int.toNat_natCast]
theorem sIx_le (n d : Nat) (hd : d ≤ n) (o : Option Int) : sIx n d o ≤ n := by
  cases o with
  | none => exact hd
  | some v =>
    show (if v < 0 then (v + (n : Int)).toNat else min v.toNat n) ≤ n
    by_cases hv : v < 0
    · rw [if_pos hv]; (first | lia | omega)
    · rw [if_neg hv]; exact Nat.min_le_right _ _
theorem clip_eq (v : Int) (n d : Nat) : (if v < 0 then max (v + (n : Int)) 0 else min v (n : Int)) = ((sIx n d (some v) : Nat) : Int) := by
  show (if v < 0 then max (v + (n : Int)) 0 else min v (n : Int)) = (((if v < 0 then (v + (n : Int)).toNat else min v.toNat n) : Nat) : Int)
  by_cases hv : v < 0
  · simp only [if_pos hv]; (first | lia | omega)
  · simp only [if_neg hv]; (first | lia | omega)
theorem adjust_gen (lo hi : Option Int) (n : Nat) : Builtin.Slice.sliceAdjust lo hi 1 (n : Int) = (((sIx n 0 lo : Nat) : Int), ((sIx n n hi : Nat) : Int)) := by
  have h1 : ¬ ((1 : Int) < 0) := by (first | lia | omega)
  unfold Builtin.Slice.sliceAdjust
  simp only [h1, if_false]
  refine Prod.ext ?_ ?_
  · cases lo with
    | none => rfl
    | some v => exact clip_eq v n 0
  · cases hi with
    | none => rfl
    | some v => exact clip_eq v n n
theorem places_gen (i j : Nat) : Builtin.Slice.slicePlaces (i : Int) (j : Int) 1 = j - i := by
  unfold Builtin.Slice.slicePlaces
  have h1 : (1 : Int) > 0 := by (first | lia | omega)
  simp only [h1, if_true, Int.ediv_one]
  split <;> (first | lia | omega)
theorem slicePart_ {v : Value} {o : Option Int} {Q : Option Int → Shared → Prop} (p : IsPart v o) (h : Q o s) : wpAny (model prog w) A (Builtin.Slice.slicePartIndex v) Q E s := by
  cases p with
  | none => exact slicePart_none h
  | int i t => exact slicePart_int h
theorem sliceApplied_gen {sl : Addr} {vl vu : Value} {lo hi : Option Int} {n : Nat} {Q : Int × Int × Nat → Shared → Prop} (hs : s.heap.IsSliceOf sl vl vu .none) (pl : IsPart vl lo) (pu : IsPart vu hi)
    (h : Q (((sIx n 0 lo : Nat) : Int), 1, sIx n n hi - sIx n 0 lo) s) : wpAny (model prog w) A (Builtin.Slice.sliceApplied (.ref sl) (pure (n : Int))) Q E s := by
  obtain ⟨os, hos, hcs, hds⟩ := id hs
  unfold Builtin.Slice.sliceApplied Builtin.Slice.sliceFields
  refine wpAny_bind (wpAny_bind (wpAny_field hos hds (x := vl) rfl (wpAny_bind (wpAny_field hos hds (x := vu) rfl (wpAny_bind (wpAny_field hos hds (x := .none) rfl (wpAny_pure ?_)))))))
  refine wpAny_bind (slicePart_none ?_)
  show wpAny _ _ (if ((1 : Int) == 0) = true then _ else _) _ _ s
  rw [if_neg (by decide)]
  refine wpAny_bind (slicePart_ pl (wpAny_bind (slicePart_ pu (wpAny_bind (wpAny_pure ?_)))))
  show wpAny _ _ (match Builtin.Slice.sliceAdjust lo hi 1 (n : Int) with | (lo, hi) => pure (lo, (1 : Int), Builtin.Slice.slicePlaces lo hi 1)) _ _ s
  rw [adjust_gen lo hi n]
  show wpAny _ _ (pure (((sIx n 0 lo : Nat) : Int), (1 : Int), Builtin.Slice.slicePlaces ((sIx n 0 lo : Nat) : Int) ((sIx n n hi : Nat) : Int) 1)) _ _ s
  rw [places_gen]
  exact wpAny_pure h
theorem pick_gen (xs : Array Value) (i k : Nat) : ((List.range k).filterMap fun (m : Nat) => xs[((i : Int) + (m : Int) * 1).toNat]?).toArray = ((xs.toList.drop i).take k).toArray := by
  have e : (fun (m : Nat) => xs[((i : Int) + (m : Int) * 1).toNat]?) = fun m => xs[i + m]? := by
    funext m
    have : ((i : Int) + (m : Int) * 1).toNat = i + m := by (first | lia | omega)
    rw [this]
  rw [e]
  have := pick_run xs i k
  rw [List.filterMap_map] at this
  have e2 : ((fun x => xs[x]?) ∘ fun x => i + x) = fun m => xs[i + m]? := rfl
  rw [e2] at this
  rw [this]

theorem getItem_tuple_cut {t sl : Addr} {items : Array Value} {vl vu : Value} {lo hi : Option Int} {Q : Value → Shared → Prop} (ht : IsTup s.heap t items) (hs : s.heap.IsSliceOf sl vl vu .none) (pl : IsPart vl lo) (pu : IsPart vu hi)
    (hw : ¬ (sIx items.size 0 lo = 0 ∧ sIx items.size items.size hi = items.size))
    (h : Q (.ref s.heap.objs.size) { s with heap := s.heap.push { cls := .type "tuple", data := .seq ((items.toList.drop (sIx items.size 0 lo)).take (sIx items.size items.size hi - sIx items.size 0 lo)).toArray } })
    (hsz : items.size ≤ sizeLine) : wpAny (model prog w) A (getItem (.ref t) (.ref sl)) Q E s := by
  have htake : sizeOk (.seq ((items.toList.drop (sIx items.size 0 lo)).take (sIx items.size items.size hi - sIx items.size 0 lo)).toArray) := by
    show ((items.toList.drop (sIx items.size 0 lo)).take (sIx items.size items.size hi - sIx items.size 0 lo)).toArray.size ≤ sizeLine
    rw [List.size_toArray, List.length_take, List.length_drop, Array.length_toList]
    (first | lia | omega)
  have hj : sIx items.size items.size hi ≤ items.size := sIx_le _ _ (Nat.le_refl _) hi
  obtain ⟨os, hos, hcs, hds⟩ := id hs
  have hTs : s.TypeIs (.ref sl) "slice" := ⟨os, hos, hcs⟩
  unfold getItem
  try with_reducible refine wpAny_holding ?_
  first | refine wpAny_bind (wpAny_pure ?_) | skip
  refine wpAny_bind (wpAny_sequenceKey ht.typeIs (by decide) ?_)
  refine wpAny_bind (wpAny_callSpecial?_slot (name := Str.ofString "__getitem__") ht.typeIs PyProof.Rows.slot_tuple_getitem
    (wpAny_call_entry PyProof.Rows.slot_tuple_getitem ht.typeIs entry_tuple_getitem ?_ (args_tuple_getitem _ _)))
  show wpAny _ _ (Builtin.Tuple.tupleItemsOf (.ref t) >>= _) _ _ s
  refine wpAny_bind (tupleItemsOf_ ht ?_)
  refine wpAny_bind (wpAny_typeOf hTs ?_)
  rw [if_pos (by decide)]
  refine wpAny_bind (sliceApplied_gen hs pl pu ?_)
  have hno : ¬ ((((sIx items.size 0 lo : Nat) : Int) == 0 && (1 : Int) == 1 && (sIx items.size items.size hi - sIx items.size 0 lo) == items.size) = true) := by
    intro q
    rw [Bool.and_eq_true, Bool.and_eq_true] at q
    have q1 : ((sIx items.size 0 lo : Nat) : Int) = 0 := eq_of_beq q.1.1
    have q2 : sIx items.size items.size hi - sIx items.size 0 lo = items.size := eq_of_beq q.2
    exact hw ⟨by (first | lia | omega), by (first | lia | omega)⟩
  show wpAny _ _ (if (((sIx items.size 0 lo : Nat) : Int) == 0 && (1 : Int) == 1 && (sIx items.size items.size hi - sIx items.size 0 lo) == items.size) = true then _ else _) _ _ s
  rw [if_neg hno, pick_gen]
  first
    | exact wpAny_bind (m := Builtin.Tuple.tupleExact _) (wpAny_newObj_type (wpAny_pure ⟨_, rfl, wpAny_pure h⟩) htake)
    | exact wpAny_bind (m := Builtin.Tuple.tupleExact _) (wpAny_newObj_type (wpAny_bind (wpAny_pure (wpAny_pure ⟨_, rfl, wpAny_pure h⟩))) htake)
    | exact wpAny_bind (wpAny_bind (m := Builtin.Tuple.tupleExact _) (wpAny_newObj_type (wpAny_pure (wpAny_pure ⟨_, rfl, wpAny_pure h⟩)) htake))
    | exact wpAny_bind (wpAny_bind (m := Builtin.Tuple.tupleExact _) (wpAny_newObj_type (wpAny_pure ⟨_, rfl, wpAny_pure h⟩) htake))
end
end HT

namespace L2
open PySem PySem.Spec PyProof.Rows

/-! ### the parts of a slice -/
abbrev TO := St → Hp → (Option Int → Hp → Prop) → Prop
/-- a slice's part (left out, or an int) -/
def PO (X : Cx) (e : Option Expr) (t : TO) : Prop :=
  ∀ (pins : List (Addr × Obj)) (s : Shared) (σ : St) (H : Hp) (Q : Option Int → Hp → Prop), Inv X pins σ H s → t σ H Q →
    wpAny (model X.prog X.w) X.A (evalPart e X.env) (fun u s' => ∃ o H', Inv X pins σ H' s' ∧ IsPart u o ∧ Q o H') X.xe s
def tNoPart : TO := fun _ H Q => Q none H
def tPart (t : TE) : TO := fun σ H Q => t σ H fun x H1 => ∃ i, x = .int i ∧ Q (some i) H1

section
variable {X : Cx} {e : Expr} {te : TE} {lo hi : Option Expr} {tl th : TO} {pos p2 : Pos}

theorem po_none : PO X none tNoPart := by
  intro pins s σ H Q I h
  rw [evalPart_none]
  exact wpAny_pure ⟨none, H, I, .none, h⟩
theorem po_some (h : PE X e te) : PO X (some e) (tPart te) := by
  intro pins s σ H Q I hw
  rw [evalPart_some]
  refine thn (h pins s σ H _ I hw) fun u s1 ⟨x, H1, I1, r1, q1⟩ => ?_
  obtain ⟨i, rfl, q⟩ := q1
  obtain ⟨t, rfl⟩ := r1
  exact ⟨some i, H1, I1, .int i t, q⟩

/-- what a slice of a value is, by values: the slice object stands at sl -/
def SlR (X : Cx) (r : V → Option Int → Option Int → Hp → VK → Prop) : Prop :=
  ∀ (pins : List (Addr × Obj)) (s : Shared) (σ : St) (H : Hp) (x : V) (v vl vu : Value) (lo hi : Option Int) (sl : Addr) (Q : VK), Inv X pins σ H s → RelV x v → s.heap.IsSliceOf sl vl vu .none → IsPart vl lo → IsPart vu hi → r x lo hi H Q →
    ∃ T id, typeLookup (.type T) "__getitem__" = pure (some (.builtin id)) ∧ s.TypeIs v T ∧ wpAny (model X.prog X.w) X.A (getItem v (.ref sl)) (EP X pins σ Q) X.xe s
def tSl (r : V → Option Int → Option Int → Hp → VK → Prop) (te : TE) (tl th : TO) : TE := fun σ H Q => te σ H fun x H1 => tl σ H1 fun l H2 => th σ H2 fun u H3 => r x l u H3 Q
/-- a[lo:hi], any a -/
theorem pe_slice {r : V → Option Int → Option Int → Hp → VK → Prop} (hr : SlR X r) (he : PE X e te) (hl : PO X lo tl) (hu : PO X hi th) : PE X (.Subscript e (.Slice lo hi none p2) pos) (tSl r te tl th) := by
  intro pins s σ H Q I h
  refine Subscript_ (thn (he pins s σ H _ I h) fun v s1 ⟨x, H1, I1, r1, q1⟩ => ?_)
  refine wpAny_Slice (thn (hl pins s1 σ H1 _ I1 q1) fun vl s2 ⟨l, H2, I2, pl, q2⟩ => thn (hu pins s2 σ H2 _ I2 q2) fun vu s3 ⟨u, H3, I3, pu, q3⟩ => ?_)
  rw [evalPart_none]
  refine wpAny_pure ?_
  have I4 : Inv X pins σ H3 { s3 with heap := s3.heap.push { cls := .type "slice", data := .fields #[vl, vu, .none] } } := I3.kept (t' := s3.toks) fun b ob q => Heap.get?_push_of_some _ q
  obtain ⟨T, id, hT, ht, hg⟩ := hr pins { s3 with heap := s3.heap.push { cls := .type "slice", data := .fields #[vl, vu, .none] } } σ H3 x v vl vu l u s3.heap.objs.size Q I4 r1 (Heap.IsSliceOf.new ..) pl pu q3
  show wpAny (model X.prog X.w) X.A (subscriptTail e (.Slice lo hi none p2) v (.ref s3.heap.objs.size)) (EP X pins σ Q) X.xe { s3 with heap := s3.heap.push { cls := .type "slice", data := .fields #[vl, vu, .none] } }
  exact tail_any (ops := [.ref s3.heap.objs.size, v]) ht hT hg (by with_unfolding_all rfl)

/-- the items of xs[lo:hi] -/
def cutV (xs : List V) (lo hi : Option Int) : List V := (xs.drop (HT.sIx xs.length 0 lo)).take (HT.sIx xs.length xs.length hi - HT.sIx xs.length 0 lo)
theorem cutV_length (xs : List V) (lo hi : Option Int) : (cutV xs lo hi).length ≤ xs.length := by
  unfold cutV
  rw [List.length_take, List.length_drop]
  (first | lia | omega)
/-- t[lo:hi], not the whole of it (the whole would be t itself) -/
def rSlT (K : PySem.W.Frag) : V → Option Int → Option Int → Hp → VK → Prop := fun x lo hi H Q => ∃ a xs, x = .ref a ∧ SqT K H a xs ∧
  ¬ (HT.sIx xs.length 0 lo = 0 ∧ HT.sIx xs.length xs.length hi = xs.length) ∧ ∀ p, H p = none → Q (.ref p) (upd H p (.tup (cutV xs lo hi)))
theorem sl_tup : SlR X (rSlT X.K) := by
  intro pins s σ H x v vl vu lo hi sl Q I rx hs pl pu h
  obtain ⟨a, xs, rfl, hx, hw, q⟩ := h
  cases rx
  obtain ⟨its, r, ht, hz⟩ := I.tuple hx
  have hlen : its.toArray.size = xs.length := by rw [List.size_toArray]; exact r.length.symm
  refine ⟨"tuple", _, PyProof.Rows.slot_tuple_getitem.lookup, ht.typeIs, ?_⟩
  refine HT.getItem_tuple_cut ht hs pl pu (by rw [hlen]; exact hw) ?_ (by rw [hlen]; exact hz)
  rw [hlen]
  refine ⟨.ref s.heap.objs.size, _, I.laid (t' := s.toks) (o := .tup (cutV xs lo hi)) (fun b ob q => Heap.get?_push_of_some _ q) (Nat.le_refl _) ?_, rfl, q _ (I.hok.fresh (Nat.le_refl _))⟩
  exact ⟨Nat.le_trans (cutV_length xs lo hi) hz, _, (r.drop (HT.sIx xs.length 0 lo)).take (HT.sIx xs.length xs.length hi - HT.sIx xs.length 0 lo), IsTup.new _ _⟩

/-! ### t < u, t + u -/
end
end L2

namespace L2
open PySem PySem.Spec PyProof.Rows

/-! ### places -/
/-- the place that an index of any sign means -/
def ixN (n : Nat) (i : Int) : Option Nat := if 0 ≤ i then (if i < n then some i.toNat else none) else if -(n : Int) ≤ i then some (i + n).toNat else none
def atI {α : Type} (xs : List α) (i : Int) : Option α := (ixN xs.length i).bind fun j => xs[j]?
theorem ixN_seq {n : Nat} {i : Int} {j : Nat} (h : ixN n i = some j) : seqIndex? i n = some j ∧ j < n ∧ -(n : Int) ≤ i ∧ i < n := by
  unfold ixN at h
  by_cases h0 : 0 ≤ i
  · rw [if_pos h0] at h
    by_cases h1 : i < n
    · rw [if_pos h1] at h
      have e : i.toNat = j := Option.some.inj h
      exact ⟨by rw [seqIndex_of h0 h1, e], by (first | lia | omega), by (first | lia | omega), h1⟩
    · rw [if_neg h1] at h; cases h
  · rw [if_neg h0] at h
    by_cases h1 : -(n : Int) ≤ i
    · rw [if_pos h1] at h
      have e : (i + n).toNat = j := Option.some.inj h
      exact ⟨by rw [seqIndex_neg (by (first | lia | omega)) h1, e], by (first | lia | omega), h1, by (first | lia | omega)⟩
    · rw [if_neg h1] at h; cases h
theorem atI_get {α : Type} {xs : List α} {i : Int} {v : α} (h : atI xs i = some v) : ∃ j, seqIndex? i xs.length = some j ∧ xs[j]? = some v ∧ j < xs.length ∧ -(xs.length : Int) ≤ i ∧ i < xs.length := by
  unfold atI at h
  cases e : ixN xs.length i with
  | none => rw [e] at h; cases h
  | some j =>
    rw [e] at h
    obtain ⟨h1, h2, h3, h4⟩ := ixN_seq e
    exact ⟨j, h1, h, h2, h3, h4⟩
theorem atI_nat {α : Type} {xs : List α} {j : Nat} {v : α} (h : xs[j]? = some v) : atI xs (j : Int) = some v := by
  have hj : j < xs.length := (List.getElem?_eq_some_iff.mp h).1
  have e : ixN xs.length (j : Int) = some j := by
    unfold ixN
    rw [if_pos (by (first | lia | omega)), if_pos (by (first | lia | omega))]; simp
  unfold atI; rw [e]; exact h
theorem atI_last {α : Type} (xs : List α) (v : α) : atI (xs ++ [v]) (-1) = some v := by
  have hl : (xs ++ [v]).length = xs.length + 1 := by simp
  have e : ixN (xs ++ [v]).length (-1) = some xs.length := by
    unfold ixN
    rw [hl, if_neg (by decide), if_pos (by (first | lia | omega))]
    congr 1
    (first | lia | omega)
  unfold atI
  rw [e]
  show (xs ++ [v])[xs.length]? = some v
  simp

/-! ### what may be subscripted -/
/-- what stands as an index of a plain subscript -/
def PlainIx (b : Expr) : Prop := ∀ o i, subscripted b false o i = operate [o, i] (getItem o i)
/-- a subscript by values -/
def IxR (X : Cx) (r : R2) : Prop :=
  ∀ (value slice : Expr) (pins : List (Addr × Obj)) (s : Shared) (σ : St) (H : Hp) (x y : V) (v u : Value) (Q : VK), Inv X pins σ H s → RelV x v → RelV y u → r x y H Q →
    subscripted slice false v u = operate [v, u] (getItem v u) → wpAny (model X.prog X.w) X.A (subscriptTail value slice v u) (EP X pins σ Q) X.xe s
/-- a call of a builtin's method by values: the receiver, the arguments -/
def MtR (X : Cx) (id : String) (r : V → List V → Hp → VK → Prop) : Prop :=
  ∀ (pins : List (Addr × Obj)) (s : Shared) (σ : St) (H : Hp) (x : V) (xs : List V) (v : Value) (us : List Value) (Q : VK), Inv X pins σ H s → RelV x v → Vals xs us → r x xs H Q →
    wpAny (model X.prog X.w) X.A (call (.builtin id) (v :: us)) (EP X pins σ Q) X.xe s
section
variable {X : Cx} {a b : Expr} {ta tb : TE} {pos : Pos}
/-- a[b] -/
theorem pe_ix {r : R2} (hr : IxR X r) (ha : PE X a ta) (hb : PE X b tb) (hs : PlainIx b) : PE X (.Subscript a b pos) (tOp r ta tb) := by
  intro pins s σ H Q I h
  exact Subscript_ (binT ha hb I h fun v u s2 x y H2 I2 rx ry q => hr a b pins s2 σ H2 x y v u Q I2 rx ry q (hs _ _))

def rIxL (K : PySem.W.Frag) : R2 := fun x y H Q => ∃ p xs i v, x = .ref p ∧ y = .int i ∧ SqL K H p xs ∧ atI xs i = some v ∧ Q v H
def rIxT (K : PySem.W.Frag) : R2 := fun x y H Q => ∃ p xs i v, x = .ref p ∧ y = .int i ∧ SqT K H p xs ∧ atI xs i = some v ∧ Q v H
def rIxS : R2 := fun x y H Q => ∃ z i c, x = .str z ∧ y = .int i ∧ z.length ≤ sizeLine ∧ atI z.cps.toList i = some c ∧ Q (.str ⟨#[c]⟩) H
theorem ix_list : IxR X (rIxL X.K) := by
  intro value slice pins s σ H x y v u Q I rx ry h hs
  obtain ⟨p, xs, i, z, rfl, rfl, hq, he, q⟩ := h
  cases rx
  obtain ⟨t, rfl⟩ := ry
  obtain ⟨its, r, pl, hz⟩ := I.list hq
  obtain ⟨j, h1, h2, h3, h4, h5⟩ := atI_get he
  obtain ⟨w, ew, rw'⟩ := r.get h2
  have hl := r.length
  have hn := line63
  have fin : EP X pins σ Q w s := ⟨z, H, I, rw', q⟩
  by_cases h0 : 0 ≤ i
  · have hj : i.toNat = j := by
      rw [seqIndex_of h0 h5] at h1
      exact Option.some.inj h1
    exact item_listR pl.isList h0 (by (first | lia | omega)) (by rw [hj]; simpa using ew) fin hs
  · have hj : (i + (its.toArray.size : Int)).toNat = j := by
      rw [seqIndex_neg (by (first | lia | omega)) h4] at h1
      rw [List.size_toArray, ← hl]
      exact Option.some.inj h1
    exact subscriptTail_builtinR (x := w) pl.isList.typeIs slot_list_getitem.lookup
      (wpAny_getItem_list_neg (Q := fun r s' => r = w ∧ EP X pins σ Q r s') pl.isList (by (first | lia | omega)) (by rw [List.size_toArray] <;> (first | lia | omega)) (by (first | lia | omega)) (by rw [hj]; simpa using ew) ⟨rfl, fin⟩) hs
theorem ix_tup : IxR X (rIxT X.K) := by
  intro value slice pins s σ H x y v u Q I rx ry h hs
  obtain ⟨p, xs, i, z, rfl, rfl, hq, he, q⟩ := h
  cases rx
  obtain ⟨t, rfl⟩ := ry
  obtain ⟨its, r, pl, hz⟩ := I.tuple hq
  obtain ⟨j, h1, h2, h3, h4, h5⟩ := atI_get he
  obtain ⟨w, ew, rw'⟩ := r.get h2
  have hl := r.length
  have hn := line63
  have fin : EP X pins σ Q w s := ⟨z, H, I, rw', q⟩
  exact subscriptTail_builtinR (x := w) pl.typeIs slot_tuple_getitem.lookup
    (getItem_tuple (j := j) (Q := fun r s' => r = w ∧ EP X pins σ Q r s') pl (by (first | lia | omega)) (by (first | lia | omega)) (by rw [List.size_toArray, ← hl]; exact h1) (by simpa using ew) ⟨rfl, fin⟩) hs
theorem ix_str : IxR X rIxS := by
  intro value slice pins s σ H x y v u Q I rx ry h hs
  obtain ⟨z, i, c, rfl, rfl, hz, he, q⟩ := h
  obtain ⟨t, rfl⟩ := rx
  obtain ⟨t', rfl⟩ := ry
  obtain ⟨j, h1, h2, h3, h4, h5⟩ := atI_get he
  have hl : z.cps.toList.length = z.length := by simp [Str.length]
  rw [hl] at h1 h4 h5
  have hn := line63
  exact tail_any (typeIs_str s z t) slot_str_getitem.lookup (getItem_str (c := c) (by
    have e1 : decide (i < -(2 ^ 63 : Int)) = false := decide_eq_false (by (first | lia | omega))
    have e2 : decide (i ≥ 2 ^ 63) = false := decide_eq_false (by (first | lia | omega))
    rw [e1, e2, Bool.or_false]) (by rw [h1]; simpa using h2) ⟨.str ⟨#[c]⟩, H, I.tok _, ⟨_, rfl⟩, q⟩) hs
/-! ### xs[i] = v, any sign -/
/-! ### slices -/
theorem slice_bounds (lo hi : Option Int) (n : Nat) : (sliceBounds lo hi none n).1 = ((HT.sIx n 0 lo : Nat) : Int) ∧ (sliceBounds lo hi none n).2.1 = ((HT.sIx n n hi : Nat) : Int) ∧ (sliceBounds lo hi none n).2.2 = 1 := by
  refine ⟨?_, ?_, rfl⟩
  · cases lo with
    | none => simp [sliceBounds, HT.sIx]
    | some i =>
      simp only [sliceBounds, HT.sIx, Option.getD_none, show (1 : Int) > 0 by decide, if_true]
      by_cases h : i < 0
      · simp only [h, if_true] <;> (first | lia | omega)
      · simp only [h, if_false] <;> (first | lia | omega)
  · cases hi with
    | none => simp [sliceBounds, HT.sIx]
    | some i =>
      simp only [sliceBounds, HT.sIx, Option.getD_none, show (1 : Int) > 0 by decide, if_true]
      by_cases h : i < 0
      · simp only [h, if_true] <;> (first | lia | omega)
      · simp only [h, if_false] <;> (first | lia | omega)
theorem slicePick_cut (its : List Value) (lo hi : Option Int) : slicePick its.toArray lo hi none = ((its.drop (HT.sIx its.length 0 lo)).take (HT.sIx its.length its.length hi - HT.sIx its.length 0 lo)).toArray := by
  obtain ⟨h1, h2, h3⟩ := slice_bounds lo hi its.toArray.size
  unfold slicePick
  rw [h1, h2, h3]
  simp only [sliceRange_one, pick_run, List.size_toArray] <;> rfl
/-- xs[lo:hi] of a list: a new list -/
def rSlL (K : PySem.W.Frag) : V → Option Int → Option Int → Hp → VK → Prop := fun x lo hi H Q => ∃ a xs, x = .ref a ∧ SqL K H a xs ∧ ∀ p, H p = none → Q (.ref p) (upd H p (.lst (cutV xs lo hi)))
theorem sl_list : SlR X (rSlL X.K) := by
  intro pins s σ H x v vl vu lo hi sl Q I rx hs pl pu h
  obtain ⟨a, xs, rfl, hx, q⟩ := h
  cases rx
  obtain ⟨its, r, ht, hz⟩ := I.list hx
  have hlen := r.length
  refine ⟨"list", _, slot_list_getitem.lookup, ht.isList.typeIs, ?_⟩
  refine wpAny_getItem_list_slice ht.isList hs pl pu .none (by simp) ?_ (by rw [List.size_toArray] <;> (first | lia | omega))
  rw [slicePick_cut, ← hlen]
  refine ⟨.ref s.heap.objs.size, _, I.laid (t' := s.toks) (o := .lst (cutV xs lo hi)) (fun b ob q => Heap.get?_push_of_some _ q) (Nat.le_refl _) ?_, rfl, q _ (I.hok.fresh (Nat.le_refl _))⟩
  exact ⟨Nat.le_trans (cutV_length xs lo hi) hz, _, 0, (r.drop (HT.sIx xs.length 0 lo)).take (HT.sIx xs.length xs.length hi - HT.sIx xs.length 0 lo), Heap.get?_push_size _ rfl⟩

/-! ### in, not in: flat items -/
/-! ### len, list(x), tuple(x) of any list or tuple that is read -/
theorem call_len_seq : CallR X (.builtin "len") (fun xs H Q => ∃ p ys, xs = [.ref p] ∧ (SqL X.K H p ys ∨ SqT X.K H p ys) ∧ Q (.int ys.length) H) := by
  intro pins s σ H xs us Q I r h
  obtain ⟨p, ys, rfl, hq, q⟩ := h
  obtain ⟨u, rfl, rx⟩ := vals1 r
  cases rx
  have hn := line63
  rcases hq with hq | hq
  · obtain ⟨its, r', pl, hz⟩ := I.list hq
    have hlen := r'.length
    exact Calls.call_len_list pl.isList (by simp only [List.size_toArray] <;> (first | lia | omega)) ⟨.int ys.length, H, I.tok _, ⟨s.toks + 1, by rw [List.size_toArray, hlen]⟩, q⟩
  · obtain ⟨its, r', pl, hz⟩ := I.tuple hq
    have hlen := r'.length
    exact len_tuple pl (by simp only [List.size_toArray] <;> (first | lia | omega)) ⟨.int ys.length, H, I.tok _, ⟨s.toks + 1, by rw [List.size_toArray, hlen]⟩, q⟩
theorem call_len_str : CallR X (.builtin "len") (fun xs H Q => ∃ z, xs = [.str z] ∧ z.length ≤ sizeLine ∧ Q (.int z.length) H) := by
  intro pins s σ H xs us Q I r h
  obtain ⟨z, rfl, hz, q⟩ := h
  obtain ⟨u, rfl, t, rfl⟩ := vals1 r
  have hn := line63
  exact len_str (by (first | lia | omega)) ⟨.int z.length, H, I.tok _, ⟨_, rfl⟩, q⟩
theorem call_list_of : CallR X (.type "list") (fun xs H Q => ∃ p ys, xs = [.ref p] ∧ (SqL X.K H p ys ∨ SqT X.K H p ys) ∧ ∀ l, H l = none → Q (.ref l) (upd H l (.lst ys))) := by
  intro pins s σ H xs us Q I r h
  obtain ⟨p, ys, rfl, hq, q⟩ := h
  obtain ⟨u, rfl, rx⟩ := vals1 r
  cases rx
  have fin : ∀ (its : List Value), Vals ys its → ys.length ≤ sizeLine → ∀ (h' : Heap) (c' : Nat), (∀ b o', s.heap.get? b = some o' → h'.get? b = some o') →
      h'.get? s.heap.objs.size = some { cls := .type "list", dict := none, data := .seq its.toArray c', slots := #[] } → EP X pins σ Q (.ref s.heap.objs.size) { s with heap := h' } := fun its r' hz h' c' kp e =>
    ⟨.ref s.heap.objs.size, _, I.laid (t' := s.toks) kp (Nat.le_refl _) (show ObjOk X.prog X.w _ h' _ (.lst ys) from ⟨hz, its, c', r', e⟩), rfl, q _ (I.hok.fresh (Nat.le_refl _))⟩
  rcases hq with hq | hq
  · obtain ⟨its, r', pl, hz⟩ := I.list hq
    have hlen := r'.length
    obtain ⟨o, ho, hc, n, hd⟩ := pl.isList
    exact call_list_seq p (.inl rfl) ho hc hd (fun h' c' kp e => fin its r' hz h' c' kp e) (by simp only [List.size_toArray] <;> (first | lia | omega))
  · obtain ⟨its, r', pl, hz⟩ := I.tuple hq
    have hlen := r'.length
    obtain ⟨o, ho, hc, n, hd⟩ := pl
    exact call_list_seq p (.inr rfl) ho hc hd (fun h' c' kp e => fin its r' hz h' c' kp e) (by simp only [List.size_toArray] <;> (first | lia | omega))
theorem call_tuple_of : CallR X (.type "tuple") (fun xs H Q => ∃ p ys, xs = [.ref p] ∧ ((SqL X.K H p ys ∧ ∀ l, H l = none → Q (.ref l) (upd H l (.tup ys))) ∨ (SqT X.K H p ys ∧ Q (.ref p) H))) := by
  intro pins s σ H xs us Q I r h
  obtain ⟨p, ys, rfl, h⟩ := h
  obtain ⟨u, rfl, rx⟩ := vals1 r
  cases rx
  rcases h with ⟨hq, q⟩ | ⟨hq, q⟩
  · obtain ⟨its, r', pl, hz⟩ := I.list hq
    have hlen := r'.length
    refine call_tuple_list pl.isList (fun h' kp => ?_) (by simp only [List.size_toArray] <;> (first | lia | omega))
    have I1 : Inv X pins σ H { s with heap := h' } := I.kept (t' := s.toks) kp
    have I2 : Inv X pins σ (upd H h'.objs.size (.tup ys)) { s with heap := h'.push { cls := .type "tuple", data := .seq its.toArray } } :=
      I1.laid (t' := s.toks) (fun b o e => Heap.get?_push_of_some _ e) (Nat.le_refl _) (show ObjOk X.prog X.w _ _ _ (.tup ys) from ⟨hz, its, r', IsTup.new _ _⟩)
    exact ⟨.ref h'.objs.size, _, I2, rfl, q _ (I1.hok.fresh (Nat.le_refl _))⟩
  · obtain ⟨its, r', pl, hz⟩ := I.tuple hq
    exact call_tuple_same pl ⟨.ref p, H, I, rfl, q⟩

/-! ### the call of a builtin's method: o.m(..) -/
/-- the value is of that builtin type -/
def tyV (K : PySem.W.Frag) (T : String) (x : V) (H : Hp) : Prop := match x with
  | .str _ => T = "str"
  | .int _ => T = "int"
  | .ref p => (T = "list" ∧ ∃ xs, SqL K H p xs) ∨ (T = "tuple" ∧ ∃ o, K.lookup p = some o ∧ o.cls = .type "tuple" ∧ o.dict = none) ∨
      (T = "dict" ∧ ((∃ kvs, H p = some (.dK kvs)) ∨ ∃ kvs, H p = some (.dT kvs))) ∨ (T = "set" ∧ ∃ S n, H p = some (.set S n))
  | _ => False
theorem tyV_is {pins : List (Addr × Obj)} {σ : St} {H : Hp} {s : Shared} {T : String} {x : V} {v : Value} (I : Inv X pins σ H s) (r : RelV x v) (ty : tyV X.K T x H) :
    s.TypeIs v T ∧ ∀ a, v = .ref a → ∃ ob, s.heap.get? a = some ob ∧ ob.dict = none := by
  cases x with
  | str z =>
    obtain ⟨t, rfl⟩ := r
    cases (show T = "str" from ty)
    exact ⟨typeIs_str s z t, fun _ e => nomatch e⟩
  | int i =>
    obtain ⟨t, rfl⟩ := r
    cases (show T = "int" from ty)
    exact ⟨typeIs_int s i t, fun _ e => nomatch e⟩
  | ref p =>
    cases r
    rcases ty with ⟨rfl, xs, hq⟩ | ⟨rfl, o, hk, hc, hd⟩ | ⟨rfl, hk⟩ | ⟨rfl, S, n, hk⟩
    · obtain ⟨its, _, pl, _⟩ := I.list hq
      refine ⟨pl.isList.typeIs, fun a e => ?_⟩
      cases e
      obtain ⟨o, n, e, c, hd, _⟩ := pl
      exact ⟨o, e, hd⟩
    · refine ⟨⟨o, I.kIn p o hk, hc⟩, fun a e => ?_⟩
      cases e
      exact ⟨o, I.kIn _ o hk, hd⟩
    · have z : ∃ o, s.heap.get? p = some o ∧ o.ExactDict := by
        rcases hk with ⟨kvs, hk⟩ | ⟨kvs, hk⟩
        · obtain ⟨_, _, _, _, o, _, _, e, ex, _⟩ := I.hok p _ hk
          exact ⟨o, e, ex⟩
        · obtain ⟨_, _, _, _, o, _, _, e, ex, _⟩ := I.hok p _ hk
          exact ⟨o, e, ex⟩
      obtain ⟨o, e, ex⟩ := z
      refine ⟨⟨o, e, ex.1⟩, fun a e2 => ?_⟩
      cases e2
      exact ⟨o, e, ex.2.1⟩
    · obtain ⟨o, _, _, _, e, ex, _⟩ := I.hok p _ hk
      refine ⟨⟨o, e, ex.1⟩, fun a e2 => ?_⟩
      cases e2
      exact ⟨o, e, ex.2.1⟩
  | _ => exact False.elim ty
def tBM0 (K : PySem.W.Frag) (T : String) (r : V → List V → Hp → VK → Prop) (to : TE) : TE := fun σ H Q => to σ H fun x H1 => tyV K T x H1 ∧ r x [] H1 Q
def tBM (K : PySem.W.Frag) (T : String) (r : V → List V → Hp → VK → Prop) (to : TE) (t : TA) : TE := fun σ H Q => to σ H fun x H1 => tyV K T x H1 ∧ t σ H1 fun xs H2 => r x xs H2 Q
variable {o e : Expr} {es : List Expr} {to : TE} {t : TA} {name : Str} {apos cpos : Pos} {T id : String} {r : V → List V → Hp → VK → Prop}
theorem pe_bm0 (pa : PlainAttrs T) (slot : Slot T name id) (hty : typeOf (.builtin id) = pure (.type "method_descriptor")) (hm : MtR X id r) (ho : PE X o to)
    (hbase : attributeBase o name X.env (eval o X.env) = eval o X.env := by rfl) (hline : (apos.endLine == cpos.line) = true := by rfl) : PE X (.Call (.Attribute o name apos) [] [] cpos) (tBM0 X.K T r to) := by
  intro pins s σ H Q I h
  refine wpAny_Call_method0_late hbase hline (thn (ho pins s σ H _ I h) fun v s1 ⟨x, H1, I1, r1, ty, q1⟩ => ?_)
  obtain ⟨h1, h2⟩ := tyV_is I1 r1 ty
  exact ⟨T, id, pa, slot, hty, h1, h2, Calls.callWith_builtin rfl (PySem.evalArgs_none (hm pins s1 σ H1 x [] v [] Q I1 r1 .nil q1))⟩
theorem pe_bm (pa : PlainAttrs T) (slot : Slot T name id) (hty : typeOf (.builtin id) = pure (.type "method_descriptor")) (hm : MtR X id r) (ho : PE X o to) (ha : PA X (e :: es) t)
    (hbase : attributeBase o name X.env (eval o X.env) = eval o X.env := by rfl)
    (hfew : ((backTo cpos (starEach (e :: es) X.env)).all (fun x => !x.1) && (backToKw cpos (keywordEach [] X.env)).all (fun x => x.1.isSome)
      && decide ((e :: es).length + ([] : List Keyword).length + (if ([] : List Keyword).isEmpty then 0 else 1) < 30)) = true := by rfl)
    (hline : (apos.endLine == cpos.line) = true := by rfl) (hs : starEach (e :: es) X.env = (false, eval e X.env) :: starEach es X.env := by rfl) (hplain : (backTo cpos (starEach es X.env)).any (·.1) = false := by rfl) :
    PE X (.Call (.Attribute o name apos) (e :: es) [] cpos) (tBM X.K T r to t) := by
  intro pins s σ H Q I h
  refine wpAny_Call_method_late hbase hfew hline rfl (thn (ho pins s σ H _ I h) fun v s1 ⟨x, H1, I1, r1, ty, q1⟩ => ?_)
  obtain ⟨h1, h2⟩ := tyV_is I1 r1 ty
  refine ⟨T, id, pa, slot, hty, h1, h2, ?_⟩
  have hA := ha cpos pins s1 σ H1 _ I1 q1
  rw [hs] at hA ⊢
  refine Calls.callWith_builtin (by show (false || (backTo cpos (starEach es X.env)).any (·.1)) = false; rw [hplain] <;> rfl) (Calls.evalArgs_plain ?_)
  exact thn hA fun us s2 ⟨vs, H2, I2, r2, q2⟩ => hm pins s2 σ H2 x vs v us Q I2 r1 r2 q2
/- xs.append(e), list.index on a module's tuple .. are MtR facts of 06m -/
end
end L2

namespace L2
open PySem PySem.Spec PyProof.Rows

def MtM (X : Cx) (id : String) (r : V → List V → Hp → VK → Prop) : Prop :=
  ∀ (pins : List (Addr × Obj)) (s : Shared) (σ : St) (H : Hp) (x : V) (xs : List V) (v : Value) (us : List Value) (Q : VK), Inv X pins σ H s → RelV x v → Vals xs us → r x xs H Q →
    wpAny (model X.prog X.w) X.A (call (.builtin id) (v :: us)) (EP X pins σ Q) X.xe s

/-! ### lists of values -/
theorem Vals.one : ∀ {x : V} {us : List Value}, Vals [x] us → ∃ u, us = [u] ∧ RelV x u
  | _, _, .cons r .nil => ⟨_, rfl, r⟩
theorem Vals.two : ∀ {x y : V} {us : List Value}, Vals [x, y] us → ∃ u v, us = [u, v] ∧ RelV x u ∧ RelV y v
  | _, _, _, .cons r (.cons q .nil) => ⟨_, _, rfl, r, q⟩
theorem Vals.zero : ∀ {us : List Value}, Vals [] us → us = []
  | _, .nil => rfl
theorem Vals.dropLast {xs : List V} {us : List Value} (h : Vals xs us) : Vals xs.dropLast us.dropLast := by
  induction h with
  | nil => exact .nil
  | cons r t ih =>
    cases t with
    | nil => exact .nil
    | cons q t' => exact .cons r ih
theorem Vals.reverse {xs : List V} {us : List Value} (h : Vals xs us) : Vals xs.reverse us.reverse := by
  induction h with
  | nil => exact .nil
  | cons r t ih => rw [List.reverse_cons, List.reverse_cons]; exact Vals.append ih (.cons r .nil)
theorem erase_last {α : Type} (l : List α) : l.eraseIdx (l.length - 1) = l.dropLast := by
  induction l with
  | nil => rfl
  | cons a r ih =>
    cases r with
    | nil => rfl
    | cons b r =>
      have e : (a :: b :: r).length - 1 = ((b :: r).length - 1) + 1 := by
        have h1 : (a :: b :: r).length = r.length + 2 := rfl
        have h2 : (b :: r).length = r.length + 1 := rfl
        (first | lia | omega)
      rw [e, List.eraseIdx_cons_succ, ih]
      all_goals rfl
section
variable {X : Cx} {pins : List (Addr × Obj)} {σ : St} {H : Hp} {s : Shared} {l b : Addr} {xs ys zs : List V}

/-! ### the two steps: a tracked list is rewritten, a new list is laid -/
theorem Inv.lset {its its' : List Value} {n : Nat} {f : Array Value → Array Value} {t' : Nat} (I : Inv X pins σ H s) (hH : H l = some (.lst xs))
    (e : s.heap.get? l = some { cls := .type "list", data := .seq its.toArray n }) (hf : f its.toArray = its'.toArray) (hv : Vals ys its') (hz : ys.length ≤ sizeLine) :
    Inv X pins σ (upd H l (.lst ys)) { s with heap := s.heap.update l (Obj.mapSeq f), toks := t' } := by
  have q := PySem.IsL.update e f
  rw [hf] at q
  refine I.write (x := l) (e := l) (by rw [hH]; exact trivial) (.inl rfl) (fun b' u hb hu => (Heap.get?_update_other s.heap (Obj.mapSeq f) (Ne.symm hb)).trans hu) ⟨_, q⟩ ?_
  exact ⟨hz, its', _, hv, q⟩
theorem Inv.lnew {its : List Value} {t' : Nat} (I : Inv X pins σ H s) (hv : Vals ys its) (hz : ys.length ≤ sizeLine) :
    Inv X pins σ (upd H s.heap.objs.size (.lst ys)) { s with heap := s.heap.push { cls := .type "list", data := .seq its.toArray }, toks := t' } :=
  I.laid (fun _ _ q => Heap.get?_push_of_some _ q) (Nat.le_refl _) ⟨hz, its, 0, hv, Heap.get?_push_size _ rfl⟩
theorem Inv.fresh (I : Inv X pins σ H s) : H s.heap.objs.size = none := I.hok.fresh (Nat.le_refl _)
theorem Inv.lstM (I : Inv X pins σ H s) (hH : H l = some (.lst xs)) : xs.length ≤ sizeLine ∧ ∃ (its : List Value) (n : Nat), Vals xs its ∧ xs.length = its.length ∧ s.heap.get? l = some { cls := .type "list", data := .seq its.toArray n } := by
  obtain ⟨z, its, n, r, e⟩ := I.hok l _ hH
  exact ⟨z, its, n, r, r.length, e⟩

theorem notLongL {n : Nat} (h : n ≤ sizeLine) : Builtin.List.listTooLong n = false := by
  unfold Builtin.List.listTooLong
  exact decide_eq_false (by (first | lia | omega))
end

section
variable {X : Cx}

/-! ### methods -/
def rAppend : V → List V → Hp → VK → Prop := fun x vs H Q => ∃ l xs y, x = .ref l ∧ vs = [y] ∧ H l = some (.lst xs) ∧ xs.length < sizeLine ∧ Q .non (upd H l (.lst (xs ++ [y])))
theorem mt_append : MtM X "list.append" rAppend := by
  intro pins s σ H x vs v us Q I rx rv h
  obtain ⟨l, xs, y, rfl, rfl, hH, hz, q⟩ := h
  cases rx
  obtain ⟨u, rfl, ru⟩ := rv.one
  obtain ⟨z, its, n, r, hl, e⟩ := I.lstM hH
  refine call_meets F.slot_list_append ⟨_, e, rfl⟩ F.entry_list_append (F.args_list_append_2 _ _) (PySem.list_append l its.toArray n u (by rw [List.size_toArray]; (first | lia | omega))) ⟨e, ?_⟩
  refine ⟨.non, _, I.lset (its' := its ++ [u]) hH e (by simp) (r.append (.cons ru .nil)) ?_, rfl, q⟩
  rw [List.length_append, List.length_singleton]
  (first | lia | omega)

def rExtend : V → List V → Hp → VK → Prop := fun x vs H Q => ∃ l b xs zs, x = .ref l ∧ vs = [.ref b] ∧ H l = some (.lst xs) ∧ H b = some (.lst zs) ∧ xs.length + zs.length ≤ sizeLine ∧ Q .non (upd H l (.lst (xs ++ zs)))
theorem mt_extend : MtM X "list.extend" rExtend := by
  intro pins s σ H x vs v us Q I rx rv h
  obtain ⟨l, b, xs, zs, rfl, rfl, hH, hB, hz, q⟩ := h
  cases rx
  obtain ⟨u, rfl, ru⟩ := rv.one
  cases ru
  obtain ⟨z, its, n, r, hl, e⟩ := I.lstM hH
  obtain ⟨z2, its2, n2, r2, hl2, e2⟩ := I.lstM hB
  have hsz : its.toArray.size + its2.toArray.size ≤ sizeLine := by rw [List.size_toArray, List.size_toArray]; (first | lia | omega)
  have hlong : ¬ (!its.toArray.isEmpty && Builtin.List.listTooLong (its.toArray.size + its2.toArray.size)) = true := by
    rw [notLongL hsz, Bool.and_false]
    exact Bool.false_ne_true
  refine call_meets F.slot_list_extend ⟨_, e, rfl⟩ F.entry_list_extend (F.args_list_extend_2 _ _)
    (AutoSeq1.list_extend_list_list_0 l its.toArray n b its2.toArray n2 hlong (by rw [List.size_toArray]; (first | lia | omega)) (by (first | lia | omega))) ⟨e, e2, ?_⟩
  refine ⟨.non, _, I.lset (its' := its ++ its2) hH e (by simp) (r.append r2) ?_, rfl, q⟩
  rw [List.length_append]
  (first | lia | omega)

def rPop : V → List V → Hp → VK → Prop := fun x vs H Q => ∃ l xs y, x = .ref l ∧ vs = [] ∧ H l = some (.lst xs) ∧ xs[xs.length - 1]? = some y ∧ Q y (upd H l (.lst xs.dropLast))
theorem mt_pop : MtM X "list.pop" rPop := by
  intro pins s σ H x vs v us Q I rx rv h
  obtain ⟨l, xs, y, rfl, rfl, hH, hy, q⟩ := h
  cases rx
  have hus := rv.zero
  subst hus
  obtain ⟨z, its, n, r, hl, e⟩ := I.lstM hH
  obtain ⟨u, hu, ru⟩ := r.get hy
  have hy' : its.toArray[its.toArray.size - 1]? = some u := by
    show its.toArray[its.length - 1]? = some u
    rw [← Array.getElem?_toList, ← hl]
    exact hu
  refine call_meets F.slot_list_pop ⟨_, e, rfl⟩ F.entry_list_pop (F.args_list_pop_1 _) (MeetsSeq.list_pop_last l its.toArray n u hy' (by rw [List.size_toArray]; (first | lia | omega))) ⟨e, ?_⟩
  refine ⟨y, _, I.lset (its' := its.dropLast) hH e ?_ r.dropLast ?_, ru, q⟩
  · show its.toArray.eraseIdxIfInBounds (its.toArray.size - 1) = its.dropLast.toArray
    rw [List.size_toArray, List.eraseIdxIfInBounds_toArray, erase_last]
  · rw [List.length_dropLast]
    (first | lia | omega)

def rClear : V → List V → Hp → VK → Prop := fun x vs H Q => ∃ l xs, x = .ref l ∧ vs = [] ∧ H l = some (.lst xs) ∧ Q .non (upd H l (.lst []))
theorem mt_clear : MtM X "list.clear" rClear := by
  intro pins s σ H x vs v us Q I rx rv h
  obtain ⟨l, xs, rfl, rfl, hH, q⟩ := h
  cases rx
  have hus := rv.zero
  subst hus
  obtain ⟨z, its, n, r, hl, e⟩ := I.lstM hH
  refine call_meets F.slot_list_clear ⟨_, e, rfl⟩ F.entry_list_clear (F.args_list_clear_1 _) (AutoSeq1.list_clear_list_0 l its.toArray n (by rw [List.size_toArray]; (first | lia | omega))) ⟨e, ?_⟩
  exact ⟨.non, _, I.lset (its' := []) (ys := []) hH e rfl .nil (Nat.zero_le _), rfl, q⟩

/-! ### list + list, list += list, list * int -/
def rCat : R2 := fun x y H Q => ∃ l b xs zs, x = .ref l ∧ y = .ref b ∧ H l = some (.lst xs) ∧ H b = some (.lst zs) ∧ xs.length + zs.length ≤ sizeLine ∧ ∀ p, H p = none → Q (.ref p) (upd H p (.lst (xs ++ zs)))
theorem op_cat : OpR X (binaryOp .Add) rCat := by
  intro pins s σ H x y v u Q I rx ry h
  obtain ⟨l, b, xs, zs, rfl, rfl, hH, hB, hz, q⟩ := h
  cases rx
  cases ry
  obtain ⟨z, its, n, r, hl, e⟩ := I.lstM hH
  obtain ⟨z2, its2, n2, r2, hl2, e2⟩ := I.lstM hB
  refine PySem.P.add_list e e2 ?_ (by rw [List.size_toArray, List.size_toArray]; (first | lia | omega))
  have ea : its.toArray ++ its2.toArray = (its ++ its2).toArray := by simp
  rw [ea]
  exact ⟨.ref _, _, I.lnew (t' := s.toks) (r.append r2) (by rw [List.length_append]; (first | lia | omega)), rfl, q _ I.fresh⟩
/-! ### del xs[i] -/
end

/-! ### xs[a:b] = ys -/

end L2

namespace Att
open PySem PySem.W PySem.Calls PyProof.Rows

/-! ### the script -/
theorem ints_of_wellAll {P : Params} {h : Heap} : ∀ (ns : List Int) (vs : List Value), WellAll P h vs (ns.map WData.int) → IntsAre vs ns := by
  intro ns
  induction ns with
  | nil =>
    intro vs w
    rw [List.map_nil] at w
    cases w
    exact .nil
  | cons n ns ih =>
    intro vs w
    rw [List.map_cons] at w
    cases w with
    | cons a b =>
      cases a
      exact .cons _ _ (ih _ b)

theorem script_of {l : OpenLaw} {n : Nat} (hn : l.most = some n) {P : Params} {h : Heap} {args : List WData} {vals : List Value}
    (hpre : l.row.toRowW.claim.pre args = true) (hwl : WellAll P h vals args) :
    ∃ a vs ns, vals = [Value.ref a] ∧ args = [WData.list (ns.map WData.int)] ∧ h.get? a = some { cls := .type "list", data := .seq vs.toArray } ∧ IntsAre vs ns ∧ ns.length ≤ n := by
  have hsh : WShape.hasAll [] args [.list .int] = true := (pre_splitW hpre).1
  have hc : l.pre.holds [] { args := args } = true := (pre_splitW hpre).2
  obtain ⟨d, r, rfl, h1, h2⟩ := hasAllW_cons hsh
  obtain rfl := hasAllW_nil h2
  obtain ⟨xs, rfl, h3⟩ := hasW_list h1
  obtain ⟨ns, rfl⟩ := items_int h3
  have hlen : ns.length ≤ n := by
    unfold OpenLaw.pre at hc
    have h4 : (WTm.not (.lt (.lit (.int (n : Int))) (.len (.arg 0)))).holds [] { args := [.list (ns.map .int)] } = true := by
      have h4 := (holds_andW hc).1
      rw [hn] at h4
      exact h4
    have h5 := condW_of h4 (w_not (w_lt w_lit (w_len_list (w_arg rfl))))
    rw [List.length_map] at h5
    refine Nat.le_of_not_lt fun q => ?_
    have q' : (n : Int) < ((ns.length : Nat) : Int) := by (first | lia | omega)
    first
      | (rw [decide_eq_true q'] at h5; exact absurd h5 (by decide))
      | (simp at h5; (first | lia | omega))
  cases hwl with
  | cons w1 w2 =>
    cases w2
    cases w1 with
    | list ho hall => exact ⟨_, _, ns, rfl, rfl, ho, ints_of_wellAll ns _ hall, hlen⟩

theorem post_true (l : OpenLaw) (args : List WData) : l.row.toRowW.claim.post args (.bool true) args = true :=
  postW_of (r := l.row.toRowW) (X := (true == true))
    (show WShape.has [] (.bool true) .bool = true by first | rfl | decide | simp [WShape.has, WShape.arms, WShape.armsAll])
    (show (WTm.eq .res (.lit (.bool true))).value [] { args := args, res := some (.bool true), after := args } = some (.bool (true == true)) from w_eq_bool (w_res rfl) w_lit) rfl

/-! ### the attachment: holds_open's last premise (the goal 'hc' behind k_head) from a wpAny of the law's body -/
/-- the same from a codeAny of the CALL (for a layer whose function contracts speak of calls) -/
theorem attach_call {l : OpenLaw} {n : Nat} {q : Program} {loose : List Str} {XP : (Str → Option Value) → Heap → Prop} {YP : World → Heap → Prop} {d : DefRec}
    (hn : l.most = some n) (hdf : d.params.defaults = [])
    (call : ∀ (w : World) (s₀ s₁ : Shared) (mg mb : Str → Option Value) (fa : Addr) (o : Obj) (pm cd doc : Value) (a : Addr) (vs : List Value) (ns : List Int),
      Ground q loose [] XP w s₀ mg mb s₁.heap → YP w s₁.heap →
      s₁.heap.get? fa = some o → o.data = .func (docDef d.name d.params d.body d.scope pm cd doc) → s₁.heap.CodeRec cd d.name → mg d.name = some (.ref fa) →
      s₁.heap.get? a = some { cls := .type "list", data := .seq vs.toArray } → IntsAre vs ns → ns.length ≤ n → s₁.gens = #[] →
      codeAny (model l.prog w) callerA (.call (.ref fa) ⟨[.ref a], []⟩) (fun r s' => r = .ok (.ret (.bool true)) ∧ OldK s₁.heap s'.heap ∧ s'.os = s₁.os ∧ AllBare s'.gens) s₁) :
    WalkO q loose XP YP l.row.toRowW d [] (fun f vs => PySem.call f vs) := by
  intro w s₀ s₁ mg mb G Y fa o pm cd doc dV kV ho hd hcd hD hmg hg args vals as hpre hlay hrd hwl hlo
  obtain rfl : dV = .none := Dflts.none hD hdf
  obtain rfl : kV = .none := Dflts.noKw hD
  obtain ⟨a, vs, ns, rfl, rfl, hobj, hints, hlen⟩ := script_of hn hpre hwl
  refine enter_call (codeAny_mono (call w s₀ s₁ mg mb fa o pm cd doc a vs ns G Y ho (fd_plain hd) hcd hmg hobj hints hlen hg) fun r s' hq => ?_)
  obtain ⟨rfl, h2, h3, h4⟩ := hq
  exact ⟨.inl ⟨.bool true, .bool true, [], rfl, fun _ => rfl, .bool true, post_true l _, fun _ => ⟨List.Pairwise.nil, fun _ hm => (nomatch hm)⟩⟩, h2, h3, h4⟩

/-! ### rules over ANY heap (no ledger) from facts about the written part K: the library's own take a ledger (News) for what they write -/
end Att

namespace L2
open PySem PySem.Spec PyProof.Rows

theorem vals_ints : ∀ {vs : List Value} {ns : List Int}, IntsAre vs ns → Vals (ns.map V.int) vs
  | _, _, .nil => .nil
  | _, _, .cons n t h => .cons ⟨t, rfl⟩ (vals_ints h)

/-- nothing is tracked but the script, known to the object (or it is an object of the module) -/
def Only (H : Hp) : Prop := ∀ b, H b = none ∨ ∃ o xs, H b = some (.frz o (.lst xs))

/-- THE HEAD: the law's promise, at the heap behind the top. F, the promise of the law's def, may use that base is part of the heap (so K.In base, base.Ns mainGlobals mg stand in Mod) -/
theorem law_call {P : Program} {w : World} {K : PySem.W.Frag} {mg mb : Str → Option Value} {CX : CXT} {k : Nat} {fa a : Addr} {fd : FuncData} {x : Str} {sp : Sp} {s₁ : Shared} {vs : List Value} {ns : List Int}
    (KX : K.In s₁.heap) (hns : s₁.heap.Ns mainGlobals mg) (hb : s₁.heap.Ns builtinsNs mb) (hbb : ∀ x : Str, x ≠ "__name__" → mb x = bootBuiltins x) (hlim : s₁.heap.NoLimit) (hg : s₁.gens = #[])
    (ha : s₁.heap.get? a = some { cls := .type "list", data := .seq vs.toArray }) (hi : IntsAre vs ns) (hl : ns.length ≤ sizeLine) (hr : Room k callerA)
    (F : ∀ base : Heap, K.In base → base.Ns mainGlobals mg → FnOk P w K mg base CX k fa fd [x] sp) (hbind : ∀ (s : Shared) (u : Value), BindsTo s fd ⟨[u], []⟩ [(x, u)])
    (hsp : ∀ H : Hp, Only H → SqL K H a (ns.map V.int) → sp [.ref a] H (fun v _ => v = .bl true) fun _ _ _ => False)
    (hCX : ∀ H e s', CX [] H s₁ (fun _ _ _ => False) e s' → False) :
    codeAny (model P w) callerA (.call (.ref fa) ⟨[.ref a], []⟩) (fun r s' => r = .ok (.ret (.bool true)) ∧ OldK s₁.heap s'.heap ∧ s'.os = s₁.os ∧ AllBare s'.gens) s₁ := by
  have rv := vals_ints hi
  have lenV := hi.length
  -- from an abstract heap in which nothing but the script may be tracked
  have core : ∀ H : Hp, Only H → SqL K H a (ns.map V.int) → HOk P w H s₁.heap → (∀ b, H b ≠ none → b = a) → (H a ≠ none → K.lookup a = none) →
      codeAny (model P w) callerA (.call (.ref fa) ⟨[.ref a], []⟩) (fun r s' => r = .ok (.ret (.bool true)) ∧ OldK s₁.heap s'.heap ∧ s'.os = s₁.os ∧ AllBare s'.gens) s₁ := by
    intro H hO hS hok hA hK
    have base_of : ∀ {b : Addr} {o : Obj}, s₁.heap.get? b = some o → H b = none → (hidT s₁.heap H).get? b = some o := fun e n => hidT_get e n
    have noA : ∀ {b : Addr} {o : Obj} {es : Array DictEntry} {ep : Nat}, s₁.heap.get? b = some o → o.data = .dict es ep → H b = none := fun {b o es ep} e d => by
      cases q : H b with
      | none => rfl
      | some u =>
        have e' : b = a := hA b (by rw [q]; simp)
        subst e'
        rw [ha] at e; cases e
        have d' : Data.seq vs.toArray _ = Data.dict es ep := d
        cases d'
    have nsK : ∀ {b : Addr} {m : Str → Option Value}, s₁.heap.Ns b m → (hidT s₁.heap H).Ns b m := fun {b m} ⟨o, es, ep, e, d, r⟩ => ⟨o, es, ep, base_of e (noA e d), d, r⟩
    have hKb : K.In (hidT s₁.heap H) := fun b o e => base_of (KX b o e) (by
      cases q : H b with
      | none => rfl
      | some u =>
        have e' : b = a := hA b (by rw [q]; simp)
        subst e'
        rw [hK (by rw [q]; simp)] at e; cases e)
    have hM : Mod K mg (hidT s₁.heap H) := ⟨hKb, nsK hns, ⟨mb, nsK hb, hbb⟩, let ⟨mc, h1, h2⟩ := hlim; ⟨mc, nsK h1, h2⟩⟩
    have e0 : Env0 P w K mg (hidT s₁.heap H) callerA [] s₁ H := ⟨rfl, hM, fun b o e => of_hidT e, Nat.le_of_eq (hidT_size _ _), trivial, fun b hb => absurd (show b ∈ ([] : List Addr) from hb) (by simp), hok, .of_eq hg⟩
    refine codeAny_mono ((F _ hKb (nsK hns)).run callerA [] s₁ H ⟨[.ref a], []⟩ [.ref a] [.ref a] _ _ hr e0 (hbind s₁ (.ref a)) (.cons rfl .nil) (hsp H hO hS)) fun r s' h => ?_
    cases r with
    | error e => exact (hCX H e s' h).elim
    | ok fl =>
      cases fl with
      | next => exact False.elim h
      | brk => exact False.elim h
      | cont => exact False.elim h
      | ret u =>
        obtain ⟨v, H', os, bare, un, hok', r', q⟩ := h
        have q' : v = .bl true := q
        subst q'
        obtain rfl : u = Value.bool true := r'
        refine ⟨rfl, OldK.of_keep fun b o e => ?_, os, bare⟩
        cases q : H b with
        | none => exact un.keep b o e q (by intro z; exact absurd (show b ∈ ([] : List Addr) from z) (by simp)) (by simp)
        | some u =>
          rcases hO b with z | ⟨ob, xs, z⟩
          · rw [q] at z; cases z
          · have z2 := un.frzs b ob _ z
            obtain ⟨e1, _⟩ := hok b _ z
            obtain ⟨e2, _⟩ := hok' b _ z2
            rw [e] at e1; cases e1
            exact e2
  cases hk : K.lookup a with
  | some o =>
    -- the script is one of the module's own objects
    have e := KX a o hk
    rw [ha] at e
    cases e
    refine core (fun _ => none) (fun _ => .inl rfl) (.inr ⟨_, vs.toArray, _, hk, rfl, rfl, rfl, by rw [List.size_toArray, lenV]; exact hl, by simpa using rv⟩) (fun b u z => by have z' : (none : Option HO) = some u := z; cases z') (fun b z => absurd rfl z) fun z => absurd rfl z
  | none =>
    refine core (fun b => if b = a then some (.frz { cls := .type "list", data := .seq vs.toArray } (.lst (ns.map V.int))) else none) (fun b => ?_) (.inl (.inr ⟨{ cls := .type "list", data := .seq vs.toArray }, if_pos rfl⟩)) (fun b u z => ?_) (fun b z => ?_) fun _ => hk
    · by_cases hb : b = a
      · exact .inr ⟨_, _, if_pos hb⟩
      · exact .inl (if_neg hb)
    · by_cases hb : b = a
      · have z' := (if_pos hb).symm.trans z
        cases z'
        subst hb
        exact ⟨ha, by rw [List.length_map]; exact hl, vs, _, rv, ha⟩
      · have z' := (if_neg hb).symm.trans z
        cases z'
    · by_cases hb : b = a
      · exact hb
      · exact absurd (if_neg hb) z
end L2

namespace L2
open PySem PySem.Spec PyProof.Rows

/-- the goal that k_head leaves (case hc), from the law's promise. F gives the function object fd (K's own) once, then the promise over every base -/
theorem walk_of {l : PySem.W.OpenLaw} {n k : Nat} {q : Program} {loose : List Str} {XP : (Str → Option Value) → Heap → Prop} {YP : World → Heap → Prop} {d : DefRec} {K : Params → PySem.W.Frag} {CX : World → CXT} {sp : World → Sp} {x : Str}
    (hn : l.most = some n) (hn2 : n ≤ sizeLine) (hdf : d.params.defaults = []) (hr : Room k callerA)
    (hY : ∀ (w : World) (h : Heap), YP w h → (K w.params).In h)
    (F : ∀ (w : World) (mg : Str → Option Value) (fa : Addr) (h : Heap), (K w.params).In h → h.Ns mainGlobals mg → mg d.name = some (.ref fa) →
      ∃ fd : FuncData, (∀ (s : Shared) (u : Value), BindsTo s fd ⟨[u], []⟩ [(x, u)]) ∧
        ∀ base : Heap, (K w.params).In base → base.Ns mainGlobals mg → FnOk l.prog w (K w.params) mg base (CX w) k fa fd [x] (sp w))
    (hsp : ∀ (w : World) (H : Hp) (a : Addr) (ns : List Int), ns.length ≤ n → Only H → SqL (K w.params) H a (ns.map V.int) → sp w [.ref a] H (fun v _ => v = .bl true) fun _ _ _ => False)
    (hCX : ∀ (w : World) (H : Hp) (s : Shared) (e : Value) (s' : Shared), CX w [] H s (fun _ _ _ => False) e s' → False) :
    PySem.W.WalkO q loose XP YP l.row.toRowW d [] (fun f vs => PySem.call f vs) := by
  refine Att.attach_call hn hdf fun w s₀ s₁ mg mb fa o pm cd doc a vs ns G Y ho hd hcd hmg hobj hints hlen hg => ?_
  have KX := hY w _ Y
  obtain ⟨fd, hb, hF⟩ := F w mg fa _ KX G.T.g hmg
  exact law_call KX G.T.g G.T.b G.T.builtins G.T.nolimit hg hobj hints (Nat.le_trans hlen hn2) hr hF hb (fun H hO hS => hsp w H a ns hlen hO hS) fun H e s' => hCX w H s₁ e s'
end L2

/- THE LAST THEOREM (shape; LID, My.* are yours):
   My.Adr: a structure of the addresses that your layer names (classes, functions); My.Txt K t: a structure (Prop) of the equations over K;
   My.txt_mk : {K} {implicit addresses ..} (e1 : nsIn K mainGlobals "law" = some (some (.ref f))) (e2 : K.lookup f = some ⟨oc, od, .func (fnOf "law" "law" params body scope dV kV doc pm an cdv ct), sl⟩) (e3 : codeIn K cdv "law" = true) .. : ∃ t, My.Txt K t

set_option maxRecDepth 100000 in
set_option maxHeartbeats 0 in
theorem PySem.Challenge.cw_LID_holds : PySem.Challenge.rw_LID.Holds := by
  w_on; o_law; k_head; (case hw => w_witness2)
  k_fill
  refine L2.walk_of (l := PySem.Challenge.rw_LID) (n := 63) (k := 40) (x := "script") (CX := fun w => ..) (sp := fun _ => My.sp_law) rfl (by decide) rfl ⟨rfl, by decide, by decide⟩ (fun w h Y => PySem.W.kIn_of Y) ?F ?S ?C
  case F =>
    intro w mg fa h KX G hmg
    have T : ∃ t, My.Txt (L2.KOf KX) t := by
      dsimp only [L2.KOf]                          -- K must stand as «<heap const> w.params» for k_is
      refine' My.txt_mk ?e1 ?e2 ?e3 ..
      (case e1 => PySem.W.k_is)                    -- in the order: a name -> its address -> its object -> its parts
      (case e2 => PySem.W.k_is)
      ..
    obtain ⟨t, T⟩ := T
    have e0 := hmg.symm.trans (PySem.W.mg_of KX G T.law)
    cases e0                                       -- fa is the law's own address
    exact ⟨_, fun s u => .of_eq rfl, fun base kb nb => My.law_fn T kb nb⟩     -- if «.of_eq rfl» comes too early: refine' ⟨_, ?b, fun base kb nb => My.law_fn T kb nb⟩; exact fun s u => .of_eq rfl
  case S => exact fun w H a ns hl hO hS => ..
  case C => exact ..
(the tactic k_is has no namespace: write k_is) -/

/-! SHORT WORDS over the layer: a def of the text, its body, what a loop and a test want. -/
namespace L2
open PySem PySem.Spec PyProof.Rows

/-! ### the text by places -/
def defArgs (s : Stmt) : Arguments := match s with
  | .FunctionDef _ a _ _ _ _ _ _ _ _ => a
  | _ => { posonlyargs := [], args := [], vararg := none, kwonlyargs := [], kw_defaults := [], kwarg := none, defaults := [] }
def defBody (s : Stmt) : List Stmt := match s with
  | .FunctionDef _ _ b _ _ _ _ _ _ _ => b
  | _ => []
def defScope (s : Stmt) : Scope := match s with
  | .FunctionDef _ _ _ _ _ _ sc _ _ _ => sc
  | _ => { kind := .function, names := [], isGenerator := false, isCoroutine := false }

/-! ### no exception leaves a def -/
abbrev CX0 : CXT := fun _ _ _ _ _ _ => False
abbrev E0 : XK := fun _ _ _ => False
theorem pass0 {X : Cx} : Passes CX0 X E0 := fun _ _ _ _ _ _ _ h => h.elim

/-! ### a def (or method) of the text as it stands behind the top -/
structure Fun (K : PySem.W.Frag) (x qual : Str) (st : Stmt) (f : Addr) (fd : FuncData) : Prop where
  ex : ∃ (oc : Value) (od : Option Addr) (kV doc pm : Value) (an : Option Addr) (cdv ct : Value) (osl : Array (Option Value)),
    fd = PySem.W.fnOf x qual (defArgs st) (defBody st) (defScope st) .none kV doc pm an cdv ct ∧ K.lookup f = some ⟨oc, od, .func fd, osl⟩ ∧ PySem.W.codeIn K cdv qual = true
  kp : PySem.W.keepIn K (.ref f) = true
section
variable {P : Program} {w : World} {K : PySem.W.Frag} {mg : Str → Option Value} {base : Heap}
/-- THE RULE for a def: its body as a term of rules, and the reading of that term -/
theorem Fun.ok {x qual : Str} {st : Stmt} {f : Addr} {fd : FuncData} {N ps : List Str} {k : Nat} {sp : Sp} (F : Fun K x qual st f fd) (S : FnScope N ps (defScope st)) (len : ∀ vs H Q E, sp vs H Q E → vs.length = ps.length)
    (hbody : ∀ (cdv : Value) (A : Around) (outer : List Env) (s : Shared) (H : Hp) (vs : List V) (Q : VK) (E : XK), Room k (A.deeper (envOfC qual (defScope st) s.heap.objs.size f cdv)) → sp vs H Q E →
      ∃ t, PSs (cxOf CX0 P w K mg base N qual (defScope st) f cdv A outer s H E).nox (defBody st) t ∧ t { nx := fun _ H' => Q .non H', rt := Q } (start N vs) H) : FnOk P w K mg base CX0 (k + 1) f fd ps sp := by
  obtain ⟨oc, od, kV, doc, pm, an, cdv, ct, osl, rfl, lk, hcd⟩ := F.ex
  refine fn_of lk hcd S len fun A outer s H vs Q E hr hsp => ?_
  obtain ⟨t, h, q⟩ := hbody cdv A outer s H vs Q E hr hsp
  exact ⟨t, h.nox, q⟩
/-- how its arguments bind (no defaults): h is «fun _ _ _ _ _ _ us hl => match us, hl with | [_, _], _ => rfl», one _ a parameter -/
theorem Fun.binds {x qual : Str} {st : Stmt} {f : Addr} {fd : FuncData} {ps : List Str} (F : Fun K x qual st f fd)
    (h : ∀ (kV doc pm : Value) (an : Option Addr) (cdv ct : Value) (us : List Value), us.length = ps.length → bindArgs (PySem.W.fnOf x qual (defArgs st) (defBody st) (defScope st) .none kV doc pm an cdv ct) ⟨us, []⟩ = pure (ps.zip us)) : Binds K fd ps [] := by
  obtain ⟨oc, od, kV, doc, pm, an, cdv, ct, osl, rfl, lk, hcd⟩ := F.ex
  exact .all (h kV doc pm an cdv ct)
theorem fun_mk {x qual : Str} {st : Stmt} {f : Addr} {oc : Value} {od an : Option Addr} {osl : Array (Option Value)} {kV doc pm cdv ct : Value} (l : K.lookup f = some ⟨oc, od, .func (PySem.W.fnOf x qual (defArgs st) (defBody st) (defScope st) .none kV doc pm an cdv ct), osl⟩)
    (c : PySem.W.codeIn K cdv qual = true) (k : PySem.W.keepIn K (.ref f) = true) : Fun K x qual st f (PySem.W.fnOf x qual (defArgs st) (defBody st) (defScope st) .none kV doc pm an cdv ct) := ⟨⟨oc, od, kV, doc, pm, an, cdv, ct, osl, rfl, l, c⟩, k⟩
end
/-! ### expressions in short: the name that stands in the i-th slot -/
section
variable {X : Cx}
theorem pv (i : Nat) {x : Str} {pos : Pos} (hN : X.N[i]? = some x := by rfl) (hv : Vis X.env.scope x := by first | exact Or.inl rfl | exact Or.inr (Or.inl rfl) | exact Or.inr (Or.inr rfl)) (hd : (x == ("__debug__" : Str)) = false := by decide)
    (hcd : (x == ("__classdict__" : Str)) = false := by decide) : PE X (.Name x pos) (tVar i) := pe_var hN hv hd hcd
end

/-! ### tests -/
theorem iteF {A B : Prop} (h : B) : if false = true then A else B := by
  rw [if_neg Bool.false_ne_true]
  exact h
theorem iteT {A B : Prop} (h : A) : if true = true then A else B := by
  rw [if_pos rfl]
  exact h
theorem ite2 {c A B : Prop} [Decidable c] (h1 : c → A) (h2 : ¬ c → B) : if c then A else B := by
  by_cases h : c
  · rw [if_pos h]
    exact h1 h
  · rw [if_neg h]
    exact h2 h
/-! ### heaps -/
/-- all that was tracked is as it was -/
def Same (H H' : Hp) : Prop := ∀ b o, H b = some o → H' b = some o
theorem Same.refl (H : Hp) : Same H H := fun _ _ h => h
theorem Same.trans {H H1 H2 : Hp} (a : Same H H1) (b : Same H1 H2) : Same H H2 := fun c o h => b c o (a c o h)
theorem Same.free {H H' : Hp} (e : Same H H') {l : Addr} (h : H' l = Option.none) : H l = Option.none := by
  cases q : H l with
  | none => rfl
  | some o =>
    rw [e l o q] at h
    cases h
theorem Same.seq {K : PySem.W.Frag} {H H' : Hp} {a : Addr} {xs : List V} (e : Same H H') (h : SqL K H a xs) : SqL K H' a xs := by
  rcases h with (h | ⟨o, h⟩) | h
  · exact .inl (.inl (e _ _ h))
  · exact .inl (.inr ⟨o, e _ _ h⟩)
  · exact .inr h

end L2

/-! Groves as data: a grove is nil, or a first tree (tag, what is within) and the others. Words with an end sl. -/
namespace FgM
end FgM

/-! RULES OF OUR OWN over the layer: isinstance, t[::-1], whole slices of tuples, extend by a tuple, text * int, == of data at any depth, calls of own defs in short. -/
namespace L2
open PySem PySem.Spec PyProof.Rows
theorem bt_list : bootBuiltins "list" = some (.type "list") := by decide +kernel
theorem bt_tuple : bootBuiltins "tuple" = some (.type "tuple") := by decide +kernel
theorem bt_str : bootBuiltins "str" = some (.type "str") := by decide +kernel
theorem bt_int : bootBuiltins "int" = some (.type "int") := by decide +kernel
theorem bt_bool : bootBuiltins "bool" = some (.type "bool") := by decide +kernel
theorem bt_max : bootBuiltins "max" = some (.builtin "max") := by decide +kernel
theorem bt_min : bootBuiltins "min" = some (.builtin "min") := by decide +kernel
theorem bt_isinstance : bootBuiltins "isinstance" = some (.builtin "isinstance") := by decide +kernel
section
variable {X : Cx}
/-- the name of a built-in type -/
theorem pe_ty {x : Str} {n : String} {pos : Pos} (hg : Gl X x) (hm : X.mg x = none) (hv : bootBuiltins x = some (.type n)) (hn : x ≠ "__name__" := by decide) (hd : (x == ("__debug__" : Str)) = false := by decide) : PE X (.Name x pos) (tC (.ty n)) :=
  pe_bltn (v := .ty n) hg hm hv rfl hn hd
/-- isinstance(x, T), T a built-in type -/
theorem call_isinst : CallR X (.builtin "isinstance") (fun xs H Q => ∃ x n t b, xs = [x, .ty n] ∧ TyOf X.K H x t ∧ PySem.W.kitOne X.K t (.type n) = some b ∧ Q (.bl b) H) := by
  intro pins s σ H xs us Q I r h
  obtain ⟨x, n, t, b, rfl, ty, e, q⟩ := h
  obtain ⟨u, v, rfl, rx, ry⟩ := Vals.two r
  obtain rfl : v = Value.type n := ry
  exact isinst_ok I rx ty e fun tk => ⟨.bl b, H, I.tok tk, rfl, q⟩
end
/-! ### calls of own defs -/
structure Has (P : Program) (w : World) (K : PySem.W.Frag) (mg : Str → Option Value) (base : Heap) (x : Str) (ps : List Str) (k : Nat) (sp : Sp) : Prop where
  ex : ∃ (f : Addr) (fd : FuncData), FnOk P w K mg base CX0 k f fd ps sp ∧ Binds K fd ps [] ∧ PySem.W.keepIn K (.ref f) = true ∧ mg x = some (.ref f)
section
variable {X : Cx} {x : Str} {ps : List Str} {j k : Nat} {sp : Sp} {e : Expr} {es : List Expr} {t : TA} {p pos : Pos}
theorem FnOk.room {P : Program} {w : World} {K : PySem.W.Frag} {mg : Str → Option Value} {base : Heap} {CX : CXT} {f : Addr} {fd : FuncData} (F : FnOk P w K mg base CX j f fd ps sp) (h : j ≤ k) : FnOk P w K mg base CX k f fd ps sp :=
  ⟨F.len, fun A outer s H args us vs Q E hr => F.run A outer s H args us vs Q E (hr.mono h)⟩
theorem pe_has (G : Has X.prog X.w X.K X.mg X.base x ps j sp) (hr : Room k X.A) (hg : Gl X x) (ha : PA X (e :: es) t) (hk : j ≤ k := by decide) (hdb : (x == ("__debug__" : Str)) = false := by decide)
    (he : starEach (e :: es) X.env = (false, eval e X.env) :: starEach es X.env := by rfl) (hpl : (backTo pos (starEach es X.env)).any (·.1) = false := by rfl) :
    PE X (.Call (.Name x p) (e :: es) [] pos) (tCall sp [] E0 t) := by
  obtain ⟨f, fd, F, b, kp, m⟩ := G.ex
  exact pe_call (F.room hk) hr hg m kp b .nil pass0 ha hdb he hpl
end
/-! ### extend by a tuple -/
/-! ### text * int -/
section
variable {X : Cx}
def repS (z : Str) (n : Nat) : Str := ⟨(List.replicate n z.cps).foldl (· ++ ·) #[]⟩
theorem repS_zero (z : Str) : repS z 0 = Str.empty := rfl
theorem foldl_app {α : Type} : ∀ (l : List (Array α)) (a : Array α), (l.foldl (· ++ ·) a).toList = a.toList ++ l.flatMap (·.toList)
  | [], a => by simp
  | x :: l, a => by rw [List.foldl_cons, foldl_app l]; simp
theorem repS_cps (z : Str) (n : Nat) : (repS z n).cps.toList = (List.replicate n z.cps.toList).flatten := by
  unfold repS
  rw [foldl_app]
  induction n with
  | zero => rfl
  | succ n ih =>
    rw [List.replicate_succ, List.replicate_succ, List.flatMap_cons, List.flatten_cons]
    simp at ih ⊢
    exact ih
theorem repS_one (z : Str) : repS z 1 = z := by
  cases z with
  | mk c => unfold repS; simp
theorem repS_len (z : Str) (n : Nat) : (repS z n).length = n * z.length := by
  show (repS z n).cps.size = n * z.cps.size
  rw [← Array.length_toList, repS_cps]
  simp
theorem op_mul_str : OpR X (binaryOp .Mult) (fun x y H Q => ∃ z k, x = .str z ∧ y = .int k ∧ -(2 ^ 63) ≤ k ∧ k < 2 ^ 63 ∧ k.toNat * z.length ≤ sizeLine ∧ Q (.str (repS z k.toNat)) H) := by
  intro pins s σ H x y v u Q I rx ry h
  obtain ⟨z, k, rfl, rfl, h1, h2, hz, q⟩ := h
  obtain ⟨t, rfl⟩ := rx
  obtain ⟨t', rfl⟩ := ry
  have hline := sizeLine_eq
  refine PySem.P.mul_str ?_ (fun hk hc => ?_) (fun hk hc => ?_) ?_
  · rw [decide_eq_false (by (first | lia | omega)), decide_eq_false (by (first | lia | omega))]
    rfl
  · intro hgt
    have hzk : (z.length : Int) * k ≤ (2 ^ 63 - 1) := by
      have : ((k.toNat * z.length : Nat) : Int) ≤ sizeLine := by exact_mod_cast hz
      rw [Int.natCast_mul, show ((k.toNat : Nat) : Int) = k by (first | lia | omega), Int.mul_comm] at this
      (first | lia | omega)
    have := (Int.le_ediv_iff_mul_le (by (first | lia | omega) : 0 < k)).mpr hzk
    (first | lia | omega)
  · unfold Builtin.Str.tooLong
    refine decide_eq_false ?_
    rw [Nat.mul_comm]
    (first | lia | omega)
  · by_cases c1 : k < 1
    · rw [if_pos c1]
      have e : k.toNat = 0 := by (first | lia | omega)
      rw [e, repS_zero] at q
      exact ⟨by decide, .str Str.empty, H, I.tok _, ⟨_, rfl⟩, q⟩
    · rw [if_neg c1]
      by_cases c2 : (k == 1 || z.length == 0) = true
      · rw [if_pos c2]
        have e : repS z k.toNat = z := by
          rw [Bool.or_eq_true] at c2
          rcases c2 with c2 | c2
          · have : k = 1 := eq_of_beq c2
            subst this
            exact repS_one z
          · have hz0 : z.length = 0 := eq_of_beq c2
            have a : (repS z k.toNat).cps.toList = z.cps.toList := by
              have l1 : (repS z k.toNat).cps.toList.length = 0 := by
                rw [Array.length_toList]
                have := repS_len z k.toNat
                rw [hz0, Nat.mul_zero] at this
                exact this
              have l2 : z.cps.toList.length = 0 := by
                rw [Array.length_toList]
                exact hz0
              rw [List.eq_nil_of_length_eq_zero l1, List.eq_nil_of_length_eq_zero l2]
            cases z with
            | mk c =>
              have b : (repS ⟨c⟩ k.toNat).cps = c := Array.toList_inj.mp a
              cases hr : repS ⟨c⟩ k.toNat with
              | mk d => rw [hr] at b; exact congrArg Str.mk b
        rw [e] at q
        exact ⟨.str z, H, I, ⟨_, rfl⟩, q⟩
      · rw [if_neg c2]
        refine ⟨?_, .str (repS z k.toNat), H, I.tok _, ⟨_, rfl⟩, q⟩
        have := repS_len z k.toNat
        show (repS z k.toNat).length ≤ sizeLine
        rw [this]
        exact hz
end
end L2
namespace HT
open PySem PyProof.Rows
section
variable {prog : Program} {w : World} {A : Around} {E : Value → Shared → Prop} {s : Shared}
/-- t[a:b], the whole: t itself -/
theorem getItem_tuple_whole {t sl : Addr} {items : Array Value} {vl vu : Value} {lo hi : Option Int} {Q : Value → Shared → Prop} (ht : IsTup s.heap t items) (hs : s.heap.IsSliceOf sl vl vu .none) (pl : IsPart vl lo) (pu : IsPart vu hi)
    (h1 : sIx items.size 0 lo = 0) (h2 : sIx items.size items.size hi = items.size) (h : Q (.ref t) s) : wpAny (model prog w) A (getItem (.ref t) (.ref sl)) Q E s := by
  obtain ⟨os, hos, hcs, hds⟩ := id hs
  have hTs : s.TypeIs (.ref sl) "slice" := ⟨os, hos, hcs⟩
  unfold getItem
  try with_reducible refine wpAny_holding ?_
  first | refine wpAny_bind (wpAny_pure ?_) | skip
  refine wpAny_bind (wpAny_sequenceKey ht.typeIs (by decide) ?_)
  refine wpAny_bind (wpAny_callSpecial?_slot (name := Str.ofString "__getitem__") ht.typeIs PyProof.Rows.slot_tuple_getitem
    (wpAny_call_entry PyProof.Rows.slot_tuple_getitem ht.typeIs entry_tuple_getitem ?_ (args_tuple_getitem _ _)))
  show wpAny _ _ (Builtin.Tuple.tupleItemsOf (.ref t) >>= _) _ _ s
  refine wpAny_bind (tupleItemsOf_ ht ?_)
  refine wpAny_bind (wpAny_typeOf hTs ?_)
  rw [if_pos (by decide)]
  refine wpAny_bind (sliceApplied_gen hs pl pu ?_)
  rw [h1, h2]
  have hyes : ((((0 : Nat) : Int) == 0 && (1 : Int) == 1 && (items.size - 0) == items.size) = true) := by simp
  show wpAny _ _ (if (((0 : Nat) : Int) == 0 && (1 : Int) == 1 && (items.size - 0) == items.size) = true then _ else _) _ _ s
  rw [if_pos hyes]
  refine wpAny_bind (m := Builtin.Tuple.tupleIsExact (.ref t)) ?_
  unfold Builtin.Tuple.tupleIsExact
  refine wpAny_bind (wpAny_typeOf ht.typeIs (wpAny_pure ?_))
  show wpAny _ _ (if ((Value.type "tuple") == .type "tuple") = true then _ else _) _ _ s
  rw [if_pos (by decide)]
  refine wpAny_bind (wpAny_rule ?_)
  first
    | exact wpAny_pure ⟨_, rfl, wpAny_pure h⟩
    | exact wpAny_bind (wpAny_pure (wpAny_pure ⟨_, rfl, wpAny_pure h⟩))
end
end HT

namespace L2
open PySem PySem.Spec PyProof.Rows
/-! ### == and != of data at any depth -/
mutual
inductive Dp (K : PySem.W.Frag) (H : Hp) : V → PyData → Prop
  | non : Dp K H .non .none
  | bl (b : Bool) : Dp K H (.bl b) (.bool b)
  | int (i : Int) : Dp K H (.int i) (.int i)
  | str (x : Str) : Dp K H (.str x) (.str x)
  | lst {a : Addr} {xs : List V} {ds : List PyData} : SqL K H a xs → DpAll K H xs ds → Dp K H (.ref a) (.list ds)
  | tup {a : Addr} {xs : List V} {ds : List PyData} : SqT K H a xs → DpAll K H xs ds → Dp K H (.ref a) (.tuple ds)
inductive DpAll (K : PySem.W.Frag) (H : Hp) : List V → List PyData → Prop
  | nil : DpAll K H [] []
  | cons {v : V} {vs : List V} {d : PyData} {ds : List PyData} : Dp K H v d → DpAll K H vs ds → DpAll K H (v :: vs) (d :: ds)
end
section
variable {X : Cx} {pins : List (Addr × Obj)} {σ : St} {H : Hp} {s : Shared}
mutual
theorem Dp.reads (I : Inv X pins σ H s) : ∀ {v : V} {d : PyData} {u : Value}, Dp X.K H v d → RelV v u → ∃ as, Reads s.heap u d as
  | _, _, u, .non, r => by
    obtain rfl : u = Value.none := r
    exact ⟨_, .none⟩
  | _, _, u, .bl b, r => by
    obtain rfl : u = Value.bool b := r
    exact ⟨_, .bool b⟩
  | _, _, _, .int i, ⟨t, e⟩ => by
    subst e
    exact ⟨_, .int i t⟩
  | _, _, _, .str x, ⟨t, e⟩ => by
    subst e
    exact ⟨_, .str x t⟩
  | _, _, u, @Dp.lst _ _ a xs ds hq hall, r => by
    obtain rfl : u = Value.ref a := r
    obtain ⟨its, rv, ⟨o, n, e, hc, _, hd⟩, _⟩ := I.list hq
    obtain ⟨as, ha⟩ := DpAll.reads I hall rv
    exact ⟨_, .list e hc hd (by simpa using ha)⟩
  | _, _, u, @Dp.tup _ _ a xs ds hq hall, r => by
    obtain rfl : u = Value.ref a := r
    obtain ⟨its, rv, ⟨o, e, hc, n, hd⟩, _⟩ := I.tuple hq
    obtain ⟨as, ha⟩ := DpAll.reads I hall rv
    exact ⟨_, .tuple e hc hd (by simpa using ha)⟩
theorem DpAll.reads (I : Inv X pins σ H s) : ∀ {vs : List V} {ds : List PyData} {us : List Value}, DpAll X.K H vs ds → Vals vs us → ∃ as, ReadsAll s.heap us ds as
  | _, _, _, .nil, .nil => ⟨_, .nil⟩
  | _, _, _, .cons h t, .cons r rs => by
    obtain ⟨as, ha⟩ := Dp.reads I h r
    obtain ⟨bs, hb⟩ := DpAll.reads I t rs
    exact ⟨_, .cons ha hb⟩
end
end
section
variable {X : Cx}
def rEqD (K : PySem.W.Frag) (neg : Bool) : R2 := fun x y H Q => ∃ d e, Dp K H x d ∧ Dp K H y e ∧ d.canLay0 = true ∧ e.canLay0 = true ∧ min d.depth e.depth ≤ 200 ∧ Q (.bl (if neg then !PyData.eqv d e else PyData.eqv d e)) H
theorem op_eqD (hu : X.A.units + 200 < cLine) : OpR X (compareOp .Eq) (rEqD X.K false) := by
  intro pins s σ H x y v u Q I rx ry h
  obtain ⟨d, e, hx, hy, h1, h2, hd, q⟩ := h
  obtain ⟨as, ra⟩ := hx.reads I rx
  obtain ⟨bs, rb⟩ := hy.reads I ry
  exact PySem.SeqAt.compareEq_reads ra rb h1 h2 (by (first | lia | omega)) ⟨.bl _, H, I, rfl, q⟩
theorem op_neD (hu : X.A.units + 200 < cLine) : OpR X (compareOp .NotEq) (rEqD X.K true) := by
  intro pins s σ H x y v u Q I rx ry h
  obtain ⟨d, e, hx, hy, h1, h2, hd, q⟩ := h
  obtain ⟨as, ra⟩ := hx.reads I rx
  obtain ⟨bs, rb⟩ := hy.reads I ry
  exact PySem.SeqAt.compareNe_reads ra rb h1 h2 (by (first | lia | omega)) ⟨.bl _, H, I, rfl, q⟩
end
/-! ### t[::-1], slices of tuples whole or not -/
section
variable {X : Cx} {e : Expr} {te : TE} {pos p2 p3 p4 : Pos} {j : Nat}
def rSlTW (K : PySem.W.Frag) : V → Option Int → Option Int → Hp → VK → Prop := fun x lo hi H Q => ∃ a xs, x = .ref a ∧ SqT K H a xs ∧
  ((HT.sIx xs.length 0 lo = 0 ∧ HT.sIx xs.length xs.length hi = xs.length) → Q (.ref a) H) ∧ ∀ p, H p = none → Q (.ref p) (upd H p (.tup (cutV xs lo hi)))
theorem sl_tupW : SlR X (rSlTW X.K) := by
  intro pins s σ H x v vl vu lo hi sl Q I rx hs pl pu h
  obtain ⟨a, xs, rfl, hx, q1, q2⟩ := h
  by_cases c : HT.sIx xs.length 0 lo = 0 ∧ HT.sIx xs.length xs.length hi = xs.length
  · cases rx
    obtain ⟨its, r, ht, hz⟩ := I.tuple hx
    have hlen : its.toArray.size = xs.length := by rw [List.size_toArray]; exact r.length.symm
    refine ⟨"tuple", _, PyProof.Rows.slot_tuple_getitem.lookup, ht.typeIs, ?_⟩
    exact HT.getItem_tuple_whole ht hs pl pu (by rw [hlen]; exact c.1) (by rw [hlen]; exact c.2) ⟨.ref a, H, I, rfl, q1 c⟩
  · exact sl_tup pins s σ H (.ref a) v vl vu lo hi sl Q I rx hs pl pu ⟨a, xs, rfl, hx, c, q2⟩
end
/-! ### heaps: tuples are kept -/
/-- what is no list that may change: the tuples stay -/
def TK (H H' : Hp) : Prop := ∀ b xs, H b = some (.tup xs) → H' b = some (.tup xs)
theorem TK.trans {H H1 H2 : Hp} (a : TK H H1) (b : TK H1 H2) : TK H H2 := fun c xs h => b c xs (a c xs h)
theorem TK.new {H : Hp} {p : Addr} {o : HO} (h : H p = none) : TK H (upd H p o) := fun b xs q => by
  rw [upd_ne (ne_of_none q h)]
  exact q
theorem TK.lst {H : Hp} {p : Addr} {xs : List V} {o : HO} (h : H p = some (.lst xs)) : TK H (upd H p o) := fun b ys q => by
  by_cases e : b = p
  · subst e
    rw [h] at q
    cases q
  · rw [upd_ne e]
    exact q
theorem Same.tk {H H' : Hp} (h : Same H H') : TK H H' := fun b xs q => h b _ q
theorem Same.new {H : Hp} {p : Addr} {o : HO} (h : H p = none) : Same H (upd H p o) := fun b u q => by
  rw [upd_ne (ne_of_none q h)]
  exact q
theorem Same.upd_new {H H' : Hp} {p : Addr} {o : HO} (h : Same H H') (hp : H p = none) : Same H (upd H' p o) := fun b u q => by
  rw [upd_ne (ne_of_none q hp)]
  exact h b u q
end L2
namespace L2
open PySem PySem.Spec PyProof.Rows
theorem upd_none {H : Hp} {p b : Addr} {o : HO} (h : upd H p o b = none) : b ≠ p ∧ H b = none := by
  by_cases e : b = p
  · subst e
    rw [upd_same] at h
    cases h
  · rw [upd_ne e] at h
    exact ⟨e, h⟩
end L2
namespace L2
open PySem PySem.Spec PyProof.Rows
end L2
namespace L2
open PySem PySem.Spec PyProof.Rows
section
variable {X : Cx}
/-- t[lo:hi] of a tuple that is tracked, whole or not -/
def rSlTU : V → Option Int → Option Int → Hp → VK → Prop := fun x lo hi H Q => ∃ a xs, x = .ref a ∧ H a = some (.tup xs) ∧ ∀ p H', Same H H' → H' p = some (.tup (cutV xs lo hi)) → Q (.ref p) H'
theorem sl_tupU : SlR X rSlTU := by
  intro pins s σ H x v vl vu lo hi sl Q I rx hs pl pu h
  obtain ⟨a, xs, rfl, hx, q⟩ := h
  refine sl_tupW pins s σ H (.ref a) v vl vu lo hi sl Q I rx hs pl pu ⟨a, xs, rfl, SqT.of hx, fun c => q a H (Same.refl H) ?_, fun p hp => q p _ (Same.new hp) upd_same⟩
  rw [hx]
  unfold cutV
  rw [c.1, c.2, List.drop_zero, Nat.sub_zero, List.take_length]
end
end L2
namespace L2
end L2

namespace L2
open PySem PySem.Spec PyProof.Rows
theorem Paired.app {α β : Type} {F : α → β → Prop} : ∀ {l₁ k₁ : List α} {l₂ k₂ : List β}, Paired F l₁ l₂ → Paired F k₁ k₂ → Paired F (l₁ ++ k₁) (l₂ ++ k₂)
  | _, _, _, _, .nil, s => s
  | _, _, _, _, .cons r t, s => .cons r (Paired.app t s)
theorem snoc_last {α : Type} (l : List α) (a : α) : (l ++ [a])[(l ++ [a]).length - 1]? = some a := by
  simp
theorem snoc_drop {α : Type} (l : List α) (a : α) : (l ++ [a]).dropLast = l := by
  simp
end L2
namespace Fg
open PySem L2 FgM
/-- small letters, one or more -/
def Lets (t : Str) : Prop := t.cps.toList ≠ [] ∧ ∀ c ∈ t.cps.toList, 97 ≤ c ∧ c ≤ 122
def Let0 (t : Str) : Prop := ∀ c ∈ t.cps.toList, 97 ≤ c ∧ c ≤ 122
theorem app_cps (x y : Str) : (x ++ y).cps.toList = x.cps.toList ++ y.cps.toList := by
  show (x.cps ++ y.cps).toList = _
  simp
theorem let0_app {x y : Str} (hx : Let0 x) (hy : Let0 y) : Let0 (x ++ y) := fun c hc => by
  rw [app_cps] at hc
  exact (List.mem_append.mp hc).elim (hx c) (hy c)
theorem let0_rep {x : Str} (hx : Let0 x) (n : Nat) : Let0 (repS x n) := fun c hc => by
  rw [repS_cps] at hc
  obtain ⟨l, hl, hc⟩ := List.mem_flatten.mp hc
  rw [(List.mem_replicate.mp hl).2] at hc
  exact hx c hc
theorem Lets.let0 {t : Str} (h : Lets t) : Let0 t := h.2
theorem lets_l {x y : Str} (hx : Lets x) (hy : Let0 y) : Lets (x ++ y) := ⟨by rw [app_cps]; intro z; exact hx.1 (List.append_eq_nil_iff.mp z).1, let0_app hx.2 hy⟩
theorem lets_one {c : Nat} (h1 : 97 ≤ c) (h2 : c ≤ 122) : Lets ⟨#[c]⟩ := ⟨by simp, fun d hd => by simp at hd; (first | lia | omega)⟩
theorem Let0.ok {t : Str} (h : Let0 t) : PyData.strOk t = true := by
  unfold PyData.strOk
  rw [Array.all_eq_true_iff_forall_mem]
  intro c hc
  have := h c (by simpa using hc)
  exact decide_eq_true (by (first | lia | omega))
def ABC : Str := "abcdefghijklmnopqrstuvwxyz"
theorem abc_all : ∀ n : _root_.Fin 26, 97 ≤ ABC.cps.toList.getD n.val 0 ∧ ABC.cps.toList.getD n.val 0 ≤ 122 ∧ n.val < ABC.cps.toList.length := by decide
theorem abc_at {i : Int} (h0 : 0 ≤ i) (h1 : i < 26) : ∃ c, atI ABC.cps.toList i = some c ∧ 97 ≤ c ∧ c ≤ 122 := by
  obtain ⟨n, rfl⟩ := Int.eq_ofNat_of_zero_le h0
  obtain ⟨a, b, c⟩ := abc_all ⟨n, by (first | lia | omega)⟩
  refine ⟨_, atI_nat (List.getElem?_eq_getElem c), ?_, ?_⟩
  · rw [List.getD_eq_getElem?_getD, List.getElem?_eq_getElem c] at a
    exact a
  · rw [List.getD_eq_getElem?_getD, List.getElem?_eq_getElem c] at b
    exact b
theorem ints_at {ns : List Int} {k : Int} (h0 : 0 ≤ k) (h : k < (ns.length : Int)) : ∃ v : Int, atI (ns.map V.int) k = some (.int v) := by
  obtain ⟨n, rfl⟩ := Int.eq_ofNat_of_zero_le h0
  have hn : n < ns.length := by (first | lia | omega)
  exact ⟨ns[n], atI_nat (by rw [List.getElem?_map, List.getElem?_eq_getElem hn]; rfl)⟩
theorem strs_at {ws : List Str} {n : Nat} (h : n < ws.length) : atI (ws.map V.str) ((n : Nat) : Int) = some (.str ws[n]) := atI_nat (by rw [List.getElem?_map, List.getElem?_eq_getElem h]; rfl)
end Fg

namespace Fg
open PySem L2 FgM
/-! ### what the laws' own helpers promise -/
/-- script[k], or 0: some int -/
def spCell (K : PySem.W.Frag) : Sp := fun vs H Q _ => ∃ (a : Addr) (ns : List Int) (k : Int), vs = [.ref a, .int k] ∧ SqL K H a (ns.map V.int) ∧ ns.length ≤ 63 ∧ 0 ≤ k ∧ ∀ v : Int, Q (.int v) H
def spLaw (K : PySem.W.Frag) : Sp := fun vs H Q _ => ∃ (a : Addr) (ns : List Int), vs = [.ref a] ∧ SqL K H a (ns.map V.int) ∧ ns.length ≤ 63 ∧ ∀ H', Q (.bl true) H'
theorem len1000 {n : Nat} (h : n ≤ 100000) : n ≤ sizeLine := Nat.le_trans h (by decide)
theorem len1000' {n : Nat} (h : n ≤ 100000) : n < sizeLine := Nat.lt_of_le_of_lt h (by decide)
end Fg
namespace Fg
open PySem L2 FgM
theorem app_len (x y : Str) : (x ++ y).length = x.length + y.length := by
  show (x.cps ++ y.cps).size = _
  rw [Array.size_append]
  rfl
end Fg
namespace Fg
open PySem L2 FgM
theorem max_pos (j : Int) : (0 : Int) < if j > 1 then j else 1 := by
  split
  · rename_i h
    exact Int.lt_trans (by decide) h
  · decide
end Fg
namespace Fg
open PySem L2 FgM
theorem cut_from (xs : List V) (n : Nat) : cutV xs (some (n : Int)) none = xs.drop n := by
  unfold cutV
  rw [HT.sIx_nat, HT.sIx_none]
  rw [List.take_of_length_le (by rw [List.length_drop]; exact Nat.le_refl _)]
  by_cases h : n ≤ xs.length
  · rw [Nat.min_eq_left h]
  · rw [Nat.min_eq_right (by (first | lia | omega)), List.drop_length, List.drop_eq_nil_of_le (by (first | lia | omega))]
end Fg
namespace Fg
open PySem L2 FgM
def spWhole : Sp := fun vs H Q _ => ∃ i : Int, vs = [.int i] ∧ Q (.bl true) H
theorem cut_upto (xs : List V) (n : Nat) : cutV xs none (some (n : Int)) = xs.take n := by
  unfold cutV
  rw [HT.sIx_nat, HT.sIx_none, List.drop_zero, Nat.sub_zero]
  by_cases h : n ≤ xs.length
  · rw [Nat.min_eq_left h]
  · rw [Nat.min_eq_right (by (first | lia | omega)), List.take_length, List.take_of_length_le (by (first | lia | omega))]
end Fg

namespace L2
open PySem PySem.Spec PyProof.Rows
end L2
namespace Fg
open PySem L2 FgM
/-! ### groves as texts -/
/-! ### what the laws want of texts -/
end Fg

/-! Texts: their signs walked, cut and compared; all(..) of truths; the comprehension of a tag's test. -/
namespace L2
open PySem PySem.Spec PyProof.Rows
section
variable {P : Program} {w : World} {H : Hp} {h h' : Heap} {a : Addr} {o : HO}
theorem ObjOk.there (x : ObjOk P w H h a o) : ∃ ob, h.get? a = some ob := by
  cases o with
  | lst xs => obtain ⟨_, _, _, _, e⟩ := x; exact ⟨_, e⟩
  | tup xs => obtain ⟨_, _, _, ob, e, _⟩ := x; exact ⟨_, e⟩
  | dK kvs => obtain ⟨_, _, _, _, ob, _, _, e, _⟩ := x; exact ⟨_, e⟩
  | dT kvs => obtain ⟨_, _, _, _, ob, _, _, e, _⟩ := x; exact ⟨_, e⟩
  | set S n => obtain ⟨ob, _, _, _, e, _⟩ := x; exact ⟨_, e⟩
  | ins C dx fs => obtain ⟨_, _, _, e, _⟩ := x; exact ⟨_, e⟩
  | own y => obtain ⟨_, e⟩ := x; exact ⟨_, e⟩
  | xd fs => obtain ⟨_, ⟨_, _, _, e, _⟩, _⟩ := x; exact ⟨_, e⟩
  | rng lo hi => obtain ⟨_, _, _, e⟩ := x; exact ⟨_, e⟩
  | frz ob u => obtain ⟨e, _⟩ := x; exact ⟨_, e⟩
  | tbl ps => exact ⟨_, (show h.get? a = some _ from x)⟩
  | met f y => exact ⟨_, (show h.get? a = some _ from x)⟩
  | ext φ => obtain ⟨_, ⟨_, e⟩, _⟩ := x; exact ⟨_, e⟩
theorem HOk.freshN (x : HOk P w H h) (e : h.get? a = none) : H a = none := by
  cases q : H a with
  | none => rfl
  | some u =>
    obtain ⟨ob, e'⟩ := (x a u q).there
    rw [e] at e'
    cases e'
end
section
variable {X : Cx} {pins : List (Addr × Obj)} {σ : St} {H : Hp} {s : Shared} {h' : Heap}
/-- a new object laid at an address where none stood -/
theorem Inv.laidN {a : Addr} {o : HO} {t' : Nat} (I : Inv X pins σ H s) (k : ∀ b u, s.heap.get? b = some u → h'.get? b = some u) (hp : s.heap.get? a = none) (new : ObjOk X.prog X.w (upd H a o) h' a o) :
    Inv X pins σ (upd H a o) { s with heap := h', toks := t' } := by
  have hn := I.hok.freshN hp
  have ne : ∀ b u, s.heap.get? b = some u → b ≠ a := fun b u e z => by
    rw [z, hp] at e
    cases e
  refine I.un ⟨fun b u q _ _ _ => k b u q, fun b u q _ _ _ => ⟨u.slots, k b u q⟩, fun b u q n _ => by rw [upd_ne (ne b u q)]; exact n, fun b u q _ => ⟨u, k b u q⟩,
    fun b xs q => by rw [upd_ne (ne_of_none q hn)]; exact q, fun b u xs q => by rw [upd_ne (ne_of_none q hn)]; exact q, fun b ps q => ⟨#[], by rw [upd_ne (ne_of_none q hn), q]; simp⟩⟩ fun b u e => ?_
  by_cases hb : b = a
  · subst hb
    rw [upd_same] at e
    cases e
    exact new
  · rw [upd_ne hb] at e
    exact (I.hok b u e).stay (fun c v _ q => k c v q) (fun c q => by rw [upd_ne (ne_of_none q hn)]; exact q) fun c xs q => by rw [upd_ne (ne_of_none q hn)]; exact q
end
/-! ### for x in text -/
/-! ### all(..), texts compared and cut -/
section
variable {X : Cx}
theorem boolsGet : ∀ {bs : List Bool} {us : List Value}, Vals (bs.map V.bl) us → ∀ (i : Nat) (v : Value), us[i]? = some v → ∃ b, bs[i]? = some b ∧ v = .bool b
  | [], _, .nil, i, v, e => by simp at e
  | b :: bs, _, .cons r t, 0, v, e => by
    obtain rfl : _ = Value.bool b := r
    simp at e
    exact ⟨b, rfl, e.symm⟩
  | b :: bs, _, .cons r t, i + 1, v, e => by
    obtain ⟨c, h1, h2⟩ := boolsGet t i v (by simpa using e)
    exact ⟨c, by simpa using h1, h2⟩
theorem all_range : ∀ (bs : List Bool), ((List.range bs.length).all fun i => (bs[i]?).getD true) = bs.all id := by
  intro bs
  rw [Bool.eq_iff_iff, List.all_eq_true, List.all_eq_true]
  constructor
  · intro h b hb
    obtain ⟨i, hi, rfl⟩ := List.getElem_of_mem hb
    have := h i (List.mem_range.mpr hi)
    rw [List.getElem?_eq_getElem hi] at this
    exact this
  · intro h i hi
    have hi' := List.mem_range.mp hi
    rw [List.getElem?_eq_getElem hi']
    exact h _ (List.getElem_mem hi')
theorem call_all (hc : X.calm = true) : CallR X (.builtin "all") (fun xs H Q => ∃ (p : Addr) (bs : List Bool), xs = [.ref p] ∧ SqL X.K H p (bs.map V.bl) ∧ Q (.bl (bs.all id)) H) := by
  intro pins s σ H xs us Q I r h
  obtain ⟨p, bs, rfl, hS, q⟩ := h
  obtain ⟨u, rfl, ru⟩ := Vals.one r
  cases ru
  obtain ⟨its, rv, pl, hz⟩ := I.list hS
  have hl := pl.isList
  have hlen : bs.length = its.length := by
    have := rv.length
    rw [List.length_map] at this
    exact this
  refine call_all_walk (wpAny_pyIter_list hl ⟨s.heap.objs.size, [s.heap.objs.size, p], [s.heap.objs.size], its.toArray.size, _, _, fun i => (bs[i]?).getD true, rfl,
    Walks.list (A := X.A.in1) (I.ok.hd hc) _ p (Nat.ne_of_lt pl.lt) its.toArray, ⟨⟨_, Heap.get?_push_size _ rfl, rfl, rfl⟩, hl.push _⟩, fun i v s' Q' E' hP hQ => ?_, fun h' tk hk => ?_⟩)
  · obtain ⟨b, e, e2⟩ := boolsGet rv i v (by simpa using hP)
    subst e2
    simp only [e, Option.getD_some] at hQ
    exact wpAny_truthy_bool hQ
  · rw [List.size_toArray, ← hlen, all_range]
    refine ⟨.bl _, H, I.kept (t' := tk) fun b o e => hk b o (fun hm => ?_) (Heap.get?_push_of_some _ e), rfl, q⟩
    rw [List.mem_singleton.mp hm] at e
    exact Nat.lt_irrefl _ (Heap.lt_size e)
end
/-! ### ['a' <= x <= 'z' for x in text] -/
def azB (c : Nat) : Bool := decide (97 ≤ c) && decide (c ≤ 122)
theorem lt_one (a b : Nat) : decide (([a] : List Nat) < [b]) = decide (a < b) := by
  have h : (([a] : List Nat) < [b]) ↔ a < b := by
    constructor
    · intro h
      cases h with
      | rel h => exact h
      | cons h => cases h
    · intro h
      exact List.Lex.rel h
  exact decide_eq_decide.mpr h
section
variable {prog : Program} {w : World} {A : Around} {E : Value → Shared → Prop} {s : Shared}
theorem le_az {x y : Str} {t u : Tok} {Q : Value → Shared → Prop} (h : Q (.bool (!decide (y.cps.toList < x.cps.toList))) s) : wpAny (model prog w) A (compareOp .LtE (.str x t) (.str y u)) Q E s := PySem.P.le_str h
theorem ld_az {s₂ : Shared} {C : Addr} {m : Str → Option Value} {sc : Scope} {env : Env} {n : Str} {pos : Pos} {v : Value} {Q : Value → Shared → Prop} (x : InComp s₂ C m s) (hk : sc.kind = .function) (hl : sc.names.lookup n = some .local)
    (hv : m n = some v) (hd : (n == ("__debug__" : Str)) = false) (h : Q v s) : wpAny (model prog w) A (eval (.Name n pos) (compEnv sc C env)) Q E s := PySem.ldK x hk hl hv h hd
theorem elt_az {scope : Scope} {C : Addr} {env : Env} {m : Str → Option Value} {x : Str} {c : Nat} {u : Tok} {j j2 : Nat} {p1 p2 p3 pos : Pos} (hk : scope.kind = .function) (hx : scope.names.lookup x = some .local) (hd : (x == ("__debug__" : Str)) = false)
    (hn : s.heap.Ns C m) (hm : m x = some (.str ⟨#[c]⟩ u)) :
    wpAny (model prog w) A (eval (.Compare (.Constant (.str "a") j p1) [.LtE, .LtE] [.Name x p2, .Constant (.str "z") j2 p3] pos) (compEnv scope C env)) (fun r s' => r = .bool (azB c) ∧ Keeps s s') E s := by
  have I0 := (InComp.start hn).tok (s.toks + 1)
  have ea : ("a" : Str).cps.toList = [97] := by decide +kernel
  have ez : ("z" : Str).cps.toList = [122] := by decide +kernel
  have e1 : decide (([c] : List Nat) < [97]) = decide (c < 97) := lt_one c 97
  have e2 : decide (([122] : List Nat) < [c]) = decide (122 < c) := lt_one 122 c
  refine Compare_chain (Calls.Constant_str ?_)
  refine chain_link ?_
  refine ld_az I0 hk hx hm hd ?_
  refine le_az ?_
  rw [ea]
  show wpAny (model prog w) A (truthy (.bool (!decide (([c] : List Nat) < [97])))) _ _ _
  rw [e1]
  refine wpAny_truthy_bool ?_
  by_cases h1 : c < 97
  · rw [decide_eq_true h1]
    refine ite_ff ⟨?_, I0.done⟩
    unfold azB
    rw [decide_eq_false (by (first | lia | omega) : ¬ 97 ≤ c)]
    rfl
  · rw [decide_eq_false h1]
    refine ite_tt ?_
    refine chain_last ?_
    refine Calls.Constant_str ?_
    refine le_az ?_
    rw [ez]
    refine ⟨?_, (I0.tok _).done⟩
    show Value.bool (!decide (([122] : List Nat) < [c])) = _
    rw [e2]
    unfold azB
    rw [decide_eq_true (by (first | lia | omega) : 97 ≤ c)]
    by_cases h2 : c ≤ 122
    · rw [decide_eq_true h2, decide_eq_false (by (first | lia | omega))]
      rfl
    · rw [decide_eq_false h2, decide_eq_true (by (first | lia | omega))]
      rfl
end
theorem azVals : ∀ {cs : List Nat} {vs us : List Value}, (∀ (j : Nat) (v : Value), vs[j]? = some v → ∃ (c : Nat) (u : Tok), cs[j]? = some c ∧ v = Value.str ⟨#[c]⟩ u) → vs.length = cs.length → Paired (fun v r => ∃ c u, v = Value.str ⟨#[c]⟩ u ∧ r = Value.bool (azB c)) vs us →
    Vals (cs.map fun c => .bl (azB c)) us
  | [], [], _, _, _, .nil => .nil
  | [], v :: vs, _, _, h, _ => by simp at h
  | c :: cs, [], _, _, h, _ => by simp at h
  | c :: cs, v :: vs, _, hP, hl, .cons hr t => by
    obtain ⟨c', u', e1, e2⟩ := hP 0 v rfl
    obtain ⟨c2, u2, e3, e4⟩ := hr
    simp at e1
    subst e1
    rw [e2] at e3
    injection e3 with e5 _
    injection e5 with e6
    simp at e6
    subst e6
    refine .cons e4 (azVals (fun j v hv => ?_) (by simpa using hl) t)
    obtain ⟨c3, u3, f1, f2⟩ := hP (j + 1) v (by simpa using hv)
    exact ⟨c3, u3, by simpa using f1, f2⟩
section
variable {X : Cx} {iter : Expr} {te : TE} {scope : Scope} {x : Str} {px p1 p2 p3 p4 pos : Pos} {j j2 : Nat}
theorem pe_comp_az (hi : PE X iter te) (hc : X.calm = true) (hfree : ∀ y ∈ scope.names, y.2 ≠ .free) (hcell : ∀ y ∈ scope.names, y.2 ≠ .cell) (hk : scope.kind = .function)
    (hnames : ∀ y ∈ scope.names, y.2 = .local → scope.names.lookup y.1 = some .local) (hx : scope.names.lookup x = some .local) (hd : (x == ("__debug__" : Str)) = false) (hs : ∀ v, foldedSetIterable iter X.env v = pure v) :
    PE X (.ListComp (.Compare (.Constant (.str "a") j p1) [.LtE, .LtE] [.Name x p2, .Constant (.str "z") j2 p3] p4) [⟨.Name x px, iter, [], 0⟩] scope pos)
      (fun σ H Q => te σ H fun v H1 => ∃ z, v = .str z ∧ z.length ≤ sizeLine ∧ ∀ p, H1 p = none → Q (.ref p) (upd H1 p (.lst (z.cps.toList.map fun c => .bl (azB c))))) := by
  intro pins s σ H Q I h
  refine wpAny_ListComp_walk (fun _ => true) (fun v r => ∃ c u, v = Value.str ⟨#[c]⟩ u ∧ r = Value.bool (azB c)) hfree hcell hk hnames hx (thn (hi pins s σ H _ I h) fun v s1 ⟨xv, H1, I1, r1, q1⟩ => ?_) hs
  obtain ⟨z, rfl, hz, q⟩ := q1
  obtain ⟨t, rfl⟩ := r1
  refine wpAny_pyIter_str fun o St W hst => ⟨s1.heap.objs.size, [s1.heap.objs.size], [s1.heap.objs.size], z.cps.size, SignAt z, St, rfl, W X.A (I1.ok.hd hc), hz, hst, fun b hb => ?_, ⟨?_, ?_⟩, ?_⟩
  · show b < (s1.heap.push o).objs.size
    rw [Heap.size_push, List.mem_singleton.mp hb]
    exact Nat.lt_succ_self _
  · intro C i v s3 m3 E' hP hn hm _ _
    exact wpAny_pure ⟨rfl, (InComp.start hn).done⟩
  · intro C i v s3 m3 E' hP hp hn hm _ _
    obtain ⟨c, u, _, e⟩ := hP
    subst e
    exact wpAny_mono (elt_az hk hx hd hn hm) (fun r s4 h4 => ⟨⟨c, u, rfl, h4.1⟩, h4.2⟩) fun _ _ e => e
  · intro D h' tk ys vs hnew hlD hplD hlen hP hF hkp
    have hF' : Paired (fun v r => ∃ c u, v = Value.str ⟨#[c]⟩ u ∧ r = Value.bool (azB c)) vs ys.toList := by
      rw [List.filter_eq_self.mpr (fun _ _ => rfl)] at hF
      exact hF
    have hV := azVals (cs := z.cps.toList) (fun j v hv => by
      obtain ⟨c, u, e1, e2⟩ := hP j v hv
      exact ⟨c, u, by rw [Array.getElem?_toList]; exact e1, e2⟩) (by rw [hlen, Array.length_toList]) hF'
    have up : ∀ b ob, s1.heap.get? b = some ob → h'.get? b = some ob := fun b ob e => hkp b ob (fun hm => by
      rw [List.mem_singleton.mp hm] at e
      exact Nat.lt_irrefl _ (Heap.lt_size e)) (Heap.get?_push_of_some _ e)
    have hD : s1.heap.get? D = none := by
      cases e : s1.heap.get? D with
      | none => rfl
      | some ob =>
        rw [Heap.get?_push_of_some _ e] at hnew
        cases hnew
    obtain ⟨nD, eD⟩ := hplD
    refine ⟨.ref D, _, I1.laidN (a := D) (o := .lst (z.cps.toList.map fun c => .bl (azB c))) (t' := tk) up hD ⟨?_, ys.toList, nD, hV, by rw [Array.toArray_toList]; exact eD⟩, rfl, q D (I1.hok.freshN hD)⟩
    rw [List.length_map, Array.length_toList]
    exact hz
end
end L2

namespace L2
open PySem
theorem bt_all : bootBuiltins "all" = some (.builtin "all") := by decide +kernel
end L2
namespace Fg
open PySem L2 FgM
def tagB (z : Str) : Bool := decide (1 ≤ z.length) && decide (z.length ≤ 8) && z.cps.toList.all azB
def spIsTag : Sp := fun vs H Q _ => ∃ z : Str, vs = [.str z] ∧ z.length ≤ 100000 ∧ ∀ H', Same H H' → Q (.bl (tagB z)) H'
end Fg

/-! for i, x in enumerate(xs) -/
namespace L2
open PySem PySem.Spec PyProof.Rows
end L2

/-! [elt for tg in iter]: the block as a context of its own -/
namespace L2
open PySem PySem.Spec PyProof.Rows
section
variable {prog : Program} {w : World} {A : Around} {s : Shared} {R : Result → Shared → Prop}
abbrev no0 : Value → Shared → Prop := fun _ _ => False
theorem comp_loop0 {elt target iter : Expr} {scope : Scope} {pos : Pos} {it acc : Value} {env : Env} (I : Nat → Shared → Prop)
    (turn : ∀ n s, I n s → wpAny (model prog w) A (pyNext it) (fun r s1 => match r with
      | none => R (.ok .next) s1
      | some v => wpAny (model prog w) A (letOwnedTupleGo target it v) (fun _ s2 => wpAny (model prog w) A (assign target env v) (fun _ s3 => wpAny (model prog w) A (eval elt env) (fun x s4 =>
          wpAny (model prog w) A (call (.builtin "list.append") [acc, x]) (fun _ s5 => ∃ m, m < n ∧ I m s5) no0 s4) no0 s3) no0 s2) no0 s1) no0 s)
    (n : Nat) (h : I n s) : codeAny (model prog w) A (.compLoop (.ListComp elt [⟨target, iter, [], 0⟩] scope pos) 0 it acc env) R s := by
  refine codeAny_loop rfl I (fun n s hI => ?_) n h
  show wpAny _ _ ((compTurn (.ListComp elt [⟨target, iter, [], 0⟩] scope pos) 0 it acc env).onRaise (fun x => do noteFrame x env; theTreesLotGoes x)) _ _ s
  refine wpAny_noted ?_
  rw [compTurn_list1]
  refine wpAny_bind (wpAny_standAt (wpAny_bind (wpAny_mono (turn n s hI) (fun r s1 h1 => ?_) fun _ _ h' => h'.elim)))
  cases r with
  | none => exact wpAny_pure h1
  | some v =>
    refine wpAny_bind (wpAny_mono h1 (fun _ s2 h2 => ?_) fun _ _ h' => h'.elim)
    refine wpAny_bind (wpAny_mono h2 (fun _ s3 h3 => ?_) fun _ _ h' => h'.elim)
    refine wpAny_bind (wpAny_bind (wpAny_mono h3 (fun x s4 h4 => ?_) fun _ _ h' => h'.elim))
    exact wpAny_bind (wpAny_mono h4 (fun _ s5 h5 => wpAny_pure (wpAny_pure ⟨rfl, h5⟩)) fun _ _ h' => h'.elim)
end
/-- the context of a comprehension's block: its frame at C, the cells cl of captured names, the iterator's records fp -/
def cxComp (X : Cx) (N : List Str) (scope : Scope) (cl : List (Str × Addr)) (C : Addr) (fp : List Addr) (s : Shared) (H : Hp) : Cx where
  prog := X.prog
  w := X.w
  K := X.K
  mg := X.mg
  base := X.base
  A := X.A
  N := N
  s₀ := s
  H₀ := H
  env := compEnvC scope cl C X.env
  outer := X.stack
  stack := X.stack
  ex := fp
  fn := fun _ => false
  calm := X.calm
  pn := []
  xe := no0
section
variable {X : Cx} {pins : List (Addr × Obj)} {σ : St} {H : Hp} {s : Shared}
theorem cxComp_ok {N : List Str} {scope : Scope} {cl : List (Str × Addr)} {C : Addr} {fp : List Addr} (I : Inv X pins σ H s) (hk : scope.kind = .function) (hC : s.heap.objs.size ≤ C) (hcl : ∀ x c, cl.lookup x = some c → X.env.cells.lookup x = some c)
    (hhas : ∀ x, ((compEnvC scope cl C X.env).kindOf x = some .cell ∨ (compEnvC scope cl C X.env).kindOf x = some .free) → ∃ c, cl.lookup x = some c)
    (hf : ∀ b ∈ fp, FpOk X pins H b) (hlt : ∀ b ∈ fp, b < s.heap.objs.size) : (cxComp X N scope cl C fp s H).Ok where
  mod := I.ok.mod
  kind := hk
  glob := I.ok.glob
  blt := I.ok.blt
  above := hC
  inj := fun x y c e1 e2 => I.ok.inj x y c (hcl x c e1) (hcl y c e2)
  has := hhas
  cab := fun x c e => by cases e
  hd := I.ok.hd
  frames := I.ok.frames
  stk := .inl rfl
  exf := fun b hb => ⟨fun z => absurd (Nat.lt_of_lt_of_le (hlt b hb) hC) (by rw [show b = C from z]; exact Nat.lt_irrefl _), fun x c e => (hf b hb).2.2.2.2.1 x c (hcl x c e)⟩
  bs := fun b o e => ⟨(I.bs b o e).1, (I.bs b o e).2⟩
  bsz := Nat.le_trans I.ok.bsz I.sz
  noex := fun b o e hb => by
    rcases (hf b hb).2.2.2.1 with z | z
    · exact I.ok.noex b o e z
    · exact absurd (Nat.lt_of_lt_of_le (Heap.lt_size e) (Nat.le_trans I.ok.bsz z)) (Nat.lt_irrefl _)
  exfs := fun b hb hm => by
    rcases List.mem_cons.mp (I.stkSub b hm) with z | z
    · exact (hf b hb).2.1 z
    · exact (hf b hb).2.2.1 z
  funs := I.stack
  frf := I.stkFree
/-- the values of the block's names at its start: the targets' none, the captured ones' as they stand -/
def capσ (σ : St) (k : Nat) (cap : List (Str × Nat)) : St := List.replicate k none ++ cap.map fun p => (σ[p.2]?).getD none
theorem cxComp_start {scope : Scope} {cl : List (Str × Addr)} {fp : List Addr} {tn : List Str} {cap : List (Str × Nat)} {h1 : Heap} (I : Inv X pins σ H s) (hk : scope.kind = .function) (hcl : ∀ x c, cl.lookup x = some c → X.env.cells.lookup x = some c)
    (hhas : ∀ x, ((compEnvC scope cl s.heap.objs.size X.env).kindOf x = some .cell ∨ (compEnvC scope cl s.heap.objs.size X.env).kindOf x = some .free) → ∃ c, cl.lookup x = some c)
    (hf : ∀ b ∈ fp, FpOk X pins H b) (hlt : ∀ b ∈ fp, b < s.heap.objs.size)
    (hcap : ∀ p ∈ cap, X.N[p.2]? = some p.1 ∧ X.env.scope.names.lookup p.1 = some .cell ∧ ((compEnvC scope cl s.heap.objs.size X.env).kindOf p.1 = some .cell ∨ (compEnvC scope cl s.heap.objs.size X.env).kindOf p.1 = some .free))
    (hns : h1.Ns s.heap.objs.size (fun _ => none)) (hkp : ∀ b o, s.heap.get? b = some o → h1.get? b = some o) :
    Inv (cxComp X (tn ++ cap.map (·.1)) scope cl s.heap.objs.size fp s H) [] (capσ σ tn.length cap) H { s with heap := h1 } where
  ok := cxComp_ok I hk (Nat.le_refl _) hcl hhas hf hlt
  os := rfl
  bare := I.bare
  base := Un.kept hkp
  loc := by
    refine ⟨fun _ => none, hns, fun i x v e1 e2 hv => ?_⟩
    unfold capσ at e2
    by_cases hi : i < tn.length
    · rw [List.getElem?_append_left (by rw [List.length_replicate]; exact hi), List.getElem?_replicate, if_pos hi] at e2
      cases e2
    · have hN : (cap.map (·.1))[i - tn.length]? = some x := by
        have : (tn ++ cap.map (·.1))[i]? = some x := e1
        rw [List.getElem?_append_right (by (first | lia | omega))] at this
        exact this
      rw [List.getElem?_append_right (by rw [List.length_replicate]; (first | lia | omega)), List.length_replicate, List.getElem?_map] at e2
      rw [List.getElem?_map] at hN
      cases hp : cap[i - tn.length]? with
      | none => rw [hp] at hN; cases hN
      | some p =>
        rw [hp] at hN e2
        have hx : p.1 = x := Option.some.inj hN
        have he : (σ[p.2]?).getD none = some v := Option.some.inj e2
        obtain ⟨c1, c2, c3⟩ := hcap p (List.mem_of_getElem? hp)
        subst hx
        have hs : σ[p.2]? = some (some v) := by
          cases q : σ[p.2]? with
          | none => rw [q] at he; cases he
          | some z => rw [q] at he; rw [show z = some v from he]
        obtain ⟨m, hn, hl⟩ := I.loc
        obtain ⟨u, r, l⟩ := hl p.2 p.1 v c1 hs (.inr (.inl c2))
        refine ⟨u, r, .inr ⟨c3, ?_⟩⟩
        obtain ⟨c, hc⟩ := hhas p.1 c3
        refine ⟨c, hc, ?_⟩
        rcases l with ⟨l1, _⟩ | ⟨_, c', l2, o, ho, hd⟩
        · have : X.env.kindOf p.1 = some .cell := c2
          rw [this] at l1
          cases l1
        · have : c = c' := Option.some.inj ((hcl p.1 c hc).symm.trans l2)
          subst this
          exact ⟨o, hkp _ _ ho, hd⟩
  cell := fun x c e => by
    obtain ⟨v, o, ho, hd⟩ := I.cell x c (hcl x c e)
    exact ⟨v, o, hkp _ _ ho, hd⟩
  free := I.hok.fresh (Nat.le_refl _)
  freeC := fun x c e => I.freeC x c (hcl x c e)
  pin := fun p hp => by cases hp
  hok := I.hok.kept hkp
  len := by
    unfold capσ
    show _ = (tn ++ cap.map (·.1)).length
    rw [List.length_append, List.length_append, List.length_replicate, List.length_map, List.length_map]
end
end L2

namespace L2
open PySem PySem.Spec PyProof.Rows
/-- a comprehension's reading: W by the turn, a measure, the items so far, the block's names, the heap; p: the list under way -/
def tComp (wi : TI) (k : Nat) (cap : List (Str × Nat)) (g : TG) (te : TE) : TE := fun σ H Q => wi σ H fun J H1 => ∀ p, H1 p = none → ∃ W : Nat → Nat → List V → St → Hp → Prop, (∃ m, W 0 m [] (capσ σ k cap) (upd H1 p (.lst []))) ∧
  ∀ i m ys σc H2, W i m ys σc H2 → H2 p = some (.lst ys) ∧ ((J.stop i H2 ∧ Q (.ref p) H2) ∨ (J.go i H2 ∧ ∀ x H3, J.yld i H2 x H3 → g x σc H3 fun σ3 H4 => te σ3 H4 fun v H5 =>
    H5 p = some (.lst ys) ∧ ys.length < sizeLine ∧ ∃ m', m' < m ∧ W (i + 1) m' (ys ++ [v]) σ3 (upd H5 p (.lst (ys ++ [v])))))
section
variable {X : Cx} {elt iter tg : Expr} {scope : Scope} {pos : Pos} {wi : TI} {g : TG} {te : TE} {cl : List (Str × Addr)}
theorem comp_core0 {pins : List (Addr × Obj)} {σ : St} {H2 : Hp} {s2 : Shared} {it : Addr} {fp : List Addr} {tnn : Nat → Heap → Prop} {J : It} {R : Addr → Hp → Prop} {use : Option (Value → Sem Unit)} {Qp : Value → Shared → Prop} (tn : List Str) (cap : List (Str × Nat)) (hg : ∀ C fp s H, PG (cxComp X (tn ++ cap.map (·.1)) scope cl C fp s H) tg g) (he : ∀ C fp s H, PE (cxComp X (tn ++ cap.map (·.1)) scope cl C fp s H) elt te) (hc : X.calm = true) (hcell : ∀ y ∈ scope.names, y.2 ≠ .cell) (hk : scope.kind = .function) (hcl : ∀ x c, cl.lookup x = some c → X.env.cells.lookup x = some c) (hhas : ∀ C x, ((compEnvC scope cl C X.env).kindOf x = some .cell ∨ (compEnvC scope cl C X.env).kindOf x = some .free) → ∃ c, cl.lookup x = some c) (hcap : ∀ C, ∀ p ∈ cap, X.N[p.2]? = some p.1 ∧ X.env.scope.names.lookup p.1 = some .cell ∧ ((compEnvC scope cl C X.env).kindOf p.1 = some .cell ∨ (compEnvC scope cl C X.env).kindOf p.1 = some .free))
    (I2 : Inv X pins σ H2 s2) (T : Turn X.prog X.w X.K tg J fp it tnn) (st2 : tnn 0 s2.heap) (f2 : ∀ b ∈ fp, FpOk X pins H2 b) (q2 : ∀ p, H2 p = none → ∃ W : Nat → Nat → List V → St → Hp → Prop, (∃ m, W 0 m [] (capσ σ tn.length cap) (upd H2 p (.lst []))) ∧
  ∀ i m ys σc H2, W i m ys σc H2 → H2 p = some (.lst ys) ∧ ((J.stop i H2 ∧ R p H2) ∨ (J.go i H2 ∧ ∀ x H3, J.yld i H2 x H3 → g x σc H3 fun σ3 H4 => te σ3 H4 fun v H5 => H5 p = some (.lst ys) ∧ ys.length < sizeLine ∧ ∃ m', m' < m ∧ W (i + 1) m' (ys ++ [v]) σ3 (upd H5 p (.lst (ys ++ [v]))))))
    (hfin : ∀ (s3 : Shared) (H3 : Hp), Inv X pins σ H3 s3 → (∀ b ∈ fp, FpOk X pins H3 b) → ∀ (acc : Addr) (σ6 : St) (H6 : Hp) (s6 : Shared), Inv (cxComp X (tn ++ cap.map (·.1)) scope cl s3.heap.objs.size fp s3 H3) [] σ6 H6 s6 → R acc H6 → compPost (model X.prog X.w) X.A X.xe use Qp (.ref acc) s3.heap.objs.size (.ok .next) s6) :
    wpAny (model X.prog X.w) X.A (newList []) (fun acc s₃ => wpAny (model X.prog X.w) X.A (newFunctionEnv scope X.env.globals cl [] X.env.qual none Value.none (some X.env)) (fun cenv s₄ => codeAny (model X.prog X.w) X.A (Code.compStart (.ListComp elt [⟨tg, iter, [], 0⟩] scope pos) 0 (Value.ref it) acc { cenv with scope := relabel scope X.env }) (compPost (model X.prog X.w) X.A X.xe use Qp acc cenv.locals) s₄) X.xe s₃) X.xe s2 := by
  have fresh : H2 s2.heap.objs.size = none := I2.fresh
  obtain ⟨W, ⟨m0, w0⟩, turn⟩ := q2 s2.heap.objs.size fresh
  have lt2 : ∀ b ∈ fp, b < s2.heap.objs.size := fun b hb => by
    obtain ⟨o, ho, _⟩ := T.obj _ _ st2 b hb
    exact Heap.lt_size ho
  have I3 : Inv X pins σ (upd H2 s2.heap.objs.size (.lst [])) { s2 with heap := s2.heap.push { cls := .type "list", data := .seq ([] : List Value).toArray } } := I2.lnew (its := []) (t' := s2.toks) .nil (Nat.zero_le _)
  refine wpAny_newObj_type (wpAny_newFunctionEnv hcell (by intro y hy; simp at hy) (fun h1 hns1 hsb1 => ?_) hk)
  dsimp only at hns1 hsb1 ⊢
  generalize hS3 : ({ s2 with heap := s2.heap.push { cls := .type "list", dict := none, data := .seq ([] : List Value).toArray } } : Shared) = s3 at I3
  have hh3 : s2.heap.push { cls := .type "list", dict := none, data := .seq ([] : List Value).toArray } = s3.heap := by rw [← hS3]
  rw [hh3] at hns1 hsb1 ⊢
  have sz3 : s3.heap.objs.size = s2.heap.objs.size + 1 := by rw [← hh3, Heap.size_push]
  have lt3 : ∀ b ∈ fp, b < s3.heap.objs.size := fun b hb => Nat.lt_of_lt_of_le (lt2 b hb) (by rw [sz3]; exact Nat.le_succ _)
  have f3 : ∀ b ∈ fp, FpOk X pins (upd H2 s2.heap.objs.size (.lst [])) b := fun b hb => ⟨by rw [upd_ne (Nat.ne_of_lt (lt2 b hb))]; exact (f2 b hb).1, (f2 b hb).2⟩
  have keep3 : ∀ b o, s3.heap.get? b = some o → h1.get? b = some o := fun b o q => hsb1.extBut b o (Nat.ne_of_lt (Heap.lt_size q)) (Heap.get?_push_of_some _ q)
  have st3 : tnn 0 h1 := T.keep _ _ _ st2 fun b hb o q => keep3 b o (by rw [← hh3]; exact Heap.get?_push_of_some _ q)
  have I4 := (cxComp_start (tn := tn) I3 hk hcl (hhas _) f3 lt3 (hcap _) hns1 keep3).tok (s2.toks + ([] : List (Str × Value)).length)
  have loop : codeAny (model X.prog X.w) X.A (.compLoop (.ListComp elt [⟨tg, iter, [], 0⟩] scope pos) 0 (.ref it) (.ref s2.heap.objs.size) (compEnvC scope cl s3.heap.objs.size X.env))
      (compPost (model X.prog X.w) X.A X.xe use Qp (.ref s2.heap.objs.size) s3.heap.objs.size) { s3 with heap := h1, toks := s2.toks + ([] : List (Str × Value)).length } := by
    refine comp_loop0 (fun n s' => ∃ i ys σ' H', Inv (cxComp X (tn ++ cap.map (·.1)) scope cl s3.heap.objs.size fp s3 (upd H2 s2.heap.objs.size (.lst []))) [] σ' H' s' ∧ tnn i s'.heap ∧ (∀ b ∈ fp, H' b = none) ∧ W i n ys σ' H') ?_ m0
      ⟨0, [], _, _, I4, st3, fun b hb => (f3 b hb).1, w0⟩
    rintro n s5 ⟨i, ys, σ5, H5, I5, st5, fr5, w5⟩
    obtain ⟨hD, alt⟩ := turn i n ys σ5 H5 w5
    have stat : ∀ {H' : Hp}, (∀ b ∈ fp, H' b = none) → ∀ b ∈ fp, FpOk (cxComp X (tn ++ cap.map (·.1)) scope cl s3.heap.objs.size fp s3 (upd H2 s2.heap.objs.size (.lst []))) [] H' b :=
      fun hn b hb => ⟨hn b hb, (I4.ok.exf b hb).1, I4.ok.exfs b hb, .inl hb, (I4.ok.exf b hb).2, fun p hp => by cases hp⟩
    rcases alt with ⟨stop, qn⟩ | ⟨go, step⟩
    · refine thn (T.done (cxComp X (tn ++ cap.map (·.1)) scope cl s3.heap.objs.size fp s3 (upd H2 s2.heap.objs.size (.lst []))) rfl rfl rfl hc i [] s5 σ5 H5 no0 I5 (stat fr5) st5 stop) fun r s6 ⟨hr, I6⟩ => ?_
      subst hr
      exact hfin s3 _ I3 f3 _ σ5 H5 s6 I6 qn
    · refine thn (T.item (cxComp X (tn ++ cap.map (·.1)) scope cl s3.heap.objs.size fp s3 (upd H2 s2.heap.objs.size (.lst []))) rfl rfl rfl hc i [] s5 σ5 H5 no0 I5 (stat fr5) st5 go) fun r s6 ⟨u, hr, h6⟩ => ?_
      subst hr
      refine thn h6 fun _ s7 ⟨x, H7, I7, r7, y7, st7, fr7⟩ => ?_
      have I7' := I7.pinned (stat fr7) (T.obj _ _ st7)
      refine thn (hg _ _ _ _ _ s7 σ5 H7 x u _ I7' r7 (step x H7 y7)) fun _ s8 ⟨σ8, H8, I8, q8⟩ => ?_
      refine thn (he _ _ _ _ _ s8 σ8 H8 _ I8 q8) fun xv s9 ⟨v9, H9, I9, r9, q9⟩ => ?_
      obtain ⟨hD9, hl9, m', hm', w9⟩ := q9
      refine thn (mt_append _ s9 σ8 H9 (.ref s2.heap.objs.size) [v9] (.ref s2.heap.objs.size) [xv] (fun z H' => z = .non ∧ H' = upd H9 s2.heap.objs.size (.lst (ys ++ [v9]))) I9 rfl (.cons r9 .nil)
        ⟨s2.heap.objs.size, ys, v9, rfl, rfl, hD9, hl9, rfl, rfl⟩) fun z s10 ⟨zv, H10, I10, _, _, eH⟩ => ?_
      subst eH
      refine ⟨m', hm', i + 1, ys ++ [v9], σ8, _, I10.unpinned, T.keep _ _ _ st7 fun b hb o q => (I10.pin (b, o) (List.mem_append_right _ (List.mem_append_right _ (mem_pinsAt hb q)))).1, fun b hb => ?_, w9⟩
      obtain ⟨o, q, d⟩ := T.obj _ _ st7 b hb
      exact (I10.pin (b, o) (List.mem_append_right _ (List.mem_append_right _ (mem_pinsAt hb q)))).2.1
  subst hS3
  exact codeAny_compStart_list loop (T.self X.A 0 _ _ _ st3 loop)
theorem pe_comp (tn : List Str) (cap : List (Str × Nat)) (hi : PI X tg iter wi) (hg : ∀ C fp s H, PG (cxComp X (tn ++ cap.map (·.1)) scope cl C fp s H) tg g) (he : ∀ C fp s H, PE (cxComp X (tn ++ cap.map (·.1)) scope cl C fp s H) elt te)
    (hc : X.calm = true) (hclos : closureFor scope X.env = pure cl) (hcell : ∀ y ∈ scope.names, y.2 ≠ .cell) (hk : scope.kind = .function) (hnames : ∀ y ∈ scope.names, y.2 = .local → scope.names.lookup y.1 = some .local)
    (hcl : ∀ x c, cl.lookup x = some c → X.env.cells.lookup x = some c)
    (hhas : ∀ C x, ((compEnvC scope cl C X.env).kindOf x = some .cell ∨ (compEnvC scope cl C X.env).kindOf x = some .free) → ∃ c, cl.lookup x = some c)
    (hcap : ∀ C, ∀ p ∈ cap, X.N[p.2]? = some p.1 ∧ X.env.scope.names.lookup p.1 = some .cell ∧ ((compEnvC scope cl C X.env).kindOf p.1 = some .cell ∨ (compEnvC scope cl C X.env).kindOf p.1 = some .free))
    (hs : ∀ v, foldedSetIterable iter X.env v = pure v) : PE X (.ListComp elt [⟨tg, iter, [], 0⟩] scope pos) (tComp wi tn.length cap g te) := by
  intro pins s σ H Q I h
  rw [eval_ListComp]
  refine wpAny_comprehension_free (use := none) rfl hs hclos hk hnames (thn (hi pins s σ H _ I h) fun v s1 h1 => thn h1 fun itv s2 h2 => ?_)
  obtain ⟨it, fp, tnn, J, H2, e, I2, T, st2, f2, q2⟩ := h2
  subst e
  refine comp_core0 (R := fun p H6 => Q (.ref p) H6) tn cap hg he hc hcell hk hcl hhas hcap I2 T st2 f2 q2 fun s3 H3 I3 f3 acc σ6 H6 s6 I6 q6 => ?_
  obtain ⟨m, hn, _⟩ := I6.loc
  refine ⟨m, hn, fun h' sb => ?_⟩
  have nC : ∀ b o, s3.heap.get? b = some o → b ≠ s3.heap.objs.size := fun b o q => Nat.ne_of_lt (Heap.lt_size q)
  have u : Un (frs X.stack) fp H3 H6 s3.heap h' := by
    have u0 := I6.base
    refine ⟨fun b o q n hb hx => (sb.2 b (nC b o q)).trans (u0.keep b o q n hb hx), fun b o q n hb hx => ?_, u0.free, fun b o q hx => ?_, u0.tups, u0.frzs, u0.tbls⟩
    · obtain ⟨sl, e⟩ := u0.slot b o q n hb hx
      exact ⟨sl, (sb.2 b (nC b o q)).trans e⟩
    · obtain ⟨o', e⟩ := u0.there b o q hx
      exact ⟨o', (sb.2 b (nC b o q)).trans e⟩
  have free6 : H6 s3.heap.objs.size = none := I6.free
  have ok6 : HOk X.prog X.w H6 h' := fun b o q => (I6.hok b o q).stay (fun c v hcv r => (sb.2 c (by
    rcases hcv with z | z
    · rw [z]
      exact ne_of_none q free6
    · exact ne_of_none z free6)).trans r) (fun _ q => q) fun _ _ q => q
  have I' := I3.call (g' := s6.gens) (d' := s6.drawn) (t' := s6.toks) (ch := fp) u ok6 I6.bare fun b hb => ⟨(f3 b hb).2.2.2.1, (f3 b hb).2.1, (f3 b hb).2.2.2.2.1, (f3 b hb).2.2.2.2.2⟩
  have e : ({ s6 with heap := h' } : Shared) = { s3 with heap := h', gens := s6.gens, drawn := s6.drawn, toks := s6.toks } := by
    have ho : s6.os = s3.os := I6.os
    obtain ⟨a1, a2, a3, a4, a5⟩ := s6
    obtain ⟨b1, b2, b3, b4, b5⟩ := s3
    simp only at ho
    subst ho
    rfl
  rw [e]
  exact ⟨.ref _, H6, I', rfl, q6⟩
end
end L2

/-! [elt for tg in iter if ct] -/
namespace L2
open PySem PySem.Spec PyProof.Rows
end L2

/-! < of lists and of tuples, place by place, of data at any depth -/
namespace PySem.SeqAt
open AutoSeq1 (wpAny_loadPart')
open MeetsSeq MeetsSeq2 MeetsSeq3 SeqRoads2
end PySem.SeqAt

/-! < of data: one relation for ints, texts, lists and tuples of them -/
namespace L2
open PySem PySem.Spec PyProof.Rows PySem.SeqAt
end L2

/-! min(l, key=f, default=d) over a list, the key a def of the text -/
namespace L2
open PySem PySem.Spec PyProof.Rows PySem.SeqAt
end L2
namespace L2
open PySem PySem.Spec PyProof.Rows PySem.SeqAt
end L2
namespace L2
open PySem PySem.Spec PyProof.Rows PySem.SeqAt
end L2
namespace L2
open PySem PySem.Spec PyProof.Rows PySem.SeqAt
end L2

/-! the order of groves: the promises of rank, before, least_among -/
namespace Fg
open PySem L2 FgM PySem.SeqAt
end Fg

/-! == of groves, whatever their depth: the data of a grove -/
namespace L2
open PySem PySem.Spec PyProof.Rows
end L2
namespace Fg
open PySem L2 FgM
end Fg

namespace L2
open PySem PySem.Spec PyProof.Rows PySem.SeqAt
/-! list(reversed(l)) -/
theorem bt_reversed : bootBuiltins "reversed" = some (.type "reversed") := by decide +kernel
theorem ri_nolen : typeLookup (.type "list_reverseiterator") "__len__" = pure none := by rw [typeLookup_type, builtinLookup_eq_fast]; kernel_rfl
theorem ri_hint : typeLookup (.type "list_reverseiterator") "__length_hint__" = pure (some (.builtin "list_reverseiterator.__length_hint__")) := by rw [typeLookup_type, builtinLookup_eq_fast]; kernel_rfl
section
variable {prog : Program} {w : World} {A : Around} {E : Value → Shared → Prop} {s : Shared}
theorem ri_room {I : Addr} {Q : Bool → Shared → Prop} (hT : s.TypeIs (.ref I) "list_reverseiterator") (h : Q false s) : wpAny (model prog w) A (Builtin.List.listLengthHint (.ref I)) Q E s := by
  unfold Builtin.List.listLengthHint
  refine wpAny_bind (wpAny_specialOf hT ri_nolen ?_)
  show wpAny _ A (specialOf (Value.ref I) (Str.ofString "__length_hint__") >>= _) Q E s
  refine wpAny_bind (wpAny_specialOf hT ri_hint ?_)
  generalize hid : ("list_reverseiterator.__length_hint__" : String) = id0
  wp_delta
  rw [show splitId id0 = some ("list_reverseiterator", "__length_hint__") from by subst hid; decide +kernel]
  subst hid
  refine wpAny_bind (wpAny_isInstance (b := true) hT (by rw [isSubtype_type]; kernel_rfl) ?_)
  exact wpAny_pure h
theorem ri_call {I l : Addr} {items : Array Value} {Q : Value → Shared → Prop} (hh : A.handled = none) (hne : l ≠ I) (hit : s.heap.IsRevIter I l ((items.size : Int) - 1)) (hl : s.heap.IsList l items) (hn : items.size ≤ sizeLine)
    (hQ : ∀ h' tk c', (∀ b o, b ≠ I → s.heap.get? b = some o → h'.get? b = some o) → h'.get? s.heap.objs.size = some { cls := .type "list", dict := none, data := .seq items.toList.reverse.toArray c', slots := #[] } → Q (.ref s.heap.objs.size) { s with heap := h', toks := tk }) :
    wpAny (model prog w) A (call (.type "list") [.ref I]) Q E s := by
  have hlt : I < s.heap.objs.size := let ⟨_, ho, _⟩ := hit; Heap.lt_size ho
  have hll : l < s.heap.objs.size := let ⟨_, ho, _⟩ := hl; Heap.lt_size ho
  have nSI : s.heap.objs.size ≠ I := Nat.ne_of_gt hlt
  have nSl : s.heap.objs.size ≠ l := Nat.ne_of_gt hll
  have nf : s.heap.objs.size ∉ [I, l] := by simp only [List.mem_cons, List.not_mem_nil, or_false, not_or]; exact ⟨nSI, nSl⟩
  refine callType_codes (Q₁ := fun z s₁ => z = .ref s.heap.objs.size ∧ s₁ = { s with heap := s.heap.push { cls := .type "list", data := .seq #[] } }) PySem.F.called_list (PySem.F.typeCall_list_1 _) PySem.F.entry_list_init (code_list_new _ ⟨rfl, rfl⟩) fun z s₁ hz => ?_
  obtain ⟨rfl, rfl⟩ := hz
  have e0 : (s.heap.push { cls := .type "list", data := .seq #[] }).get? s.heap.objs.size = some { cls := .type "list", data := .seq #[] } := Heap.get?_push_size _ rfl
  refine ⟨⟨_, e0, rfl⟩, PySem.F.args_list_init_2 _ _, ?_⟩
  show wpAny _ _ (do let old ← Builtin.List.listItems (.ref s.heap.objs.size); Builtin.List.listUpdate (.ref s.heap.objs.size) (fun _ => #[]); letGo old.toList.reverse; Builtin.List.listExtendWith (.ref s.heap.objs.size) (.ref I) .none) _ _ _
  refine wpAny_bind ?_
  unfold Builtin.List.listItems
  refine wpAny_bind (wpAny_seqItems e0 rfl (wpAny_pure ?_))
  show wpAny _ _ (updateSeq s.heap.objs.size (fun _ => #[]) >>= fun _ => letGo (#[] : Array Value).toList.reverse >>= fun _ => Builtin.List.listExtendWith (.ref s.heap.objs.size) (.ref I) .none) _ _ _
  refine wpAny_bind (wpAny_updateSeq e0 rfl ?_)
  have e1 := Heap.get?_update_self (Obj.mapSeq (fun _ => (#[] : Array Value))) e0 rfl
  have ke : ∀ b o, s.heap.get? b = some o → ((s.heap.push { cls := .type "list", data := .seq #[] }).update s.heap.objs.size (Obj.mapSeq (fun _ => (#[] : Array Value)))).get? b = some o := fun b o e => (Heap.get?_update_other _ _ (Nat.ne_of_gt (Heap.lt_size e))).trans (Heap.get?_push_of_some _ e)
  refine wpAny_bind (wpAny_letGo ?_)
  have hit1 := hit.at (h' := ((s.heap.push { cls := .type "list", data := .seq #[] }).update s.heap.objs.size (Obj.mapSeq (fun _ => (#[] : Array Value))))) fun o e => ke _ o e
  have hl1 := hl.at (h' := ((s.heap.push { cls := .type "list", data := .seq #[] }).update s.heap.objs.size (Obj.mapSeq (fun _ => (#[] : Array Value))))) fun o e => ke _ o e
  have hT : Shared.TypeIs { s with heap := ((s.heap.push { cls := .type "list", data := .seq #[] }).update s.heap.objs.size (Obj.mapSeq (fun _ => (#[] : Array Value)))) } (.ref I) "list_reverseiterator" := Heap.IsRevIter.typeIs (s := { s with heap := _ }) hit1
  unfold Builtin.List.listExtendWith
  refine wpAny_bind (wpAny_typeOf hT ?_)
  have z1 : Builtin.List.listSameRef (.ref s.heap.objs.size) (.ref I) = false := by simp [Builtin.List.listSameRef, nSI]
  rw [if_neg (by rw [z1]; decide)]
  refine wpAny_bind (wpAny_pyIter_revIter hit1 ?_)
  refine wpAny_bind (wpAny_holding (ri_room hT ?_))
  rw [if_neg (by decide)]
  have W := (Walks.listRev (prog := prog) (w := w) (A := A.in1.in1) hh I l hne items).toS
  refine wpAny_pure ⟨plainId_quiet PySem.F.plain_extend_loop _, codeAny_extend_loopS W hn _ nf _ items.size 0 _ _ _ rfl (Nat.zero_le _) ⟨Nat.zero_le _, by simpa using hit1, hl1⟩ e1 (ItemsOf.nil _) fun s' acc' c' hm hS' hacc => ?_⟩
  rw [Moved.eq_with hm]
  have ea : acc' = items.toList.reverse.toArray := by
    apply Array.ext
    · simp [hacc.1]
    · intro j h1 h2
      have this : items[items.size - 1 - j]? = some acc'[j] := hacc.2 j acc'[j] (Array.getElem?_eq_getElem h1)
      have hj : j < items.size := by rw [← hacc.1]; exact h1
      rw [Array.getElem?_eq_getElem (by (first | lia | omega))] at this
      simp only [List.getElem_toArray, List.getElem_reverse, Array.getElem_toList, Array.length_toList]
      exact (Option.some.inj this).symm
  rw [ea] at hS'
  refine ⟨rfl, hQ s'.heap s'.toks c' (fun b o hb e => hm.heap b o (fun hmem => ?_) (ke b o e)) hS'⟩
  rcases List.mem_cons.mp hmem with e' | hmem
  · exact absurd (Heap.lt_size e) (by rw [e']; exact Nat.lt_irrefl _)
  · exact hb (List.mem_singleton.mp hmem)
end
section
variable {X : Cx} {e : Expr} {te : TE} {p p' pos pos' : Pos}
def rListRev (K : PySem.W.Frag) (v : V) (H : Hp) (Q : VK) : Prop := ∃ l ys, v = .ref l ∧ SqL K H l ys ∧ ∀ r, H r = none → Q (.ref r) (upd H r (.lst ys.reverse))
theorem pe_list_rev (hc : X.calm = true) (hg : Gl X "list") (hm : X.mg "list" = none) (hg' : Gl X "reversed") (hm' : X.mg "reversed" = none) (pa : PA X [e] (tCons te tNil))
    (hs : starEach [e] X.env = [(false, eval e X.env)] := by rfl) (hs' : starEach [.Call (.Name "reversed" p') [e] [] pos'] X.env = [(false, eval (.Call (.Name "reversed" p') [e] [] pos') X.env)] := by rfl) :
    PE X (.Call (.Name "list" p) [.Call (.Name "reversed" p') [e] [] pos'] [] pos) (fun σ H Q => te σ H fun v H1 => rListRev X.K v H1 Q) := by
  intro pins s σ H Q I h
  refine wpAny_Call_Name_kw (ld_blt I hg hm bt_list ?_)
  refine PyProof.Rows.callWith_type1 ?_ hs' rfl
  rw [hs']
  refine Calls.spliced_cons ?_
  refine wpAny_Call_Name_kw (ld_blt I hg' hm' bt_reversed ?_)
  refine PyProof.Rows.callWith_type1 (thn (pa pos' pins s σ H (fun vs H1 => match vs with | [v] => rListRev X.K v H1 Q | _ => False) I h) fun us s1 ⟨vs, H1, I1, r, q⟩ => ?_) hs rfl
  match vs, r, q with
  | [v], r, q =>
    obtain ⟨u, rfl, ru⟩ := r.one
    obtain ⟨l, ys, rfl, hq, q⟩ := q
    cases ru
    obtain ⟨its, rv, pl, hz⟩ := I1.list hq
    refine call_reversed_list pl.isList ?_
    refine Calls.spliced_nil ?_
    have hlen := rv.length
    have e1 : (s1.heap.push (revObj l ((its.toArray.size : Int) - 1))).get? s1.heap.objs.size = some (revObj l ((its.toArray.size : Int) - 1)) := Heap.get?_push_size _ rfl
    have hll : l < s1.heap.objs.size := let ⟨_, ho, _⟩ := pl.isList; Heap.lt_size ho
    refine ri_call (items := its.toArray) (I1.ok.hd hc) (Nat.ne_of_lt hll) ⟨_, e1, rfl, rfl⟩ (pl.isList.at fun o e => Heap.get?_push_of_some _ e) (by rw [List.size_toArray]; (first | lia | omega)) fun h' tk c' kp e => ?_
    have sz : (s1.heap.push (revObj l ((its.toArray.size : Int) - 1))).objs.size = s1.heap.objs.size + 1 := Heap.size_push ..
    have le : s1.heap.objs.size ≤ (s1.heap.push (revObj l ((its.toArray.size : Int) - 1))).objs.size := by rw [sz]; exact Nat.le_succ _
    have rr := Vals.reverse rv
    have hz2 : ys.reverse.length ≤ sizeLine := by rw [List.length_reverse]; exact hz
    exact ⟨.ref _, _, I1.laid (t' := tk) (fun b o eb => kp b o (Nat.ne_of_lt (Heap.lt_size eb)) (Heap.get?_push_of_some _ eb)) le (show ObjOk X.prog X.w _ h' _ (.lst ys.reverse) from ⟨hz2, its.reverse, c', rr, e⟩), rfl, q _ (I1.hok.fresh le)⟩
end
end L2

/-! the reading of [e for x in l], and what a block without captured names is -/
namespace L2
open PySem PySem.Spec PyProof.Rows
def CW (n : Nat) (Pv : Nat → List V → St → Hp → Prop) : Nat → Nat → List V → St → Hp → Prop := fun i m ys σ H => m = n - i ∧ i ≤ n ∧ Pv i ys σ H
theorem CW.next {n i : Nat} {Pv : Nat → List V → St → Hp → Prop} {ys : List V} {σ : St} {H : Hp} (hi : i < n) (h : Pv (i + 1) ys σ H) : ∃ m', m' < n - i ∧ CW n Pv (i + 1) m' ys σ H := ⟨_, by (first | lia | omega), rfl, hi, h⟩
theorem comp_list {K : PySem.W.Frag} {a p : Addr} {xs : List V} {g : TG} {te : TE} {R : Hp → Prop} {σ0 : St} {H0 : Hp} (Pv : Nat → List V → St → Hp → Prop) (h0 : Pv 0 [] σ0 H0)
    (hl : ∀ i ys σ H, i ≤ xs.length → Pv i ys σ H → SqL K H a xs ∧ H p = some (.lst ys))
    (hs : ∀ i ys x σ H, i < xs.length → xs[i]? = some x → Pv i ys σ H → g x σ H fun σ3 H4 => te σ3 H4 fun v H5 => H5 p = some (.lst ys) ∧ ys.length < sizeLine ∧ ∃ m', m' < xs.length - i ∧ CW xs.length Pv (i + 1) m' (ys ++ [v]) σ3 (upd H5 p (.lst (ys ++ [v]))))
    (hd : ∀ ys σ H, Pv xs.length ys σ H → R H) :
    ∃ W : Nat → Nat → List V → St → Hp → Prop, (∃ m, W 0 m [] σ0 H0) ∧ ∀ i m ys σc H2, W i m ys σc H2 → H2 p = some (.lst ys) ∧ (((Itl K a).stop i H2 ∧ R H2) ∨ ((Itl K a).go i H2 ∧ ∀ x H3, (Itl K a).yld i H2 x H3 → g x σc H3 fun σ3 H4 => te σ3 H4 fun v H5 =>
      H5 p = some (.lst ys) ∧ ys.length < sizeLine ∧ ∃ m', m' < m ∧ W (i + 1) m' (ys ++ [v]) σ3 (upd H5 p (.lst (ys ++ [v]))))) := by
  refine ⟨CW xs.length Pv, ⟨_, rfl, Nat.zero_le _, h0⟩, ?_⟩
  rintro i m ys σ H ⟨rfl, hi, hp⟩
  obtain ⟨h1, h2⟩ := hl i ys σ H hi hp
  refine ⟨h2, ?_⟩
  by_cases hlt : i < xs.length
  · refine .inr ⟨⟨xs, xs[i], h1, List.getElem?_eq_getElem hlt⟩, ?_⟩
    rintro x H3 ⟨rfl, hx⟩
    exact hs i ys x σ _ hlt (hx xs h1) hp
  · refine .inl ⟨⟨xs, h1, by (first | lia | omega)⟩, hd ys σ H ?_⟩
    have e : i = xs.length := by (first | lia | omega)
    rw [← e]
    exact hp
end L2
namespace FgM
end FgM

/-! x = [elt for tg in iter], x = [elt for tg in iter if ct]: the name is bound ahead of the block's end -/
namespace L2
open PySem PySem.Spec PyProof.Rows
section
variable {X : Cx} {elt iter tg : Expr} {scope : Scope} {pos : Pos} {wi : TI} {g : TG} {te : TE} {cl : List (Str × Addr)}
theorem ps_set_comp {y : Str} {py spos : Pos} {n0 : Nat} (hN : X.N.Nodup) (hi0 : X.N[n0]? = some y) (hx : Loc X.env.scope y) (tn : List Str) (cap : List (Str × Nat)) (hi : PI X tg iter wi) (hg : ∀ C fp s H, PG (cxComp X (tn ++ cap.map (·.1)) scope cl C fp s H) tg g) (he : ∀ C fp s H, PE (cxComp X (tn ++ cap.map (·.1)) scope cl C fp s H) elt te)
    (hc : X.calm = true) (hclos : closureFor scope X.env = pure cl) (hcell : ∀ y ∈ scope.names, y.2 ≠ .cell) (hk : scope.kind = .function) (hnames : ∀ y ∈ scope.names, y.2 = .local → scope.names.lookup y.1 = some .local)
    (hcl : ∀ x c, cl.lookup x = some c → X.env.cells.lookup x = some c)
    (hhas : ∀ C x, ((compEnvC scope cl C X.env).kindOf x = some .cell ∨ (compEnvC scope cl C X.env).kindOf x = some .free) → ∃ c, cl.lookup x = some c)
    (hcap : ∀ C, ∀ p ∈ cap, X.N[p.2]? = some p.1 ∧ X.env.scope.names.lookup p.1 = some .cell ∧ ((compEnvC scope cl C X.env).kindOf p.1 = some .cell ∨ (compEnvC scope cl C X.env).kindOf p.1 = some .free))
    (hs : ∀ v, foldedSetIterable iter X.env v = pure v) (hsw : swapsWith (.ListComp elt [⟨tg, iter, [], 0⟩] scope pos) (some (.Name y py)) spos.line X.env = pure true) (hf : X.fn y = true ∨ X.env.scope.names.lookup y = some .local := by first | exact .inl rfl | exact .inr rfl | assumption) :
    PS X (.Assign [.Name y py] (.ListComp elt [⟨tg, iter, [], 0⟩] scope pos) spos) (tAsg (tComp wi tn.length cap g te) (gName n0)) := by
  intro pins s σ H D I h
  rw [exec_Assign_Name_used _ _ _ _ hsw]
  refine wpAny_bind (wpAny_standAt (wpAny_bind ?_))
  show wpAny _ X.A (do let _ ← comprehension (.ListComp elt [⟨tg, iter, [], 0⟩] scope pos) scope X.env _ (newList []) false (eval iter X.env) (some (assign (.Name y py) X.env))) _ _ s
  refine wpAny_bind (wpAny_mono (wpAny_comprehension_free (use := some (assign (.Name y py) X.env)) (Q := fun _ s' => SP X pins D .next s') rfl hs hclos hk hnames (thn (hi pins s σ H _ I h) fun v s1 h1 => thn h1 fun itv s2 h2 => ?_)) (fun _ s' hq => wpAny_pure (wpAny_pure hq)) fun _ _ e => e)
  obtain ⟨it, fp, tnn, J, H2, e, I2, T, st2, f2, q2⟩ := h2
  subst e
  refine comp_core0 (R := fun p H6 => gName n0 (.ref p) σ H6 (fun σ' H' => D.nx σ' H')) tn cap hg he hc hcell hk hcl hhas hcap I2 T st2 f2 q2 fun s3 H3 I3 f3 acc σ6 H6 s6 I6 q6 => ?_
  obtain ⟨m, hn, _⟩ := I6.loc
  have I' : Inv X pins σ H6 s6 := I3.call' (ch := fp) I6.os I6.base I6.hok I6.bare fun b hb => ⟨(f3 b hb).2.2.2.1, (f3 b hb).2.1, (f3 b hb).2.2.2.2.1, (f3 b hb).2.2.2.2.2⟩
  have fC : FpOk X pins H6 s3.heap.objs.size := I3.fpOk (Nat.le_refl _) I6.free
  show wpAny _ X.A (assign (.Name y py) X.env (.ref acc)) _ _ s6
  refine wpAny_assign_Name (store_ok2 (v := .ref acc) I' hN hi0 hx rfl (fun s7 I7 ⟨a, sb, ha⟩ => ?_) hf)
  have nCa : s3.heap.objs.size ≠ a := by
    rcases ha with z | z
    · rw [z]
      exact fC.2.1
    · exact (fC.2.2.2.2.1 _ _ z).symm
  exact ⟨m, hn.sameBut sb nCa, fun h' sb' => ⟨_, H6, I7.turned (t' := s7.toks) (fun b o hb e => (sb'.2 b hb).trans e) fC.1 fC.2.1 fC.2.2.2.1 fC.2.2.2.2.1 fC.2.2.2.2.2, q6⟩⟩
end
end L2
namespace L2
open PySem PySem.Spec PyProof.Rows
end L2

namespace L2
open PySem PySem.Spec PyProof.Rows

/-! ### lists of pairs as tables -/
section
variable {κ : Type} [DecidableEq κ]
def valV (kvs : List (κ × V)) (k : κ) : Option V := (kvs.find? fun kv => decide (kv.1 = k)).map (·.2)
/-- in its place, or at the end -/
def putK (kvs : List (κ × V)) (k : κ) (v : V) : List (κ × V) :=
  if (kvs.any fun kv => decide (kv.1 = k)) = true then kvs.map (fun kv => if kv.1 = k then (kv.1, v) else kv) else kvs ++ [(k, v)]
theorem valV_pos {p : κ × V} {r : List (κ × V)} {k : κ} (e : p.1 = k) : valV (p :: r) k = some p.2 := by simp [valV, List.find?_cons, e]
theorem valV_neg {p : κ × V} {r : List (κ × V)} {k : κ} (e : ¬ p.1 = k) : valV (p :: r) k = valV r k := by simp [valV, List.find?_cons, e]
theorem valV_any (k : κ) : ∀ kvs : List (κ × V), (kvs.any fun kv => decide (kv.1 = k)) = (valV kvs k).isSome
  | [] => rfl
  | p :: r => by
    rw [List.any_cons]
    by_cases e : p.1 = k
    · simp only [valV_pos e, decide_eq_true e, Bool.true_or, Option.isSome_some]
    · rw [valV_neg e, decide_eq_false e, Bool.false_or]; exact valV_any k r
theorem length_putK (kvs : List (κ × V)) (k : κ) (v : V) : (putK kvs k v).length ≤ kvs.length + 1 := by
  unfold putK
  split
  · rw [List.length_map]; (first | lia | omega)
  · rw [List.length_append, List.length_cons, List.length_nil]; (first | lia | omega)
theorem RelO.isSome_eq {o : Option V} {u : Option Value} (r : RelO o u) : o.isSome = u.isSome := by
  cases o with
  | none => cases u with
    | none => rfl
    | some _ => exact (show False from r).elim
  | some _ => cases u with
    | none => exact (show False from r).elim
    | some _ => rfl
/-- raw tables of the same keys -/
theorem KV.val {kvs : List (κ × V)} {vs : List (κ × Value)} (r : KV kvs vs) (k : κ) : RelO (valV kvs k) (valueAt vs k) := by
  unfold KV at r
  induction r with
  | nil => exact True.intro
  | @cons p q ps qs h t ih =>
    obtain ⟨h1, h2⟩ := h
    by_cases e : p.1 = k
    · have e' : q.1 = k := h1.symm.trans e
      have b : valueAt (q :: qs) k = some q.2 := by simp [valueAt, List.find?_cons, e']
      rw [valV_pos e, b]; exact h2
    · have e' : ¬ q.1 = k := fun z => e (h1.trans z)
      have b : valueAt (q :: qs) k = valueAt qs k := by simp [valueAt, List.find?_cons, e']
      rw [valV_neg e, b]; exact ih
theorem KV.any {kvs : List (κ × V)} {vs : List (κ × Value)} (r : KV kvs vs) (k : κ) : (kvs.any fun kv => decide (kv.1 = k)) = vs.any fun kv => decide (kv.1 = k) := by
  unfold KV at r
  induction r with
  | nil => rfl
  | cons h t ih => rw [List.any_cons, List.any_cons, ih, h.1]
theorem KV.repl {kvs : List (κ × V)} {vs : List (κ × Value)} (r : KV kvs vs) (k : κ) {y : V} {u : Value} (ry : RelV y u) :
    KV (kvs.map fun kv => if kv.1 = k then (kv.1, y) else kv) (vs.map fun kv => if kv.1 = k then (kv.1, u) else kv) := by
  unfold KV at r ⊢
  induction r with
  | nil => exact .nil
  | @cons p q ps qs h t ih =>
    rw [List.map_cons, List.map_cons]
    refine .cons ?_ ih
    obtain ⟨h1, h2⟩ := h
    by_cases e : p.1 = k
    · rw [if_pos e, if_pos (h1.symm.trans e)]; exact ⟨h1, ry⟩
    · rw [if_neg e, if_neg (fun z => e (h1.trans z))]; exact ⟨h1, h2⟩
theorem KV.put {kvs : List (κ × V)} {vs : List (κ × Value)} (r : KV kvs vs) (k : κ) {y : V} {u : Value} (ry : RelV y u) : KV (putK kvs k y) (stored vs k u) := by
  unfold putK stored
  rw [r.any k]
  by_cases e : (vs.any fun kv => decide (kv.1 = k)) = true
  · rw [if_pos e, if_pos e]; exact r.repl k ry
  · rw [if_neg e, if_neg e]; exact Paired.snoc r ⟨rfl, ry⟩
theorem KV.length {kvs : List (κ × V)} {vs : List (κ × Value)} (r : KV kvs vs) : kvs.length = vs.length := Paired.length r
end


/-! ### a tracked dict, its keys ints and texts or tuples of these -/
theorem kV_is {P : Program} {w : World} {k : Key} {u : Value} (r : RelV (kV k) u) : (mixKind P w).is k u = true := by
  cases k with
  | inl i => obtain ⟨t, e⟩ := (show ∃ t, u = Value.int i t from r); subst e; exact mixKind_int P w i t
  | inr x => obtain ⟨t, e⟩ := (show ∃ t, u = Value.str x t from r); subst e; exact mixKind_str P w x t
theorem items_are {P : Program} {w : World} : ∀ {ks : List Key} {us : List Value}, Vals (ks.map kV) us → ItemsAre (mixKind P w) ks us
  | [], _, r => by rw [List.map_nil] at r; cases r; exact .nil
  | k :: ks, _, r => by
    rw [List.map_cons] at r
    cases r with
    | cons h t => exact .cons (kV_is h) (items_are t)

/-- raw entries of a dict with tuple keys -/
abbrev KT (H : Hp) : List (List Key × V) → List (List Key × Addr × Value) → Prop := Paired fun p q => p.1 = q.1 ∧ H q.2.1 = some (.tup (p.1.map kV)) ∧ RelV p.2 q.2.2
theorem KT.val {H : Hp} {kvs : List (List Key × V)} {xs : List (List Key × Addr × Value)} (r : KT H kvs xs) (k : List Key) : RelO (valV kvs k) ((atKey xs k).map (·.2)) := by
  induction r with
  | nil => exact True.intro
  | @cons p q ps qs h t ih =>
    obtain ⟨h1, _, h2⟩ := h
    by_cases e : p.1 = k
    · have e' : q.1 = k := h1.symm.trans e
      have b : atKey (q :: qs) k = some q.2 := by simp [atKey, List.find?_cons, e']
      rw [valV_pos e, b]; exact h2
    · have e' : ¬ q.1 = k := fun z => e (h1.trans z)
      have b : atKey (q :: qs) k = atKey qs k := by simp [atKey, List.find?_cons, e']
      rw [valV_neg e, b]; exact ih
theorem KT.repl {H : Hp} {kvs : List (List Key × V)} {xs : List (List Key × Addr × Value)} (r : KT H kvs xs) (k : List Key) {y : V} {u : Value} (ry : RelV y u) :
    KT H (kvs.map fun kv => if kv.1 = k then (kv.1, y) else kv) (xs.map (putAt k u)) := by
  induction r with
  | nil => exact .nil
  | @cons p q ps qs h t ih =>
    rw [List.map_cons, List.map_cons]
    refine .cons ?_ ih
    obtain ⟨h1, h2, h3⟩ := h
    unfold putAt
    by_cases e : p.1 = k
    · rw [if_pos e, if_pos (h1.symm.trans e)]; exact ⟨h1, h2, ry⟩
    · rw [if_neg e, if_neg (fun z => e (h1.trans z))]; exact ⟨h1, h2, h3⟩
theorem KT.put {H : Hp} {kvs : List (List Key × V)} {xs : List (List Key × Addr × Value)} (r : KT H kvs xs) (k : List Key) {b : Addr} {y : V} {u : Value} (hb : H b = some (.tup (k.map kV))) (ry : RelV y u) :
    KT H (putK kvs k y) (storedH xs k b u) := by
  have e : (kvs.any fun kv => decide (kv.1 = k)) = (atKey xs k).isSome := by
    rw [valV_any, (r.val k).isSome_eq, Option.isSome_map]
  unfold putK storedH
  rw [e]
  by_cases q : (atKey xs k).isSome = true
  · rw [if_pos q, if_pos q]; exact r.repl k ry
  · rw [if_neg q, if_neg q]; exact Paired.snoc r ⟨rfl, hb, ry⟩
theorem KT.keeps {H H' : Hp} {kvs : List (List Key × V)} {xs : List (List Key × Addr × Value)} (r : KT H kvs xs) (ht : ∀ b ys, H b = some (.tup ys) → H' b = some (.tup ys)) : KT H' kvs xs :=
  Paired.mapP r fun _ _ z => ⟨z.1, ht _ _ z.2.1, z.2.2⟩

section
variable {P : Program} {w : World} {H : Hp} {h : Heap} {a : Addr}
theorem rd_of {u : HO} (ok : HOk P w H h) (e : Rd H a u) : ObjOk P w H h a u := e.ok ok
theorem dk_rd {kvs : List (Key × V)} (ok : HOk P w H h) (e : Rd H a (.dK kvs)) : kvs.length ≤ sizeLine ∧ (a == sysModules) = false ∧ ∃ vs, KV kvs vs ∧ h.DictOf (mixKind P w) a vs :=
  show ObjOk P w H h a (.dK kvs) from rd_of ok e
theorem dk_of {kvs : List (Key × V)} (ok : HOk P w H h) (e : H a = some (.dK kvs)) : kvs.length ≤ sizeLine ∧ (a == sysModules) = false ∧ ∃ vs, KV kvs vs ∧ h.DictOf (mixKind P w) a vs := dk_rd ok (.inl e)
/-- a tracked tuple of ints and texts is a key -/
theorem key_of {ks : List Key} (ok : HOk P w H h) (e : H a = some (.tup (ks.map kV))) : (tupleKind (mixKind P w)).is h ks a := by
  obtain ⟨_, its, r, o, h1, h2, n, h3⟩ := (show ObjOk P w H h a (.tup (ks.map kV)) from ok a _ e)
  exact ⟨o, its.toArray, n, h1, h2, h3, by simpa using items_are r⟩
theorem dt_rd {kvs : List (List Key × V)} (ok : HOk P w H h) (e : Rd H a (.dT kvs)) : kvs.length ≤ sizeLine ∧ (a == sysModules) = false ∧
    ∃ xs, KT H kvs xs ∧ h.DictOfH (tupleKind (mixKind P w)) a xs := by
  obtain ⟨z, y, xs, r, o, es, ep, h1, h2, h3, h4, h5⟩ := (show ObjOk P w H h a (.dT kvs) from rd_of ok e)
  refine ⟨z, y, xs, r, o, es, ep, h1, h2, h3, h4, fun x hx => ?_, h5⟩
  have all : ∀ {l : List (List Key × V)} {m : List (List Key × Addr × Value)}, KT H l m → ∀ x ∈ m, (tupleKind (mixKind P w)).is h x.1 x.2.1 := by
    intro l m q
    induction q with
    | nil => intro x hx; exact nomatch hx
    | @cons p q ps qs hq t ih =>
      intro x hx
      rcases List.mem_cons.mp hx with e | hx
      · subst e
        exact key_of ok (by rw [← hq.1]; exact hq.2.1)
      · exact ih x hx
  exact all r x hx
theorem dt_of {kvs : List (List Key × V)} (ok : HOk P w H h) (e : H a = some (.dT kvs)) : kvs.length ≤ sizeLine ∧ (a == sysModules) = false ∧
    ∃ xs, KT H kvs xs ∧ h.DictOfH (tupleKind (mixKind P w)) a xs := dt_rd ok (.inl e)
end

/-- what the dict at a holds at the key y -/
def DGet (H : Hp) (a : Addr) (y : V) (r : Option V) : Prop :=
  (∃ kvs k, Rd H a (.dK kvs) ∧ y = kV k ∧ r = valV kvs k) ∨ ∃ kvs k b, Rd H a (.dT kvs) ∧ y = .ref b ∧ H b = some (.tup (k.map kV)) ∧ r = valV kvs k
/-- the heap behind a[y] = v -/
def DPut (H : Hp) (a : Addr) (y v : V) (H' : Hp) : Prop :=
  (∃ kvs k, H a = some (.dK kvs) ∧ y = kV k ∧ kvs.length < sizeLine ∧ H' = upd H a (.dK (putK kvs k v))) ∨
  ∃ kvs k b, H a = some (.dT kvs) ∧ y = .ref b ∧ H b = some (.tup (k.map kV)) ∧ kvs.length < sizeLine ∧ H' = upd H a (.dT (putK kvs k v))
theorem DGet.t {H : Hp} {a b : Addr} {kvs : List (List Key × V)} {k : List Key} (e : H a = some (.dT kvs)) (eb : H b = some (.tup (k.map kV))) : DGet H a (.ref b) (valV kvs k) := .inr ⟨kvs, k, b, .inl e, rfl, eb, rfl⟩
theorem DPut.t {H : Hp} {a b : Addr} {kvs : List (List Key × V)} {k : List Key} {v : V} (e : H a = some (.dT kvs)) (eb : H b = some (.tup (k.map kV))) (hl : kvs.length < sizeLine) :
    DPut H a (.ref b) v (upd H a (.dT (putK kvs k v))) := .inr ⟨kvs, k, b, e, rfl, eb, hl, rfl⟩


section
variable {X : Cx} {pins : List (Addr × Obj)} {σ : St} {H : Hp} {s : Shared} {a : Addr} {y v : V} {u r : Value} {o : Option V} {A : Around} {E : Value → Shared → Prop}

theorem Inv.big (I : Inv X pins σ H s) : sysModules < s.heap.objs.size := by
  have h : mainGlobals < s.heap.objs.size := (I.mod.glob.keeps I.bk).lt
  exact Nat.lt_trans (by decide) h

/-- d[y], there -/
theorem d_getItem {Q : Value → Shared → Prop} (hu : A.units + 1 < cLine) (I : Inv X pins σ H s) (g : DGet H a y (some v)) (ry : RelV y u) (h : ∀ w' s', Inv X pins σ H s' → RelV v w' → Q w' s') :
    wpAny (model X.prog X.w) A (getItem (.ref a) u) Q E s := by
  rcases g with ⟨kvs, k, e, ey, l⟩ | ⟨kvs, k, b, e, ey, eb, l⟩
  · subst ey
    obtain ⟨z, hd, vs, rel, dd⟩ := dk_rd I.hok e
    obtain ⟨w', hw, rw'⟩ := RelO.some_of (v := v) (o := valueAt vs k) (by rw [l]; exact rel.val k)
    exact wpAny_getItem_of (kV_is ry) dd.mapOf hw (h w' _ (I.tok _) rw')
  · subst ey
    cases (show u = Value.ref b from ry)
    obtain ⟨z, hd, xs, rel, dd⟩ := dt_rd I.hok e
    obtain ⟨w', hw, rw'⟩ := RelO.some_of (v := v) (o := (atKey xs k).map (·.2)) (by rw [l]; exact rel.val k)
    obtain ⟨p, hp, hp2⟩ := Option.map_eq_some_iff.mp hw
    refine wpAny_getItem_heap (tupleKind_room_in1 hu) (key_of I.hok eb) dd hp ?_
    rw [hp2]
    exact h w' _ (I.tok _) rw'
/-- y in d -/
theorem d_in {Q : Value → Shared → Prop} (hu : A.units + 1 < cLine) (I : Inv X pins σ H s) (g : DGet H a y o) (ry : RelV y u) (h : ∀ s', Inv X pins σ H s' → Q (.bool o.isSome) s') :
    wpAny (model X.prog X.w) A (compareOp .In u (.ref a)) Q E s := by
  rcases g with ⟨kvs, k, e, ey, l⟩ | ⟨kvs, k, b, e, ey, eb, l⟩
  · subst ey
    obtain ⟨z, hd, vs, rel, dd⟩ := dk_rd I.hok e
    refine wpAny_in_of (kV_is ry) hd dd.mapOf ?_
    rw [← (rel.val k).isSome_eq, ← l]
    exact h _ (I.tok _)
  · subst ey
    cases (show u = Value.ref b from ry)
    obtain ⟨z, hd, xs, rel, dd⟩ := dt_rd I.hok e
    refine wpAny_in_heap (tupleKind_room_in1 hu) (key_of I.hok eb) hd dd ?_
    have q := (rel.val k).isSome_eq
    rw [Option.isSome_map] at q
    rw [← q, ← l]
    exact h _ (I.tok _)
/-- a dict's object is replaced -/
theorem d_write {h' : Heap} {t' : Nat} {ob : HO} (I : Inv X pins σ H s) (mu : Mut (H a)) (hs : Heap.SameBut a s.heap h') (he : ∃ q, h'.get? a = some q) (new : ObjOk X.prog X.w (upd H a ob) h' a ob) :
    Inv X pins σ (upd H a ob) { s with heap := h', toks := t' } :=
  I.write (x := a) (e := a) mu (.inl rfl) (fun b q hb z => (hs.2 b hb).trans z) he new
theorem dk_new {P : Program} {w : World} {H' : Hp} {h' : Heap} {kvs : List (Key × V)} {vs : List (Key × Value)} (z : kvs.length ≤ sizeLine) (hd : (a == sysModules) = false) (rel : KV kvs vs) (dd : h'.DictOf (mixKind P w) a vs) :
    ObjOk P w H' h' a (.dK kvs) := ⟨z, hd, vs, rel, dd⟩
/-- d[y] = v -/
theorem d_setItem {H' : Hp} {Q : Unit → Shared → Prop} (hu : A.units + 1 < cLine) (I : Inv X pins σ H s) (g : DPut H a y v H') (ry : RelV y u) (rv : RelV v r) (h : ∀ s', Inv X pins σ H' s' → Q () s') :
    wpAny (model X.prog X.w) A (setItem (.ref a) u r) Q E s := by
  rcases g with ⟨kvs, k, e, ey, l, eH⟩ | ⟨kvs, k, b, e, ey, eb, l, eH⟩
  · subst ey eH
    obtain ⟨z, hd, vs, rel, dd⟩ := dk_of I.hok e
    have hz : vs.length ≤ sizeLine := by rw [← rel.length]; exact z
    have hl : (putK kvs k v).length ≤ sizeLine := by have := length_putK kvs k v; (first | lia | omega)
    refine wpAny_setItem_pairs (hsz := hz) (kV_is ry) dd fun h' dd' hs => h _ ?_
    have he : ∃ q, h'.get? a = some q := let ⟨q, _, _, hq, _⟩ := dd'; ⟨q, hq⟩
    exact d_write I (by rw [e]; exact True.intro) hs he (dk_new hl hd (rel.put k rv) dd')
  · subst ey eH
    cases (show u = Value.ref b from ry)
    obtain ⟨z, hd, xs, rel, dd⟩ := dt_of I.hok e
    have hz : xs.length ≤ sizeLine := by rw [← Paired.length rel]; exact z
    have hl : (putK kvs k v).length ≤ sizeLine := by have := length_putK kvs k v; (first | lia | omega)
    refine wpAny_setItem_heap (hsz := hz) (tupleKind_room_in1 hu) (key_of I.hok eb) dd fun h' dd' hs => h _ ?_
    obtain ⟨q, es, ep, hq, h2, h3, h4, _, h5⟩ := dd'
    refine d_write I (by rw [e]; exact True.intro) hs ⟨q, hq⟩ ⟨hl, hd, _, (rel.put k eb rv).keeps fun c ys ec => ?_, q, es, ep, hq, h2, h3, h4, h5⟩
    rw [upd_ne (ne_of ec e (fun z => nomatch z))]
    exact ec
end



/-! ### readings and rules -/
/-- the element of a subscription, not a slice -/
def NoSl (i : Expr) : Prop := ∀ ov iv, subscripted i false ov iv = operate [ov, iv] (getItem ov iv)
theorem subD_of {prog : Program} {w : World} {A : Around} {E : Value → Shared → Prop} {s : Shared} {env : Env} {value slice : Expr} {pos : Pos} {T id : String} {Q : Value → Shared → Prop}
    (hl : typeLookup (.type T) "__getitem__" = pure (some (.builtin id))) (hs : NoSl slice)
    (h : wpAny (model prog w) A (eval value env) (fun o s₁ => wpAny (model prog w) A (eval slice env) (fun i s₂ => s₂.TypeIs o T ∧ wpAny (model prog w) A (getItem o i) Q E s₂) E s₁) E s) :
    wpAny (model prog w) A (eval (.Subscript value slice pos) env) Q E s := by
  refine Subscript_ (wpAny_mono h (fun o s₁ h₁ => wpAny_mono h₁ (fun i s₂ h₂ => ?_) fun _ _ x => x) fun _ _ x => x)
  obtain ⟨hT, h₂⟩ := h₂
  unfold subscriptTail
  refine wpAny_bind ?_
  rw [getitemInPython_of_ne hT.not_modules]
  refine wpAny_bind (wpAny_specialOf hT hl ?_)
  have fin : wpAny (model prog w) A (subscripted slice false o i) (fun r s₃ => wpAny (model prog w) A (letTemporaryGo value o r >>= fun _ => pure r) Q E s₃) E s₂ := by
    rw [hs o i]
    exact wpAny_operating (wpAny_mono h₂ (fun r s₃ h₃ => wpAny_bind (wpAny_letTemporaryGo (wpAny_pure h₃))) fun _ _ x => x)
  first
    | exact wpAny_pure (wpAny_bind fin)
    | exact wpAny_bind (wpAny_pure (wpAny_bind fin))
    | exact wpAny_bind fin

theorem dict_typeIs {X : Cx} {pins : List (Addr × Obj)} {σ : St} {H : Hp} {s : Shared} {a : Addr} {y : V} {o : Option V} (I : Inv X pins σ H s) (g : DGet H a y o) : s.TypeIs (.ref a) "dict" := by
  rcases g with ⟨kvs, k, e, _, _⟩ | ⟨kvs, k, b, e, _, _, _⟩
  · obtain ⟨_, _, vs, _, dd⟩ := dk_rd I.hok e
    exact dd.typeIs
  · obtain ⟨_, _, xs, _, dd⟩ := dt_rd I.hok e
    exact dd.typeIs
/-- d[y] -/
def tDGet (td ty : TE) : TE := fun σ H Q => td σ H fun x H1 => ty σ H1 fun y H2 => ∃ a v, x = .ref a ∧ DGet H2 a y (some v) ∧ Q v H2
/-- y in d, y not in d -/
def tDIn (ty td : TE) : TE := fun σ H Q => ty σ H fun y H1 => td σ H1 fun x H2 => ∃ a o, x = .ref a ∧ DGet H2 a y o ∧ Q (.bl o.isSome) H2
/-- d[y] = v -/
def sDPut (td ty tv : TE) : TS := fun D σ H => tv σ H fun v H1 => td σ H1 fun x H2 => ty σ H2 fun y H3 => ∃ a H4, x = .ref a ∧ DPut H3 a y v H4 ∧ D.nx σ H4
section
variable {X : Cx} {o i e value : Expr} {pos pos' tpos : Pos} {td ty tv : TE}
theorem pe_dget (hu : X.A.units + 1 < cLine) (ho : PE X o td) (hi : PE X i ty) (hs : NoSl i) : PE X (.Subscript o i pos) (tDGet td ty) := by
  intro pins s σ H Q I h
  refine subD_of PySem.F.slot_dict_getitem.lookup hs (thn (ho pins s σ H _ I h) fun u s1 ⟨x, H1, I1, rx, q1⟩ => thn (hi pins s1 σ H1 _ I1 q1) fun iv s2 ⟨y, H2, I2, ry, a, v, ex, g, q2⟩ => ?_)
  subst ex
  obtain rfl : u = Value.ref a := rx
  exact ⟨dict_typeIs I2 g, d_getItem hu I2 g ry fun w' s3 I3 rw' => ⟨v, H2, I3, rw', q2⟩⟩
theorem pc_din (hu : X.A.units + 1 < cLine) (hi : PE X i ty) (ho : PE X o td) : PC X .In i o (tDIn ty td) := by
  intro pins s σ H Q I h
  refine thn (hi pins s σ H _ I h) fun iv s1 ⟨y, H1, I1, ry, q1⟩ => thn (ho pins s1 σ H1 _ I1 q1) fun u s2 ⟨x, H2, I2, rx, a, ov, ex, g, q2⟩ => ?_
  subst ex
  obtain rfl : u = Value.ref a := rx
  exact d_in hu I2 g ry fun s3 I3 => ⟨.bl ov.isSome, H2, I3, rfl, q2⟩
theorem ps_dput (hu : X.A.units + 1 < cLine) (ho : PE X o td) (hi : PE X i ty) (hv : PE X value tv) (hs : swapsWith value (some (.Subscript o i pos')) pos.line X.env = pure false) :
    PS X (.Assign [.Subscript o i pos'] value pos) (sDPut td ty tv) := by
  intro pins s σ H D I h
  refine wpAny_Assign_Subscript (thn (hv pins s σ H _ I h) fun r s1 ⟨v, H1, I1, rv, q1⟩ => thn (ho pins s1 σ H1 _ I1 q1) fun u s2 ⟨x, H2, I2, rx, q2⟩ => thn (hi pins s2 σ H2 _ I2 q2) fun iv s3 ⟨y, H3, I3, ry, a, H4, ex, g, q3⟩ => ?_) hs
  subst ex
  obtain rfl : u = Value.ref a := rx
  exact d_setItem hu I3 g ry rv fun s4 I4 => ⟨σ, H4, I4, q3⟩
end


/-! ### displays -/
theorem dt_empty {P : Program} {w : World} {H : Hp} (h : Heap) (hb : sysModules < h.objs.size) : ObjOk P w H (h.push { cls := .type "dict", data := .dict #[] }) h.objs.size (.dT []) :=
  ⟨Nat.zero_le _, beq_eq_false_iff_ne.mpr (Ne.symm (Nat.ne_of_lt hb)), [], .nil, _, #[], 0, Heap.get?_push_size _ rfl, ⟨rfl, rfl, rfl⟩, rfl, rfl, List.nodup_nil⟩
def tDNewT : TE := fun _ H Q => ∀ p, H p = none → Q (.ref p) (upd H p (.dT []))
section
variable {X : Cx} {pos : Pos}
theorem pe_dnewT : PE X (.Dict [] [] pos) tDNewT := fun pins s σ H Q I h =>
  wpAny_Dict_empty ⟨.ref s.heap.objs.size, _, I.laid (a := s.heap.objs.size) (o := .dT []) (t' := s.toks) (fun _ _ q => Heap.get?_push_of_some _ q) (Nat.le_refl _) (dt_empty s.heap I.big), rfl, h _ (I.hok.fresh (Nat.le_refl _))⟩
end

/-! ### methods -/


/-! ### dict(d): a copy -/


end L2
namespace L2
open PySem PySem.Spec PyProof.Rows
/-! ### a dict's pairs: keys that differ -/
end L2
/-! own classes: their methods and their making, as Has; a statement that is never come to; int(truth) -/
namespace L2
open PySem PySem.Spec PyProof.Rows
end L2
namespace L2
open PySem PySem.Spec PyProof.Rows
end L2

/-! for i, c in enumerate(text) -/
namespace L2
open PySem PySem.Spec PyProof.Rows
end L2

/-! t + u of tuples, == of lists of texts, groves behind one another -/
namespace L2
open PySem PySem.Spec PyProof.Rows
section
variable {X : Cx}
def rCatG (K : PySem.W.Frag) : R2 := fun x y H Q => ∃ l b xs zs, x = .ref l ∧ y = .ref b ∧ H l = some (.tup xs) ∧ H b = some (.tup zs) ∧ xs.length + zs.length ≤ sizeLine ∧ ∀ p H', Same H H' → H' p = some (.tup (xs ++ zs)) → Q (.ref p) H'
theorem op_catG : OpR X (binaryOp .Add) (rCatG X.K) := by
  intro pins s σ H x y v u Q I rx ry h
  obtain ⟨l, b, xs, zs, rfl, rfl, hl, hb, hz, q⟩ := h
  cases rx
  cases ry
  obtain ⟨its, r, p1, z1⟩ := I.tuple (SqT.of hl)
  obtain ⟨its2, r2, p2, z2⟩ := I.tuple (SqT.of hb)
  obtain ⟨⟨c1, d1, t1, s1⟩, ho, hc, n, hd⟩ := p1
  obtain ⟨⟨c2, d2, t2, s2⟩, ho2, hc2, n2, hd2⟩ := p2
  simp only at hc hd hc2 hd2
  subst hc hd hc2 hd2
  have k1 := r.length
  have k2 := r2.length
  by_cases e1 : its = []
  · subst e1
    cases r
    refine concat_meets ⟨_, ho, rfl⟩ ⟨_, ho2, rfl⟩ noFill_tuple_add seq_tuple_add PySem.F.slot_tuple_add PySem.F.entry_tuple_add (PySem.F.args_tuple_add_2 _ _) (tuple_addW0 l b _ _ n n2 d1 d2 s1 s2 rfl) ⟨ho, ho2, ?_⟩
    exact ⟨.ref b, H, I.tok _, rfl, q b H (Same.refl H) hb⟩
  by_cases e2 : its2 = []
  · subst e2
    cases r2
    refine concat_meets ⟨_, ho, rfl⟩ ⟨_, ho2, rfl⟩ noFill_tuple_add seq_tuple_add PySem.F.slot_tuple_add PySem.F.entry_tuple_add (PySem.F.args_tuple_add_2 _ _) (tuple_addW1 l b _ _ n n2 d1 d2 s1 s2 (by simpa using e1) rfl) ⟨ho, ho2, ?_⟩
    exact ⟨.ref l, H, I.tok _, rfl, q l H (Same.refl H) (by rw [List.append_nil]; exact hl)⟩
  · refine concat_meets ⟨_, ho, rfl⟩ ⟨_, ho2, rfl⟩ noFill_tuple_add seq_tuple_add PySem.F.slot_tuple_add PySem.F.entry_tuple_add (PySem.F.args_tuple_add_2 _ _) (tuple_addW2 l b _ _ n n2 d1 d2 s1 s2 (by simpa using e1) (by simpa using e2) (by rw [List.size_toArray, List.size_toArray]; (first | lia | omega))) ⟨ho, ho2, ?_⟩
    have ea : its.toArray ++ its2.toArray = (its ++ its2).toArray := by simp
    rw [ea]
    have hf : H s.heap.objs.size = none := I.hok.fresh (Nat.le_refl _)
    refine ⟨.ref s.heap.objs.size, upd H s.heap.objs.size (.tup (xs ++ zs)), I.laid (t' := s.toks) (fun b u e => Heap.get?_push_of_some _ e) (Nat.le_refl _) ?_, rfl, q _ _ (Same.new hf) upd_same⟩
    exact ⟨by rw [List.length_append]; exact hz, its ++ its2, r.append r2, _, Heap.get?_push_size _ rfl, rfl, _, rfl⟩
end
end L2
namespace Fg
open PySem L2 FgM
end Fg
namespace FgM
end FgM
namespace Fg
open PySem L2 FgM
end Fg

/-! recursion's ground, constants of the module, == of tuples by their lengths, blocks with captured names -/
namespace L2
open PySem PySem.Spec PyProof.Rows
theorem FnOk.none {P : Program} {w : World} {K : PySem.W.Frag} {mg : Str → Option Value} {base : Heap} {CX : CXT} {k : Nat} {f : Addr} {fd : FuncData} {ps : List Str} {sp : Sp} (h : ∀ vs H Q E, ¬ sp vs H Q E) : FnOk P w K mg base CX k f fd ps sp :=
  ⟨fun vs H Q E z => absurd z (h vs H Q E), fun A outer s H args us vs Q E hr e0 hb r z => absurd z (h vs H Q E)⟩
/-! captured names -/
theorem lookup_mem {β : Type} {x : Str} {c : β} : ∀ {l : List (Str × β)}, l.lookup x = some c → (x, c) ∈ l
  | [], h => by cases h
  | (y, d) :: l, h => by
    rw [List.lookup_cons] at h
    cases e : x == y with
    | true =>
      rw [e] at h
      cases h
      rw [beq_iff_eq.mp e]
      exact List.mem_cons_self ..
    | false =>
      rw [e] at h
      exact List.mem_cons_of_mem _ (lookup_mem h)
theorem cap_cl {env : Env} {cl : List (Str × Addr)} (h : ∀ p ∈ cl, env.cells.lookup p.1 = some p.2) : ∀ x c, cl.lookup x = some c → env.cells.lookup x = some c := fun x c e => h (x, c) (lookup_mem e)
theorem cap_has {scope : Scope} {env : Env} {cl : List (Str × Addr)} (h : ∀ y ∈ scope.names, (y.2 = .cell ∨ y.2 = .free) → ∃ c, cl.lookup y.1 = some c) : ∀ (C : Addr) (x : Str), ((compEnvC scope cl C env).kindOf x = some .cell ∨ (compEnvC scope cl C env).kindOf x = some .free) → ∃ c, cl.lookup x = some c := by
  have key : ∀ (k : NameKind) (x : Str), (k = .cell ∨ k = .free) → (scope.names.map fun (n, k) => if (k == .free && env.scope.kind == .function && env.kindOf n == some .cell) then (n, .cell) else (n, k)).lookup x = some k → ∃ c, cl.lookup x = some c := by
    intro k x hk e
    obtain ⟨⟨n, k0⟩, hy, he⟩ := List.mem_map.mp (lookup_mem e)
    by_cases hc : (k0 == .free && env.scope.kind == .function && env.kindOf n == some .cell) = true
    · simp only [hc, if_true] at he
      have h0 : k0 = .free := by
        simp only [Bool.and_eq_true] at hc
        have := hc.1.1
        cases k0 <;> first | rfl | exact absurd this (by decide)
      injection he with e1 e2
      subst e1
      exact h _ hy (.inr h0)
    · simp only [hc] at he
      injection he with e1 e2
      subst e1 e2
      exact h _ hy hk
  intro C x hx
  rcases hx with e | e
  · exact key _ x (.inl rfl) e
  · exact key _ x (.inr rfl) e
end L2
namespace L2
open PySem PySem.Spec PyProof.Rows
end L2

/-! a block's parts by names of their own (what comes behind a statement is then one word in a proof) -/
namespace L2
open PySem PySem.Spec PyProof.Rows
def sBody : Stmt → List Stmt
  | .For _ _ b _ _ => b
  | .While _ b _ _ => b
  | .If _ b _ _ => b
  | _ => []
def sElse : Stmt → List Stmt
  | .If _ _ b _ => b
  | _ => []
theorem hideI {X : Cx} {b : List Stmt} {D : Ends} {σ : St} {H : Hp} (s : List Stmt) {t : TS} (h : PSs X s t) (k : ∀ u, PSs X s u → u = t → ∃ t, PSs X b t ∧ t D σ H) : ∃ t, PSs X b t ∧ t D σ H := k t h rfl
theorem by_eq {u t : TS} (e : u = t) {D : Ends} {σ : St} {H : Hp} (h : t D σ H) : u D σ H := e ▸ h
theorem len1 {α : Type} : ∀ {us : List α}, us.length = 1 → ∃ a, us = [a]
  | [a], _ => ⟨a, rfl⟩
theorem lenS {α : Type} {n : Nat} : ∀ {us : List α}, us.length = n + 1 → ∃ a vs, us = a :: vs ∧ vs.length = n
  | a :: vs, h => ⟨a, vs, rfl, Nat.succ.inj h⟩
theorem len2 {α : Type} {us : List α} (h : us.length = 2) : ∃ a b, us = [a, b] := by
  obtain ⟨a, vs, rfl, h2⟩ := lenS h
  obtain ⟨b, rfl⟩ := len1 h2
  exact ⟨a, b, rfl⟩
theorem len3 {α : Type} {us : List α} (h : us.length = 3) : ∃ a b c, us = [a, b, c] := by
  obtain ⟨a, vs, rfl, h2⟩ := lenS h
  obtain ⟨b, c, rfl⟩ := len2 h2
  exact ⟨a, b, c, rfl⟩
theorem Vals.inv {v : V} {vs : List V} {us : List Value} (h : Vals (v :: vs) us) : ∃ u us', us = u :: us' ∧ RelV v u ∧ Vals vs us' := by
  cases h with
  | cons r t => exact ⟨_, _, rfl, r, t⟩
theorem Vals.end_ {us : List Value} (h : Vals [] us) : us = [] := by
  cases h
  rfl
end L2

/-! exceptions of own classes: raised, passed on, caught -/
namespace L2
open PySem PySem.Spec PyProof.Rows
/-- the exception at e: its class, its own dict -/
def XO (e : Addr) (C : Value) (d : Option Addr) : Heap → Prop := fun h => ∃ oe vs, h.get? e = some oe ∧ oe.cls = C ∧ oe.dict = d ∧ oe.data = .fields vs ∧ 4 < vs.size
theorem XO.ext_ok {P : Program} {w : World} {H : Hp} {h : Heap} {e : Addr} {C : Value} {d : Option Addr} (x : XO e C d h) : ObjOk P w H h e (.ext (XO e C d)) := by
  refine ⟨x, ?_, fun h1 h2 p k => ?_⟩
  · obtain ⟨oe, _, ho, _⟩ := x
    exact ⟨oe, ho⟩
  · obtain ⟨oe, vs, ho, r⟩ := p
    exact ⟨oe, vs, k oe ho, r⟩
theorem upd_self {H : Hp} {a : Addr} {o : HO} (h : H a = some o) : upd H a o = H := by
  funext b
  unfold upd
  by_cases e : b = a
  · subst e; rw [if_pos rfl, h]
  · rw [if_neg e]
section
variable {X : Cx} {pins : List (Addr × Obj)} {σ : St} {H : Hp} {s : Shared} {e T : Addr} {C : Value} {d : Option Addr} {M : Model} {A : Around} {E : Value → Shared → Prop} {Q : Unit → Shared → Prop}
theorem Inv.xo (I : Inv X pins σ H s) (he : H e = some (.ext (XO e C d))) : XO e C d s.heap := (I.hok e _ he).1
/-- the exception's own object is changed -/
theorem Inv.poke {h' : Heap} {t' : Nat} (I : Inv X pins σ H s) (he : H e = some (.ext (XO e C d))) (k : ∀ b u, b ≠ e → s.heap.get? b = some u → h'.get? b = some u) (x : XO e C d h') : Inv X pins σ H { s with heap := h', toks := t' } := by
  have := I.write (x := e) (e := e) (o := .ext (XO e C d)) (h' := h') (t' := t') (by rw [he]; trivial) (.inl rfl) k (by obtain ⟨oe, _, ho, _⟩ := x; exact ⟨oe, ho⟩) x.ext_ok
  rwa [upd_self he] at this
/-- the head of the traceback -/
def XHead (X : Cx) (pins : List (Addr × Obj)) (H : Hp) (h : Heap) (e : Addr) (fl : Value) : Prop :=
  ∃ T oT ts oe vs, h.get? e = some oe ∧ oe.data = .fields vs ∧ vs[1]? = some (.ref T) ∧ FpOk X pins H T ∧ h.get? T = some oT ∧ oT.data = .fields ts ∧ ts[3]? = some fl
def XSt (X : Cx) (pins : List (Addr × Obj)) (H : Hp) (h : Heap) (e : Addr) : Prop := (∃ oe vs, h.get? e = some oe ∧ oe.data = .fields vs ∧ vs[1]? = some .none) ∨ XHead X pins H h e .none
theorem fld_up {h : Heap} {a : Addr} {o : Obj} {vs : Array Value} (i : Nat) (x : Value) (ho : h.get? a = some o) (hd : o.data = .fields vs) :
    (h.update a (Obj.mapFields (·.setIfInBounds i x))).get? a = some (o.mapFields (·.setIfInBounds i x)) := Heap.get?_update_self _ ho (Obj.isFreed_of_fields (Obj.data_mapFields hd _))
theorem dict_map (o : Obj) (f : Array Value → Array Value) : (o.mapFields f).dict = o.dict := by
  obtain ⟨c, d, dt, sl⟩ := o
  cases dt <;> rfl
theorem XO.put {h : Heap} (x : XO e C d h) (i : Nat) (v : Value) : XO e C d (h.update e (Obj.mapFields (·.setIfInBounds i v))) := by
  obtain ⟨oe, vs, ho, hc, hdd, hd, hz⟩ := x
  exact ⟨_, _, fld_up i v ho hd, (Obj.cls_mapFields ..).trans hc, (dict_map ..).trans hdd, Obj.data_mapFields hd _, by simpa using hz⟩
/-- the slots of the frames that run have changed -/
theorem Inv.slots {h' : Heap} (I : Inv X pins σ H s) (hs : Heap.SlotsOnly (frs X.stack) s.heap h') : Inv X pins σ H { s with heap := h' } := by
  refine I.call' (s' := { s with heap := h' }) (ch := []) rfl ⟨fun b o q n hb _ => (hs.2.1 b hb).trans q, fun b o q _ _ _ => hs.2.2 b o q, fun _ _ _ n _ => n, fun b o q _ => let ⟨sl, e⟩ := hs.2.2 b o q; ⟨_, e⟩, fun _ _ q => q, fun _ _ _ q => q, fun _ ps q => ⟨#[], by rw [q]; simp⟩⟩ ?_ I.bare (fun b z => absurd z (by simp))
  intro b o q
  have hfr := I.stkFree
  refine (I.hok b o q).stay (fun c u hc z => ?_) (fun _ z => z) (fun _ _ z => z)
  have hn : c ∉ frs X.stack := by
    intro hm
    rcases hc with rfl | hc
    · rw [hfr _ hm] at q; cases q
    · rw [hfr _ hm] at hc; cases hc
  exact (hs.2.1 c hn).trans z
theorem entry_ok {head : Value} {hadNext : Bool} (hA : A.frames = some (X.env :: X.outer)) (hstk : X.stack = X.env :: X.outer) (hf : X.env.frame = some X.env.locals) (I : Inv X pins σ H s) (he : H e = some (.ext (XO e C d)))
    (h : ∀ h', Inv X pins σ H { s with heap := h' } → XHead X pins H h' e (rawInt X.env.locals) → Q () { s with heap := h' }) :
    wpAny M A (frameOf X.env >>= fun a => entryPlaceOf X.env.locals hadNext >>= fun pl => EntryCells.newEntry head a .none (rawInt X.env.locals) .none pl >>= fun b => setField (.ref e) 1 b) Q E s := by
  have hl : s.heap.FunFrames X.base (X.env :: X.outer) := hstk ▸ I.stack
  refine wpAny_bind (wpAny_frameOf_fun hA hl hf fun h1 hs1 => ?_)
  have I1 : Inv X pins σ H { s with heap := h1 } := I.slots (by rw [hstk]; exact hs1)
  refine wpAny_bind (wpAny_entryPlaceOf fun pl hpl => ?_)
  unfold EntryCells.newEntry newFields
  refine wpAny_bind (wpAny_newObj_type ?_ (hpl.sizeOk5 _ _ _ _ _))
  generalize hob : ({ cls := Value.type "traceback", dict := none, data := Data.fields ([head, Value.ref X.env.locals, Value.none, rawInt X.env.locals, Value.none] ++ (if pl.isEmpty then List.replicate 6 Value.none else pl)).toArray } : Obj) = ob
  have I2 : Inv X pins σ H { s with heap := h1.push ob } := I1.kept (h' := h1.push ob) (t' := s.toks) fun b u q => Heap.get?_push_of_some _ q
  obtain ⟨oe, vs, ho, hc, hdd, hd, hz⟩ := I2.xo he
  refine wpAny_setField ho hd (by (first | lia | omega)) (h _ (I2.poke (t' := s.toks) he (fun b u hb q => (Heap.get?_update_other _ _ (Ne.symm hb)).trans q) ((I2.xo he).put 1 _)) ?_)
  have hT : (h1.push ob).get? h1.objs.size = some ob := Heap.get?_push_size _ (by rw [← hob]; rfl)
  have hne : e ≠ h1.objs.size := fun z => by
    have := I1.hok.lt he
    rw [z] at this
    exact absurd this (Nat.lt_irrefl _)
  refine ⟨h1.objs.size, ob, ([head, Value.ref X.env.locals, Value.none, rawInt X.env.locals, Value.none] ++ (if pl.isEmpty then List.replicate 6 Value.none else pl)).toArray, _, _, fld_up 1 _ ho hd, Obj.data_mapFields hd _, ?_, I1.fpOk (Nat.le_refl _) (I1.hok.fresh (Nat.le_refl _)), (Heap.get?_update_other _ _ hne).trans hT, ?_, ?_⟩
  · rw [Array.getElem?_setIfInBounds_self_of_lt (by (first | lia | omega))]
  · rw [← hob]
  · simp
theorem note_ok (hA : A.frames = some (X.env :: X.outer)) (hstk : X.stack = X.env :: X.outer) (hf : X.env.frame = some X.env.locals) (I : Inv X pins σ H s) (he : H e = some (.ext (XO e C d))) (x : XSt X pins H s.heap e)
    (h : ∀ h', Inv X pins σ H { s with heap := h' } → XHead X pins H h' e (rawInt X.env.locals) → Q () { s with heap := h' }) : wpAny M A (noteFrame (.ref e) X.env) Q E s := by
  unfold noteFrame
  simp only [hf]
  rcases x with ⟨oe, vs, ho, hd, h1⟩ | ⟨T, oT, ts, oe, vs, ho, hd, h1, fT, hT, hdT, h3⟩
  · refine wpAny_bind (wpAny_field ho hd h1 ?_)
    rw [if_neg (by decide)]
    exact entry_ok hA hstk hf I he h
  · refine wpAny_bind (wpAny_field ho hd h1 ?_)
    rw [if_pos (show (Value.ref T != Value.none) = true by simp)]
    refine wpAny_bind (wpAny_field hT hdT h3 ?_)
    rw [if_neg (show ¬ ((Value.none == rawInt X.env.locals) = true) by simp [rawInt])]
    refine wpAny_bind (wpAny_setField hT hdT (Array.getElem?_eq_some_iff.mp h3).1 ?_)
    obtain ⟨f0, f1, f2, f3, f4, f5⟩ := fT
    have I1 := I.turned (t' := s.toks) (h' := s.heap.update T (Obj.mapFields (·.setIfInBounds 3 Value.none))) (fun b u hb q => (Heap.get?_update_other _ _ (Ne.symm hb)).trans q) f0 f1 f3 f4 f5
    exact entry_ok hA hstk hf I1 he h
theorem land_ok {fl : Value} (I : Inv X pins σ H s) (he : H e = some (.ext (XO e C d))) (x : XHead X pins H s.heap e fl)
    (h : ∀ h', Inv X pins σ H { s with heap := h' } → XHead X pins H h' e .none → Q () { s with heap := h' }) : wpAny M A (setFlight (.ref e) none) Q E s := by
  obtain ⟨T, oT, ts, oe, vs, ho, hd, h1, fT, hT, hdT, h3⟩ := x
  unfold setFlight
  refine wpAny_bind (wpAny_field ho hd h1 ?_)
  rw [if_pos (show (Value.ref T != Value.none) = true by simp)]
  refine wpAny_setField hT hdT (Array.getElem?_eq_some_iff.mp h3).1 ?_
  obtain ⟨f0, f1, f2, f3, f4, f5⟩ := id fT
  have hne : T ≠ e := fun z => by subst z; rw [f0] at he; cases he
  refine h _ (I.turned (t' := s.toks) (fun b u hb q => (Heap.get?_update_other _ _ (Ne.symm hb)).trans q) f0 f1 f3 f4 f5) ⟨T, _, _, oe, vs, (Heap.get?_update_other _ _ hne).trans ho, hd, h1, fT, fld_up 3 _ hT hdT, Obj.data_mapFields hdT _, ?_⟩
  rw [Array.getElem?_setIfInBounds_self_of_lt (Array.getElem?_eq_some_iff.mp h3).1]
  rfl
end
/-- what a body wants of an exception, by its names' values -/
abbrev XKS := St → XK
/-- how an exception lies behind a call -/
def CXE (P : Program) (w : World) : CXT := fun outer H s E ev s' => ∃ (e : Addr) (C : Value) (d : Option Addr) (H' : Hp), ev = .ref e ∧ s'.os = s.os ∧ AllBare s'.gens ∧ Un (frs outer) [] H H' s.heap s'.heap ∧ HOk P w H' s'.heap ∧
  H' e = some (.ext (XO e C d)) ∧ s.heap.objs.size ≤ e ∧ (∃ T oT ts oe vs, s'.heap.get? e = some oe ∧ oe.data = .fields vs ∧ vs[1]? = some (.ref T) ∧ H' T = none ∧ s.heap.objs.size ≤ T ∧ s'.heap.get? T = some oT ∧ oT.data = .fields ts ∧ ts[3]? = some .none) ∧ E C d H'
def Takes (X : Cx) (E : XKS) : Prop := ∀ (pins : List (Addr × Obj)) (σ : St) (H : Hp) (s : Shared) (e : Addr) (C : Value) (d : Option Addr), Inv X pins σ H s → H e = some (.ext (XO e C d)) → (X.ex = [] → X.s₀.heap.objs.size ≤ e) → XSt X pins H s.heap e → E σ C d H → X.xe (.ref e) s
theorem takes_def {P : Program} {w : World} {K : PySem.W.Frag} {mg : Str → Option Value} {base : Heap} {N : List Str} {qual : Str} {scope : Scope} {f : Addr} {cd : Value} {A : Around} {outer : List Env} {s : Shared} {H : Hp} {E : XK} :
    Takes (cxOf (CXE P w) P w K mg base N qual scope f cd A outer s H E) (fun _ => E) := by
  intro pins σ H1 s1 e C d I he hy x hE
  show wpAny _ _ (leaving _ _) _ _ s1
  unfold leaving
  refine wpAny_bind (note_ok (X := cxOf (CXE P w) P w K mg base N qual scope f cd A outer s H E) I.ok.frames rfl rfl I he x fun h2 I2 x2 => land_ok I2 he x2 fun h3 I3 x3 => ?_)
  obtain ⟨T, oT, ts, oe, vs, ho, hd, h1, fT, hT, hdT, h3'⟩ := x3
  refine ⟨e, C, d, H1, rfl, I3.os, I3.bare, I3.base, I3.hok, he, hy rfl, ⟨T, oT, ts, oe, vs, ho, hd, h1, fT.1, ?_, hT, hdT, h3'⟩, hE⟩
  rcases fT.2.2.2.1 with z | z
  · exact absurd z (by show T ∉ ([] : List Addr); simp)
  · exact z
/-- a callee's exception comes to a body that takes it -/
theorem takes_pass {X : Cx} {E : XKS} (hT : Takes X E) {pins : List (Addr × Obj)} {σ : St} {H : Hp} {s s' : Shared} {ev : Value} (I : Inv X pins σ H s) (h : CXE X.prog X.w X.stack H s (E σ) ev s') : X.xe ev s' := by
  obtain ⟨e, C, d, H', rfl, os, bare, un, hok, he, hes, ⟨T, oT, ts, oe, vs, ho, hd, h1, hTn, hTs, hT', hdT, h3⟩, hE⟩ := h
  have I1 := I.call' (ch := []) os un hok bare (fun b z => absurd z (by simp))
  exact hT pins σ H' s' e C d I1 he (fun _ => Nat.le_trans I.sz hes) (.inr ⟨T, oT, ts, oe, vs, ho, hd, h1, I.fpOk hTs hTn, hT', hdT, h3⟩) hE
end L2

namespace L2
open PySem PySem.Spec PyProof.Rows
/-! ### callees that may raise -/
structure HasX (P : Program) (w : World) (K : PySem.W.Frag) (mg : Str → Option Value) (base : Heap) (x : Str) (ps : List Str) (k : Nat) (sp : Sp) : Prop where
  ex : ∃ (f : Addr) (fd : FuncData), FnOk P w K mg base (CXE P w) k f fd ps sp ∧ Binds K fd ps [] ∧ PySem.W.keepIn K (.ref f) = true ∧ mg x = some (.ref f)
def tCallS (sp : Sp) (E : XKS) (t : TA) : TE := fun σ H Q => t σ H fun vs H1 => sp vs H1 Q (E σ)
section
variable {X : Cx} {j k : Nat} {f : Addr} {fd : FuncData} {ps : List Str} {sp : Sp} {E : XKS} {x : Str} {p pos : Pos} {e : Expr} {es : List Expr} {t : TA}
theorem run_fnX {pins : List (Addr × Obj)} {σ : St} {H : Hp} {s : Shared} {Q : VK} {us : List Value} {vs : List V} (F : FnOk X.prog X.w X.K X.mg X.base (CXE X.prog X.w) k f fd ps sp) (hr : Room k X.A) (hb : Binds X.K fd ps []) (hT : Takes X E)
    (I : Inv X pins σ H s) (r : Vals vs us) (h : sp vs H Q (E σ)) : wpAny (model X.prog X.w) X.A (call (.ref f) us) (EP X pins σ Q) X.xe s := by
  have hl : us.length = ps.length := by rw [← r.length]; exact F.len _ _ _ _ h
  have hbb := hb s us I.kIn (by rw [List.append_nil]; exact hl)
  rw [List.append_nil] at hbb
  refine wpAny_call (codeAny_mono (F.run X.A X.stack s H ⟨us, []⟩ us vs Q (E σ) hr I.env0 hbb r h) fun r s' hq => ?_)
  cases r with
  | error e => exact takes_pass hT I hq
  | ok fl =>
    cases fl with
    | ret u => exact I.after hq
    | next => exact False.elim hq
    | brk => exact False.elim hq
    | cont => exact False.elim hq
theorem pe_hasX (G : HasX X.prog X.w X.K X.mg X.base x ps j sp) (hT : Takes X E) (hr : Room k X.A) (hg : Gl X x) (ha : PA X (e :: es) t) (hk : j ≤ k := by decide) (hdb : (x == ("__debug__" : Str)) = false := by decide)
    (he : starEach (e :: es) X.env = (false, eval e X.env) :: starEach es X.env := by rfl) (hpl : (backTo pos (starEach es X.env)).any (·.1) = false := by rfl) :
    PE X (.Call (.Name x p) (e :: es) [] pos) (tCallS sp E t) := by
  obtain ⟨f, fd, F, b, kp, m⟩ := G.ex
  intro pins s σ H Q I h
  refine wpAny_Call_Name_kw (ld_glob I hg m ?_ hdb)
  refine PySem.W.callWith_K (h₀ := X.base) I.ok.mod.kin kp (thn (ha pos pins s σ H _ I h) fun us s1 ⟨vs, H1, I1, r, q⟩ => ⟨I1.kIn, ?_⟩) he hpl
  exact run_fnX (F.room hk) hr b hT I1 r q
end
/-- a def of the text that may raise -/
theorem Fun.okX {P : Program} {w : World} {K : PySem.W.Frag} {mg : Str → Option Value} {base : Heap} {x qual : Str} {st : Stmt} {f : Addr} {fd : FuncData} {N ps : List Str} {k : Nat} {sp : Sp} (F : Fun K x qual st f fd) (S : FnScope N ps (defScope st)) (len : ∀ vs H Q E, sp vs H Q E → vs.length = ps.length)
    (hbody : ∀ (cdv : Value) (A : Around) (outer : List Env) (s : Shared) (H : Hp) (vs : List V) (Q : VK) (E : XK), Room k (A.deeper (envOfC qual (defScope st) s.heap.objs.size f cdv)) → sp vs H Q E →
      ∃ t, PSs (cxOf (CXE P w) P w K mg base N qual (defScope st) f cdv A outer s H E) (defBody st) t ∧ t { nx := fun _ H' => Q .non H', rt := Q } (start N vs) H) : FnOk P w K mg base (CXE P w) (k + 1) f fd ps sp := by
  obtain ⟨oc, od, kV, doc, pm, an, cdv, ct, osl, rfl, lk, hcd⟩ := F.ex
  exact fn_of lk hcd S len fun A outer s H vs Q E hr hsp => hbody cdv A outer s H vs Q E hr hsp
/-! ### which classes an except names -/
structure XCl (K : PySem.W.Frag) (D : Addr) : Prop where
  cl : PySem.W.isClsIn K D = true
  exc : PySem.W.mroIn K D (.type "BaseException") = some true
  nt : PySem.W.instIn K (.ref D) (.type "tuple") = some false
inductive Spec (K : PySem.W.Frag) (H : Hp) : V → List Addr → Prop
  | one {D : Addr} : XCl K D → Spec K H (.ref D) [D]
  | many {p : Addr} {Ds : List Addr} : SqT K H p (Ds.map V.ref) → (∀ D ∈ Ds, XCl K D) → Spec K H (.ref p) Ds
theorem vals_refs : ∀ {Ds : List Addr} {us : List Value}, Vals (Ds.map V.ref) us → us = Ds.map Value.ref
  | [], _, .nil => rfl
  | D :: Ds, _, .cons r t => by
    rw [vals_refs t]
    obtain rfl : _ = Value.ref D := r
    rfl
section
variable {M : Model} {A : Around} {E : Value → Shared → Prop} {s : Shared} {K : PySem.W.Frag} {D : Addr}
theorem XCl.isExc (x : XCl K D) (X : K.In s.heap) {Q : Bool → Shared → Prop} (h : Q true s) : wpAny M A (isExcClass (.ref D)) Q E s := by
  have hc := x.cl
  unfold PySem.W.isClsIn PySem.W.clsIn at hc
  split at hc
  · rename_i ho
    unfold isExcClass
    refine wpAny_bind ?_
    show wpAny M A (loadHead D >>= _) _ _ s
    refine wpAny_bind (wpAny_loadPart (X _ _ ho) (wpAny_pure ?_))
    dsimp only
    rw [if_pos rfl]
    exact (PySem.W.looks_mroIn X x.exc).here h
  · cases hc
theorem each_ok {g : Value → PUnit → Sem (ForInStep PUnit)} : ∀ (Ls : List Addr), (∀ D ∈ Ls, ∀ {Q : ForInStep PUnit → Shared → Prop}, Q (.yield PUnit.unit) s → wpAny M A (g (.ref D) PUnit.unit) Q E s) → ∀ {Q : PUnit → Shared → Prop}, Q PUnit.unit s → wpAny M A (forIn (Ls.map Value.ref) PUnit.unit g) Q E s
  | [], _, _, h => wpAny_pure h
  | D :: Ls, hg, _, h => by
    rw [List.map_cons, List.forIn_cons]
    exact wpAny_bind (hg D (List.mem_cons_self ..) (each_ok Ls (fun y hy => hg y (List.mem_cons_of_mem _ hy)) h))
theorem any_ok {f : Addr → Bool} {g : Value → Option Bool × Unit → Sem (ForInStep (Option Bool × Unit))} : ∀ (Ls : List Addr), (∀ D ∈ Ls, ∀ {Q : ForInStep (Option Bool × Unit) → Shared → Prop}, Q (if f D = true then .done (some true, ()) else .yield (none, ())) s → wpAny M A (g (.ref D) (none, ())) Q E s) →
    ∀ {Q : Option Bool × Unit → Shared → Prop}, Q (if Ls.any f = true then some true else none, ()) s → wpAny M A (forIn (Ls.map Value.ref) ((none, ()) : Option Bool × Unit) g) Q E s
  | [], _, _, h => wpAny_pure h
  | D :: Ls, hg, _, h => by
    rw [List.map_cons, List.forIn_cons]
    rw [List.any_cons] at h
    refine wpAny_bind (hg D (List.mem_cons_self ..) ?_)
    cases hf : f D with
    | true =>
      rw [hf] at h
      exact wpAny_pure h
    | false =>
      rw [hf] at h
      exact any_ok Ls (fun y hy => hg y (List.mem_cons_of_mem _ hy)) h
theorem em_ok {X : Cx} {pins : List (Addr × Obj)} {σ : St} {H : Hp} {f : Addr → Bool} {C e : Addr} {oe : Obj} {Q : Bool → Shared → Prop} {v : V} {u : Value} {Ds : List Addr} (I : Inv X pins σ H s) (hv : Spec X.K H v Ds) (r : RelV v u) (he : s.heap.get? e = some oe) (hc : oe.cls = .ref C)
    (hb : ∀ D ∈ Ds, PySem.W.mroIn X.K C (.ref D) = some (f D)) (h : Q (Ds.any f) s) : wpAny M A (excMatches (.ref e) u) Q E s := by
  cases hv with
  | @one D hD =>
    obtain rfl : u = Value.ref D := r
    unfold excMatches
    refine wpAny_bind ((PySem.W.looks_instIn I.kIn hD.nt).here ?_)
    dsimp only
    rw [if_neg Bool.false_ne_true]
    refine wpAny_bind (wpAny_pure ?_)
    refine wpAny_bind (each_ok [D] (fun y hy {Q} q => ?_) (wpAny_bind (wpAny_typeOf_ref he (wpAny_bind (any_ok (f := f) [D] (fun y hy {Q} q => ?_) ?_)))))
    · obtain rfl := List.mem_singleton.mp hy
      exact wpAny_bind (hD.isExc I.kIn (wpAny_pure q))
    · rw [hc]
      refine wpAny_bind ((PySem.W.looks_mroIn I.kIn (hb y hy)).here ?_)
      cases hf : f y with
      | true => rw [hf] at q; exact wpAny_pure q
      | false => rw [hf] at q; exact wpAny_pure q
    · cases hf : [D].any f with
      | true => rw [hf] at h; exact wpAny_pure h
      | false => rw [hf] at h; exact wpAny_pure h
  | @many p _ hp hD =>
    obtain rfl : u = Value.ref p := r
    obtain ⟨its, rv, ⟨o, ho, hcl, n, hd⟩, _⟩ := I.tuple hp
    unfold excMatches
    refine wpAny_bind (wpAny_isInstance (T := "tuple") ⟨o, ho, hcl⟩ (show isSubtype (.type "tuple") (.type "tuple") = pure true by rw [isSubtype_type]; kernel_rfl) ?_)
    dsimp only
    rw [if_pos rfl]
    refine wpAny_bind (wpAny_seqItems ho hd (wpAny_bind (wpAny_pure ?_)))
    have e1 : ((some its.toArray).getD #[]).toList = Ds.map Value.ref := by
      rw [← vals_refs rv]; rfl
    rw [e1]
    refine wpAny_bind (each_ok Ds (fun y hy {Q} q => ?_) (wpAny_bind (wpAny_typeOf_ref he (wpAny_bind (any_ok (f := f) Ds (fun y hy {Q} q => ?_) ?_)))))
    · exact wpAny_bind ((hD y hy).isExc I.kIn (wpAny_pure q))
    · rw [hc]
      refine wpAny_bind ((PySem.W.looks_mroIn I.kIn (hb y hy)).here ?_)
      cases hf : f y with
      | true => rw [hf] at q; exact wpAny_pure q
      | false => rw [hf] at q; exact wpAny_pure q
    · cases hf : Ds.any f with
      | true => rw [hf] at h; exact wpAny_pure h
      | false => rw [hf] at h; exact wpAny_pure h
end
end L2

namespace L2
open PySem PySem.Spec PyProof.Rows
/-! ### try -/
/-- the body of a try: the pins are borne by every state -/
abbrev Cx.tr (X : Cx) (pins : List (Addr × Obj)) (E : Value → Shared → Prop) : Cx := { X with pn := X.pn ++ pins, xe := E }
/-- an except's test or suite -/
abbrev Cx.hd (X : Cx) (e : Addr) : Cx := { X with A := X.A.mark (some (.ref e)), calm := false, xe := fun _ _ => False }
section
variable {X : Cx} {pins pins' : List (Addr × Obj)} {σ : St} {H : Hp} {s : Shared} {e : Addr} {E : Value → Shared → Prop}
theorem Inv.tr (I : Inv X pins σ H s) (E : Value → Shared → Prop) : Inv (X.tr pins E) [] σ H s :=
  ⟨⟨I.ok.mod, I.ok.kind, I.ok.glob, I.ok.blt, I.ok.above, I.ok.inj, I.ok.has, I.ok.cab, I.ok.hd, I.ok.frames, I.ok.stk, I.ok.exf, I.ok.bs, I.ok.bsz, I.ok.noex, I.ok.exfs, I.ok.funs, I.ok.frf⟩, I.os, I.bare, I.base, I.loc, I.cell, I.free, I.freeC, fun p hp => I.pin p (by simpa using hp), I.hok, I.len⟩
theorem Inv.untr (I : Inv (X.tr pins E) pins' σ H s) : Inv X pins σ H s :=
  ⟨⟨I.ok.mod, I.ok.kind, I.ok.glob, I.ok.blt, I.ok.above, I.ok.inj, I.ok.has, I.ok.cab, I.ok.hd, I.ok.frames, I.ok.stk, I.ok.exf, I.ok.bs, I.ok.bsz, I.ok.noex, I.ok.exfs, I.ok.funs, I.ok.frf⟩, I.os, I.bare, I.base, I.loc, I.cell, I.free, I.freeC, fun p hp => I.pin p (List.mem_append_left _ hp), I.hok, I.len⟩
theorem FpOk.untr {T : Addr} (f : FpOk (X.tr pins E) pins' H T) : FpOk X pins H T := ⟨f.1, f.2.1, f.2.2.1, f.2.2.2.1, f.2.2.2.2.1, fun p hp => f.2.2.2.2.2 p (List.mem_append_left _ hp)⟩
theorem Inv.hd (I : Inv X pins σ H s) (e : Addr) : Inv (X.hd e) pins σ H s :=
  ⟨⟨I.ok.mod, I.ok.kind, I.ok.glob, I.ok.blt, I.ok.above, I.ok.inj, I.ok.has, I.ok.cab, (fun z => nomatch z), I.ok.frames, I.ok.stk, I.ok.exf, I.ok.bs, I.ok.bsz, I.ok.noex, I.ok.exfs, I.ok.funs, I.ok.frf⟩, I.os, I.bare, I.base, I.loc, I.cell, I.free, I.freeC, I.pin, I.hok, I.len⟩
theorem Inv.unhd (I : Inv (X.hd e) pins σ H s) (ok : X.Ok) : Inv X pins σ H s := ⟨ok, I.os, I.bare, I.base, I.loc, I.cell, I.free, I.freeC, I.pin, I.hok, I.len⟩
theorem Inv.drop1 {p : Addr × Obj} (I : Inv X (p :: pins) σ H s) : Inv X pins σ H s := I.pins_of fun q hq => I.pin q (List.mem_append_right _ (List.mem_cons_of_mem _ hq))
theorem SP.untr {D : Ends} {f : Flow} {s' : Shared} (h : SP (X.tr pins E) pins' D f s') : SP X pins D f s' := by
  cases f with
  | next => obtain ⟨σ', H', I, q⟩ := h; exact ⟨σ', H', I.untr, q⟩
  | brk => obtain ⟨σ', H', I, q⟩ := h; exact ⟨σ', H', I.untr, q⟩
  | cont => obtain ⟨σ', H', I, q⟩ := h; exact ⟨σ', H', I.untr, q⟩
  | ret u => obtain ⟨v, σ', H', I, r, q⟩ := h; exact ⟨v, σ', H', I.untr, r, q⟩
end
/-- an object that is known -/
def Known (e : Addr) (oe : Obj) : HO := .ext fun h => h.get? e = some oe
theorem known_ok {P : Program} {w : World} {H : Hp} {h : Heap} {e : Addr} {oe : Obj} (x : h.get? e = some oe) : ObjOk P w H h e (Known e oe) := ⟨x, ⟨oe, x⟩, fun _ _ p k => k _ p⟩
abbrev THS := Ends → St → Hp → Addr → Obj → Prop
def PH (X : Cx) (hs : List ExceptHandler) (t : THS) : Prop := ∀ (pins : List (Addr × Obj)) (s : Shared) (σ : St) (H : Hp) (D : Ends) (e : Addr) (oe : Obj) (T : Addr) (oT : Obj) (ts vs : Array Value),
  Inv X ((T, oT) :: pins) σ H s → FpOk X pins H T → oe.data = .fields vs → vs[1]? = some (.ref T) → oT.data = .fields ts → ts[3]? = some .none → H e = some (Known e oe) → t D σ H e oe →
  wpAny (model X.prog X.w) X.A (handleBy (.ref e) X.env hs) (SP X pins D) X.xe s
def tTry (tb : XKS → TS) (th : THS) : TS := fun D σ H => ∃ E : XKS, tb E D σ H ∧ ∀ (σ' : St) (C : Value) (d : Option Addr) (H' : Hp) (e : Addr) (oe : Obj), E σ' C d H' → H' e = some (.ext (XO e C d)) → oe.cls = C → oe.dict = d → (∃ vs, oe.data = .fields vs) → th D σ' (upd H' e (Known e oe)) e oe
section
variable {X : Cx} {body : List Stmt} {h₀ : ExceptHandler} {hs rest : List ExceptHandler} {tb : XKS → TS} {th tr : THS} {pos : Pos}
theorem ps_try (hstk : X.stack = X.env :: X.outer) (hf : X.env.frame = some X.env.locals)
    (hb : ∀ (E : XKS) (pins : List (Addr × Obj)) (E₁ : Value → Shared → Prop), Takes (X.tr pins E₁) E → PassesOwn (model X.prog X.w) X.A X.env E₁ → PSs (X.tr pins E₁) body (tb E)) (hh : PH X (h₀ :: hs) th) : PS X (.Try body (h₀ :: hs) [] [] pos) (tTry tb th) := by
  intro pins s σ H D I h
  obtain ⟨E, h1, h2⟩ := h
  refine wpAny_Try_except ?_
  refine wpAny_mono (hb E pins _ ?_ PassesOwn.looking [] s σ H D (I.tr _) h1) (fun f s1 q => ?_) fun e s1 q => q
  · intro pins' σ' H' s1 e C d I1 he hy x hE
    refine note_ok (X := X.tr pins _) (by rw [I.ok.frames, hstk]) hstk hf I1 he x fun h2' I2 x2 => land_ok I2 he x2 fun h3 I3 x3 => ?_
    obtain ⟨T, oT, ts, oe, vs, ho, hd, hv1, fT, hT, hdT, h3'⟩ := x3
    obtain ⟨oe', vs', ho', hc, hdd, _⟩ := I3.xo he
    rw [ho] at ho'
    cases ho'
    have I4 := I3.untr
    have I5 := I4.write (x := e) (e := e) (o := Known e oe) (t' := s1.toks) (h' := h3) (by rw [he]; trivial) (.inl rfl) (fun b u _ z => z) ⟨oe, ho⟩ (known_ok ho)
    have fT' := fT.untr
    have hne : T ≠ e := fun z => by subst z; rw [fT'.1] at he; cases he
    have fT2 : FpOk X pins (upd H' e (Known e oe)) T := ⟨by rw [upd_ne hne]; exact fT'.1, fT'.2⟩
    have I6 : Inv X ((T, oT) :: pins) σ' (upd H' e (Known e oe)) { s1 with heap := h3 } := I5.pins_of fun p hp => by
      rcases List.mem_cons.mp hp with rfl | hp
      · exact ⟨hT, fT2.1, fT2.2.1, fT2.2.2.1, fun v z => by rw [hdT] at z; cases z⟩
      · exact I5.pin p (List.mem_append_right _ hp)
    exact hh pins _ σ' _ D e oe T oT ts vs I6 fT2 hd hv1 hdT h3' upd_same (h2 σ' C d H' e oe hE he hc hdd ⟨vs, hd⟩)
  · cases f with
    | next =>
      obtain ⟨σ', H', I', q⟩ := q
      exact wpAny_execs_nil ⟨σ', H', I'.untr, q⟩
    | brk => exact SP.untr q
    | cont => exact SP.untr q
    | ret u => exact SP.untr q
theorem ph_skip {t : Expr} {name : Option Str} {sb : List Stmt} {tt : TE} (ht : ∀ e, PE (X.hd e) t tt) (hr : PH X rest tr) : PH X (.ExceptHandler (some t) name sb pos :: rest)
    (fun D σ H e oe => tt σ H fun v H1 => ∃ Ds C, Spec X.K H1 v Ds ∧ oe.cls = .ref C ∧ (∀ D ∈ Ds, PySem.W.mroIn X.K C (.ref D) = some false) ∧ H1 e = some (Known e oe) ∧ tr D σ H1 e oe) := by
  intro pins s σ H D e oe T oT ts vs I fT hd h1 hdT h3 he h
  refine wpAny_handleBy_cons (codeAny_handlers_test (wpAny_mono ((ht e) ((T, oT) :: pins) s σ H _ (I.hd e) h) (fun u s1 q => ?_) fun _ _ z => z.elim)) (by intro z; cases z)
  obtain ⟨v, H1, I1, r, Ds, C, hs, hc, hb, hk, q⟩ := q
  have I1' := I1.unhd I.ok
  refine em_ok (f := fun _ => false) I1' hs r (I1'.hok e _ hk).1 hc hb ?_
  have e0 : Ds.any (fun _ => false) = false := by simp
  rw [e0]
  have hTn := (I1'.pin (T, oT) (List.mem_append_right _ (List.mem_cons_self ..))).2.1
  exact hr pins s1 σ H1 D e oe T oT ts vs I1' ⟨hTn, fT.2⟩ hd h1 hdT h3 hk q
/-- a name goes -/
theorem unbind_ok {M : Model} {A : Around} {E : Value → Shared → Prop} {pins : List (Addr × Obj)} {σ : St} {H : Hp} {s : Shared} {i : Nat} {n : Str} {Q : Unit → Shared → Prop} (I : Inv X pins σ H s) (hN : X.N.Nodup) (hi : X.N[i]? = some n) (hk : X.env.scope.names.lookup n = some .local)
    (h : ∀ s', Inv X pins (σ.set i none) H s' → Q () s') : wpAny M A (bindName X.env n .none >>= fun _ => unbindBehindTheSuite X.env n pos) Q E s := by
  obtain ⟨m, hn, hl⟩ := id I.loc
  have hcls : (X.env.scope.kind == .class || (X.env.scope.kind == .module && X.env.locals != X.env.globals)) = false := by rw [I.ok.kind]; rfl
  have hl0 : X.env.kindOf n = some .local := hk
  refine wpAny_bind (wpAny_bindName (wpAny_storeName_local hl0 hn (fun ha hna hsa => ?_) hcls))
  unfold unbindBehindTheSuite
  refine wpAny_onRaise ?_
  unfold unbindName deleteName
  refine wpAny_bind (wpAny_point (wpAny_bind ?_)); simp only [hl0, hcls]
  rw [if_neg (by decide)]
  refine wpAny_bind (wpAny_nsDel_keeps hna fun hb v hnb hsb => ?_)
  simp only [if_true, Option.isSome_some, Bool.not_true, Bool.false_eq_true, if_false]
  refine wpAny_pure (wpAny_point (h _ ?_))
  have hs := hsa.trans hsb
  obtain ⟨oL, _, _, hoL, _⟩ := id hn
  have cne := I.cne
  refine ⟨I.ok, I.os, I.bare, ⟨fun b o e n hb hx => ?_, fun b o e n hb hx => ?_, I.base.free, fun b o e hx => ?_, I.base.tups, I.base.frzs, I.base.tbls⟩, ⟨_, hnb, fun j y v' e1 e2 e3 => ?_⟩, fun y c e => ?_, I.free, I.freeC, fun p hp => ?_, fun b ob e => ?_, by simpa using I.len⟩
  · exact (hs.2 b (Nat.ne_of_lt (Nat.lt_of_lt_of_le (Heap.lt_size e) I.ok.above))).trans (I.base.keep b o e n hb hx)
  · obtain ⟨sl, e1⟩ := I.base.slot b o e n hb hx
    exact ⟨sl, (hs.2 b (Nat.ne_of_lt (Nat.lt_of_lt_of_le (Heap.lt_size e) I.ok.above))).trans e1⟩
  · obtain ⟨o', e1⟩ := I.base.there b o e hx
    exact ⟨o', (hs.2 b (Nat.ne_of_lt (Nat.lt_of_lt_of_le (Heap.lt_size e) I.ok.above))).trans e1⟩
  · by_cases hj : j = i
    · subst hj
      by_cases hlt : j < σ.length
      · rw [List.getElem?_set_self hlt] at e2; cases e2
      · rw [List.getElem?_eq_none (by rw [List.length_set]; (first | lia | omega))] at e2; cases e2
    · rw [List.getElem?_set_ne (Ne.symm hj)] at e2
      obtain ⟨u', r', q⟩ := hl j y v' e1 e2 e3
      refine ⟨u', r', ?_⟩
      rcases q with ⟨k, e⟩ | ⟨k, c, e, z⟩
      · refine .inl ⟨k, ?_⟩
        have : y ≠ n := fun e => hj (nodup_ix hN e1 (e ▸ hi))
        simp [this, e]
      · exact .inr ⟨k, c, e, z.sameBut hs (cne y c e)⟩
  · obtain ⟨w', z⟩ := I.cell y c e
    exact ⟨w', z.sameBut hs (cne y c e)⟩
  · obtain ⟨e, n, ne, nf, d⟩ := I.pin p hp
    exact ⟨(hs.2 p.1 ne).trans e, n, ne, nf, d⟩
  · refine (I.hok b ob e).stay (fun c w' hc q => (hs.2 c ?_).trans q) (fun _ q => q) fun _ _ q => q
    rintro rfl
    rcases hc with rfl | hc
    · rw [I.free] at e; cases e
    · rw [I.free] at hc; cases hc
def unb (D : Ends) (i : Nat) : Ends := { nx := fun σ H => D.nx (σ.set i none) H, rt := D.rt, bk := fun σ H => D.bk (σ.set i none) H, ct := fun σ H => D.ct (σ.set i none) H }
theorem flight_same {M : Model} {A : Around} {E : Value → Shared → Prop} {s : Shared} {e T : Addr} {oe oT : Obj} {vs ts : Array Value} {Q : Unit → Shared → Prop} (ho : s.heap.get? e = some oe) (hd : oe.data = .fields vs) (h1 : vs[1]? = some (.ref T)) (hT : s.heap.get? T = some oT) (hdT : oT.data = .fields ts) (h3 : ts[3]? = some .none) (h : Q () s) :
    wpAny M A (setFlight (.ref e) none) Q E s := by
  unfold setFlight
  refine wpAny_bind (wpAny_field ho hd h1 ?_)
  rw [if_pos (show (Value.ref T != Value.none) = true by simp)]
  refine wpAny_setField hT hdT (Array.getElem?_eq_some_iff.mp h3).1 ?_
  show Q () { s with heap := s.heap.update T (Obj.mapFields (·.setIfInBounds 3 Value.none)) }
  rw [Heap.update_setField_same s.heap T oT ts 3 .none hT hdT h3]
  exact h
theorem ph_as {t : Expr} {n : Str} {b₀ : Stmt} {sb : List Stmt} {tt : TE} {tu : TS} {i : Nat} (ht : ∀ e, PE (X.hd e) t tt) (hN : X.N.Nodup) (hi : X.N[i]? = some n) (hk : X.env.scope.names.lookup n = some .local) (hs : ∀ e, PSs (X.hd e) (b₀ :: sb) tu) : PH X (.ExceptHandler (some t) (some n) (b₀ :: sb) pos :: rest)
    (fun D σ H e oe => tt σ H fun v H1 => ∃ Ds C f, Spec X.K H1 v Ds ∧ oe.cls = .ref C ∧ (∀ D ∈ Ds, PySem.W.mroIn X.K C (.ref D) = some (f D)) ∧ Ds.any f = true ∧ H1 e = some (Known e oe) ∧ tu (unb D i) (σ.set i (some (.ref e))) H1) := by
  intro pins s σ H D e oe T oT ts vs I fT hd h1 hdT h3 he h
  refine wpAny_handleBy_cons (codeAny_handlers_test (wpAny_mono ((ht e) ((T, oT) :: pins) s σ H _ (I.hd e) h) (fun u s1 q => ?_) fun _ _ z => z.elim)) (by intro z; cases z)
  obtain ⟨v, H1, I1, r, Ds, C, f, hsp, hc, hb, hany, hkn, q⟩ := q
  have I1' := I1.unhd I.ok
  have hoe := (I1'.hok e _ hkn).1
  refine em_ok (f := f) I1' hsp r hoe hc hb ?_
  rw [hany]
  refine codeAny_handlers_suite_as ?_
  have hTo := (I1'.pin (T, oT) (List.mem_append_right _ (List.mem_cons_self ..))).1
  refine flight_same hoe hd h1 hTo hdT h3 ?_
  refine store_ok I1'.drop1 hN hi (.inl hk) (show RelV (.ref e) (.ref e) from rfl) (fun s2 I2 => ?_) (.inr hk)
  refine wpAny_mono ((hs e) pins s2 _ H1 (unb D i) (I2.hd e) q) (fun fl s3 q3 => ?_) fun _ _ z => z.elim
  show wpAny _ X.A (bindName X.env n .none >>= fun _ => unbindBehindTheSuite X.env n pos) _ _ s3
  cases fl with
  | next =>
    obtain ⟨σ', H', I3, q3⟩ := q3
    exact unbind_ok (I3.unhd I.ok) hN hi hk fun s' I' => ⟨_, _, I', q3⟩
  | brk =>
    obtain ⟨σ', H', I3, q3⟩ := q3
    exact unbind_ok (I3.unhd I.ok) hN hi hk fun s' I' => ⟨_, _, I', q3⟩
  | cont =>
    obtain ⟨σ', H', I3, q3⟩ := q3
    exact unbind_ok (I3.unhd I.ok) hN hi hk fun s' I' => ⟨_, _, I', q3⟩
  | ret u =>
    obtain ⟨v3, σ', H', I3, r3, q3⟩ := q3
    exact unbind_ok (I3.unhd I.ok) hN hi hk fun s' I' => ⟨v3, _, _, I', r3, q3⟩
end
end L2

namespace L2
open PySem PySem.Spec PyProof.Rows PySem.W
/-! ### an own class of errors, under ValueError by one class more -/
abbrev bmV : List Value := [.type "ValueError", .type "Exception", .type "BaseException", .type "object"]
def keysOk (es : Array DictEntry) : Bool := es.toList.all fun e => match e.key with | .str _ _ => true | _ => false
/-- the class in the middle: it has no __init__ of its own -/
structure XMid (K : Frag) (G : Addr) : Prop where
  ob : ∃ c0 dd cd sl oc od es ep sl', K.lookup G = some ⟨c0, dd, .cls cd, sl⟩ ∧ K.lookup cd.ns = some ⟨oc, od, .dict es ep, sl'⟩ ∧ keysOk es = true ∧ nsIn K cd.ns "__init__" = some none
structure XTop (K : Frag) (C G : Addr) : Prop where
  ob : ∃ nm q N bs hdct sn sub ab col dd k0 k1 k2 k3 k5, K.lookup C = some (excClassObj nm q C N bs (.ref G :: bmV) hdct sn sub ab col dd k0 k1 k2 k3 k5 "ValueError.__new__")
  mid : XMid K G
  call : specialIn K (.ref C) "__call__" = some (some (.builtin "type.__call__"))
  typ : instIn K (.ref C) (.type "type") = some true
  kp : keepIn K (.ref C) = true
theorem XMid.tail {K : Frag} {G : Addr} {h : Heap} (x : XMid K G) (X : K.In h) : OwnTail h bmV (.ref G :: bmV) := by
  obtain ⟨c0, dd, cd, sl, oc, od, es, ep, sl', h1, h2, h3, h4⟩ := x.ob
  have hns : h.isNs cd.ns = true := by
    unfold Heap.isNs
    rw [X _ _ h2]
    have h5 := h3
    unfold keysOk at h5
    rw [Array.all_toList] at h5
    exact h5
  have hN := Heap.Ns.of_isNs hns
  exact .own (X _ _ h1) hN (ns_none_of X hN h4) .base
theorem XTop.mro {K : Frag} {C G : Addr} (x : XTop K C G) : ∃ cd, clsIn K C = some cd ∧ cd.mro = .ref C :: .ref G :: bmV := by
  obtain ⟨nm, q, N, bs, hdct, sn, sub, ab, col, dd, k0, k1, k2, k3, k5, h1⟩ := x.ob
  have e : clsIn K C = some { name := nm, bases := bs, mro := .ref C :: .ref G :: bmV, ns := N, qualname := q, hasDict := hdct, slotNames := sn, subclasses := sub, abstract := ab, collection := col, hasDel := false } := by
    unfold clsIn
    rw [h1]
  exact ⟨_, e, rfl⟩
/-- the new exception -/
abbrev excObj (C t : Addr) : Obj := { cls := .ref C, data := .fields #[.ref t, .none, .none, .none, .bool false, .none] }
abbrev tupObj (vs : List Value) : Obj := { cls := .type "tuple", data := .seq vs.toArray }
section
variable {prog : Program} {w : World} {A : Around} {K : Frag} {C G f : Addr} {R : Result → Shared → Prop} {s : Shared}
/-- C(..) where C has an __init__ of its own -/
theorem xmake_core {us : List Value} {init : Value} (x : XTop K C G) (X : K.In s.heap) (hi : findIn K (.ref C) "__init__" = some (some init)) (b0 : ∀ self, Looks (model prog w) s.heap (bindSpecial init self) (init, [self])) (hl : us.length ≤ sizeLine)
    (hq : codeAny (model prog w) (A.under (.builtin "type.__call__" ⟨.ref C :: us, []⟩)) (.call init ⟨.ref (s.heap.objs.size + 1) :: us, []⟩) (InitBack (s.heap.objs.size + 1) R)
      { s with heap := (s.heap.push (tupObj us)).push (excObj C s.heap.objs.size) }) :
    codeAny (model prog w) A (.call (.ref C) ⟨us, []⟩) R s := by
  obtain ⟨hh, g, d, t, os⟩ := s
  obtain ⟨nm, q, N, bs, hdct, sn, sub, ab, col, dd, k0, k1, k2, k3, k5, hK⟩ := x.ob
  have hC := X _ _ hK
  have T := x.mid.tail X
  have call := looks_specialIn (M := model prog w) X x.call
  have typ := looks_instIn (M := model prog w) X x.typ
  have i0 := looks_findIn (M := model prog w) X hi
  refine codeAny_of_tree ?_
  show wpAny _ _ (callAny (.ref C) _) _ _ _
  refine nd_load hC ?_
  show wpAny _ _ (callAny.viaDunder (.ref C) _) _ _ _
  unfold callAny.viaDunder
  refine wpAny_bind (call.at ?_)
  dsimp only
  rw [tc_bind]
  refine wpAny_bind (wpAny_pure (wpAny_bind (wpAny_pure ?_)))
  refine wpAny_pure (a := Fin.again (.call (.builtin "type.__call__") ⟨.ref C :: us, []⟩)) ⟨rfl, ?_⟩
  refine codeAny_call_builtin_at (Code.quiet_builtin _ (by decide +kernel)) entry_typeCall (check_slot tc_kind tc_split typ (tc_args _ _ _) ?_)
  repeat (first | with_reducible refine wpAny_loadPart_at hC ?_ | with_reducible refine wpAny_madeBy_exc hC ?_ | wp_step)
  refine codeAny_call_builtin_code (Code.quiet_builtin _ F.excBase_ValueError.quiet) (wpAny_check_new_subT F.excBase_ValueError T hC (codeAny_exc_new_subT F.excBase_ValueError T hC ?_ hl))
  show wpAny _ _ _ _ _ _
  have k : ∀ b o, hh.get? b = some o → ((hh.push (tupObj us)).push (excObj C hh.objs.size)).get? b = some o := fun b o e => Heap.get?_push_of_some _ (Heap.get?_push_of_some _ e)
  have hx : ((hh.push (tupObj us)).push (excObj C hh.objs.size)).get? (hh.objs.size + 1) = some (excObj C hh.objs.size) := by heap_get
  have t1 : Looks (model prog w) ((hh.push (tupObj us)).push (excObj C hh.objs.size)) (typeOf (.ref (hh.objs.size + 1))) (.ref C) := (Looks.ld hx).andThen .now
  have s1 : Looks (model prog w) ((hh.push (tupObj us)).push (excObj C hh.objs.size)) (isSubtype (.ref C) (.ref C)) true := by
    obtain ⟨cd, hc, hm⟩ := x.mro
    refine (looks_mroIn X ?_).keeps k
    unfold mroIn
    rw [hc, Option.bind_some, hm]
    simp
  have i1 := i0.keeps k
  have b1 := (b0 (.ref (hh.objs.size + 1))).keeps k
  unfold isInstance callSpecial? specialOf
  repeat (first | with_reducible refine wpAny_call ?_ | lk)
  refine codeAny_mono hq fun r s' z => ?_
  rcases r with e | (v | _ | _ | _) <;> first | exact z | exact z.elim | skip
  obtain ⟨rfl, z⟩ := z
  exact wpAny_pure (wpAny_pure z)
end
end L2

namespace L2
open PySem PySem.Spec PyProof.Rows PySem.W Builtin Builtin.ObjectAttr
end L2

namespace L2
open PySem PySem.Spec PyProof.Rows PySem.W Builtin Builtin.ObjectAttr
end L2

namespace L2
open PySem PySem.Spec PyProof.Rows PySem.W
/-- an exception that is being made -/
def XNew (x : Addr) (C : Value) (d : Option Addr) : Heap → Prop := fun h => ∃ ox vs t, h.get? x = some ox ∧ ox.cls = C ∧ ox.dict = d ∧ ox.data = .fields vs ∧ 4 < vs.size ∧ vs[0]? = some (.ref t) ∧ vs[1]? = some .none
/-- what is raised -/
theorem raise_ok {M : Model} {A : Around} {E : Value → Shared → Prop} {s : Shared} {env : Env} {K : Frag} {C G : Addr} {x0 : Sem Value} {Q : Flow → Shared → Prop} (hh : A.handled = none) (y : XTop K C G)
    (h : wpAny M A x0 (fun v s1 => ∃ x d, v = .ref x ∧ K.In s1.heap ∧ XNew x (.ref C) d s1.heap ∧ E (.ref x) s1) E s) : wpAny M A (raiseStmt env (some x0) none) Q E s := by
  unfold raiseStmt
  refine wpAny_bind (wpAny_mono h (fun v s1 q => ?_) fun _ _ z => z)
  obtain ⟨x, d, rfl, X, ⟨ox, vs, t, ho, hc, hd, hf, hz, h0, h1⟩, hE⟩ := q
  obtain ⟨cd, hcd, hmro⟩ := y.mro
  have ty : Looks M s1.heap (typeOf (.ref x)) (.ref C) := hc ▸ (Looks.ld ho).andThen .now
  have isb : Looks M s1.heap (isInstance (.ref x) (.type "BaseException")) true := ty.andThen (looks_mroIn X (by unfold mroIn; rw [hcd, Option.bind_some, hmro]; rfl))
  have nt : Looks M s1.heap (isType (.ref x)) false := by
    intro A' Q' E' s' k q
    unfold isType loadHead
    refine wpAny_bind (wpAny_loadPart (k _ _ ho) ?_)
    rw [hf]
    exact wpAny_pure q
  obtain ⟨nm, q, N, bs, hdct, sn, sub, ab, col, dd, k0, k1, k2, k3, k5, hK⟩ := y.ob
  have tt : Looks M s1.heap (typeOf (.ref C)) (.type "type") := (Looks.ld (X _ _ hK)).andThen .now
  refine wpAny_bind (wpAny_pure (wpAny_bind (wpAny_holding ?_)))
  unfold excFromValue isExcClass
  refine wpAny_bind (wpAny_bind (nt.here ?_))
  rw [if_neg Bool.false_ne_true]
  refine wpAny_pure ?_
  rw [if_neg Bool.false_ne_true]
  refine wpAny_bind (isb.here ?_)
  rw [if_pos rfl]
  refine wpAny_pure ?_
  refine wpAny_bind (nt.here ?_)
  rw [if_neg Bool.false_ne_true]
  unfold raisedInstance
  refine wpAny_bind (wpAny_bind (ty.here (wpAny_bind (tt.here ?_))))
  rw [if_pos (by decide)]
  refine wpAny_pure ?_
  unfold setFlight
  refine wpAny_bind (wpAny_bind (wpAny_field ho hf h1 ?_))
  rw [if_neg (by decide)]
  exact wpAny_pure (wpAny_raiseNew_none hh hE)
end L2

namespace L2
open PySem PySem.Spec PyProof.Rows PySem.W
/-- the class G that is named in G.__init__(..) -/
structure XBas (K : Frag) (G : Addr) : Prop where
  ga : specialIn K (.ref G) "__getattribute__" = some (some (.builtin "type.__getattribute__"))
  rd : readsIn K G (.type "type") = true
  fi : findCls K (.ref G) (.type "type") "__init__" = some (.val (.builtin "ValueError.__init__"))
/-- isinstance of an exception that was caught: of a class that it has -/
theorem xis_true {prog : Program} {w : World} {A : Around} {E : Value → Shared → Prop} {s : Shared} {K : Frag} {x : Addr} {C c : Value} {Q : Value → Shared → Prop} (X : K.In s.heap) (ty : ∀ M, Looks M s.heap (typeOf (.ref x)) C) (hne : (C == c) = false) (e : kitCls K C c = some true)
    (h : Q (.bool true) s) : wpAny (model prog w) A (call (.builtin "isinstance") [.ref x, c]) Q E s := by
  refine call_isinstance (S := fun _ R s => (K.In s.heap ∧ ∀ M, Looks M s.heap (typeOf (.ref x)) C) ∧ R (.ok (.ret (.bool true))) s) (fun prog w A R s hs => isinstance_outer ?_ (fun z => nomatch z)) ⟨⟨X, ty⟩, h⟩
  · obtain ⟨⟨X, LT⟩, hq⟩ := hs
    obtain ⟨h0, g, d, tt, os⟩ := s
    unfold Builtin.«isinstance.nested»
    refine wpAny_bind ((LT _).at ?_)
    rw [if_neg (by rw [hne]; decide)]
    obtain ⟨hty, his, hsub⟩ := kit_cls (M := model prog w) X e
    refine wpAny_bind (hty.at ?_)
    rw [if_pos (by decide)]
    k_delta "plainIsInstance"
    refine wpAny_bind (wpAny_bind (his.at ?_))
    simp only [Bool.not_true, Bool.false_eq_true, if_false]
    refine wpAny_bind (((LT _).andThen hsub).at ?_)
    first | exact wpAny_pure (wpAny_pure hq) | (simp only [if_true]; first | exact wpAny_pure (wpAny_pure hq) | exact wpAny_pure hq)
end L2

namespace L2
open PySem PySem.Spec PyProof.Rows PySem.W
section
variable {prog : Program} {w : World} {A : Around} {K : Frag} {C G : Addr} {R : Result → Shared → Prop} {s : Shared}
/-- C(..) where C has no __init__ of its own -/
theorem xmake0 {us : List Value} (x : XTop K C G) (X : K.In s.heap) (hi : findIn K (.ref C) "__init__" = some (some (.builtin "ValueError.__init__"))) (hl : us.length ≤ sizeLine)
    (hq : R (.ok (.ret (.ref (s.heap.objs.size + 1)))) { s with heap := (((s.heap.push (tupObj us)).push (excObj C s.heap.objs.size)).push (tupObj us)).update (s.heap.objs.size + 1) (Obj.mapFields (·.setIfInBounds 0 (.ref (s.heap.objs.size + 2)))) }) :
    codeAny (model prog w) A (.call (.ref C) ⟨us, []⟩) R s := by
  have F0 := F.excBase_ValueError
  refine xmake_core x X hi (fun self => Looks.of_pure (F0.init.bind self)) hl ?_
  obtain ⟨hh, g, d, tk, os⟩ := s
  obtain ⟨nm, q, N, bs, hdct, sn, sub, ab, col, dd, k0, k1, k2, k3, k5, hK⟩ := x.ob
  have k : ∀ b o, hh.get? b = some o → ((hh.push (tupObj us)).push (excObj C hh.objs.size)).get? b = some o := fun b o e => Heap.get?_push_of_some _ (Heap.get?_push_of_some _ e)
  have hx : ((hh.push (tupObj us)).push (excObj C hh.objs.size)).get? (hh.objs.size + 1) = some (excObj C hh.objs.size) := by heap_get
  have X2 := X.keeps k
  refine codeAny_call_builtin F0.init.plain F0.initEntry (wpAny_check_init_subT F0 (x.mid.tail X2) (X2 _ _ hK) hx rfl ?_)
  have hx2 : (((hh.push (tupObj us)).push (excObj C hh.objs.size)).push (tupObj us)).get? (hh.objs.size + 1) = some (excObj C hh.objs.size) := Heap.get?_push_of_some _ hx
  unfold Builtin.«BaseException.__init__»
  refine wpAny_bind (wpAny_newTuple ?_ hl)
  unfold Builtin.BaseException.bexcPut
  refine wpAny_bind (wpAny_bind (wpAny_field (s := ⟨((hh.push (tupObj us)).push (excObj C hh.objs.size)).push (tupObj us), g, d, tk, os⟩) hx2 rfl (x := .ref hh.objs.size) rfl (wpAny_bind (wpAny_setField (s := ⟨((hh.push (tupObj us)).push (excObj C hh.objs.size)).push (tupObj us), g, d, tk, os⟩) hx2 rfl (by simp) ?_))))
  wp_walk
  refine ⟨rfl, ?_⟩
  have e2 : ((hh.push (tupObj us)).push (excObj C hh.objs.size)).objs.size = hh.objs.size + 2 := by rw [Heap.size_push, Heap.size_push]
  rw [← e2] at hq
  exact hq
end
def tRaise0 (C : Addr) (E : XKS) (t : TA) : TS := fun _ σ H => t σ H fun vs H1 => vs.length ≤ 1000 ∧ ∀ y, H1 y = none → E σ (.ref C) none (upd H1 y (.ext (XO y (.ref C) none)))
section
variable {X : Cx} {j k : Nat} {C G : Addr} {E : XKS} {x : Str} {p pos cpos : Pos} {e : Expr} {es : List Expr} {t : TA}
theorem ps_raise0 (Z : XTop X.K C G) (hi : findIn X.K (.ref C) "__init__" = some (some (.builtin "ValueError.__init__"))) (nm : X.mg x = some (.ref C)) (hT : Takes X E) (hr : Room k X.A) (hg : Gl X x) (ha : PA X (e :: es) t) (hdb : (x == ("__debug__" : Str)) = false := by decide)
    (he : starEach (e :: es) X.env = (false, eval e X.env) :: starEach es X.env := by rfl) (hpl : (backTo cpos (starEach es X.env)).any (·.1) = false := by rfl) :
    PS X (.Raise (some (.Call (.Name x p) (e :: es) [] cpos)) none pos) (tRaise0 C E t) := by
  intro pins s σ H D I h
  show wpAny _ _ (standAt pos >>= fun _ => raiseStmt X.env (some (eval (.Call (.Name x p) (e :: es) [] cpos) X.env >>= fun v => standAt pos >>= fun _ => pure v)) none) _ _ s
  refine wpAny_bind (wpAny_standAt (raise_ok (hr.hd) Z (wpAny_bind ?_)))
  refine wpAny_Call_Name_kw (ld_glob I hg nm ?_ hdb)
  refine PySem.W.callWith_K (h₀ := X.base) I.ok.mod.kin Z.kp (thn (ha cpos pins s σ H _ I h) fun us s1 ⟨vs, H1, I1, r, hl, q⟩ => ⟨I1.kIn, ?_⟩) he hpl
  have hlu : us.length ≤ sizeLine := by rw [← r.length]; exact Nat.le_trans hl (by decide)
  have hy : H1 (s1.heap.objs.size + 1) = none := I1.hok.fresh (Nat.le_succ _)
  have hE := q (s1.heap.objs.size + 1) hy
  refine wpAny_call (xmake0 Z I1.kIn hi hlu ?_)
  have hx : ((s1.heap.push (tupObj us)).push (excObj C s1.heap.objs.size)).get? (s1.heap.objs.size + 1) = some (excObj C s1.heap.objs.size) := by heap_get
  have hx2 : (((s1.heap.push (tupObj us)).push (excObj C s1.heap.objs.size)).push (tupObj us)).get? (s1.heap.objs.size + 1) = some (excObj C s1.heap.objs.size) := Heap.get?_push_of_some _ hx
  have I2 : Inv X pins σ (upd H1 (s1.heap.objs.size + 1) (.ext (XO (s1.heap.objs.size + 1) (.ref C) none))) { s1 with heap := (s1.heap.push (tupObj us)).push (excObj C s1.heap.objs.size) } := by
    have a := I1.kept (t' := s1.toks) (h' := s1.heap.push (tupObj us)) fun b u q => Heap.get?_push_of_some _ q
    exact a.laid (t' := s1.toks) (fun b u q => Heap.get?_push_of_some _ q) (by show (s1.heap.push (tupObj us)).objs.size ≤ _; rw [Heap.size_push]; exact Nat.le_refl _) (XO.ext_ok ⟨_, _, hx, rfl, rfl, rfl, by simp⟩)
  have I3 := I2.kept (t' := s1.toks) (h' := ((s1.heap.push (tupObj us)).push (excObj C s1.heap.objs.size)).push (tupObj us)) fun b u q => Heap.get?_push_of_some _ q
  have I4 := I3.poke (t' := s1.toks) (h' := (((s1.heap.push (tupObj us)).push (excObj C s1.heap.objs.size)).push (tupObj us)).update (s1.heap.objs.size + 1) (Obj.mapFields (·.setIfInBounds 0 (.ref (s1.heap.objs.size + 2))))) upd_same (fun b u hb z => (Heap.get?_update_other _ _ (Ne.symm hb)).trans z) (XO.put ⟨_, _, hx2, rfl, rfl, rfl, by simp⟩ 0 _)
  have hget := fld_up 0 (.ref (s1.heap.objs.size + 2)) hx2 rfl
  refine wpAny_bind (wpAny_standAt (wpAny_pure ⟨_, none, rfl, I4.kIn, ⟨_, _, s1.heap.objs.size + 2, hget, rfl, rfl, rfl, by simp, rfl, rfl⟩, ?_⟩))
  exact hT pins σ _ _ _ (.ref C) none I4 upd_same (fun _ => Nat.le_trans I1.sz (Nat.le_succ _)) (.inl ⟨_, _, hget, rfl, rfl⟩) hE
end
section
variable {X : Cx}
/-- isinstance(e, D) of an exception that was caught, D one of its classes -/
theorem call_xisR : CallR X (.builtin "isinstance") (fun xs H Q => ∃ a oe C D, xs = [.ref a, .ref D] ∧ H a = some (Known a oe) ∧ oe.cls = .ref C ∧ C ≠ D ∧ isClsIn X.K D = true ∧ typeIn X.K (.ref D) = some (.type "type") ∧ mroIn X.K C (.ref D) = some true ∧ Q (.bl true) H) := by
  intro pins s σ H xs us Q I r h
  obtain ⟨a, oe, C, D, rfl, hk, hc, hne, h1, h2, h3, q⟩ := h
  obtain ⟨u, v, rfl, rx, ry⟩ := Vals.two r
  obtain rfl : u = Value.ref a := rx
  obtain rfl : v = Value.ref D := ry
  have ho : s.heap.get? a = some oe := (I.hok a _ hk).1
  refine xis_true I.kIn (C := .ref C) (fun M => hc ▸ (Looks.ld ho).andThen .now) (by simpa using hne) ?_ ⟨.bl true, H, I, rfl, q⟩
  unfold kitCls
  dsimp only
  unfold isClsIn at h1
  rw [h1, h2, if_pos (by decide)]
  exact h3
theorem call_xisT : CallR X (.builtin "isinstance") (fun xs H Q => ∃ a oe C n, xs = [.ref a, .ty n] ∧ H a = some (Known a oe) ∧ oe.cls = .ref C ∧ kitMeta n = true ∧ mroIn X.K C (.type n) = some true ∧ Q (.bl true) H) := by
  intro pins s σ H xs us Q I r h
  obtain ⟨a, oe, C, n, rfl, hk, hc, h1, h3, q⟩ := h
  obtain ⟨u, v, rfl, rx, ry⟩ := Vals.two r
  obtain rfl : u = Value.ref a := rx
  obtain rfl : v = Value.type n := ry
  have ho : s.heap.get? a = some oe := (I.hok a _ hk).1
  refine xis_true I.kIn (C := .ref C) (fun M => hc ▸ (Looks.ld ho).andThen .now) rfl ?_ ⟨.bl true, H, I, rfl, q⟩
  unfold kitCls
  dsimp only
  rw [if_pos h1]
  exact h3
end
end L2

/-! texts with values put in -/
namespace L2
open PySem PySem.Spec PyProof.Rows
abbrev TJ := St → Hp → Str → (Str → Hp → Prop) → Prop
def PJ (X : Cx) (es : List Expr) (t : TJ) : Prop := ∀ (pins : List (Addr × Obj)) (s : Shared) (σ : St) (H : Hp) (acc : Str) (Q : Str → Hp → Prop), Inv X pins σ H s → t σ H acc Q →
  wpAny (model X.prog X.w) X.A (joinParts acc (evalEach es X.env)) (EP X pins σ fun v H' => ∃ z, v = .str z ∧ Q z H') X.xe s
def tJNil : TJ := fun _ H acc Q => acc.length ≤ sizeLine ∧ Q acc H
def tJCons (te : TE) (t : TJ) : TJ := fun σ H acc Q => te σ H fun v H1 => ∃ y, v = .str y ∧ (acc ++ y).length ≤ sizeLine ∧ t σ H1 (acc ++ y) Q
def tFv (tv : TE) : TE := fun σ H Q => tv σ H fun v H1 => (∃ z, v = .str z ∧ z.length ≤ sizeLine ∧ Q (.str z) H1) ∨ ∃ i : Int, v = .int i ∧ i.natAbs.log2 < 1920 ∧ Q (.str (Str.ofString (toString i))) H1
def tJoined (t : TJ) : TE := fun σ H Q => t σ H Str.empty fun z H' => Q (.str z) H'
section
variable {X : Cx} {e : Expr} {es : List Expr} {te : TE} {t : TJ} {pos : Pos}
theorem pj_nil : PJ X [] tJNil := fun _ _ _ H acc _ I h => joinParts_nil ⟨.str acc, H, I.tok _, ⟨_, rfl⟩, acc, rfl, h.2⟩ h.1
theorem pj_cons (he : PE X e te) (hr : PJ X es t) (hs : evalEach (e :: es) X.env = eval e X.env :: evalEach es X.env := by rfl) : PJ X (e :: es) (tJCons te t) := by
  intro pins s σ H acc Q I h
  rw [hs]
  refine joinParts_cons (thn (he pins s σ H _ I h) fun u s1 ⟨v, H1, I1, r, y, ev, hz, q⟩ => ?_)
  subst ev
  obtain ⟨tk, rfl⟩ := r
  exact ⟨hz, hr pins s1 σ H1 _ Q I1 q⟩
theorem pe_fv (he : PE X e te) : PE X (.FormattedValue e (-1) none pos) (tFv te) := by
  intro pins s σ H Q I h
  refine FormattedValue_plain (thn (he pins s σ H _ I h) fun u s1 ⟨v, H1, I1, r, q⟩ => ?_)
  rcases q with ⟨z, rfl, hz, q⟩ | ⟨i, rfl, hi, q⟩
  · obtain ⟨tk, rfl⟩ := r
    exact formatField_str (fun t' tk => ⟨.str z, H1, I1.tok _, ⟨_, rfl⟩, q⟩) hz
  · obtain ⟨tk, rfl⟩ := r
    exact formatField_int_small hi ⟨.str _, H1, I1.tok _, ⟨_, rfl⟩, q⟩
theorem pe_joined {e2 : Expr} (h : PJ X (e :: e2 :: es) t) : PE X (.JoinedStr (e :: e2 :: es) pos) (tJoined t) := by
  intro pins s σ H Q I hw
  refine JoinedStr_many (thn (h pins s σ H _ _ I hw) fun u s1 ⟨v, H1, I1, r, z, ev, q⟩ => ⟨v, H1, I1, r, by rw [ev]; exact q⟩)
end
end L2

/-! a display of many written texts -/
namespace L2
open PySem PySem.Spec PyProof.Rows
def strsOf : List Expr → Option (List Str)
  | [] => some []
  | .Constant (.str x) _ _ :: es => (strsOf es).map (x :: ·)
  | _ => none
def tStrs (ss : List Str) : TA := fun _ H Q => Q (ss.map V.str) H
theorem pa_strs_of {X : Cx} : ∀ {es : List Expr} {ss : List Str}, strsOf es = some ss → PA X es (tStrs ss) := by
  intro es
  induction es with
  | nil =>
    intro ss h
    cases h
    exact pa_nil
  | cons e es ih =>
    intro ss h
    cases e with
    | Constant k j p =>
      cases k with
      | str x =>
        cases h1 : strsOf es with
        | none => simp [strsOf, h1] at h
        | some ss' =>
          simp [strsOf, h1] at h
          subst h
          exact fun pos pins s σ H Q I h => pa_cons pe_str (ih h1) rfl pos pins s σ H Q I h
      | _ => simp [strsOf] at h
    | _ => simp [strsOf] at h
theorem pa_strs {X : Cx} {es : List Expr} {ss : List Str} (h : strsOf es = some ss := by rfl) : PA X es (tStrs ss) := pa_strs_of h
end L2
namespace L2
open PySem PySem.Spec PyProof.Rows
end L2
namespace L2
open PySem PySem.Spec PyProof.Rows PySem.W
variable {X : Cx}
theorem call_xisRK {K : Frag} (hK : X.K = K) : CallR X (.builtin "isinstance") (fun xs H Q => ∃ a oe C D, xs = [.ref a, .ref D] ∧ H a = some (Known a oe) ∧ oe.cls = .ref C ∧ C ≠ D ∧ isClsIn K D = true ∧ typeIn K (.ref D) = some (.type "type") ∧ mroIn K C (.ref D) = some true ∧ Q (.bl true) H) := by
  subst hK
  exact call_xisR
theorem call_xisTK {K : Frag} (hK : X.K = K) : CallR X (.builtin "isinstance") (fun xs H Q => ∃ a oe C n, xs = [.ref a, .ty n] ∧ H a = some (Known a oe) ∧ oe.cls = .ref C ∧ kitMeta n = true ∧ mroIn K C (.type n) = some true ∧ Q (.bl true) H) := by
  subst hK
  exact call_xisT
end L2

/-! sorted: what it gives is what it was given, in some order, at any length -/
namespace Srt
open PySem PyProof.Rows
def gallop' : Bool → Keyed → Array Keyed → Nat → Nat → Nat → StateT SortSt Sem (Option Nat) := sortPriv% PySem.Builtin.gallop
def mergeLo' : Array Keyed → Array Keyed → StateT SortSt Sem (Array Keyed) := sortPriv% PySem.Builtin.mergeLo
def mergeHi' : Array Keyed → Array Keyed → StateT SortSt Sem (Array Keyed) := sortPriv% PySem.Builtin.mergeHi
/-- as another state but for how soon it gallops -/
structure Like (st st' : SortSt) : Prop where
  arr : arrOf st' = arrOf st
  kind : kindOf st' = kindOf st
  fail : failedOf st' = failedOf st
  pend : pendingOf st' = pendingOf st
theorem Like.refl (st : SortSt) : Like st st := ⟨rfl, rfl, rfl, rfl⟩
theorem Like.trans {a b c : SortSt} (x : Like a b) (y : Like b c) : Like a c := ⟨y.arr.trans x.arr, y.kind.trans x.kind, y.fail.trans x.fail, y.pend.trans x.pend⟩
section
variable {prog : Program} {w : World} {A : Around} {E : Value → Shared → Prop} {s : Shared} {κ : SortKind} {Ok : Keyed → Prop} {st : SortSt}
theorem wpS_elem {arr : Array Keyed} {i : Nat} {Q : Keyed → SortSt → Prop} (hi : i < arr.size) (h : ∀ p, p ∈ arr.toList → arr[i]? = some p → Q p st) : wpS (model prog w) A E s (elem' arr i) Q st := by
  have e : arr[i]? = some arr[i] := getElem?_pos arr i hi
  rw [elem'_eq, e]
  exact wpS_pure (h _ (by simp) e)
end
end Srt

namespace Srt
open PySem PyProof.Rows
/-- what is out: these many of the one, these of the other -/
def Out (a b : Array Keyed) (out : Array Keyed) (ia ib : Nat) : Prop := out.toList.Perm (a.toList.take ia ++ b.toList.take ib)
section
variable {a b out : Array Keyed} {ia ib : Nat}
theorem perm4 {α : Type} (x y z w : List α) : (x ++ y ++ (z ++ w)).Perm (x ++ z ++ (y ++ w)) := by
  rw [List.append_assoc, List.append_assoc]
  refine List.Perm.append_left x ?_
  rw [← List.append_assoc, ← List.append_assoc]
  exact List.Perm.append_right w List.perm_append_comm
theorem Out.done (h : Out a b out ia ib) : (out ++ a.extract ia a.size ++ b.extract ib b.size).toList.Perm (a.toList ++ b.toList) := by
  rw [Array.toList_append, Array.toList_append, Array.toList_extract, Array.toList_extract]
  have e1 : a.toList.extract ia a.size = a.toList.drop ia := by rw [List.extract_eq_drop_take]; apply List.take_of_length_le; rw [List.length_drop, Array.length_toList]; exact Nat.le_refl _
  have e2 : b.toList.extract ib b.size = b.toList.drop ib := by rw [List.extract_eq_drop_take]; apply List.take_of_length_le; rw [List.length_drop, Array.length_toList]; exact Nat.le_refl _
  rw [e1, e2, List.append_assoc]
  refine (List.Perm.append_right _ h).trans ((perm4 ..).trans ?_)
  rw [List.take_append_drop, List.take_append_drop]
theorem Out.last (h : Out a b out ia ib) : (out ++ b.extract ib b.size ++ a.extract ia a.size).toList.Perm (a.toList ++ b.toList) := by
  refine List.Perm.trans ?_ h.done
  rw [Array.toList_append, Array.toList_append, Array.toList_append, Array.toList_append, List.append_assoc, List.append_assoc]
  exact List.Perm.append_left _ List.perm_append_comm
theorem Out.extA {k : Nat} (h : Out a b out ia ib) (hk : ia + k ≤ a.size) : Out a b (out ++ a.extract ia (ia + k)) (ia + k) ib := by
  unfold Out
  rw [Array.toList_append, Array.toList_extract, List.extract_eq_drop_take]
  have e : a.toList.take (ia + k) = a.toList.take ia ++ (a.toList.drop ia).take k := List.take_add ..
  rw [e, show ia + k - ia = k by (first | lia | omega)]
  refine (List.Perm.append_right _ h).trans ?_
  rw [List.append_assoc, List.append_assoc]
  exact List.Perm.append_left _ List.perm_append_comm
theorem Out.extB {k : Nat} (h : Out a b out ia ib) (hk : ib + k ≤ b.size) : Out a b (out ++ b.extract ib (ib + k)) ia (ib + k) := by
  unfold Out
  rw [Array.toList_append, Array.toList_extract, List.extract_eq_drop_take]
  have e : b.toList.take (ib + k) = b.toList.take ib ++ (b.toList.drop ib).take k := List.take_add ..
  rw [e, show ib + k - ib = k by (first | lia | omega)]
  refine (List.Perm.append_right _ h).trans ?_
  rw [List.append_assoc]
theorem take_one {α : Type} {xs : List α} {i : Nat} {p : α} (h : xs[i]? = some p) : xs.take (i + 1) = xs.take i ++ [p] := by
  obtain ⟨hi, e⟩ := List.getElem?_eq_some_iff.mp h
  rw [List.take_succ_eq_append_getElem hi, e]
theorem Out.pushA {p : Keyed} (h : Out a b out ia ib) (hp : a[ia]? = some p) : Out a b (out.push p) (ia + 1) ib := by
  have hp' : a.toList[ia]? = some p := by rw [← hp]; simp
  unfold Out
  rw [Array.toList_push, take_one hp']
  refine (List.Perm.append_right _ h).trans ?_
  rw [List.append_assoc, List.append_assoc]
  exact List.Perm.append_left _ List.perm_append_comm
theorem Out.pushB {p : Keyed} (h : Out a b out ia ib) (hp : b[ib]? = some p) : Out a b (out.push p) ia (ib + 1) := by
  have hp' : b.toList[ib]? = some p := by rw [← hp]; simp
  unfold Out
  rw [Array.toList_push, take_one hp']
  refine (List.Perm.append_right _ h).trans ?_
  rw [List.append_assoc]
theorem out0 {p : Keyed} (hp : b[0]? = some p) : Out a b #[p] 0 1 := by
  have h0 : Out a b #[] 0 0 := by
    unfold Out
    rw [List.take_zero, List.take_zero]
    exact List.Perm.refl _
  exact h0.pushB hp
end
end Srt

namespace Srt
open PySem PyProof.Rows
section
variable {prog : Program} {w : World} {A : Around} {E : Value → Shared → Prop} {s : Shared} {κ : SortKind} {Ok : Keyed → Prop} {st : SortSt}
theorem like_gallop (st : SortSt) (g : Nat) : Like st (SortSt.mk' (kindOf st) (arrOf st) (pendingOf st) g (failedOf st)) := ⟨rfl, rfl, rfl, rfl⟩
end
end Srt

namespace Srt
open PySem PyProof.Rows
/-- what is out from the right: all from these places on -/
def OutH (a b : Array Keyed) (out : Array Keyed) (na nb : Nat) : Prop := out.toList.Perm (a.toList.drop na ++ b.toList.drop nb)
section
variable {a b out : Array Keyed} {na nb : Nat}
theorem ex0 (a : Array Keyed) (n : Nat) : (a.extract 0 n).toList = a.toList.take n := by
  rw [Array.toList_extract, List.extract_eq_drop_take, List.drop_zero, Nat.sub_zero]
theorem OutH.done (h : OutH a b out na nb) : (a.extract 0 na ++ b.extract 0 nb ++ out.reverse).toList.Perm (a.toList ++ b.toList) := by
  rw [Array.toList_append, Array.toList_append, ex0, ex0, Array.toList_reverse]
  refine (List.Perm.append_left _ ((List.reverse_perm _).trans h)).trans ((perm4 ..).trans ?_)
  rw [List.take_append_drop, List.take_append_drop]
theorem OutH.first (h : OutH a b out na nb) : (b.extract 0 nb ++ a.extract 0 na ++ out.reverse).toList.Perm (a.toList ++ b.toList) := by
  refine List.Perm.trans ?_ h.done
  rw [Array.toList_append, Array.toList_append, Array.toList_append, Array.toList_append]
  exact List.Perm.append_right _ List.perm_append_comm
theorem drop_one {α : Type} {xs : List α} {i : Nat} {p : α} (h : xs[i]? = some p) : xs.drop i = p :: xs.drop (i + 1) := by
  obtain ⟨hi, e⟩ := List.getElem?_eq_some_iff.mp h
  rw [← e]
  exact List.drop_eq_getElem_cons hi
theorem OutH.pushA {p : Keyed} (h : OutH a b out na nb) (h1 : 1 ≤ na) (hp : a[na - 1]? = some p) : OutH a b (out.push p) (na - 1) nb := by
  have hp' : a.toList[na - 1]? = some p := by rw [← hp]; simp
  unfold OutH
  rw [Array.toList_push, drop_one hp', Nat.sub_add_cancel h1]
  refine (List.Perm.append_right _ h).trans ?_
  exact List.perm_append_comm
theorem OutH.pushB {p : Keyed} (h : OutH a b out na nb) (h1 : 1 ≤ nb) (hp : b[nb - 1]? = some p) : OutH a b (out.push p) na (nb - 1) := by
  have hp' : b.toList[nb - 1]? = some p := by rw [← hp]; simp
  unfold OutH
  rw [Array.toList_push, drop_one hp', Nat.sub_add_cancel h1]
  refine (List.Perm.append_right _ h).trans ?_
  rw [List.append_assoc]
  refine List.Perm.append_left _ ?_
  exact List.perm_append_comm
theorem drop_mid {α : Type} (xs : List α) {i j : Nat} (h : i ≤ j) : xs.drop i = (xs.drop i).take (j - i) ++ xs.drop j := by
  have := List.take_append_drop (j - i) (xs.drop i)
  rw [List.drop_drop, Nat.add_sub_cancel' h] at this
  exact this.symm
theorem OutH.extA {k : Nat} (h : OutH a b out na nb) (hk : k ≤ na) : OutH a b (out ++ (a.extract k na).reverse) k nb := by
  unfold OutH
  rw [Array.toList_append, Array.toList_reverse, Array.toList_extract, List.extract_eq_drop_take]
  refine (List.Perm.append h (List.reverse_perm _)).trans ?_
  refine List.perm_append_comm.trans ?_
  rw [← List.append_assoc, ← drop_mid a.toList hk]
theorem OutH.extB {k : Nat} (h : OutH a b out na nb) (hk : k ≤ nb) : OutH a b (out ++ (b.extract k nb).reverse) na k := by
  unfold OutH
  rw [Array.toList_append, Array.toList_reverse, Array.toList_extract, List.extract_eq_drop_take]
  refine (List.Perm.append h (List.reverse_perm _)).trans ?_
  rw [List.append_assoc]
  refine List.Perm.append_left _ (List.perm_append_comm.trans ?_)
  rw [← drop_mid b.toList hk]
theorem outH0 {p : Keyed} (h1 : 1 ≤ a.size) (hp : a[a.size - 1]? = some p) : OutH a b #[p] (a.size - 1) b.size := by
  have h0 : OutH a b #[] a.size b.size := by
    unfold OutH
    rw [List.drop_eq_nil_of_le (by rw [Array.length_toList]; exact Nat.le_refl _), List.drop_eq_nil_of_le (by rw [Array.length_toList]; exact Nat.le_refl _)]
    exact List.Perm.refl _
  exact h0.pushA h1 hp
end
end Srt

namespace Srt
open PySem PyProof.Rows
/-- the same items in some order, all else as it was -/
structure Pm (st st' : SortSt) : Prop where
  arr : (arrOf st').toList.Perm (arrOf st).toList
  kind : kindOf st' = kindOf st
  fail : failedOf st' = failedOf st
  pend : pendingOf st' = pendingOf st
theorem Pm.refl (st : SortSt) : Pm st st := ⟨List.Perm.refl _, rfl, rfl, rfl⟩
theorem Pm.trans {a b c : SortSt} (x : Pm a b) (y : Pm b c) : Pm a c := ⟨y.arr.trans x.arr, y.kind.trans x.kind, y.fail.trans x.fail, y.pend.trans x.pend⟩
theorem Pm.size {a b : SortSt} (x : Pm a b) : (arrOf b).size = (arrOf a).size := by
  have := x.arr.length_eq
  rw [Array.length_toList, Array.length_toList] at this
  exact this
theorem Pm.ok {a b : SortSt} {Ok : Keyed → Prop} (x : Pm a b) (h : ∀ p ∈ (arrOf a).toList, Ok p) : ∀ p ∈ (arrOf b).toList, Ok p := fun p hp => h p (x.arr.mem_iff.mp hp)
theorem Pm.mirror (st : SortSt) (i j : Nat) : Pm st (setArr st (mirror (arrOf st) i j ((j - i) / 2))) := ⟨Array.perm_iff_toList_perm.mp (mirror_perm _ _ _ _), rfl, rfl, rfl⟩
theorem Pm.bubble (st : SortSt) (i j : Nat) : Pm st (setArr st (bubble (arrOf st) i (i - j))) := ⟨Array.perm_iff_toList_perm.mp (bubble_perm _ _ _), rfl, rfl, rfl⟩
end Srt

namespace Srt
open PySem PyProof.Rows
/-- runs one behind the other, from here to there -/
def Cov : List (Nat × Nat × Nat) → Nat → Nat → Prop
  | [], lo, hi => lo = hi
  | x :: r, lo, hi => x.1 = lo ∧ 1 ≤ x.2.1 ∧ Cov r (lo + x.2.1) hi
theorem Cov.le : ∀ {l : List (Nat × Nat × Nat)} {lo hi : Nat}, Cov l lo hi → lo + l.length ≤ hi
  | [], lo, hi, h => Nat.le_of_eq h
  | x :: r, lo, hi, ⟨_, h1, h2⟩ => by
    have := Cov.le h2
    rw [List.length_cons]
    (first | lia | omega)
theorem Cov.push : ∀ {l : List (Nat × Nat × Nat)} {lo hi n p : Nat}, Cov l lo hi → 1 ≤ n → Cov (l ++ [(hi, n, p)]) lo (hi + n)
  | [], lo, hi, n, p, h, h1 => by
    have e : lo = hi := h
    subst e
    exact ⟨rfl, h1, rfl⟩
  | x :: r, lo, hi, n, p, ⟨a, b, c⟩, h1 => ⟨a, b, c.push h1⟩
theorem Cov.at : ∀ {l : List (Nat × Nat × Nat)} {i lo hi sa na p sb nb q : Nat}, Cov l lo hi → l[i]? = some (sa, na, p) → l[i + 1]? = some (sb, nb, q) →
    sb = sa + na ∧ 1 ≤ na ∧ 1 ≤ nb ∧ sb + nb ≤ hi ∧ Cov ((l.set i (sa, na + nb, p)).eraseIdx (i + 1)) lo hi
  | x :: y :: r, 0, lo, hi, sa, na, p, sb, nb, q, ⟨a, b, c1, c2, c3⟩, h1, h2 => by
    have e1 : x = (sa, na, p) := by simpa using h1
    have e2 : y = (sb, nb, q) := by simpa using h2
    subst e1
    subst e2
    have a' : sa = lo := a
    have c1' : sb = lo + na := c1
    have hle := c3.le
    subst a'
    refine ⟨c1', b, c2, ?_, rfl, ?_, ?_⟩
    · have : sa + na + nb ≤ hi := by
        have h3 : sa + na + nb + r.length ≤ hi := hle
        (first | lia | omega)
      (first | lia | omega)
    · show 1 ≤ na + nb
      have : 1 ≤ na := b
      (first | lia | omega)
    · show Cov r (sa + (na + nb)) hi
      rw [← Nat.add_assoc]
      exact c3
  | x :: r, i + 1, lo, hi, sa, na, p, sb, nb, q, ⟨a, b, c⟩, h1, h2 => by
    obtain ⟨k1, k2, k3, k4, k5⟩ := Cov.at (l := r) (i := i) c (by simpa using h1) (by simpa using h2)
    exact ⟨k1, k2, k3, k4, a, b, k5⟩
  | [x], 0, _, _, _, _, _, _, _, _, _, _, h2 => by simp at h2
  | [], _, _, _, _, _, _, _, _, _, _, h1, _ => by simp at h1
theorem Cov.last : ∀ {l : List (Nat × Nat × Nat)} {lo hi : Nat} (f : Nat × Nat × Nat → Nat × Nat × Nat) (_ : ∀ x, (f x).1 = x.1 ∧ (f x).2.1 = x.2.1) (i : Nat), Cov l lo hi → Cov (l.modify i f) lo hi
  | [], lo, hi, f, hf, i, h => by cases i <;> exact h
  | x :: r, lo, hi, f, hf, 0, ⟨a, b, c⟩ => by
    refine ⟨(hf x).1.trans a, by rw [(hf x).2]; exact b, ?_⟩
    rw [(hf x).2]
    exact c
  | x :: r, lo, hi, f, hf, i + 1, ⟨a, b, c⟩ => ⟨a, b, Cov.last f hf i c⟩
/-- items put in one behind the other -/
theorem splice (base : Nat) : ∀ (m : List Keyed) (n : Nat) (arr : Array Keyed), base + n + m.length ≤ arr.size →
    ((m.zipIdx n).foldl (fun (a : Array Keyed) (x : Keyed × Nat) => match x with | (p, j) => a.setIfInBounds (base + j) p) arr).toList = arr.toList.take (base + n) ++ m ++ arr.toList.drop (base + n + m.length)
  | [], n, arr, _ => by
    show arr.toList = _
    rw [List.append_nil, List.length_nil, Nat.add_zero, List.take_append_drop]
  | p :: m, n, arr, h => by
    rw [List.length_cons] at h
    rw [List.zipIdx_cons, List.foldl_cons]
    have hs : (arr.setIfInBounds (base + n) p).size = arr.size := Array.size_setIfInBounds
    rw [splice base m (n + 1) _ (by rw [hs]; (first | lia | omega)), Array.toList_setIfInBounds]
    have hl : base + n < arr.toList.length := by rw [Array.length_toList]; (first | lia | omega)
    rw [← Nat.add_assoc, List.take_set, List.drop_set_of_lt (by (first | lia | omega))]
    have e1 : (arr.toList.take (base + n + 1)).set (base + n) p = arr.toList.take (base + n) ++ [p] := by
      rw [List.take_succ_eq_append_getElem hl, List.set_append_right _ _ (by rw [List.length_take]; (first | lia | omega))]
      rw [show base + n - (arr.toList.take (base + n)).length = 0 by rw [List.length_take]; (first | lia | omega)]
      rfl
    rw [e1, List.length_cons, show base + n + 1 + m.length = base + n + (m.length + 1) by (first | lia | omega)]
    simp
section
variable {prog : Program} {w : World} {A : Around} {E : Value → Shared → Prop} {s : Shared} {κ : SortKind} {Ok : Keyed → Prop} {st : SortSt}
/-- some order of what was given, and the runs cover it up to here -/
structure SB (a₀ : Array Keyed) (κ : SortKind) (hi : Nat) (st : SortSt) : Prop where
  arr : (arrOf st).toList.Perm a₀.toList
  kind : kindOf st = κ
  fail : failedOf st = none
  cov : Cov (pendingOf st).toList 0 hi
theorem SB.size {a₀ : Array Keyed} {hi : Nat} (x : SB a₀ κ hi st) : (arrOf st).size = a₀.size := by
  have := x.arr.length_eq
  rw [Array.length_toList, Array.length_toList] at this
  exact this
theorem SB.ok {a₀ : Array Keyed} {hi : Nat} (x : SB a₀ κ hi st) (h : ∀ p ∈ a₀.toList, Ok p) : ∀ p ∈ (arrOf st).toList, Ok p := fun p hp => h p (x.arr.mem_iff.mp hp)
theorem SB.pm {a₀ : Array Keyed} {hi : Nat} {st' : SortSt} (x : SB a₀ κ hi st) (p : Pm st st') : SB a₀ κ hi st' := ⟨p.arr.trans x.arr, p.kind.trans x.kind, p.fail.trans x.fail, by rw [p.pend]; exact x.cov⟩
end
end Srt

namespace Srt
open PySem PyProof.Rows
section
variable {prog : Program} {w : World} {A : Around} {E : Value → Shared → Prop} {s : Shared} {κ : SortKind} {Ok : Keyed → Prop} {st : SortSt}
theorem wpS_set {v : SortSt} {Q : PUnit → SortSt → Prop} (h : Q ⟨⟩ v) : wpS (model prog w) A E s (set v : StateT SortSt Sem PUnit) Q st := by
  unfold wpS
  rw [StateT.run_set]
  exact wpAny_pure ⟨rfl, h⟩
theorem splice2 (base : Nat) (m : List Keyed) (arr : Array Keyed) (h : base + m.length ≤ arr.size) :
    (m.zipIdx.foldl (fun (a : Array Keyed) (x : Keyed × Nat) => a.setIfInBounds (base + x.2) x.1) arr).toList = arr.toList.take base ++ m ++ arr.toList.drop (base + m.length) := splice base m 0 arr h
theorem ex_mid (L : List Keyed) {m b e : Nat} (h1 : m ≤ b) (h2 : b ≤ e) : L.extract m b ++ L.extract b e = (L.drop m).take (e - m) := by
  rw [List.extract_eq_drop_take, List.extract_eq_drop_take, show e - m = (b - m) + (e - b) by (first | lia | omega), List.take_add, List.drop_drop, Nat.add_sub_cancel' h1]
theorem perm_mid {L r : List Keyed} {m c : Nat} (h : r.Perm ((L.drop m).take c)) (hc : r.length = c) : (L.take m ++ r ++ L.drop (m + r.length)).Perm L := by
  subst hc
  have e : L = L.take m ++ (L.drop m).take r.length ++ L.drop (m + r.length) := by
    rw [List.append_assoc, ← List.drop_drop, List.take_append_drop, List.take_append_drop]
  refine List.Perm.trans ?_ (List.Perm.of_eq e.symm)
  exact List.Perm.append_right _ (List.Perm.append_left _ h)
end
end Srt

namespace Srt
open PySem PyProof.Rows
end Srt

namespace Srt
open PySem PyProof.Rows
section
variable {prog : Program} {w : World} {A : Around} {E : Value → Shared → Prop} {s : Shared}
theorem snds_perm {vs : List Value} {xs : Array Keyed} (h : xs.toList.Perm (pairsOf vs).toList) : (xs.map (·.2)).toList.Perm vs := by
  rw [Array.toList_map]
  refine (h.map (·.2)).trans (List.Perm.of_eq ?_)
  rw [pairsOf_toList, show (fun p : Keyed => p.2) = Prod.snd from rfl, List.map_snd_zip (Nat.le_refl _)]
end
end Srt

namespace Srt
open PySem PyProof.Rows
end Srt

namespace Srt
open PySem PyProof.Rows PySem.W
end Srt

namespace L2
open PySem PySem.Spec PyProof.Rows
theorem vals_mem : ∀ {vs : List V} {us : List Value}, Vals vs us → ∀ u ∈ us, ∃ v ∈ vs, RelV v u
  | _, _, .cons a t, u, hu => by
    rcases List.mem_cons.mp hu with rfl | hu
    · exact ⟨_, List.mem_cons_self .., a⟩
    · obtain ⟨v, hv, r⟩ := vals_mem t u hu
      exact ⟨v, List.mem_cons_of_mem _ hv, r⟩
end L2

namespace L2
open PySem PySem.Spec PyProof.Rows PySem.W
/-- a dict as it stands, whatever its keys -/
def RawD (h : Heap) (d : Addr) (es : Array DictEntry) (ep : Nat) : Prop := ∃ o, h.get? d = some o ∧ o.ExactDict ∧ o.data = .dict es ep
theorem RawD.tyIs {s : Shared} {d : Addr} {es : Array DictEntry} {ep : Nat} (x : RawD s.heap d es ep) : s.TypeIs (.ref d) "dict" := let ⟨o, ho, hc, _⟩ := x; ⟨o, ho, hc.1⟩
theorem RawD.to {h h' : Heap} {d : Addr} {es : Array DictEntry} {ep : Nat} (x : RawD h d es ep) (e : ∀ o, h.get? d = some o → h'.get? d = some o) : RawD h' d es ep := let ⟨o, ho, r⟩ := x; ⟨o, e _ ho, r⟩
section
variable {prog : Program} {w : World} {A : Around} {E : Value → Shared → Prop} {s : Shared} {it d : Addr} {es : Array DictEntry} {i ep : Nat}
theorem raw_iter {Q : Value → Shared → Prop} (lo : (d == sysModules) = false) (x : RawD s.heap d es ep)
    (q : Q (.ref s.heap.objs.size) { s with heap := s.heap.push { cls := .type "dict_keyiterator", data := .fields #[.ref d, .int 0 0, .int es.size 0, .int ep 0] } }) : wpAny (model prog w) A (pyIter (.ref d)) Q E s := by
  obtain ⟨o, ho, hx, hdat⟩ := id x
  have hT := x.tyIs
  refine wpAny_pyIter_slot hT PySem.F.slot_dict_iter (wpAny_call_entry PySem.F.slot_dict_iter hT PySem.F.entry_dict_iter ?_ (PySem.F.args_dict_iter_1 _))
  unfold Builtin.«dict.__iter__»; refine wpAny_bind ?_
  unfold Builtin.Dict.dictSlotNone; refine wpAny_bind (wpAny_notOrdered_dict hT ?_)
  refine wpAny_pure (?_ : wpAny _ _ (Builtin.Dict.showsAll d >>= _) _ _ s)
  unfold Builtin.Dict.showsAll; rw [if_neg (by rw [lo]; exact Bool.false_ne_true)]
  refine wpAny_bind (wpAny_pure (wpAny_bind (wpAny_dictEntries ho hdat (wpAny_bind (wpAny_dictEpoch ho hdat ?_)))))
  exact wpAny_bind (wpAny_newObj_type (wpAny_pure ⟨_, rfl, "dict_keyiterator", _, ⟨_, Heap.get?_push_size _ rfl, rfl⟩, PySem.F.slot_dict_keyiterator_next.lookup, q⟩))
theorem raw_item {Q : Option Value → Shared → Prop} (st : s.heap.IsKeyIter it d i es.size ep) (x : RawD s.heap d es ep) (hi : i < es.size)
    (q : ∀ h', h'.IsKeyIter it d (i + 1) es.size ep → Heap.SameBut it s.heap h' → Q (some es[i].key) { s with heap := h' }) : wpAny (model prog w) A (pyNext (.ref it)) Q E s := by
  obtain ⟨o, ho, hc, hd⟩ := id st
  obtain ⟨od, hod, hxd, hdd⟩ := id x
  unfold pyNext; refine wpAny_bind (wpAny_attempt (wpAny_callSpecial?_slot (name := Str.ofString "__next__") st.typeIs PySem.F.slot_dict_keyiterator_next (wpAny_call_entry PySem.F.slot_dict_keyiterator_next st.typeIs PySem.F.entry_dict_keyiterator_next ?_ (PySem.F.args_dict_keyiterator_next_1 _))))
  refine wpAny_bind (wpAny_pure (wpAny_bind (wpAny_bind ?_)))
  first | refine wpAny_bind (wpAny_typeNameOfWhole_keyiter st.typeIs (wpAny_pure (wpAny_bind (wpAny_fieldsOf ho hd ?_)))) | refine wpAny_bind (wpAny_typeNameOf_keyiter st.typeIs (wpAny_pure (wpAny_bind (wpAny_fieldsOf ho hd ?_))))
  have own : Builtin.Dict_items.ownsTuple "dict_keyiterator" = false := by decide
  simp only [own, Bool.false_eq_true, if_false]; change wpAny _ _ (if (Value.ref d == Value.none) = true then _ else _) _ _ s
  rw [if_neg (fun z : (Value.ref d == Value.none) = true => Bool.false_ne_true z)]
  refine wpAny_bind (wpAny_pure (wpAny_bind (wpAny_dictEntries hod hdd ?_)))
  rw [if_neg (by simp)]; refine wpAny_bind (wpAny_pure (wpAny_bind (wpAny_dictEpoch hod hdd ?_)))
  rw [if_neg (by simp)]; refine wpAny_pure ?_
  simp only [show ¬ ((i : Int) < 0) by (first | lia | omega), if_false, Int.toNat_natCast, Array.getElem?_eq_getElem hi]
  refine wpAny_bind ?_; first | refine wpAny_bind (wpAny_typeNameOfWhole_keyiter st.typeIs (wpAny_pure (wpAny_bind (wpAny_isOneOf_keyiter st.typeIs ?_)))) | refine wpAny_bind (wpAny_typeNameOf_keyiter st.typeIs (wpAny_pure (wpAny_bind (wpAny_isOneOf_keyiter st.typeIs ?_))))
  change wpAny _ _ (setField (.ref it) 1 (rawInt ((i : Int) + 1)) >>= _) _ _ s
  refine wpAny_bind (wpAny_setField ho hd (by simp) ?_)
  have st2 : (s.heap.update it (Obj.mapFields (·.setIfInBounds 1 (rawInt ((i : Int) + 1))))).IsKeyIter it d (i + 1) es.size ep := ⟨_, Heap.get?_update_self _ ho (Obj.isFreed_of_fields (Obj.data_mapFields hd _)), (Obj.cls_mapFields ..).trans hc, by rw [Obj.data_mapFields hd]; simp [rawInt]⟩
  refine wpAny_bind (wpAny_holding (wpAny_bind (wpAny_isOneOf_keyiter (s := { s with heap := s.heap.update it (Obj.mapFields (·.setIfInBounds 1 (rawInt ((i : Int) + 1)))) }) st2.typeIs ?_)))
  change wpAny _ _ (pure es[i].key) _ _ _
  exact wpAny_pure (wpAny_pure ⟨_, rfl, wpAny_pure (q _ st2 (Heap.SameBut.update ..))⟩)
theorem raw_end {Q : Option Value → Shared → Prop} (hh : A.handled = none) (st : s.heap.IsKeyIter it d i es.size ep) (x : RawD s.heap d es ep) (hi : es.size ≤ i)
    (q : ∀ h', Heap.ExtBut it s.heap h' → Q none { s with heap := h' }) : wpAny (model prog w) A (pyNext (.ref it)) Q E s := by
  obtain ⟨o, ho, hc, hd⟩ := id st
  obtain ⟨od, hod, hxd, hdd⟩ := id x
  unfold pyNext; refine wpAny_bind (wpAny_attempt (wpAny_callSpecial?_slot (name := Str.ofString "__next__") st.typeIs PySem.F.slot_dict_keyiterator_next (wpAny_call_entry PySem.F.slot_dict_keyiterator_next st.typeIs PySem.F.entry_dict_keyiterator_next ?_ (PySem.F.args_dict_keyiterator_next_1 _))))
  refine wpAny_bind (wpAny_pure (wpAny_bind (wpAny_bind ?_)))
  first | refine wpAny_bind (wpAny_typeNameOfWhole_keyiter st.typeIs (wpAny_pure (wpAny_bind (wpAny_fieldsOf ho hd ?_)))) | refine wpAny_bind (wpAny_typeNameOf_keyiter st.typeIs (wpAny_pure (wpAny_bind (wpAny_fieldsOf ho hd ?_))))
  have own : Builtin.Dict_items.ownsTuple "dict_keyiterator" = false := by decide
  simp only [own, Bool.false_eq_true, if_false]; change wpAny _ _ (if (Value.ref d == Value.none) = true then _ else _) _ _ s
  rw [if_neg (fun z : (Value.ref d == Value.none) = true => Bool.false_ne_true z)]
  refine wpAny_bind (wpAny_pure (wpAny_bind (wpAny_dictEntries hod hdd ?_)))
  rw [if_neg (by simp)]; refine wpAny_bind (wpAny_pure (wpAny_bind (wpAny_dictEpoch hod hdd ?_)))
  rw [if_neg (by simp)]; refine wpAny_pure ?_
  simp only [show ¬ ((i : Int) < 0) by (first | lia | omega), if_false, Int.toNat_natCast, Array.getElem?_eq_none hi]
  refine wpAny_bind ?_; first | refine wpAny_bind (wpAny_typeNameOfWhole_keyiter st.typeIs (wpAny_pure ?_)) | refine wpAny_bind (wpAny_typeNameOf_keyiter st.typeIs (wpAny_pure ?_))
  change wpAny _ _ (setField (.ref it) 0 .none >>= _) _ _ s
  refine wpAny_bind (wpAny_setField ho hd (by simp) ?_)
  change wpAny _ _ (newExc (.type "StopIteration") [] >>= _) _ _ _
  refine wpAny_bind ?_; simp only [newExc, newTuple]
  refine wpAny_bind (wpAny_newObj_type (wpAny_bind (m := firstArgMember _ _) (wpAny_of_eq (a := Value.none) (by first | rfl | (simp only [firstArgMember]; rfl)) (wpAny_newObj_type ?_ (by size_fits)))) (by size_fits))
  simp only [raiseNew]; refine wpAny_bind (wpAny_handled ?_)
  rw [show A.in1.handled = none from hh]; refine wpAny_bind (wpAny_pure (wpAny_throw ?_))
  refine wpAny_bind (wpAny_isInstance (T := "StopIteration") (b := true) (v := .ref _) (by exact ⟨_, Heap.get?_push_size _ rfl, rfl⟩) isSubtype_stop ?_)
  exact wpAny_pure (q _ (((Heap.SameBut.update ..).extBut.push _).push _))
theorem raw_walks (hh : A.handled = none) (hne : d ≠ it) : Walks prog w A it [it, d] [it] es.size (fun i v => ∃ e, es[i]? = some e ∧ v = e.key) (fun i h => h.IsKeyIter it d i es.size ep ∧ RawD h d es ep) where
  sub := fun b hb => List.mem_cons.mpr (.inl (List.mem_singleton.mp hb))
  frame := fun _ _ _ st hk => ⟨st.1.at fun o e => hk it (List.mem_cons_self ..) o e, st.2.to fun o e => hk d (List.mem_cons_of_mem _ (List.mem_cons_self ..)) o e⟩
  item := fun j s Q E hj st hQ => raw_item st.1 st.2 hj fun h' st' sb => hQ _ h' s.toks ⟨_, Array.getElem?_eq_getElem hj, rfl⟩ ⟨st', st.2.to fun o e => sb.extBut d o hne e⟩ fun b o hb e => sb.extBut b o (fun z => hb (List.mem_singleton.mpr z)) e
  done := fun s Q E st hQ => raw_end hh st.1 st.2 (Nat.le_refl _) fun h' he => hQ h' s.toks fun b o hb e => he b o (fun z => hb (List.mem_singleton.mpr z)) e
  self := fun _ _ _ _ st hQ => wpAny_pyIter_keyiter st.1 hQ
theorem raw_src (lo : (d == sysModules) = false) : KdlSrc prog w "dict" d d es.size (fun i v => ∃ e, es[i]? = some e ∧ v = e.key) (fun h => RawD h d es ep) where
  type := fun _ x => x.tyIs
  there := fun _ ⟨o, ho, _⟩ => ⟨Heap.lt_size ho, Heap.lt_size ho⟩
  keep := fun _ _ x hk => x.to fun o e => hk d (.inl rfl) o e
  notList := by decide
  notTuple := by decide
  hint := fun _ _ _ _ x hq => kdl_hint_dict x.tyIs hq
  iter := fun _ _ hh x => ⟨_, _, (fun _ _ hq => raw_iter lo x hq), raw_walks hh (let ⟨o, ho, _⟩ := x; Nat.ne_of_lt (Heap.lt_size ho)), ⟨⟨_, Heap.get?_push_size _ rfl, rfl, rfl⟩, x.to fun _ e => Heap.get?_push_of_some _ e⟩⟩
end
end L2

namespace L2
open PySem PySem.Spec PyProof.Rows PySem.W
end L2
namespace Srt
open PySem PyProof.Rows PySem.W
end Srt
namespace L2
open PySem PySem.Spec PyProof.Rows
end L2

namespace L2
open PySem PySem.Spec PyProof.Rows
/-- the numbers lo, lo + c, .. : n of them -/
def Itst (lo c : Int) (n : Nat) : It := ⟨fun i _ => i < n, fun i H x H' => H' = H ∧ x = .int (lo + i * c), fun i _ => n ≤ i⟩
theorem turn_steps {P : Program} {w : World} {K : PySem.W.Frag} {tg : Expr} (it : Addr) (lo c : Int) (n : Nat) : Turn P w K tg (Itst lo c n) [it] it (fun i h => IsRangeIter h it (lo + (i : Nat) * c) ((n : Int) - (i : Nat)) c) where
  mem := List.mem_singleton.mpr rfl
  obj := fun i h st b hb => by
    obtain rfl := List.mem_singleton.mp hb
    exact ⟨_, st, fun v z => by
      have z2 : Data.fields _ = Data.cell v := z
      exact nomatch z2⟩
  keep := fun i h h' st k => k it (List.mem_singleton.mpr rfl) _ st
  item := by
    intro X eP ew eK hc i pins s σ H E I hf st hg
    subst eP ew eK
    obtain ⟨f0, f1, f2, f3, f4, f5⟩ := hf it (List.mem_singleton.mpr rfl)
    refine (Walks.range (prog := X.prog) (w := X.w) (I.ok.hd hc) it lo c n).item i s _ _ hg st fun v h' tk hv st' kk => ?_
    obtain ⟨t, rfl⟩ := hv
    have I1 : Inv X pins σ H { s with heap := h', toks := tk } := I.turned (fun b o hb e => kk b o (fun z => hb (List.mem_singleton.mp z)) e) f0 f1 f3 f4 f5
    exact ⟨_, rfl, go_of (s := { s with heap := h', toks := tk }) (n := "range_iterator") st' rfl rfl (by decide) ⟨.int (lo + i * c), H, I1, ⟨t, rfl⟩, ⟨rfl, rfl⟩, st', fun b hb => (hf b hb).1⟩⟩
  done := by
    intro X eP ew eK hc i pins s σ H E I hf st hg
    subst eP ew eK
    obtain ⟨f0, f1, f2, f3, f4, f5⟩ := hf it (List.mem_singleton.mpr rfl)
    have hni : n ≤ i := hg
    exact wpAny_pyNext_range_end (I.ok.hd hc) st (by (first | lia | omega)) fun h' eb => ⟨rfl, I.turned (t' := s.toks) (fun b o hb e => eb b o hb e) f0 f1 f3 f4 f5⟩
  self := fun _ _ _ _ _ st h => wpAny_pyIter_rangeiter st h
theorem for_steps {lo c : Int} {n : Nat} {g : TG} {tb : TS} {D : Ends} {σ : St} {H : Hp} (Pv : Nat → St → Hp → Prop) (h0 : Pv 0 σ H)
    (hs : ∀ i σ H, i < n → Pv i σ H → g (.int (lo + i * c)) σ H fun σ2 H2 => tb { D with nx := Pv (i + 1), ct := Pv (i + 1), bk := D.nx } σ2 H2) (hd : ∀ σ H, Pv n σ H → D.nx σ H) :
    ∃ W : Nat → Nat → St → Hp → Prop, (∃ m, W 0 m σ H) ∧ ∀ i m σ H, W i m σ H →
      ((Itst lo c n).stop i H ∧ D.nx σ H) ∨ ((Itst lo c n).go i H ∧ ∃ N : St → Hp → Prop, (∀ σ' H', N σ' H' → ∃ m', m' < m ∧ W (i + 1) m' σ' H') ∧ ∀ x H', (Itst lo c n).yld i H x H' → g x σ H' fun σ2 H2 => tb { D with nx := N, ct := N, bk := D.nx } σ2 H2) := by
  refine ⟨fun i m σ H => m = n - i ∧ i ≤ n ∧ Pv i σ H, ⟨n, rfl, Nat.zero_le _, h0⟩, ?_⟩
  rintro i m σ H ⟨rfl, hi, hp⟩
  rcases Nat.lt_or_ge i n with hl | hl
  · refine .inr ⟨hl, Pv (i + 1), fun σ' H' hN => ⟨n - (i + 1), by (first | lia | omega), rfl, hl, hN⟩, ?_⟩
    rintro x H' ⟨rfl, rfl⟩
    exact hs i σ _ hl hp
  · obtain rfl : i = n := by (first | lia | omega)
    exact .inl ⟨hl, hd σ H hp⟩
end L2

/-! the table of a set: a search always ends -/
namespace Sts
open PySem
/-! the steps of a search -/
end Sts

/-! a table laid anew holds all its elements -/
namespace Sts
open PySem
end Sts

/-! places in rising order -/
namespace Sts
open PySem
end Sts

/-! tuples in a set -/
namespace Sts
open PySem
end Sts

/-! a tuple added to a set -/
namespace Sts
open PySem
end Sts

namespace Sts
open PySem
end Sts

/-! set(list of tuples) -/
namespace Sts
open PySem PyProof.Rows
end Sts

namespace Sts
open PySem PyProof.Rows
end Sts

/-! a set walked -/
namespace Sts
open PySem PyProof.Rows
end Sts

namespace Sts
open PySem PyProof.Rows
end Sts

namespace Sts
open PySem PyProof.Rows
end Sts

namespace Sts
open PySem PyProof.Rows PySem.W
end Sts

namespace Srt
open PySem PyProof.Rows PySem.W
end Srt

namespace Sts
open PySem PyProof.Rows PySem.W Srt
end Sts
namespace L2
open PySem PySem.Spec PyProof.Rows PySem.W
section
variable {X : Cx} {e : Expr} {te : TE} {p p' pos pos' : Pos}
theorem Inv.draws {pins : List (Addr × Obj)} {σ : St} {H : Hp} {s : Shared} {d : Drawn} (I : Inv X pins σ H s) : Inv X pins σ H { s with drawn := d } :=
  I.step (g' := s.gens) (d' := d) (t' := s.toks) (ch := []) (fun _ z => nomatch z) (fun _ _ _ _ _ e _ => e) (fun _ o _ _ _ e _ => ⟨o.slots, e⟩) (fun _ _ _ _ n => n) (fun _ o _ e => ⟨o, e⟩) (fun _ _ h => h) (fun _ _ _ h => h) (fun _ ps h => ⟨#[], by simpa using h⟩) (fun _ h => h) I.hok I.bare
end
end L2

/-! sorted: the order too -/
namespace Srd
open PySem PyProof.Rows Srt
/-- a strict weak order -/
structure Swo (lt : Keyed → Keyed → Bool) : Prop where
  asym : ∀ x y, lt x y = true → lt y x = false
  neg : ∀ x y z, lt x y = false → lt y z = false → lt x z = false
def Le (lt : Keyed → Keyed → Bool) (x y : Keyed) : Prop := lt y x = false
section
variable {lt : Keyed → Keyed → Bool} (o : Swo lt) {x y z : Keyed}
include o
theorem Swo.le_trans (h1 : Le lt x y) (h2 : Le lt y z) : Le lt x z := o.neg z y x h2 h1
theorem Swo.le_of (h : lt x y = true) : Le lt x y := o.asym x y h
theorem Swo.lt_le (h1 : lt x y = true) (h2 : Le lt y z) : lt x z = true := by
  cases h : lt x z with
  | true => rfl
  | false => rw [o.neg x z y h h2] at h1; cases h1
theorem Swo.le_lt (h1 : Le lt x y) (h2 : lt y z = true) : lt x z = true := by
  cases h : lt x z with
  | true => rfl
  | false => rw [o.neg y x z h1 h] at h2; cases h2
theorem Swo.le_refl (x : Keyed) : Le lt x x := by
  show lt x x = false
  cases h : lt x x with
  | false => rfl
  | true => have := o.asym x x h; rw [h] at this; exact this
end
/-- which of any two is less, and nothing else happens -/
def CmpL (prog : Program) (w : World) (A : Around) (s : Shared) (κ : SortKind) (Ok : Keyed → Prop) (lt : Keyed → Keyed → Bool) : Prop :=
  ∀ x y, Ok x → Ok y → ∀ E : Value → Shared → Prop, wpAny (model prog w) A (keyLt' κ x.1 y.1) (fun b s' => s' = s ∧ b = lt x y) E s
/-- this piece rises -/
def Up (lt : Keyed → Keyed → Bool) (arr : Array Keyed) (i j : Nat) : Prop := ∀ x y p q, i ≤ x → x < y → y < j → arr[x]? = some p → arr[y]? = some q → Le lt p q
/-- beyond: on the near side of the key -/
def bv (lt : Keyed → Keyed → Bool) (l : Bool) (key p : Keyed) : Bool := if l = true then lt p key else !lt key p
/-- the places that lie on the near side -/
def BV (lt : Keyed → Keyed → Bool) (l : Bool) (key : Keyed) (a : Array Keyed) (base i : Nat) : Bool := match a[base + i]? with | some p => bv lt l key p | none => false
theorem BV.anti {lt : Keyed → Keyed → Bool} (o : Swo lt) {l : Bool} {key : Keyed} {a : Array Keyed} {base n : Nat} (hb : base + n ≤ a.size) (hu : Up lt a base (base + n)) {i j : Nat} (hij : i ≤ j) (hj : j < n) (h : BV lt l key a base j = true) : BV lt l key a base i = true := by
  rcases Nat.eq_or_lt_of_le hij with rfl | hlt
  · exact h
  have ei : a[base + i]? = some a[base + i] := getElem?_pos a _ (by (first | lia | omega))
  have ej : a[base + j]? = some a[base + j] := getElem?_pos a _ (by (first | lia | omega))
  have hle := hu (base + i) (base + j) _ _ (by (first | lia | omega)) (by (first | lia | omega)) (by (first | lia | omega)) ei ej
  unfold BV at h ⊢
  rw [ej] at h
  rw [ei]
  dsimp only at h ⊢
  unfold bv at h ⊢
  cases l with
  | true =>
    rw [if_pos rfl] at h ⊢
    exact o.le_lt hle h
  | false =>
    rw [if_neg (by decide)] at h ⊢
    have h1 : lt key a[base + j] = false := by simpa using h
    have : lt key a[base + i] = false := o.le_trans (lt := lt) hle h1
    rw [this]
    rfl
section
variable {prog : Program} {w : World} {A : Around} {E : Value → Shared → Prop} {s : Shared} {κ : SortKind} {Ok : Keyed → Prop} {st : SortSt} {lt : Keyed → Keyed → Bool}
theorem wpS_ltL {x y : Keyed} {Q : Option Bool → SortSt → Prop} (hc : CmpL prog w A s κ Ok lt) (hk : kindOf st = κ) (hx : Ok x) (hy : Ok y) (h : Q (some (lt x y)) st) : wpS (model prog w) A E s (lt' x y) Q st := by
  rw [lt'_eq]
  refine wpS_bind (wpS_get ?_)
  rw [hk]
  refine wpS_bind (wpS_lift (wpAny_attempt (wpAny_mono (hc x y hx hy _) (fun b s' e => ⟨e.1, ?_⟩) fun _ _ z => z)))
  rw [e.2]
  exact wpS_pure h
theorem beyL {l : Bool} {key : Keyed} {a : Array Keyed} {base n i : Nat} {Q : Option Bool → SortSt → Prop} (hc : CmpL prog w A s κ Ok lt) (hk : kindOf st = κ) (hkey : Ok key) (ha : ∀ p ∈ a.toList, Ok p) (hb : base + n ≤ a.size) (hi : i < n) (h : Q (some (BV lt l key a base i)) st) :
    wpS (model prog w) A E s (elem' a (base + i) >>= fun x => if l = true then lt' x key else (lt' key x >>= fun r => pure (Option.map (fun z => !z) r))) Q st := by
  refine wpS_bind (wpS_elem (by (first | lia | omega)) fun p hp e => ?_)
  unfold BV at h
  rw [e] at h
  dsimp only at h
  unfold bv at h
  cases l with
  | true =>
    rw [if_pos rfl] at h ⊢
    exact wpS_ltL hc hk (ha p hp) hkey h
  | false =>
    rw [if_neg Bool.false_ne_true] at h ⊢
    exact wpS_bind (wpS_ltL hc hk hkey (ha p hp) (wpS_pure h))
set_option maxHeartbeats 1000000 in
theorem wpS_gallopL {l : Bool} {key : Keyed} {a : Array Keyed} {base n hint : Nat} {Q : Option Nat → SortSt → Prop} (o : Swo lt) (hc : CmpL prog w A s κ Ok lt) (hk : kindOf st = κ) (hkey : Ok key) (ha : ∀ p ∈ a.toList, Ok p) (hb : base + n ≤ a.size) (hh : hint < n) (hu : Up lt a base (base + n))
    (h : ∀ k, k ≤ n → (∀ i, i < k → BV lt l key a base i = true) → (∀ i, k ≤ i → i < n → BV lt l key a base i = false) → Q (some k) st) : wpS (model prog w) A E s (gallop' l key a base n hint) Q st := by
  have up : ∀ {i j}, i ≤ j → j < n → BV lt l key a base j = true → BV lt l key a base i = true := fun hij hj h => BV.anti o hb hu hij hj h
  have dn : ∀ {i j}, i ≤ j → j < n → BV lt l key a base i = false → BV lt l key a base j = false := fun {i j} hij hj h => by
    cases e : BV lt l key a base j with
    | false => rfl
    | true => rw [up hij hj e] at h; cases h
  generalize hBB : BV lt l key a base = BB at up dn h
  have bey : ∀ {st' : SortSt} {i : Nat} {Q' : Option Bool → SortSt → Prop}, st' = st → i < n → Q' (some (BB i)) st' → wpS (model prog w) A E s (elem' a (base + i) >>= fun x => if l = true then lt' x key else (lt' key x >>= fun r => pure (Option.map (fun z => !z) r))) Q' st' := fun {st' i Q'} e hi hq => by
    subst e
    exact beyL hc hk hkey ha hb hi (by rw [hBB]; exact hq)
  refine wpS_bind (bey rfl hh ?_)
  cases hright : BB hint with
  | true =>
    dsimp only
    rw [if_pos rfl]
    refine wpS_bind (wpS_mono (wpS_forRange (I := fun x c st' => st' = st ∧ ∃ lo of, c = (none, lo, of) ∧ lo < n - hint ∧ lo < of ∧ BB (hint + lo) = true ∧ x + 1 ≤ of) (Q := fun c st' => st' = st ∧ ∃ lo of, c = (none, lo, of) ∧ lo < n - hint ∧ lo < of ∧ BB (hint + lo) = true ∧ (n - hint ≤ of ∨ BB (hint + of) = false)) ?_ ?_ ⟨rfl, 0, 1, rfl, by (first | lia | omega), by (first | lia | omega), hright, by (first | lia | omega)⟩) ?_)
    · rintro i c st' _ _ ⟨rfl, lo, of, rfl, h1, h2, h3, h4⟩
      dsimp only
      by_cases hlt : of ≥ n - hint
      · rw [if_pos hlt]
        exact wpS_pure ⟨rfl, lo, of, rfl, h1, h2, h3, .inl hlt⟩
      · rw [if_neg hlt]
        refine wpS_bind (bey rfl (by (first | lia | omega)) ?_)
        cases hb2 : BB (hint + of) with
        | true => exact wpS_pure ⟨rfl, _, _, rfl, by (first | lia | omega), by (first | lia | omega), hb2, by (first | lia | omega)⟩
        | false => exact wpS_pure ⟨rfl, lo, of, rfl, h1, h2, h3, .inr hb2⟩
    · rintro c st' ⟨rfl, lo, of, rfl, h1, h2, h3, h4⟩
      exact ⟨rfl, lo, of, rfl, h1, h2, h3, .inl (by (first | lia | omega))⟩
    · rintro c st'' ⟨rfl, lo, of, rfl, h1, h2, h3, h4⟩
      dsimp only
      have g1 : hint + lo + 1 ≤ hint + min of (n - hint) := by (first | lia | omega)
      have g2 : hint + min of (n - hint) ≤ n := by (first | lia | omega)
      have g3 : ∀ i, i < hint + lo + 1 → BB i = true := fun i hi => up (show i ≤ hint + lo by (first | lia | omega)) (by (first | lia | omega)) h3
      have g4 : ∀ i, hint + min of (n - hint) ≤ i → i < n → BB i = false := fun i hi hin => by
        rcases h4 with h4 | h4
        · (first | lia | omega)
        · exact dn (show hint + of ≤ i by (first | lia | omega)) hin h4
      generalize hint + lo + 1 = lo1 at g1 g3
      generalize hint + min of (n - hint) = hi1 at g1 g2 g4
      refine wpS_bind (wpS_mono (wpS_forRange (I := fun x c st' => st' = st'' ∧ ∃ lo hi, c = (none, lo, hi) ∧ lo ≤ hi ∧ hi ≤ n ∧ (∀ i, i < lo → BB i = true) ∧ (∀ i, hi ≤ i → i < n → BB i = false) ∧ hi - lo + x ≤ n) (Q := fun c st' => st' = st'' ∧ ∃ lo hi, c = (none, lo, hi) ∧ lo = hi ∧ hi ≤ n ∧ (∀ i, i < lo → BB i = true) ∧ (∀ i, hi ≤ i → i < n → BB i = false)) ?_ ?_ ⟨rfl, lo1, hi1, rfl, g1, g2, g3, g4, by (first | lia | omega)⟩) ?_)
      · rintro i c st' _ _ ⟨rfl, lo, hi, rfl, h1, h2, h3, h4, h5⟩
        dsimp only
        by_cases hlt : lo ≥ hi
        · rw [if_pos hlt]
          exact wpS_pure ⟨rfl, lo, hi, rfl, by (first | lia | omega), h2, h3, h4⟩
        · rw [if_neg hlt]
          refine wpS_bind (bey rfl (by (first | lia | omega)) ?_)
          cases hb2 : BB (lo + (hi - lo) / 2) with
          | true => exact wpS_pure ⟨rfl, _, _, rfl, by (first | lia | omega), by (first | lia | omega), fun i hi' => up (show i ≤ lo + (hi - lo) / 2 by (first | lia | omega)) (by (first | lia | omega)) hb2, h4, by (first | lia | omega)⟩
          | false => exact wpS_pure ⟨rfl, _, _, rfl, by (first | lia | omega), by (first | lia | omega), h3, fun i hi' hin => dn hi' hin hb2, by (first | lia | omega)⟩
      · rintro c st' ⟨rfl, lo, hi, rfl, h1, h2, h3, h4, h5⟩
        exact ⟨rfl, lo, hi, rfl, by (first | lia | omega), h2, h3, h4⟩
      · rintro c st' ⟨rfl, lo, hi, rfl, h1, h2, h3, h4⟩
        exact wpS_pure (h hi h2 (fun i hi' => h3 i (by (first | lia | omega))) h4)
  | false =>
    dsimp only
    rw [if_neg Bool.false_ne_true]
    refine wpS_bind (wpS_mono (wpS_forRange (I := fun x c st' => st' = st ∧ ∃ lo of, c = (none, lo, of) ∧ lo < hint + 1 ∧ lo < of ∧ BB (hint - lo) = false ∧ x + 1 ≤ of) (Q := fun c st' => st' = st ∧ ∃ lo of, c = (none, lo, of) ∧ lo < hint + 1 ∧ lo < of ∧ BB (hint - lo) = false ∧ (hint + 1 ≤ of ∨ BB (hint - of) = true)) ?_ ?_ ⟨rfl, 0, 1, rfl, by (first | lia | omega), by (first | lia | omega), hright, by (first | lia | omega)⟩) ?_)
    · rintro i c st' _ _ ⟨rfl, lo, of, rfl, h1, h2, h3, h4⟩
      dsimp only
      by_cases hlt : of ≥ hint + 1
      · rw [if_pos hlt]
        exact wpS_pure ⟨rfl, lo, of, rfl, h1, h2, h3, .inl hlt⟩
      · rw [if_neg hlt]
        refine wpS_bind (bey rfl (by (first | lia | omega)) ?_)
        cases hb2 : BB (hint - of) with
        | true => exact wpS_pure ⟨rfl, lo, of, rfl, h1, h2, h3, .inr hb2⟩
        | false => exact wpS_pure ⟨rfl, _, _, rfl, by (first | lia | omega), by (first | lia | omega), hb2, by (first | lia | omega)⟩
    · rintro c st' ⟨rfl, lo, of, rfl, h1, h2, h3, h4⟩
      exact ⟨rfl, lo, of, rfl, h1, h2, h3, .inl (by (first | lia | omega))⟩
    · rintro c st'' ⟨rfl, lo, of, rfl, h1, h2, h3, h4⟩
      dsimp only
      have g1 : hint + 1 - min of (hint + 1) ≤ hint - lo := by (first | lia | omega)
      have g2 : hint - lo ≤ n := by (first | lia | omega)
      have g3 : ∀ i, i < hint + 1 - min of (hint + 1) → BB i = true := fun i hi => by
        rcases h4 with h4 | h4
        · (first | lia | omega)
        · exact up (show i ≤ hint - of by (first | lia | omega)) (by (first | lia | omega)) h4
      have g4 : ∀ i, hint - lo ≤ i → i < n → BB i = false := fun i hi hin => dn hi hin h3
      generalize hint + 1 - min of (hint + 1) = lo1 at g1 g3
      generalize hint - lo = hi1 at g1 g2 g4
      refine wpS_bind (wpS_mono (wpS_forRange (I := fun x c st' => st' = st'' ∧ ∃ lo hi, c = (none, lo, hi) ∧ lo ≤ hi ∧ hi ≤ n ∧ (∀ i, i < lo → BB i = true) ∧ (∀ i, hi ≤ i → i < n → BB i = false) ∧ hi - lo + x ≤ n) (Q := fun c st' => st' = st'' ∧ ∃ lo hi, c = (none, lo, hi) ∧ lo = hi ∧ hi ≤ n ∧ (∀ i, i < lo → BB i = true) ∧ (∀ i, hi ≤ i → i < n → BB i = false)) ?_ ?_ ⟨rfl, lo1, hi1, rfl, g1, g2, g3, g4, by (first | lia | omega)⟩) ?_)
      · rintro i c st' _ _ ⟨rfl, lo, hi, rfl, h1, h2, h3, h4, h5⟩
        dsimp only
        by_cases hlt : lo ≥ hi
        · rw [if_pos hlt]
          exact wpS_pure ⟨rfl, lo, hi, rfl, by (first | lia | omega), h2, h3, h4⟩
        · rw [if_neg hlt]
          refine wpS_bind (bey rfl (by (first | lia | omega)) ?_)
          cases hb2 : BB (lo + (hi - lo) / 2) with
          | true => exact wpS_pure ⟨rfl, _, _, rfl, by (first | lia | omega), by (first | lia | omega), fun i hi' => up (show i ≤ lo + (hi - lo) / 2 by (first | lia | omega)) (by (first | lia | omega)) hb2, h4, by (first | lia | omega)⟩
          | false => exact wpS_pure ⟨rfl, _, _, rfl, by (first | lia | omega), by (first | lia | omega), h3, fun i hi' hin => dn hi' hin hb2, by (first | lia | omega)⟩
      · rintro c st' ⟨rfl, lo, hi, rfl, h1, h2, h3, h4, h5⟩
        exact ⟨rfl, lo, hi, rfl, by (first | lia | omega), h2, h3, h4⟩
      · rintro c st' ⟨rfl, lo, hi, rfl, h1, h2, h3, h4⟩
        exact wpS_pure (h hi h2 (fun i hi' => h3 i (by (first | lia | omega))) h4)
end
end Srd

namespace Srd
open PySem PyProof.Rows Srt
section
variable {lt : Keyed → Keyed → Bool} {a b out : Array Keyed} {ia ib k : Nat} {p q : Keyed}
abbrev So (lt : Keyed → Keyed → Bool) (l : List Keyed) : Prop := l.Pairwise (Le lt)
theorem getD' (h : a[ia]? = some p) : a.toList[ia]? = some p := by rw [← h]; simp
theorem some_inj {i : Nat} {x y : Keyed} (h1 : a[i]? = some x) (h2 : a[i]? = some y) : x = y := by
  rw [h1] at h2
  exact Option.some.inj h2
theorem drop_head (h : a[ia]? = some p) : a.toList.drop ia = p :: a.toList.drop (ia + 1) := by
  obtain ⟨hi, e⟩ := List.getElem?_eq_some_iff.mp (getD' h)
  rw [List.drop_eq_getElem_cons hi, e]
theorem So.drop {l : List Keyed} (h : So lt l) (n : Nat) : So lt (l.drop n) := List.Pairwise.sublist (List.drop_sublist n l) h
theorem So.head (h : So lt a.toList) (hp : a[ia]? = some p) : ∀ y ∈ a.toList.drop (ia + 1), Le lt p y := by
  have := h.drop ia
  rw [drop_head hp] at this
  exact (List.pairwise_cons.mp this).1
theorem headLe (o : Swo lt) (h : So lt a.toList) (hp : a[ia]? = some p) {x : Keyed} (hx : Le lt x p) : ∀ y ∈ a.toList.drop ia, Le lt x y := fun y hy => by
  rw [drop_head hp] at hy
  rcases List.mem_cons.mp hy with rfl | hy
  · exact hx
  · exact o.le_trans hx (h.head hp y hy)
theorem up_of (h : So lt a.toList) (i j : Nat) : Up lt a i j := fun x y p q _ hxy _ ex ey => by
  obtain ⟨hx, rfl⟩ := List.getElem?_eq_some_iff.mp (getD' ex)
  obtain ⟨hy, rfl⟩ := List.getElem?_eq_some_iff.mp (getD' ey)
  exact (List.pairwise_iff_getElem.mp h) x y hx hy hxy
theorem so_of {n : Nat} (h : Up lt a 0 n) (hn : a.size ≤ n) : So lt a.toList := by
  refine List.pairwise_iff_getElem.mpr fun i j hi hj hij => ?_
  have hi' : i < a.size := by rw [← Array.length_toList]; exact hi
  have hj' : j < a.size := by rw [← Array.length_toList]; exact hj
  exact h i j _ _ (Nat.zero_le _) hij (by (first | lia | omega)) (by rw [← Array.getElem?_toList]; exact List.getElem?_eq_getElem hi) (by rw [← Array.getElem?_toList]; exact List.getElem?_eq_getElem hj)
theorem mem_dropI {l : List Keyed} {n : Nat} {y : Keyed} (h : y ∈ l.drop n) : ∃ i, l[n + i]? = some y := by
  obtain ⟨i, hi⟩ := List.mem_iff_getElem?.mp h
  rw [List.getElem?_drop] at hi
  exact ⟨i, hi⟩
/-- behind a leap -/
theorem galA (F : ∀ i, k ≤ i → i < a.size - ia → BV lt false p a ia i = false) (o : Swo lt) : ∀ y ∈ a.toList.drop (ia + k), Le lt p y := fun y hy => by
  obtain ⟨i, hi⟩ := mem_dropI hy
  obtain ⟨hl, _⟩ := List.getElem?_eq_some_iff.mp hi
  rw [Array.length_toList] at hl
  have h1 := F (k + i) (by (first | lia | omega)) (by (first | lia | omega))
  unfold BV at h1
  rw [show ia + (k + i) = ia + k + i by (first | lia | omega), ← Array.getElem?_toList, hi] at h1
  have h2 : (!lt p y) = false := h1
  exact o.le_of (by simpa using h2)
theorem galA1 (F : ∀ i, i < k → BV lt false p a ia i = true) : ∀ x ∈ (a.toList.drop ia).take k, Le lt x p := fun x hx => by
  obtain ⟨i, hi⟩ := List.mem_iff_getElem?.mp hx
  have hik : i < k := by
    have := (List.getElem?_eq_some_iff.mp hi).1
    rw [List.length_take] at this
    (first | lia | omega)
  rw [List.getElem?_take_of_lt hik, List.getElem?_drop] at hi
  have h1 := F i hik
  unfold BV at h1
  rw [← Array.getElem?_toList, hi] at h1
  have h2 : (!lt p x) = true := h1
  show lt p x = false
  simpa using h2
theorem galB (F : ∀ i, k ≤ i → i < b.size - ib → BV lt true q b ib i = false) : ∀ y ∈ b.toList.drop (ib + k), Le lt q y := fun y hy => by
  obtain ⟨i, hi⟩ := mem_dropI hy
  obtain ⟨hl, _⟩ := List.getElem?_eq_some_iff.mp hi
  rw [Array.length_toList] at hl
  have h1 := F (k + i) (by (first | lia | omega)) (by (first | lia | omega))
  unfold BV at h1
  rw [show ib + (k + i) = ib + k + i by (first | lia | omega), ← Array.getElem?_toList, hi] at h1
  exact h1
theorem galB1 (F : ∀ i, i < k → BV lt true q b ib i = true) (o : Swo lt) : ∀ x ∈ (b.toList.drop ib).take k, Le lt x q := fun x hx => by
  obtain ⟨i, hi⟩ := List.mem_iff_getElem?.mp hx
  have hik : i < k := by
    have := (List.getElem?_eq_some_iff.mp hi).1
    rw [List.length_take] at this
    (first | lia | omega)
  rw [List.getElem?_take_of_lt hik, List.getElem?_drop] at hi
  have h1 := F i hik
  unfold BV at h1
  rw [← Array.getElem?_toList, hi] at h1
  exact o.le_of h1
/-- what is out: in order, and all that is left is no less -/
structure OutL (lt : Keyed → Keyed → Bool) (a b out : Array Keyed) (ia ib : Nat) : Prop where
  perm : Out a b out ia ib
  sort : So lt out.toList
  lowA : ∀ x ∈ out.toList, ∀ y ∈ a.toList.drop ia, Le lt x y
  lowB : ∀ x ∈ out.toList, ∀ y ∈ b.toList.drop ib, Le lt x y
/-- both, in order -/
structure Rs (lt : Keyed → Keyed → Bool) (a b r : Array Keyed) : Prop where
  perm : r.toList.Perm (a.toList ++ b.toList)
  sort : So lt r.toList
theorem mem_push {x : Keyed} (h : x ∈ (out.push p).toList) : x ∈ out.toList ∨ x = p := by
  rw [Array.toList_push] at h
  rcases List.mem_append.mp h with h | h
  · exact .inl h
  · exact .inr (List.mem_singleton.mp h)
theorem so_push (h : So lt out.toList) (hp : ∀ x ∈ out.toList, Le lt x p) : So lt (out.push p).toList := by
  rw [Array.toList_push]
  refine List.pairwise_append.mpr ⟨h, List.pairwise_singleton _ _, fun x hx y hy => ?_⟩
  rw [List.mem_singleton.mp hy]
  exact hp x hx
theorem drop_in {l : List Keyed} {i j : Nat} (h : i ≤ j) {y : Keyed} (hy : y ∈ l.drop j) : y ∈ l.drop i := by
  rw [show j = i + (j - i) by (first | lia | omega), ← List.drop_drop] at hy
  exact List.mem_of_mem_drop hy
theorem OutL.pushA (h : OutL lt a b out ia ib) (SA : So lt a.toList) (hp : a[ia]? = some p) (hb : ∀ y ∈ b.toList.drop ib, Le lt p y) : OutL lt a b (out.push p) (ia + 1) ib := by
  have hm : p ∈ a.toList.drop ia := by rw [drop_head hp]; exact List.mem_cons_self ..
  refine ⟨h.perm.pushA hp, so_push h.sort fun x hx => h.lowA x hx p hm, fun x hx y hy => ?_, fun x hx y hy => ?_⟩
  · rcases mem_push hx with hx | rfl
    · exact h.lowA x hx y (drop_in (by (first | lia | omega)) hy)
    · exact SA.head hp y hy
  · rcases mem_push hx with hx | rfl
    · exact h.lowB x hx y hy
    · exact hb y hy
theorem OutL.pushB (h : OutL lt a b out ia ib) (SB : So lt b.toList) (hp : b[ib]? = some p) (ha : ∀ y ∈ a.toList.drop ia, Le lt p y) : OutL lt a b (out.push p) ia (ib + 1) := by
  have hm : p ∈ b.toList.drop ib := by rw [drop_head hp]; exact List.mem_cons_self ..
  refine ⟨h.perm.pushB hp, so_push h.sort fun x hx => h.lowB x hx p hm, fun x hx y hy => ?_, fun x hx y hy => ?_⟩
  · rcases mem_push hx with hx | rfl
    · exact h.lowA x hx y hy
    · exact ha y hy
  · rcases mem_push hx with hx | rfl
    · exact h.lowB x hx y (drop_in (by (first | lia | omega)) hy)
    · exact SB.head hp y hy
theorem ext_list (a : Array Keyed) (i k : Nat) : (a.extract i (i + k)).toList = (a.toList.drop i).take k := by
  rw [Array.toList_extract, List.extract_eq_drop_take, show i + k - i = k by (first | lia | omega)]
theorem ext_all (a : Array Keyed) (i : Nat) : (a.extract i a.size).toList = a.toList.drop i := by
  rw [Array.toList_extract, List.extract_eq_drop_take]
  apply List.take_of_length_le
  rw [List.length_drop, Array.length_toList]
  exact Nat.le_refl _
theorem take_drop_le {l : List Keyed} {i k : Nat} (h : So lt l) {x y : Keyed} (hx : x ∈ (l.drop i).take k) (hy : y ∈ l.drop (i + k)) : Le lt x y := by
  have h1 := h.drop i
  rw [← List.take_append_drop k (l.drop i), List.drop_drop] at h1
  exact (List.pairwise_append.mp h1).2.2 x hx y hy
theorem OutL.extA (h : OutL lt a b out ia ib) (SA : So lt a.toList) (hk : ia + k ≤ a.size) (hb : ∀ x ∈ (a.toList.drop ia).take k, ∀ y ∈ b.toList.drop ib, Le lt x y) : OutL lt a b (out ++ a.extract ia (ia + k)) (ia + k) ib := by
  have hm : ∀ x, x ∈ (out ++ a.extract ia (ia + k)).toList → x ∈ out.toList ∨ x ∈ (a.toList.drop ia).take k := fun x hx => by
    rw [Array.toList_append, ext_list] at hx
    exact List.mem_append.mp hx
  refine ⟨h.perm.extA hk, ?_, fun x hx y hy => ?_, fun x hx y hy => ?_⟩
  · rw [Array.toList_append, ext_list]
    exact List.pairwise_append.mpr ⟨h.sort, List.Pairwise.sublist (List.take_sublist _ _) (SA.drop ia), fun x hx y hy => h.lowA x hx y (List.mem_of_mem_take hy)⟩
  · rcases hm x hx with hx | hx
    · exact h.lowA x hx y (drop_in (by (first | lia | omega)) hy)
    · exact take_drop_le SA hx hy
  · rcases hm x hx with hx | hx
    · exact h.lowB x hx y hy
    · exact hb x hx y hy
theorem OutL.extB (h : OutL lt a b out ia ib) (SB : So lt b.toList) (hk : ib + k ≤ b.size) (ha : ∀ x ∈ (b.toList.drop ib).take k, ∀ y ∈ a.toList.drop ia, Le lt x y) : OutL lt a b (out ++ b.extract ib (ib + k)) ia (ib + k) := by
  have hm : ∀ x, x ∈ (out ++ b.extract ib (ib + k)).toList → x ∈ out.toList ∨ x ∈ (b.toList.drop ib).take k := fun x hx => by
    rw [Array.toList_append, ext_list] at hx
    exact List.mem_append.mp hx
  refine ⟨h.perm.extB hk, ?_, fun x hx y hy => ?_, fun x hx y hy => ?_⟩
  · rw [Array.toList_append, ext_list]
    exact List.pairwise_append.mpr ⟨h.sort, List.Pairwise.sublist (List.take_sublist _ _) (SB.drop ib), fun x hx y hy => h.lowB x hx y (List.mem_of_mem_take hy)⟩
  · rcases hm x hx with hx | hx
    · exact h.lowA x hx y hy
    · exact ha x hx y hy
  · rcases hm x hx with hx | hx
    · exact h.lowB x hx y (drop_in (by (first | lia | omega)) hy)
    · exact take_drop_le SB hx hy
theorem OutL.doneB (h : OutL lt a b out ia ib) (SA : So lt a.toList) (e : (ib == b.size) = true) : Rs lt a b (out ++ a.extract ia a.size ++ b.extract ib b.size) := by
  refine ⟨h.perm.done, ?_⟩
  have e' : b.toList.drop ib = [] := List.drop_eq_nil_of_le (by rw [Array.length_toList, eq_of_beq e]; exact Nat.le_refl _)
  rw [Array.toList_append, Array.toList_append, ext_all, ext_all, e', List.append_nil]
  exact List.pairwise_append.mpr ⟨h.sort, SA.drop ia, fun x hx y hy => h.lowA x hx y hy⟩
theorem OutL.doneA (h : OutL lt a b out ia ib) (SB : So lt b.toList) (e : (ia == a.size) = true) : Rs lt a b (out ++ a.extract ia a.size ++ b.extract ib b.size) := by
  refine ⟨h.perm.done, ?_⟩
  have e' : a.toList.drop ia = [] := List.drop_eq_nil_of_le (by rw [Array.length_toList, eq_of_beq e]; exact Nat.le_refl _)
  rw [Array.toList_append, Array.toList_append, ext_all, ext_all, e', List.append_nil]
  exact List.pairwise_append.mpr ⟨h.sort, SB.drop ib, fun x hx y hy => h.lowB x hx y hy⟩
theorem OutL.lastL (h : OutL lt a b out ia ib) (SA : So lt a.toList) (SB : So lt b.toList) (LA : ∀ x ∈ b.toList, ∀ q, a[a.size - 1]? = some q → Le lt x q) (e : (ia + 1 == a.size) = true) : Rs lt a b (out ++ b.extract ib b.size ++ a.extract ia a.size) := by
  refine ⟨h.perm.last, ?_⟩
  have e1 := eq_of_beq e
  rw [Array.toList_append, Array.toList_append, ext_all, ext_all]
  refine List.pairwise_append.mpr ⟨List.pairwise_append.mpr ⟨h.sort, SB.drop ib, fun x hx y hy => h.lowB x hx y hy⟩, SA.drop ia, fun x hx y hy => ?_⟩
  rcases List.mem_append.mp hx with hx | hx
  · exact h.lowA x hx y hy
  · refine LA x (List.mem_of_mem_drop hx) y ?_
    obtain ⟨i, hi⟩ := mem_dropI hy
    have hl := (List.getElem?_eq_some_iff.mp hi).1
    rw [Array.length_toList] at hl
    rw [show a.size - 1 = ia + i by (first | lia | omega), ← Array.getElem?_toList]
    exact hi
theorem outL0 (SB : So lt b.toList) (hp : b[0]? = some p) (hb0 : ∀ p, b[0]? = some p → ∀ y ∈ a.toList, Le lt p y) : OutL lt a b #[p] 0 1 := by
  refine ⟨out0 hp, List.pairwise_singleton _ _, fun x hx y hy => ?_, fun x hx y hy => ?_⟩
  · obtain rfl : x = p := by simpa using hx
    exact hb0 x hp y hy
  · obtain rfl : x = p := by simpa using hx
    exact SB.head hp y hy
end
end Srd

namespace Srd
open PySem PyProof.Rows Srt
section
variable {prog : Program} {w : World} {A : Around} {E : Value → Shared → Prop} {s : Shared} {κ : SortKind} {Ok : Keyed → Prop} {st : SortSt} {lt : Keyed → Keyed → Bool}
abbrev LoT := Option (Array Keyed) × Array Keyed × Nat × Nat × Nat × Nat × Nat
def lo3 (a b out : Array Keyed) (ia ib g ac bc : Nat) : StateT SortSt Sem (ForInStep LoT) :=
  elem' a ia >>= fun p => if (ia + 1 + 1 == a.size) = true then pure (.done (some (out.push p ++ b.extract ib b.size ++ a.extract (ia + 1) a.size), out.push p, ia + 1, ib, g, ac, bc))
    else if (decide (ac < 7) && decide (bc < 7)) = true then pure (.done (none, out.push p, ia + 1, ib, g, ac, bc)) else pure (.yield (none, out.push p, ia + 1, ib, g, ac, bc))
/-- what holds behind a turn of the galloping -/
def LoP (lt : Keyed → Keyed → Bool) (a b : Array Keyed) (st : SortSt) (x : Nat) : ForInStep LoT → SortSt → Prop := fun r st' => match r with
  | .done c => Like st st' ∧ ((∃ r out ia ib g ac bc, c = (some r, out, ia, ib, g, ac, bc) ∧ Rs lt a b r) ∨ ∃ out ia ib g ac bc, c = (none, out, ia, ib, g, ac, bc) ∧ OutL lt a b out ia ib ∧ ia + 1 < a.size ∧ ib < b.size ∧ x + 2 ≤ ia + ib)
  | .yield c => Like st st' ∧ ∃ out ia ib g ac bc, c = (none, out, ia, ib, g, ac, bc) ∧ OutL lt a b out ia ib ∧ ia + 1 < a.size ∧ ib < b.size ∧ x + 2 ≤ ia + ib
/-- what a step may end in -/
structure LoQ (lt : Keyed → Keyed → Bool) (a b : Array Keyed) (st : SortSt) (N : Nat) (Q : ForInStep LoT → SortSt → Prop) : Prop where
  R : ∀ r out ia ib g ac bc, Rs lt a b r → Q (.done (some r, out, ia, ib, g, ac, bc)) st
  N : ∀ out ia ib g ac bc, OutL lt a b out ia ib → ia + 1 < a.size → ib < b.size → N ≤ ia + ib → Q (.done (none, out, ia, ib, g, ac, bc)) st ∧ Q (.yield (none, out, ia, ib, g, ac, bc)) st
section
variable {a b out : Array Keyed} {ia ib g ac bc N : Nat} {Q : ForInStep LoT → SortSt → Prop}
theorem lo3_ok (SA : So lt a.toList) (SB : So lt b.toList) (LA : ∀ x ∈ b.toList, ∀ q, a[a.size - 1]? = some q → Le lt x q) (q : LoQ lt a b st N Q) (ho : OutL lt a b out ia ib) (h1 : ia + 1 < a.size) (h2 : ib < b.size) (hN : N ≤ ia + ib) (hp : ∀ p, a[ia]? = some p → ∀ y ∈ b.toList.drop ib, Le lt p y) :
    wpS (model prog w) A E s (lo3 a b out ia ib g ac bc) Q st := by
  unfold lo3
  refine wpS_bind (wpS_elem (by (first | lia | omega)) fun p4 h4 e4 => ?_)
  have o4 := ho.pushA SA e4 (hp p4 e4)
  by_cases f1 : (ia + 1 + 1 == a.size) = true
  · rw [if_pos f1]
    exact wpS_pure (q.R _ _ _ _ _ _ _ (o4.lastL SA SB LA f1))
  rw [if_neg f1]
  have n4 : ia + 1 + 1 < a.size := by
    have : ¬ ia + 1 + 1 = a.size := fun e => f1 (by simp [← e])
    (first | lia | omega)
  have z := q.N _ _ _ g ac bc o4 n4 h2 (by (first | lia | omega))
  by_cases f2 : (decide (ac < 7) && decide (bc < 7)) = true
  · rw [if_pos f2]
    exact wpS_pure z.1
  · rw [if_neg f2]
    exact wpS_pure z.2
theorem lo2_ok (o : Swo lt) (hc : CmpL prog w A s κ Ok lt) (hk : kindOf st = κ) (ha : ∀ p ∈ a.toList, Ok p) (hb : ∀ p ∈ b.toList, Ok p) (SA : So lt a.toList) (SB : So lt b.toList) (LA : ∀ x ∈ b.toList, ∀ q, a[a.size - 1]? = some q → Le lt x q) (q : LoQ lt a b st N Q) (ho : OutL lt a b out ia ib) (h1 : ia + 1 < a.size) (h2 : ib < b.size) (hN : N ≤ ia + ib) (hp : ∀ p, b[ib]? = some p → ∀ y ∈ a.toList.drop ia, Le lt p y)
    {T : Keyed → Option Nat → StateT SortSt Sem (ForInStep LoT)} (hT : ∀ p k, T p (some k) = if k > 0 then (if (ib + 1 + k == b.size) = true then pure (.done (some (out.push p ++ b.extract (ib + 1) (ib + 1 + k) ++ a.extract ia a.size ++ b.extract (ib + 1 + k) b.size), out.push p ++ b.extract (ib + 1) (ib + 1 + k), ia, ib + 1 + k, g, ac, k))
          else lo3 a b (out.push p ++ b.extract (ib + 1) (ib + 1 + k)) ia (ib + 1 + k) g ac k)
        else lo3 a b (out.push p) ia (ib + 1) g ac k) :
    wpS (model prog w) A E s (elem' b ib >>= fun p => if (ib + 1 == b.size) = true then pure (.done (some (out.push p ++ a.extract ia a.size ++ b.extract (ib + 1) b.size), out.push p, ia, ib + 1, g, ac, bc))
      else elem' a ia >>= fun q => gallop' true q b (ib + 1) (b.size - (ib + 1)) 0 >>= T p) Q st := by
  refine wpS_bind (wpS_elem (by (first | lia | omega)) fun p3 h3 e3 => ?_)
  have o2 := ho.pushB SB e3 (hp p3 e3)
  by_cases c3 : (ib + 1 == b.size) = true
  · rw [if_pos c3]
    exact wpS_pure (q.R _ _ _ _ _ _ _ (o2.doneB SA c3))
  rw [if_neg c3]
  have n3 : ib + 1 < b.size := by
    have : ¬ ib + 1 = b.size := fun e => c3 (by simp [← e])
    (first | lia | omega)
  refine wpS_bind (wpS_elem (by (first | lia | omega)) fun q3 g3 u3 => ?_)
  refine wpS_bind (wpS_gallopL o hc hk (ha q3 g3) hb (by (first | lia | omega)) (by (first | lia | omega)) (up_of SB _ _) fun k2 hk2 G1 G2 => ?_)
  rw [hT]
  by_cases k20 : k2 > 0
  · rw [if_pos k20]
    have o3 := o2.extB SB (k := k2) (by (first | lia | omega)) (fun x hx => headLe o SA u3 (galB1 G1 o x hx))
    by_cases c4 : (ib + 1 + k2 == b.size) = true
    · rw [if_pos c4]
      exact wpS_pure (q.R _ _ _ _ _ _ _ (o3.doneB SA c4))
    rw [if_neg c4]
    have n5 : ib + 1 + k2 < b.size := by
      have : ¬ ib + 1 + k2 = b.size := fun e => c4 (by simp [← e])
      (first | lia | omega)
    exact lo3_ok SA SB LA q o3 h1 n5 (by (first | lia | omega)) fun p e => by rw [some_inj e u3]; exact galB G2
  · rw [if_neg k20]
    exact lo3_ok SA SB LA q o2 h1 n3 (by (first | lia | omega)) fun p e => by rw [some_inj e u3]; exact galB (k := 0) (fun i _ hi => G2 i (by (first | lia | omega)) hi)
end
set_option maxHeartbeats 2000000 in
theorem wpS_mergeLoL {a b : Array Keyed} {Q : Array Keyed → SortSt → Prop} (o : Swo lt) (hc : CmpL prog w A s κ Ok lt) (hk : kindOf st = κ) (ha : ∀ p ∈ a.toList, Ok p) (hb : ∀ p ∈ b.toList, Ok p) (ha1 : 1 ≤ a.size) (hb1 : 1 ≤ b.size) (SA : So lt a.toList) (SB : So lt b.toList) (hb0 : ∀ p, b[0]? = some p → ∀ y ∈ a.toList, Le lt p y) (LA : ∀ x ∈ b.toList, ∀ q, a[a.size - 1]? = some q → Le lt x q)
    (h : ∀ r st', Like st st' → Rs lt a b r → Q r st') : wpS (model prog w) A E s (mergeLo' a b) Q st := by
  refine wpS_bind (wpS_lift (wpAny_rule ⟨rfl, ?_⟩))
  refine wpS_bind (wpS_elem (by (first | lia | omega)) fun p hp he => ?_)
  try dsimp -zeta only
  have o0 : OutL lt a b #[p] 0 1 := outL0 SB he hb0
  by_cases c1 : (1 == b.size) = true
  · rw [if_pos c1]
    exact wpS_pure (h _ _ (Like.refl _) (o0.doneB SA c1))
  rw [if_neg c1]
  by_cases c2 : (0 + 1 == a.size) = true
  · rw [if_pos c2]
    exact wpS_pure (h _ _ (Like.refl _) (o0.lastL SA SB LA c2))
  rw [if_neg c2]
  have n1 : 1 < b.size := by
    have : ¬ 1 = b.size := fun e => c1 (by simp [← e])
    (first | lia | omega)
  have n2 : 1 < a.size := by
    have : ¬ 1 = a.size := fun e => c2 (by simp [← e])
    (first | lia | omega)
  refine wpS_bind (wpS_get ?_)
  -- the turns
  refine wpS_bind (wpS_mono (wpS_forRange (I := fun x c st' => Like st st' ∧ ∃ out ia ib g, c = (none, out, ia, ib, g) ∧ OutL lt a b out ia ib ∧ ia + 1 < a.size ∧ ib < b.size ∧ x + 1 ≤ ia + ib)
    (Q := fun c st' => Like st st' ∧ ∃ r out ia ib g, c = (some r, out, ia, ib, g) ∧ Rs lt a b r) ?_ ?_ ⟨Like.refl _, _, 0, 1, _, rfl, o0, by (first | lia | omega), by (first | lia | omega), by (first | lia | omega)⟩) ?_)
  · rintro x c st1 _ hx ⟨lk, out, ia, ib, g, rfl, ho, hia, hib, hxx⟩
    try dsimp -zeta only
    -- one by one
    refine wpS_bind (wpS_mono (wpS_forRange (I := fun y c st' => Like st st' ∧ ∃ out ia ib ac bc, c = (none, out, ia, ib, ac, bc) ∧ OutL lt a b out ia ib ∧ ia + 1 < a.size ∧ ib < b.size ∧ x + 1 + (if y = 0 then 0 else 1) ≤ ia + ib)
      (Q := fun c st' => Like st st' ∧ ((∃ r out ia ib ac bc, c = (some r, out, ia, ib, ac, bc) ∧ Rs lt a b r) ∨ ∃ out ia ib ac bc, c = (none, out, ia, ib, ac, bc) ∧ OutL lt a b out ia ib ∧ ia + 1 < a.size ∧ ib < b.size ∧ x + 2 ≤ ia + ib)) ?_ ?_ ⟨lk, out, ia, ib, 0, 0, rfl, ho, hia, hib, by simp; (first | lia | omega)⟩) ?_)
    · rintro y c st2 _ hy ⟨lk2, out, ia, ib, ac, bc, rfl, ho, hia, hib, hxx⟩
      dsimp only
      have hxx2 : x + 1 ≤ ia + ib := by split at hxx <;> (first | lia | omega)
      refine wpS_bind (wpS_elem (by (first | lia | omega)) fun p hp ep => ?_)
      refine wpS_bind (wpS_elem (by (first | lia | omega)) fun q hq eq => ?_)
      refine wpS_bind (wpS_ltL hc (lk2.kind.trans hk) (hb p hp) (ha q hq) ?_)
      cases hbw : lt p q with
      | true =>
        try dsimp -zeta only
        rw [if_pos rfl]
        refine wpS_bind (wpS_elem (by (first | lia | omega)) fun p2 hp2 ep2 => ?_)
        have o1 := ho.pushB SB ep2 (by rw [some_inj ep2 ep]; exact headLe o SA eq (o.le_of hbw))
        by_cases d1 : (ib + 1 == b.size) = true
        · rw [if_pos d1]
          exact wpS_pure ⟨lk2, .inl ⟨_, _, _, _, _, _, rfl, (o1.doneB SA d1)⟩⟩
        rw [if_neg d1]
        have m1 : ib + 1 < b.size := by
          have : ¬ ib + 1 = b.size := fun e => d1 (by simp [← e])
          (first | lia | omega)
        by_cases d2 : bc + 1 ≥ g
        · rw [if_pos d2]
          exact wpS_pure ⟨lk2, .inr ⟨_, _, _, _, _, rfl, o1, hia, m1, by (first | lia | omega)⟩⟩
        · rw [if_neg d2]
          exact wpS_pure ⟨lk2, _, _, _, _, _, rfl, o1, hia, m1, by rw [if_neg (by (first | lia | omega))]; (first | lia | omega)⟩
      | false =>
        try dsimp -zeta only
        rw [if_neg Bool.false_ne_true]
        refine wpS_bind (wpS_elem (by (first | lia | omega)) fun p2 hp2 ep2 => ?_)
        have o1 := ho.pushA SA ep2 (by rw [some_inj ep2 eq]; exact headLe o SB ep hbw)
        by_cases d1 : (ia + 1 + 1 == a.size) = true
        · rw [if_pos d1]
          exact wpS_pure ⟨lk2, .inl ⟨_, _, _, _, _, _, rfl, (o1.lastL SA SB LA d1)⟩⟩
        rw [if_neg d1]
        have m1 : ia + 1 + 1 < a.size := by
          have : ¬ ia + 1 + 1 = a.size := fun e => d1 (by simp [← e])
          (first | lia | omega)
        by_cases d2 : ac + 1 ≥ g
        · rw [if_pos d2]
          exact wpS_pure ⟨lk2, .inr ⟨_, _, _, _, _, rfl, o1, m1, hib, by (first | lia | omega)⟩⟩
        · rw [if_neg d2]
          exact wpS_pure ⟨lk2, _, _, _, _, _, rfl, o1, m1, hib, by rw [if_neg (by (first | lia | omega))]; (first | lia | omega)⟩
    · rintro c st2 ⟨lk2, out, ia, ib, ac, bc, rfl, ho, hia, hib, hxx⟩
      refine ⟨lk2, .inr ⟨_, _, _, _, _, rfl, ho, hia, hib, ?_⟩⟩
      rw [if_neg (by (first | lia | omega))] at hxx
      (first | lia | omega)
    · rintro c st2 ⟨lk2, ⟨r, out, ia, ib, ac, bc, rfl, hr⟩ | ⟨out, ia, ib, ac, bc, rfl, ho, hia, hib, hxx⟩⟩
      · exact wpS_pure ⟨lk2, _, _, _, _, _, rfl, hr⟩
      try dsimp -zeta only
      refine wpS_bind (wpS_lift (wpAny_rule ⟨rfl, ?_⟩))
      try dsimp -zeta only
      -- by leaps
      refine wpS_bind (wpS_mono (wpS_forRange (I := fun y c st' => Like st st' ∧ ∃ out ia ib g ac bc, c = (none, out, ia, ib, g, ac, bc) ∧ OutL lt a b out ia ib ∧ ia + 1 < a.size ∧ ib < b.size ∧ x + 2 ≤ ia + ib)
        (Q := fun c st' => Like st st' ∧ ((∃ r out ia ib g ac bc, c = (some r, out, ia, ib, g, ac, bc) ∧ Rs lt a b r) ∨ ∃ out ia ib g ac bc, c = (none, out, ia, ib, g, ac, bc) ∧ OutL lt a b out ia ib ∧ ia + 1 < a.size ∧ ib < b.size ∧ x + 2 ≤ ia + ib)) ?_ ?_ ⟨lk2, out, ia, ib, _, _, _, rfl, ho, hia, hib, hxx⟩) ?_)
      · rintro y c st3 _ hy ⟨lk3, out, ia, ib, g3, ac, bc, rfl, ho, hia, hib, hxx⟩
        dsimp only
        refine wpS_mono (Q := LoP lt a b st x) ?_ (fun r st' h => by cases r <;> exact h)
        have loq : ∀ {st4}, Like st st4 → LoQ lt a b st4 (ia + ib) (LoP lt a b st x) := fun lk4 => ⟨fun r out ia ib g ac bc hr => ⟨lk4, .inl ⟨r, out, ia, ib, g, ac, bc, rfl, hr⟩⟩, fun out ia ib g ac bc ho h1 h2 hN => ⟨⟨lk4, .inr ⟨out, ia, ib, g, ac, bc, rfl, ho, h1, h2, by (first | lia | omega)⟩⟩, ⟨lk4, out, ia, ib, g, ac, bc, rfl, ho, h1, h2, by (first | lia | omega)⟩⟩⟩
        by_cases g1 : g3 > 1
        · rw [if_pos g1]
          refine wpS_bind (wpS_modify ?_)
          have lk4 := lk3.trans (like_gallop st3 (g3 - 1))
          refine wpS_bind (wpS_elem (by (first | lia | omega)) fun p0 h0 e0 => ?_)
          refine wpS_bind (wpS_gallopL o hc (lk4.kind.trans hk) (hb p0 h0) ha (by (first | lia | omega)) (by (first | lia | omega)) (up_of SA _ _) fun k hk1 F1 F2 => ?_)
          try dsimp -zeta only
          by_cases k0 : k > 0
          · rw [if_pos k0]
            have o1 := ho.extA SA (k := k) (by (first | lia | omega)) (fun x hx => headLe o SB e0 (galA1 F1 x hx))
            by_cases c1 : (ia + k + 1 == a.size) = true
            · rw [if_pos c1]
              exact wpS_pure ⟨lk4, .inl ⟨_, _, _, _, _, _, _, rfl, (o1.lastL SA SB LA c1)⟩⟩
            rw [if_neg c1]
            by_cases c2 : (ia + k == a.size) = true
            · rw [if_pos c2]
              exact wpS_pure ⟨lk4, .inl ⟨_, _, _, _, _, _, _, rfl, (o1.doneA SB c2)⟩⟩
            rw [if_neg c2]
            have n1 : ia + k + 1 < a.size := by
              have h1 : ¬ ia + k + 1 = a.size := fun e => c1 (by simp [← e])
              have h2 : ¬ ia + k = a.size := fun e => c2 (by simp [← e])
              (first | lia | omega)
            refine lo2_ok o hc (lk4.kind.trans hk) ha hb SA SB LA (N := ia + ib) (loq lk4) o1 n1 hib (by (first | lia | omega)) (fun p e => by rw [some_inj e e0]; exact galA F2 o) ?_
            exact fun _ _ => rfl
          · rw [if_neg k0]
            refine lo2_ok o hc (lk4.kind.trans hk) ha hb SA SB LA (N := ia + ib) (loq lk4) ho hia hib (Nat.le_refl _) (fun p e => by rw [some_inj e e0]; exact galA (k := 0) (fun i _ hi => F2 i (by (first | lia | omega)) hi) o) ?_
            exact fun _ _ => rfl
        · rw [if_neg g1]
          refine wpS_bind (wpS_modify ?_)
          have lk4 := lk3.trans (like_gallop st3 g3)
          refine wpS_bind (wpS_elem (by (first | lia | omega)) fun p0 h0 e0 => ?_)
          refine wpS_bind (wpS_gallopL o hc (lk4.kind.trans hk) (hb p0 h0) ha (by (first | lia | omega)) (by (first | lia | omega)) (up_of SA _ _) fun k hk1 F1 F2 => ?_)
          try dsimp -zeta only
          by_cases k0 : k > 0
          · rw [if_pos k0]
            have o1 := ho.extA SA (k := k) (by (first | lia | omega)) (fun x hx => headLe o SB e0 (galA1 F1 x hx))
            by_cases c1 : (ia + k + 1 == a.size) = true
            · rw [if_pos c1]
              exact wpS_pure ⟨lk4, .inl ⟨_, _, _, _, _, _, _, rfl, (o1.lastL SA SB LA c1)⟩⟩
            rw [if_neg c1]
            by_cases c2 : (ia + k == a.size) = true
            · rw [if_pos c2]
              exact wpS_pure ⟨lk4, .inl ⟨_, _, _, _, _, _, _, rfl, (o1.doneA SB c2)⟩⟩
            rw [if_neg c2]
            have n1 : ia + k + 1 < a.size := by
              have h1 : ¬ ia + k + 1 = a.size := fun e => c1 (by simp [← e])
              have h2 : ¬ ia + k = a.size := fun e => c2 (by simp [← e])
              (first | lia | omega)
            refine lo2_ok o hc (lk4.kind.trans hk) ha hb SA SB LA (N := ia + ib) (loq lk4) o1 n1 hib (by (first | lia | omega)) (fun p e => by rw [some_inj e e0]; exact galA F2 o) ?_
            exact fun _ _ => rfl
          · rw [if_neg k0]
            refine lo2_ok o hc (lk4.kind.trans hk) ha hb SA SB LA (N := ia + ib) (loq lk4) ho hia hib (Nat.le_refl _) (fun p e => by rw [some_inj e e0]; exact galA (k := 0) (fun i _ hi => F2 i (by (first | lia | omega)) hi) o) ?_
            exact fun _ _ => rfl
      · rintro c st3 ⟨lk3, out, ia, ib, g3, ac, bc, rfl, ho, hia, hib, hxx⟩
        exact ⟨lk3, .inr ⟨_, _, _, _, _, _, rfl, ho, hia, hib, hxx⟩⟩
      · rintro c st3 ⟨lk3, ⟨r, out, ia, ib, g3, ac, bc, rfl, hr⟩ | ⟨out, ia, ib, g3, ac, bc, rfl, ho, hia, hib, hxx⟩⟩
        · exact wpS_pure ⟨lk3, _, _, _, _, _, rfl, hr⟩
        · try dsimp -zeta only
          refine wpS_bind (wpS_modify ?_)
          exact wpS_pure ⟨lk3.trans (like_gallop _ _), _, _, _, _, rfl, ho, hia, hib, by (first | lia | omega)⟩
  · rintro c st1 ⟨lk, out, ia, ib, g, rfl, ho, hia, hib, hx⟩
    exfalso
    (first | lia | omega)
  · rintro c st1 ⟨lk, r, out, ia, ib, g, rfl, hr⟩
    exact wpS_pure (h r st1 lk hr)
end
end Srd

namespace Srd
open PySem PyProof.Rows Srt
section
variable {lt : Keyed → Keyed → Bool} {a b out : Array Keyed} {na nb k : Nat} {p q : Keyed}
/-- what is out from the right: in order, and all that is left is no more -/
structure OutHL (lt : Keyed → Keyed → Bool) (a b out : Array Keyed) (na nb : Nat) : Prop where
  perm : OutH a b out na nb
  sort : So lt out.toList.reverse
  hiA : ∀ x ∈ out.toList, ∀ y ∈ a.toList.take na, Le lt y x
  hiB : ∀ x ∈ out.toList, ∀ y ∈ b.toList.take nb, Le lt y x
theorem take_last (h1 : 1 ≤ na) (hp : a[na - 1]? = some p) : a.toList.take na = a.toList.take (na - 1) ++ [p] := by
  have := take_one (getD' hp)
  rw [Nat.sub_add_cancel h1] at this
  exact this
theorem So.take {l : List Keyed} (h : So lt l) (n : Nat) : So lt (l.take n) := List.Pairwise.sublist (List.take_sublist n l) h
theorem So.last (h : So lt a.toList) (h1 : 1 ≤ na) (hp : a[na - 1]? = some p) : ∀ y ∈ a.toList.take (na - 1), Le lt y p := fun y hy => by
  have := h.take na
  rw [take_last h1 hp] at this
  exact (List.pairwise_append.mp this).2.2 y hy p (List.mem_singleton.mpr rfl)
theorem lastLe (o : Swo lt) (h : So lt a.toList) (h1 : 1 ≤ na) (hp : a[na - 1]? = some p) {x : Keyed} (hx : Le lt p x) : ∀ y ∈ a.toList.take na, Le lt y x := fun y hy => by
  rw [take_last h1 hp] at hy
  rcases List.mem_append.mp hy with hy | hy
  · exact o.le_trans (h.last h1 hp y hy) hx
  · rw [List.mem_singleton.mp hy]
    exact hx
theorem take_in {l : List Keyed} {i j : Nat} (h : i ≤ j) {y : Keyed} (hy : y ∈ l.take i) : y ∈ l.take j := by
  rw [show i = min i j by (first | lia | omega), ← List.take_take] at hy
  exact List.mem_of_mem_take hy
theorem mem_takeI {l : List Keyed} {n : Nat} {y : Keyed} (h : y ∈ l.take n) : ∃ i, i < n ∧ l[i]? = some y := by
  obtain ⟨i, hi⟩ := List.mem_iff_getElem?.mp h
  have hik : i < n := by
    have := (List.getElem?_eq_some_iff.mp hi).1
    rw [List.length_take] at this
    (first | lia | omega)
  rw [List.getElem?_take_of_lt hik] at hi
  exact ⟨i, hik, hi⟩
theorem mem_exI {i j : Nat} {x : Keyed} (h : x ∈ (a.extract i j).toList) : ∃ m, i ≤ m ∧ m < j ∧ a[m]? = some x := by
  rw [Array.toList_extract, List.extract_eq_drop_take] at h
  obtain ⟨m, hm, e⟩ := mem_takeI h
  rw [List.getElem?_drop] at e
  exact ⟨i + m, by (first | lia | omega), by (first | lia | omega), by rw [← Array.getElem?_toList]; exact e⟩
/-- behind a leap from the right -/
theorem galHA (F : ∀ i, k ≤ i → i < na → BV lt false p a 0 i = false) (o : Swo lt) : ∀ x ∈ (a.extract k na).toList, Le lt p x := fun x hx => by
  obtain ⟨m, h1, h2, e⟩ := mem_exI hx
  have h3 := F m h1 h2
  unfold BV at h3
  rw [Nat.zero_add, e] at h3
  have h4 : (!lt p x) = false := h3
  exact o.le_of (by simpa using h4)
theorem galHA1 (F : ∀ i, i < k → BV lt false p a 0 i = true) : ∀ y ∈ a.toList.take k, Le lt y p := fun y hy => by
  obtain ⟨i, hi, e⟩ := mem_takeI hy
  have h3 := F i hi
  unfold BV at h3
  rw [Nat.zero_add, ← Array.getElem?_toList, e] at h3
  have h4 : (!lt p y) = true := h3
  show lt p y = false
  simpa using h4
theorem galHB (F : ∀ i, k ≤ i → i < nb → BV lt true q b 0 i = false) : ∀ x ∈ (b.extract k nb).toList, Le lt q x := fun x hx => by
  obtain ⟨m, h1, h2, e⟩ := mem_exI hx
  have h3 := F m h1 h2
  unfold BV at h3
  rw [Nat.zero_add, e] at h3
  exact h3
theorem galHB1 (F : ∀ i, i < k → BV lt true q b 0 i = true) (o : Swo lt) : ∀ y ∈ b.toList.take k, Le lt y q := fun y hy => by
  obtain ⟨i, hi, e⟩ := mem_takeI hy
  have h3 := F i hi
  unfold BV at h3
  rw [Nat.zero_add, ← Array.getElem?_toList, e] at h3
  exact o.le_of h3
theorem so_pushH (h : So lt out.toList.reverse) (hp : ∀ x ∈ out.toList, Le lt p x) : So lt (out.push p).toList.reverse := by
  rw [Array.toList_push, List.reverse_append]
  exact List.pairwise_cons.mpr ⟨fun x hx => hp x (List.mem_reverse.mp hx), h⟩
theorem OutHL.pushA (h : OutHL lt a b out na nb) (SA : So lt a.toList) (h1 : 1 ≤ na) (hp : a[na - 1]? = some p) (hb : ∀ y ∈ b.toList.take nb, Le lt y p) : OutHL lt a b (out.push p) (na - 1) nb := by
  have hm : p ∈ a.toList.take na := by rw [take_last h1 hp]; exact List.mem_append_right _ (List.mem_singleton.mpr rfl)
  refine ⟨h.perm.pushA h1 hp, so_pushH h.sort fun x hx => h.hiA x hx p hm, fun x hx y hy => ?_, fun x hx y hy => ?_⟩
  · rcases mem_push hx with hx | rfl
    · exact h.hiA x hx y (take_in (by (first | lia | omega)) hy)
    · exact SA.last h1 hp y hy
  · rcases mem_push hx with hx | rfl
    · exact h.hiB x hx y hy
    · exact hb y hy
theorem OutHL.pushB (h : OutHL lt a b out na nb) (SB : So lt b.toList) (h1 : 1 ≤ nb) (hp : b[nb - 1]? = some p) (ha : ∀ y ∈ a.toList.take na, Le lt y p) : OutHL lt a b (out.push p) na (nb - 1) := by
  have hm : p ∈ b.toList.take nb := by rw [take_last h1 hp]; exact List.mem_append_right _ (List.mem_singleton.mpr rfl)
  refine ⟨h.perm.pushB h1 hp, so_pushH h.sort fun x hx => h.hiB x hx p hm, fun x hx y hy => ?_, fun x hx y hy => ?_⟩
  · rcases mem_push hx with hx | rfl
    · exact h.hiA x hx y hy
    · exact ha y hy
  · rcases mem_push hx with hx | rfl
    · exact h.hiB x hx y (take_in (by (first | lia | omega)) hy)
    · exact SB.last h1 hp y hy
theorem so_ext (h : So lt a.toList) (i j : Nat) : So lt (a.extract i j).toList := by
  rw [Array.toList_extract, List.extract_eq_drop_take]
  exact (h.drop i).take _
theorem ex_take {i j : Nat} {x : Keyed} (h : x ∈ (a.extract i j).toList) : x ∈ a.toList.take j := by
  obtain ⟨m, h1, h2, e⟩ := mem_exI h
  rw [← Array.getElem?_toList] at e
  refine List.mem_iff_getElem?.mpr ⟨m, ?_⟩
  rw [List.getElem?_take_of_lt h2]
  exact e
theorem take_ex_le (h : So lt a.toList) {i j : Nat} {x y : Keyed} (hy : y ∈ a.toList.take i) (hx : x ∈ (a.extract i j).toList) : Le lt y x := by
  obtain ⟨m, h1, h2, e⟩ := mem_exI hx
  obtain ⟨l, hl, e2⟩ := mem_takeI hy
  rw [Array.getElem?_toList] at e2
  exact up_of h 0 (m + 1) l m _ _ (Nat.zero_le _) (by (first | lia | omega)) (by (first | lia | omega)) e2 e
theorem OutHL.extA (h : OutHL lt a b out na nb) (SA : So lt a.toList) (hk : k ≤ na) (hb : ∀ x ∈ (a.extract k na).toList, ∀ y ∈ b.toList.take nb, Le lt y x) : OutHL lt a b (out ++ (a.extract k na).reverse) k nb := by
  have hm : ∀ x, x ∈ (out ++ (a.extract k na).reverse).toList → x ∈ out.toList ∨ x ∈ (a.extract k na).toList := fun x hx => by
    rw [Array.toList_append, Array.toList_reverse] at hx
    rcases List.mem_append.mp hx with hx | hx
    · exact .inl hx
    · exact .inr (List.mem_reverse.mp hx)
  refine ⟨h.perm.extA hk, ?_, fun x hx y hy => ?_, fun x hx y hy => ?_⟩
  · rw [Array.toList_append, Array.toList_reverse, List.reverse_append, List.reverse_reverse]
    exact List.pairwise_append.mpr ⟨so_ext SA _ _, h.sort, fun x hx y hy => h.hiA y (List.mem_reverse.mp hy) x (ex_take hx)⟩
  · rcases hm x hx with hx | hx
    · exact h.hiA x hx y (take_in (by (first | lia | omega)) hy)
    · exact take_ex_le SA hy hx
  · rcases hm x hx with hx | hx
    · exact h.hiB x hx y hy
    · exact hb x hx y hy
theorem OutHL.extB (h : OutHL lt a b out na nb) (SB : So lt b.toList) (hk : k ≤ nb) (ha : ∀ x ∈ (b.extract k nb).toList, ∀ y ∈ a.toList.take na, Le lt y x) : OutHL lt a b (out ++ (b.extract k nb).reverse) na k := by
  have hm : ∀ x, x ∈ (out ++ (b.extract k nb).reverse).toList → x ∈ out.toList ∨ x ∈ (b.extract k nb).toList := fun x hx => by
    rw [Array.toList_append, Array.toList_reverse] at hx
    rcases List.mem_append.mp hx with hx | hx
    · exact .inl hx
    · exact .inr (List.mem_reverse.mp hx)
  refine ⟨h.perm.extB hk, ?_, fun x hx y hy => ?_, fun x hx y hy => ?_⟩
  · rw [Array.toList_append, Array.toList_reverse, List.reverse_append, List.reverse_reverse]
    exact List.pairwise_append.mpr ⟨so_ext SB _ _, h.sort, fun x hx y hy => h.hiB y (List.mem_reverse.mp hy) x (ex_take hx)⟩
  · rcases hm x hx with hx | hx
    · exact h.hiA x hx y hy
    · exact ha x hx y hy
  · rcases hm x hx with hx | hx
    · exact h.hiB x hx y (take_in (by (first | lia | omega)) hy)
    · exact take_ex_le SB hy hx
theorem OutHL.doneA (h : OutHL lt a b out na nb) (SB : So lt b.toList) (e : (na == 0) = true) : Rs lt a b (a.extract 0 na ++ b.extract 0 nb ++ out.reverse) := by
  refine ⟨h.perm.done, ?_⟩
  rw [Array.toList_append, Array.toList_append, ex0, ex0, Array.toList_reverse, eq_of_beq e, List.take_zero, List.nil_append]
  exact List.pairwise_append.mpr ⟨SB.take nb, h.sort, fun x hx y hy => h.hiB y (List.mem_reverse.mp hy) x hx⟩
theorem OutHL.doneB (h : OutHL lt a b out na nb) (SA : So lt a.toList) (e : (nb == 0) = true) : Rs lt a b (a.extract 0 na ++ b.extract 0 nb ++ out.reverse) := by
  refine ⟨h.perm.done, ?_⟩
  rw [Array.toList_append, Array.toList_append, ex0, ex0, Array.toList_reverse, eq_of_beq e, List.take_zero, List.append_nil]
  exact List.pairwise_append.mpr ⟨SA.take na, h.sort, fun x hx y hy => h.hiA y (List.mem_reverse.mp hy) x hx⟩
theorem OutHL.firstL (h : OutHL lt a b out na nb) (SA : So lt a.toList) (SB : So lt b.toList) (hb0 : ∀ p, b[0]? = some p → ∀ y ∈ a.toList, Le lt p y) (e : (nb == 1) = true) : Rs lt a b (b.extract 0 nb ++ a.extract 0 na ++ out.reverse) := by
  refine ⟨h.perm.first, ?_⟩
  rw [Array.toList_append, Array.toList_append, ex0, ex0, Array.toList_reverse]
  refine List.pairwise_append.mpr ⟨List.pairwise_append.mpr ⟨SB.take nb, SA.take na, fun x hx y hy => ?_⟩, h.sort, fun x hx y hy => ?_⟩
  · obtain ⟨i, hi, e2⟩ := mem_takeI hx
    rw [eq_of_beq e] at hi
    obtain rfl : i = 0 := by (first | lia | omega)
    rw [Array.getElem?_toList] at e2
    exact hb0 x e2 y (List.mem_of_mem_take hy)
  · rcases List.mem_append.mp hx with hx | hx
    · exact h.hiB y (List.mem_reverse.mp hy) x hx
    · exact h.hiA y (List.mem_reverse.mp hy) x hx
theorem outHL0 (SA : So lt a.toList) (h1 : 1 ≤ a.size) (hp : a[a.size - 1]? = some p) (LA : ∀ x ∈ b.toList, ∀ q, a[a.size - 1]? = some q → Le lt x q) : OutHL lt a b #[p] (a.size - 1) b.size := by
  refine ⟨outH0 h1 hp, List.pairwise_singleton _ _, fun x hx y hy => ?_, fun x hx y hy => ?_⟩
  · obtain rfl : x = p := by simpa using hx
    exact SA.last h1 hp y hy
  · obtain rfl : x = p := by simpa using hx
    exact LA y (List.mem_of_mem_take hy) x hp
end
section
variable {prog : Program} {w : World} {A : Around} {E : Value → Shared → Prop} {s : Shared} {κ : SortKind} {Ok : Keyed → Prop} {st : SortSt} {lt : Keyed → Keyed → Bool}
abbrev HiT := Option (Array Keyed) × Nat × Nat × Array Keyed × Nat × Nat × Nat
def hi3 (a b : Array Keyed) (na nb : Nat) (out : Array Keyed) (g ac bc : Nat) : StateT SortSt Sem (ForInStep HiT) :=
  elem' a (na - 1) >>= fun p => if (na - 1 == 0) = true then pure (.done (some (a.extract 0 (na - 1) ++ b.extract 0 nb ++ (out.push p).reverse), na - 1, nb, out.push p, g, ac, bc))
    else if (decide (ac < 7) && decide (bc < 7)) = true then pure (.done (none, na - 1, nb, out.push p, g, ac, bc)) else pure (.yield (none, na - 1, nb, out.push p, g, ac, bc))
/-- what a step may end in -/
structure HiQ (lt : Keyed → Keyed → Bool) (a b : Array Keyed) (st : SortSt) (N : Nat) (Q : ForInStep HiT → SortSt → Prop) : Prop where
  R : ∀ r na nb out g ac bc, Rs lt a b r → Q (.done (some r, na, nb, out, g, ac, bc)) st
  N : ∀ na nb out g ac bc, OutHL lt a b out na nb → 1 ≤ na → na ≤ a.size → 2 ≤ nb → nb ≤ b.size → na + nb ≤ N → Q (.done (none, na, nb, out, g, ac, bc)) st ∧ Q (.yield (none, na, nb, out, g, ac, bc)) st
/-- what holds behind a turn of the galloping -/
def HiP (lt : Keyed → Keyed → Bool) (a b : Array Keyed) (st : SortSt) (x : Nat) : ForInStep HiT → SortSt → Prop := fun r st' => match r with
  | .done c => Like st st' ∧ ((∃ r na nb out g ac bc, c = (some r, na, nb, out, g, ac, bc) ∧ Rs lt a b r) ∨ ∃ na nb out g ac bc, c = (none, na, nb, out, g, ac, bc) ∧ OutHL lt a b out na nb ∧ 1 ≤ na ∧ na ≤ a.size ∧ 2 ≤ nb ∧ nb ≤ b.size ∧ na + nb + x + 2 ≤ a.size + b.size)
  | .yield c => Like st st' ∧ ∃ na nb out g ac bc, c = (none, na, nb, out, g, ac, bc) ∧ OutHL lt a b out na nb ∧ 1 ≤ na ∧ na ≤ a.size ∧ 2 ≤ nb ∧ nb ≤ b.size ∧ na + nb + x + 2 ≤ a.size + b.size
section
variable {a b out : Array Keyed} {na nb g ac bc N : Nat} {Q : ForInStep HiT → SortSt → Prop}
theorem hi3_ok (SA : So lt a.toList) (SB : So lt b.toList) (q : HiQ lt a b st N Q) (ho : OutHL lt a b out na nb) (h1 : 1 ≤ na) (h2 : na ≤ a.size) (h3 : 2 ≤ nb) (h4 : nb ≤ b.size) (hN : na + nb ≤ N) (hp : ∀ p, a[na - 1]? = some p → ∀ y ∈ b.toList.take nb, Le lt y p) :
    wpS (model prog w) A E s (hi3 a b na nb out g ac bc) Q st := by
  unfold hi3
  refine wpS_bind (wpS_elem (by (first | lia | omega)) fun p4 w4 e4 => ?_)
  have o4 := ho.pushA SA h1 e4 (hp p4 e4)
  by_cases f1 : (na - 1 == 0) = true
  · rw [if_pos f1]
    exact wpS_pure (q.R _ _ _ _ _ _ _ (o4.doneA SB f1))
  rw [if_neg f1]
  have n4 : ¬ na - 1 = 0 := fun e => f1 (by simp [e])
  have z := q.N _ _ _ g ac bc o4 (by (first | lia | omega)) (by (first | lia | omega)) h3 h4 (by (first | lia | omega))
  by_cases f2 : (decide (ac < 7) && decide (bc < 7)) = true
  · rw [if_pos f2]
    exact wpS_pure z.1
  · rw [if_neg f2]
    exact wpS_pure z.2
theorem hi2_ok (o : Swo lt) (hc : CmpL prog w A s κ Ok lt) (hk : kindOf st = κ) (ha : ∀ p ∈ a.toList, Ok p) (hb : ∀ p ∈ b.toList, Ok p) (hb0 : ∀ p, b[0]? = some p → ∀ y ∈ a.toList, Le lt p y) (SA : So lt a.toList) (SB : So lt b.toList) (q : HiQ lt a b st N Q) (ho : OutHL lt a b out na nb) (h1 : 1 ≤ na) (h2 : na ≤ a.size) (h3 : 2 ≤ nb) (h4 : nb ≤ b.size) (hN : na + nb ≤ N) (hp : ∀ p, b[nb - 1]? = some p → ∀ y ∈ a.toList.take na, Le lt y p)
    {T : Keyed → Option Nat → StateT SortSt Sem (ForInStep HiT)} (hT : ∀ p k, T p (some k) = if nb - 1 - k > 0 then (if (k == 1) = true then pure (.done (some (b.extract 0 k ++ a.extract 0 na ++ (out.push p ++ (b.extract k (nb - 1)).reverse).reverse), na, k, out.push p ++ (b.extract k (nb - 1)).reverse, g, ac, nb - 1 - k))
          else if (k == 0) = true then pure (.done (some (a.extract 0 na ++ b.extract 0 k ++ (out.push p ++ (b.extract k (nb - 1)).reverse).reverse), na, k, out.push p ++ (b.extract k (nb - 1)).reverse, g, ac, nb - 1 - k))
          else hi3 a b na k (out.push p ++ (b.extract k (nb - 1)).reverse) g ac (nb - 1 - k))
        else hi3 a b na (nb - 1) (out.push p) g ac (nb - 1 - k)) :
    wpS (model prog w) A E s (elem' b (nb - 1) >>= fun p => if (nb - 1 == 1) = true then pure (.done (some (b.extract 0 (nb - 1) ++ a.extract 0 na ++ (out.push p).reverse), na, nb - 1, out.push p, g, ac, bc))
      else elem' a (na - 1) >>= fun q => gallop' true q b 0 (nb - 1) (nb - 1 - 1) >>= T p) Q st := by
  refine wpS_bind (wpS_elem (by (first | lia | omega)) fun p3 w3 e3 => ?_)
  have o2 := ho.pushB SB (by (first | lia | omega)) e3 (hp p3 e3)
  by_cases c3 : (nb - 1 == 1) = true
  · rw [if_pos c3]
    exact wpS_pure (q.R _ _ _ _ _ _ _ (o2.firstL SA SB hb0 c3))
  rw [if_neg c3]
  have n3 : ¬ nb - 1 = 1 := fun e => c3 (by simp [e])
  refine wpS_bind (wpS_elem (by (first | lia | omega)) fun q3 v3 u3 => ?_)
  refine wpS_bind (wpS_gallopL o hc hk (ha q3 v3) hb (by (first | lia | omega)) (by (first | lia | omega)) (up_of SB _ _) fun k2 hk2 G1 G2 => ?_)
  rw [hT]
  by_cases k20 : nb - 1 - k2 > 0
  · rw [if_pos k20]
    have o3 := o2.extB SB (k := k2) (by (first | lia | omega)) (fun x hx => lastLe o SA (by (first | lia | omega)) u3 (galHB G2 x hx))
    by_cases c4 : (k2 == 1) = true
    · rw [if_pos c4]
      exact wpS_pure (q.R _ _ _ _ _ _ _ (o3.firstL SA SB hb0 c4))
    rw [if_neg c4]
    by_cases c5 : (k2 == 0) = true
    · rw [if_pos c5]
      exact wpS_pure (q.R _ _ _ _ _ _ _ (o3.doneB SA c5))
    rw [if_neg c5]
    have n5 : ¬ k2 = 1 := fun e => c4 (by simp [e])
    have n6 : ¬ k2 = 0 := fun e => c5 (by simp [e])
    exact hi3_ok SA SB q o3 h1 h2 (by (first | lia | omega)) (by (first | lia | omega)) (by (first | lia | omega)) fun p e => by rw [some_inj e u3]; exact galHB1 G1 o
  · rw [if_neg k20]
    exact hi3_ok SA SB q o2 h1 h2 (by (first | lia | omega)) (by (first | lia | omega)) (by (first | lia | omega)) fun p e => by rw [some_inj e u3]; exact galHB1 (fun i hi => G1 i (by (first | lia | omega))) o
end
set_option maxHeartbeats 2000000 in
theorem wpS_mergeHiL {a b : Array Keyed} {Q : Array Keyed → SortSt → Prop} (o : Swo lt) (hc : CmpL prog w A s κ Ok lt) (hk : kindOf st = κ) (ha : ∀ p ∈ a.toList, Ok p) (hb : ∀ p ∈ b.toList, Ok p) (ha1 : 1 ≤ a.size) (hb1 : 1 ≤ b.size) (SA : So lt a.toList) (SB : So lt b.toList) (hb0 : ∀ p, b[0]? = some p → ∀ y ∈ a.toList, Le lt p y) (LA : ∀ x ∈ b.toList, ∀ q, a[a.size - 1]? = some q → Le lt x q)
    (h : ∀ r st', Like st st' → Rs lt a b r → Q r st') : wpS (model prog w) A E s (mergeHi' a b) Q st := by
  refine wpS_bind (wpS_lift (wpAny_rule ⟨rfl, ?_⟩))
  refine wpS_bind (wpS_elem (by (first | lia | omega)) fun p hp he => ?_)
  try dsimp -zeta only
  have o0 : OutHL lt a b #[p] (a.size - 1) b.size := outHL0 SA ha1 he LA
  by_cases c1 : (a.size - 1 == 0) = true
  · rw [if_pos c1]
    exact wpS_pure (h _ _ (Like.refl _) (o0.doneA SB c1))
  rw [if_neg c1]
  by_cases c2 : (b.size == 1) = true
  · rw [if_pos c2]
    exact wpS_pure (h _ _ (Like.refl _) (o0.firstL SA SB hb0 c2))
  rw [if_neg c2]
  have n1 : 1 < b.size := by
    have : ¬ b.size = 1 := fun e => c2 (by simp [e])
    (first | lia | omega)
  have n2 : 1 < a.size := by
    have : ¬ a.size - 1 = 0 := fun e => c1 (by simp [e])
    (first | lia | omega)
  refine wpS_bind (wpS_get ?_)
  refine wpS_bind (wpS_mono (wpS_forRange (I := fun x c st' => Like st st' ∧ ∃ na nb out g, c = (none, na, nb, out, g) ∧ OutHL lt a b out na nb ∧ 1 ≤ na ∧ na ≤ a.size ∧ 2 ≤ nb ∧ nb ≤ b.size ∧ na + nb + x + 1 ≤ a.size + b.size)
    (Q := fun c st' => Like st st' ∧ ∃ r na nb out g, c = (some r, na, nb, out, g) ∧ Rs lt a b r) ?_ ?_ ⟨Like.refl _, _, _, _, _, rfl, o0, by (first | lia | omega), by (first | lia | omega), by (first | lia | omega), by (first | lia | omega), by (first | lia | omega)⟩) ?_)
  · rintro x c st1 _ hx ⟨lk, na, nb, out, g, rfl, ho, h1, h2, h3, h4, hxx⟩
    try dsimp -zeta only
    refine wpS_bind (wpS_mono (wpS_forRange (I := fun y c st' => Like st st' ∧ ∃ na nb out ac bc, c = (none, na, nb, out, ac, bc) ∧ OutHL lt a b out na nb ∧ 1 ≤ na ∧ na ≤ a.size ∧ 2 ≤ nb ∧ nb ≤ b.size ∧ na + nb + x + 1 + (if y = 0 then 0 else 1) ≤ a.size + b.size)
      (Q := fun c st' => Like st st' ∧ ((∃ r na nb out ac bc, c = (some r, na, nb, out, ac, bc) ∧ Rs lt a b r) ∨ ∃ na nb out ac bc, c = (none, na, nb, out, ac, bc) ∧ OutHL lt a b out na nb ∧ 1 ≤ na ∧ na ≤ a.size ∧ 2 ≤ nb ∧ nb ≤ b.size ∧ na + nb + x + 2 ≤ a.size + b.size)) ?_ ?_ ⟨lk, na, nb, out, 0, 0, rfl, ho, h1, h2, h3, h4, by simp; (first | lia | omega)⟩) ?_)
    · rintro y c st2 _ hy ⟨lk2, na, nb, out, ac, bc, rfl, ho, h1, h2, h3, h4, hxx⟩
      have hxx2 : na + nb + x + 1 ≤ a.size + b.size := by split at hxx <;> (first | lia | omega)
      try dsimp only
      refine wpS_bind (wpS_elem (by (first | lia | omega)) fun p hp ep => ?_)
      refine wpS_bind (wpS_elem (by (first | lia | omega)) fun q hq eq => ?_)
      refine wpS_bind (wpS_ltL hc (lk2.kind.trans hk) (hb p hp) (ha q hq) ?_)
      cases hbw : lt p q with
      | true =>
        try dsimp only
        rw [if_pos rfl]
        refine wpS_bind (wpS_elem (by (first | lia | omega)) fun p2 hp2 ep2 => ?_)
        have o1 := ho.pushA SA h1 ep2 (by rw [some_inj ep2 eq]; exact lastLe o SB (by (first | lia | omega)) ep (o.le_of hbw))
        by_cases d1 : (na - 1 == 0) = true
        · rw [if_pos d1]
          exact wpS_pure ⟨lk2, .inl ⟨_, _, _, _, _, _, rfl, (o1.doneA SB d1)⟩⟩
        rw [if_neg d1]
        have m1 : ¬ na - 1 = 0 := fun e => d1 (by simp [e])
        by_cases d2 : ac + 1 ≥ g
        · rw [if_pos d2]
          exact wpS_pure ⟨lk2, .inr ⟨_, _, _, _, _, rfl, o1, by (first | lia | omega), by (first | lia | omega), h3, h4, by (first | lia | omega)⟩⟩
        · rw [if_neg d2]
          exact wpS_pure ⟨lk2, _, _, _, _, _, rfl, o1, by (first | lia | omega), by (first | lia | omega), h3, h4, by rw [if_neg (by (first | lia | omega))]; (first | lia | omega)⟩
      | false =>
        try dsimp only
        rw [if_neg Bool.false_ne_true]
        refine wpS_bind (wpS_elem (by (first | lia | omega)) fun p2 hp2 ep2 => ?_)
        have o1 := ho.pushB SB (by (first | lia | omega)) ep2 (by rw [some_inj ep2 ep]; exact lastLe o SA h1 eq hbw)
        by_cases d1 : (nb - 1 == 1) = true
        · rw [if_pos d1]
          exact wpS_pure ⟨lk2, .inl ⟨_, _, _, _, _, _, rfl, (o1.firstL SA SB hb0 d1)⟩⟩
        rw [if_neg d1]
        have m1 : ¬ nb - 1 = 1 := fun e => d1 (by simp [e])
        by_cases d2 : bc + 1 ≥ g
        · rw [if_pos d2]
          exact wpS_pure ⟨lk2, .inr ⟨_, _, _, _, _, rfl, o1, h1, h2, by (first | lia | omega), by (first | lia | omega), by (first | lia | omega)⟩⟩
        · rw [if_neg d2]
          exact wpS_pure ⟨lk2, _, _, _, _, _, rfl, o1, h1, h2, by (first | lia | omega), by (first | lia | omega), by rw [if_neg (by (first | lia | omega))]; (first | lia | omega)⟩
    · rintro c st2 ⟨lk2, na, nb, out, ac, bc, rfl, ho, h1, h2, h3, h4, hxx⟩
      refine ⟨lk2, .inr ⟨_, _, _, _, _, rfl, ho, h1, h2, h3, h4, ?_⟩⟩
      rw [if_neg (by (first | lia | omega))] at hxx
      (first | lia | omega)
    · rintro c st2 ⟨lk2, ⟨r, na, nb, out, ac, bc, rfl, hr⟩ | ⟨na, nb, out, ac, bc, rfl, ho, h1, h2, h3, h4, hxx⟩⟩
      · exact wpS_pure ⟨lk2, _, _, _, _, _, rfl, hr⟩
      try dsimp -zeta only
      refine wpS_bind (wpS_lift (wpAny_rule ⟨rfl, ?_⟩))
      try dsimp -zeta only
      refine wpS_bind (wpS_mono (wpS_forRange (I := fun y c st' => Like st st' ∧ ∃ na nb out g ac bc, c = (none, na, nb, out, g, ac, bc) ∧ OutHL lt a b out na nb ∧ 1 ≤ na ∧ na ≤ a.size ∧ 2 ≤ nb ∧ nb ≤ b.size ∧ na + nb + x + 2 ≤ a.size + b.size)
        (Q := fun c st' => Like st st' ∧ ((∃ r na nb out g ac bc, c = (some r, na, nb, out, g, ac, bc) ∧ Rs lt a b r) ∨ ∃ na nb out g ac bc, c = (none, na, nb, out, g, ac, bc) ∧ OutHL lt a b out na nb ∧ 1 ≤ na ∧ na ≤ a.size ∧ 2 ≤ nb ∧ nb ≤ b.size ∧ na + nb + x + 2 ≤ a.size + b.size)) ?_ ?_ ⟨lk2, na, nb, out, _, _, _, rfl, ho, h1, h2, h3, h4, hxx⟩) ?_)
      · rintro y c st3 _ hy ⟨lk3, na, nb, out, g3, ac, bc, rfl, ho, h1, h2, h3, h4, hxx⟩
        try dsimp only
        refine wpS_mono (Q := HiP lt a b st x) ?_ (fun r st' h => by cases r <;> exact h)
        have hiq : ∀ {st4}, Like st st4 → HiQ lt a b st4 (na + nb) (HiP lt a b st x) := fun lk4 => ⟨fun r na nb out g ac bc hr => ⟨lk4, .inl ⟨r, na, nb, out, g, ac, bc, rfl, hr⟩⟩, fun na nb out g ac bc ho h1 h2 h3 h4 hN => ⟨⟨lk4, .inr ⟨na, nb, out, g, ac, bc, rfl, ho, h1, h2, h3, h4, by (first | lia | omega)⟩⟩, ⟨lk4, na, nb, out, g, ac, bc, rfl, ho, h1, h2, h3, h4, by (first | lia | omega)⟩⟩⟩
        by_cases g1 : g3 > 1
        · rw [if_pos g1]
          refine wpS_bind (wpS_modify ?_)
          have lk4 := lk3.trans (like_gallop st3 (g3 - 1))
          refine wpS_bind (wpS_elem (by (first | lia | omega)) fun p0 w0 e0 => ?_)
          refine wpS_bind (wpS_gallopL o hc (lk4.kind.trans hk) (hb p0 w0) ha (by (first | lia | omega)) (by (first | lia | omega)) (up_of SA _ _) fun k hk1 F1 F2 => ?_)
          dsimp only
          by_cases k0 : na - k > 0
          · rw [if_pos k0]
            have o1 := ho.extA SA (k := k) (by (first | lia | omega)) (fun x hx => lastLe o SB (by (first | lia | omega)) e0 (galHA F2 o x hx))
            by_cases c1 : (k == 0) = true
            · rw [if_pos c1]
              exact wpS_pure ⟨lk4, .inl ⟨_, _, _, _, _, _, _, rfl, (o1.doneA SB c1)⟩⟩
            rw [if_neg c1]
            have n1 : ¬ k = 0 := fun e => c1 (by simp [e])
            refine hi2_ok o hc (lk4.kind.trans hk) ha hb hb0 SA SB (N := na + nb) (hiq lk4) o1 (by (first | lia | omega)) (by (first | lia | omega)) h3 h4 (by (first | lia | omega)) (fun p e => by rw [some_inj e e0]; exact galHA1 F1) ?_
            exact fun _ _ => rfl
          · rw [if_neg k0]
            refine hi2_ok o hc (lk4.kind.trans hk) ha hb hb0 SA SB (N := na + nb) (hiq lk4) ho h1 h2 h3 h4 (Nat.le_refl _) (fun p e => by rw [some_inj e e0]; exact galHA1 fun i hi => F1 i (by (first | lia | omega))) ?_
            exact fun _ _ => rfl
        · rw [if_neg g1]
          refine wpS_bind (wpS_modify ?_)
          have lk4 := lk3.trans (like_gallop st3 g3)
          refine wpS_bind (wpS_elem (by (first | lia | omega)) fun p0 w0 e0 => ?_)
          refine wpS_bind (wpS_gallopL o hc (lk4.kind.trans hk) (hb p0 w0) ha (by (first | lia | omega)) (by (first | lia | omega)) (up_of SA _ _) fun k hk1 F1 F2 => ?_)
          dsimp only
          by_cases k0 : na - k > 0
          · rw [if_pos k0]
            have o1 := ho.extA SA (k := k) (by (first | lia | omega)) (fun x hx => lastLe o SB (by (first | lia | omega)) e0 (galHA F2 o x hx))
            by_cases c1 : (k == 0) = true
            · rw [if_pos c1]
              exact wpS_pure ⟨lk4, .inl ⟨_, _, _, _, _, _, _, rfl, (o1.doneA SB c1)⟩⟩
            rw [if_neg c1]
            have n1 : ¬ k = 0 := fun e => c1 (by simp [e])
            refine hi2_ok o hc (lk4.kind.trans hk) ha hb hb0 SA SB (N := na + nb) (hiq lk4) o1 (by (first | lia | omega)) (by (first | lia | omega)) h3 h4 (by (first | lia | omega)) (fun p e => by rw [some_inj e e0]; exact galHA1 F1) ?_
            exact fun _ _ => rfl
          · rw [if_neg k0]
            refine hi2_ok o hc (lk4.kind.trans hk) ha hb hb0 SA SB (N := na + nb) (hiq lk4) ho h1 h2 h3 h4 (Nat.le_refl _) (fun p e => by rw [some_inj e e0]; exact galHA1 fun i hi => F1 i (by (first | lia | omega))) ?_
            exact fun _ _ => rfl
      · rintro c st3 ⟨lk3, na, nb, out, g3, ac, bc, rfl, ho, h1, h2, h3, h4, hxx⟩
        exact ⟨lk3, .inr ⟨_, _, _, _, _, _, rfl, ho, h1, h2, h3, h4, hxx⟩⟩
      · rintro c st3 ⟨lk3, ⟨r, na, nb, out, g3, ac, bc, rfl, hr⟩ | ⟨na, nb, out, g3, ac, bc, rfl, ho, h1, h2, h3, h4, hxx⟩⟩
        · exact wpS_pure ⟨lk3, _, _, _, _, _, rfl, hr⟩
        · try dsimp only
          refine wpS_bind (wpS_modify ?_)
          exact wpS_pure ⟨lk3.trans (like_gallop _ _), _, _, _, _, rfl, ho, h1, h2, h3, h4, by (first | lia | omega)⟩
  · rintro c st1 ⟨lk, na, nb, out, g, rfl, ho, h1, h2, h3, h4, hx⟩
    exfalso
    (first | lia | omega)
  · rintro c st1 ⟨lk, r, na, nb, out, g, rfl, hr⟩
    exact wpS_pure (h r st1 lk hr)
end
end Srd

namespace Srd
open PySem PyProof.Rows Srt
/-- all but this piece is as it was -/
structure Pl (lo hi : Nat) (st st' : SortSt) : Prop where
  pm : Pm st st'
  out : ∀ i, i < lo ∨ hi ≤ i → (arrOf st')[i]? = (arrOf st)[i]?
theorem Pl.refl (lo hi : Nat) (st : SortSt) : Pl lo hi st st := ⟨Pm.refl _, fun _ _ => rfl⟩
theorem Pl.trans {lo hi : Nat} {a b c : SortSt} (x : Pl lo hi a b) (y : Pl lo hi b c) : Pl lo hi a c := ⟨x.pm.trans y.pm, fun i h => (y.out i h).trans (x.out i h)⟩
theorem Pl.mirror {lo hi i j : Nat} (st : SortSt) (h1 : lo ≤ i) (h2 : j ≤ hi) (hj : j ≤ (arrOf st).size) : Pl lo hi st (setArr st (mirror (arrOf st) i j ((j - i) / 2))) := ⟨Pm.mirror st i j, fun k hk => by
  show (PyProof.Rows.mirror (arrOf st) i j ((j - i) / 2))[k]? = _
  rw [getElem?_mirror_all hj, if_neg (by (first | lia | omega))]⟩
theorem Pl.bubble {lo hi src dst : Nat} (st : SortSt) (h1 : lo ≤ dst) (h2 : dst ≤ src) (h3 : src < hi) (hs : src < (arrOf st).size) : Pl lo hi st (setArr st (bubble (arrOf st) src (src - dst))) := ⟨Pm.bubble st src dst, fun k hk => by
  show (PyProof.Rows.bubble (arrOf st) src (src - dst))[k]? = _
  rw [getElem?_bubble hs _ (by (first | lia | omega)), if_neg (by (first | lia | omega)), if_neg (by (first | lia | omega))]⟩
section
variable {lt : Keyed → Keyed → Bool} {arr : Array Keyed} {lo hi m : Nat} {p q : Keyed}
/-- this piece falls -/
def Dn (lt : Keyed → Keyed → Bool) (arr : Array Keyed) (i j : Nat) : Prop := ∀ x y p q, i ≤ x → x < y → y < j → arr[x]? = some p → arr[y]? = some q → Le lt q p
/-- this piece is all alike -/
def Eqv (lt : Keyed → Keyed → Bool) (arr : Array Keyed) (i j : Nat) : Prop := ∀ x y p q, i ≤ x → x < j → i ≤ y → y < j → arr[x]? = some p → arr[y]? = some q → Le lt p q
theorem up_one : Up lt arr lo (lo + 1) := fun x y _ _ h1 h2 h3 => by (first | lia | omega)
theorem dn_one : Dn lt arr lo (lo + 1) := fun x y _ _ h1 h2 h3 => by (first | lia | omega)
theorem Up.ext (o : Swo lt) (h : Up lt arr lo m) (hm : lo < m) (hp : arr[m - 1]? = some p) (hq : arr[m]? = some q) (hle : Le lt p q) : Up lt arr lo (m + 1) := fun x y u v h1 h2 h3 eu ev => by
  by_cases hy : y < m
  · exact h x y u v h1 h2 hy eu ev
  obtain rfl : y = m := by (first | lia | omega)
  rw [hq] at ev
  cases ev
  by_cases hx : x = y - 1
  · rw [hx, hp] at eu
    cases eu
    exact hle
  · exact o.le_trans (h x (y - 1) u p h1 (by (first | lia | omega)) (by (first | lia | omega)) eu hp) hle
theorem Dn.ext (o : Swo lt) (h : Dn lt arr lo m) (hm : lo < m) (hp : arr[m - 1]? = some p) (hq : arr[m]? = some q) (hle : Le lt q p) : Dn lt arr lo (m + 1) := fun x y u v h1 h2 h3 eu ev => by
  by_cases hy : y < m
  · exact h x y u v h1 h2 hy eu ev
  obtain rfl : y = m := by (first | lia | omega)
  rw [hq] at ev
  cases ev
  by_cases hx : x = y - 1
  · rw [hx, hp] at eu
    cases eu
    exact hle
  · exact o.le_trans hle (h x (y - 1) u p h1 (by (first | lia | omega)) (by (first | lia | omega)) eu hp)
theorem Dn.mirror (h : Dn lt arr lo hi) (hs : hi ≤ arr.size) : Up lt (mirror arr lo hi ((hi - lo) / 2)) lo hi := fun x y u v h1 h2 h3 eu ev => by
  rw [getElem?_mirror_all hs, if_pos (by (first | lia | omega))] at eu ev
  exact h (lo + hi - 1 - y) (lo + hi - 1 - x) v u (by (first | lia | omega)) (by (first | lia | omega)) (by (first | lia | omega)) ev eu
theorem Up.mirror (h : Up lt arr lo hi) (hs : hi ≤ arr.size) : Dn lt (mirror arr lo hi ((hi - lo) / 2)) lo hi := fun x y u v h1 h2 h3 eu ev => by
  rw [getElem?_mirror_all hs, if_pos (by (first | lia | omega))] at eu ev
  exact h (lo + hi - 1 - y) (lo + hi - 1 - x) v u (by (first | lia | omega)) (by (first | lia | omega)) (by (first | lia | omega)) ev eu
/-- the alike ones turned round -/
theorem Dn.turn (h : Dn lt arr lo hi) (he : Eqv lt arr m hi) (hm : lo ≤ m) (hs : hi ≤ arr.size) : Dn lt (PyProof.Rows.mirror arr m hi ((hi - m) / 2)) lo hi := fun x y u v h1 h2 h3 eu ev => by
  rw [getElem?_mirror_all hs] at eu ev
  by_cases hy : m ≤ y ∧ y < hi
  · rw [if_pos hy] at ev
    by_cases hx : m ≤ x ∧ x < hi
    · rw [if_pos hx] at eu
      exact he _ _ _ _ (by (first | lia | omega)) (by (first | lia | omega)) (by (first | lia | omega)) (by (first | lia | omega)) ev eu
    · rw [if_neg hx] at eu
      exact h x (m + hi - 1 - y) u v h1 (by (first | lia | omega)) (by (first | lia | omega)) eu ev
  · rw [if_neg hy] at ev
    rw [if_neg (by (first | lia | omega))] at eu
    exact h x y u v h1 h2 h3 eu ev
end
section
variable {prog : Program} {w : World} {A : Around} {E : Value → Shared → Prop} {s : Shared} {κ : SortKind} {Ok : Keyed → Prop} {st : SortSt} {lt : Keyed → Keyed → Bool}
theorem wpS_ltAtL {i j : Nat} {Q : Option Bool → SortSt → Prop} (hc : CmpL prog w A s κ Ok lt) (hk : kindOf st = κ) (ho : ∀ p ∈ (arrOf st).toList, Ok p) (hi : i < (arrOf st).size) (hj : j < (arrOf st).size) (h : ∀ p q, (arrOf st)[i]? = some p → (arrOf st)[j]? = some q → Q (some (lt p q)) st) : wpS (model prog w) A E s (ltAt' i j) Q st := by
  rw [ltAt'_eq]
  refine wpS_bind (wpS_get ?_)
  refine wpS_bind (wpS_elem hi fun p hp e1 => wpS_bind (wpS_elem hj fun q hq e2 => ?_))
  exact wpS_ltL hc hk (ho p hp) (ho q hq) (h p q e1 e2)
theorem wpS_revX {i j : Nat} {Q : PUnit → SortSt → Prop} (h : Q ⟨⟩ (setArr st (mirror (arrOf st) i j ((j - i) / 2)))) : wpS (model prog w) A E s (reverseSlice' i j) Q st := by
  rw [reverseSlice'_eq]
  exact wpS_modify h
theorem wpS_moveX {i j : Nat} {Q : PUnit → SortSt → Prop} (h : Q ⟨⟩ (setArr st (bubble (arrOf st) i (i - j)))) : wpS (model prog w) A E s (moveDown' i j) Q st := by
  rw [moveDown'_eq]
  exact wpS_modify h
/-- put in at its place -/
theorem ins_up (o : Swo lt) {arr : Array Keyed} {lo k l : Nat} {pv : Keyed} (h : Up lt arr lo (lo + k)) (hs : lo + k < arr.size) (hl : l ≤ k) (ep : arr[lo + k]? = some pv) (h1 : ∀ i p, i < l → arr[lo + i]? = some p → Le lt p pv) (h2 : ∀ i p, l ≤ i → i < k → arr[lo + i]? = some p → lt pv p = true) :
    Up lt (bubble arr (lo + k) (lo + k - (lo + l))) lo (lo + k + 1) := fun x y u v a1 a2 a3 eu ev => by
  rw [getElem?_bubble hs _ (by (first | lia | omega))] at eu ev
  rw [show lo + k - (lo + k - (lo + l)) = lo + l by (first | lia | omega)] at eu ev
  by_cases hy : y = lo + l
  · rw [if_pos hy, ep] at ev
    cases ev
    rw [if_neg (by (first | lia | omega)), if_neg (by (first | lia | omega))] at eu
    exact h1 (x - lo) u (by (first | lia | omega)) (by rw [show lo + (x - lo) = x by (first | lia | omega)]; exact eu)
  rw [if_neg hy] at ev
  by_cases hx : x = lo + l
  · rw [if_pos hx, ep] at eu
    cases eu
    rw [if_pos (by (first | lia | omega))] at ev
    exact o.le_of (h2 (y - 1 - lo) v (by (first | lia | omega)) (by (first | lia | omega)) (by rw [show lo + (y - 1 - lo) = y - 1 by (first | lia | omega)]; exact ev))
  rw [if_neg hx] at eu
  by_cases hy2 : lo + l < y ∧ y ≤ lo + k
  · rw [if_pos hy2] at ev
    by_cases hx2 : lo + l < x ∧ x ≤ lo + k
    · rw [if_pos hx2] at eu
      exact h (x - 1) (y - 1) u v (by (first | lia | omega)) (by (first | lia | omega)) (by (first | lia | omega)) eu ev
    · rw [if_neg hx2] at eu
      exact h x (y - 1) u v (by (first | lia | omega)) (by (first | lia | omega)) (by (first | lia | omega)) eu ev
  · rw [if_neg hy2] at ev
    rw [if_neg (by (first | lia | omega))] at eu
    exact h x y u v (by (first | lia | omega)) (by (first | lia | omega)) (by (first | lia | omega)) eu ev
set_option maxHeartbeats 1000000 in
theorem wpS_binaryL {lo n ok : Nat} {Q : Bool → SortSt → Prop} (o : Swo lt) (hc : CmpL prog w A s κ Ok lt) (hk : kindOf st = κ) (ho : ∀ p ∈ (arrOf st).toList, Ok p) (hn : lo + n ≤ (arrOf st).size) (hok : ok ≤ n) (hn1 : 1 ≤ n) (hu : Up lt (arrOf st) lo (lo + ok)) (h : ∀ st', Pl lo (lo + n) st st' → Up lt (arrOf st') lo (lo + n) → Q true st') : wpS (model prog w) A E s (binarySort' lo n ok) Q st := by
  have hu0 : Up lt (arrOf st) lo (lo + max ok 1) := by
    by_cases h0 : ok = 0
    · rw [h0]
      exact up_one
    · rw [show max ok 1 = ok by (first | lia | omega)]
      exact hu
  refine wpS_bind (wpS_mono (wpS_forRange (I := fun x c st' => c = (none, ()) ∧ Pl lo (lo + n) st st' ∧ Up lt (arrOf st') lo (lo + x)) (Q := fun c st' => c = (none, ()) ∧ Pl lo (lo + n) st st' ∧ Up lt (arrOf st') lo (lo + n)) ?_ ?_ ⟨rfl, Pl.refl _ _ _, hu0⟩) ?_)
  · rintro k c st1 hk1 hkn ⟨rfl, pl, u1⟩
    try dsimp only
    have hsz := pl.pm.size
    obtain ⟨pv, epv⟩ : ∃ pv, (arrOf st1)[lo + k]? = some pv := ⟨_, getElem?_pos _ (lo + k) (by (first | lia | omega))⟩
    refine wpS_bind (wpS_mono (wpS_forRange (I := fun y c st' => st' = st1 ∧ ∃ l r, c = (none, l, r) ∧ l ≤ r ∧ r ≤ k ∧ (∀ i p, i < l → (arrOf st1)[lo + i]? = some p → Le lt p pv) ∧ (∀ i p, r ≤ i → i < k → (arrOf st1)[lo + i]? = some p → lt pv p = true) ∧ r - l + y ≤ k)
      (Q := fun c st' => st' = st1 ∧ ∃ l r, c = (none, l, r) ∧ l = r ∧ r ≤ k ∧ (∀ i p, i < l → (arrOf st1)[lo + i]? = some p → Le lt p pv) ∧ (∀ i p, r ≤ i → i < k → (arrOf st1)[lo + i]? = some p → lt pv p = true)) ?_ ?_ ⟨rfl, 0, k, rfl, by (first | lia | omega), by (first | lia | omega), fun i p hi => by (first | lia | omega), fun i p h1 h2 => by (first | lia | omega), by (first | lia | omega)⟩) ?_)
    · rintro y c st2 _ _ ⟨rfl, l, r, rfl, h1, h2, h3, h4, h5⟩
      try dsimp only
      by_cases hlr : l ≥ r
      · rw [if_pos hlr]
        exact wpS_pure ⟨rfl, l, r, rfl, by (first | lia | omega), h2, h3, h4⟩
      rw [if_neg hlr]
      refine wpS_bind (wpS_ltAtL hc (pl.pm.kind.trans hk) (pl.pm.ok ho) (by (first | lia | omega)) (by (first | lia | omega)) fun p q e1 e2 => ?_)
      rw [epv] at e1
      cases e1
      cases hb : lt pv q with
      | true =>
        refine wpS_pure ⟨rfl, _, _, rfl, by (first | lia | omega), by (first | lia | omega), h3, fun i p hi1 hi2 ei => ?_, by (first | lia | omega)⟩
        by_cases e : i = (l + r) / 2
        · rw [e, e2] at ei
          cases ei
          exact hb
        · exact o.lt_le hb (u1 _ _ q p (by (first | lia | omega)) (show lo + (l + r) / 2 < lo + i by (first | lia | omega)) (by (first | lia | omega)) e2 ei)
      | false =>
        refine wpS_pure ⟨rfl, _, _, rfl, by (first | lia | omega), by (first | lia | omega), fun i p hi1 ei => ?_, h4, by (first | lia | omega)⟩
        by_cases e : i = (l + r) / 2
        · rw [e, e2] at ei
          cases ei
          exact hb
        · exact o.le_trans (u1 _ _ p q (by (first | lia | omega)) (show lo + i < lo + (l + r) / 2 by (first | lia | omega)) (by (first | lia | omega)) ei e2) hb
    · rintro c st2 ⟨rfl, l, r, rfl, h1, h2, h3, h4, h5⟩
      exact ⟨rfl, l, r, rfl, by (first | lia | omega), h2, h3, h4⟩
    · rintro c st2 ⟨rfl, l, r, rfl, rfl, h2, h3, h4⟩
      try dsimp only
      refine wpS_bind (wpS_moveX ?_)
      exact wpS_pure ⟨rfl, pl.trans (Pl.bubble st2 (by (first | lia | omega)) (by (first | lia | omega)) (by (first | lia | omega)) (by (first | lia | omega))), ins_up o u1 (by (first | lia | omega)) h2 epv h3 h4⟩
  · rintro c st1 ⟨rfl, pl, u1⟩
    rw [show max (max ok 1) n = n by (first | lia | omega)] at u1
    exact ⟨rfl, pl, u1⟩
  · rintro c st1 ⟨rfl, pl, u1⟩
    exact wpS_pure (h st1 pl u1)
set_option maxHeartbeats 4000000 in
theorem wpS_countL {lo nrem : Nat} {Q : Option Nat → SortSt → Prop} (o : Swo lt) (hc : CmpL prog w A s κ Ok lt) (hk : kindOf st = κ) (ho : ∀ p ∈ (arrOf st).toList, Ok p) (h1 : 1 ≤ nrem) (hn : lo + nrem ≤ (arrOf st).size) (h : ∀ n st', 1 ≤ n → n ≤ nrem → Pl lo (lo + nrem) st st' → Up lt (arrOf st') lo (lo + n) → Q (some n) st') : wpS (model prog w) A E s (countRun' lo nrem) Q st := by
  refine wpS_bind (wpS_mono (wpS_forRange (I := fun x c st' => st' = st ∧ ∃ n, c = (none, n) ∧ n = x ∧ Up lt (arrOf st) lo (lo + n)) (Q := fun c st' => st' = st ∧ ∃ n, c = (none, n) ∧ 1 ≤ n ∧ n ≤ nrem ∧ Up lt (arrOf st) lo (lo + n) ∧ (n = nrem ∨ ∀ p q, (arrOf st)[lo + n]? = some p → (arrOf st)[lo + n - 1]? = some q → lt p q = true)) ?_ ?_ ⟨rfl, 1, rfl, rfl, up_one⟩) ?_)
  · rintro x c st1 hx1 hx ⟨rfl, n, rfl, rfl, u1⟩
    try dsimp only
    refine wpS_bind (wpS_ltAtL hc hk ho (by (first | lia | omega)) (by (first | lia | omega)) fun p q e1 e2 => ?_)
    cases hb : lt p q with
    | true => exact wpS_pure ⟨rfl, n, rfl, by (first | lia | omega), by (first | lia | omega), u1, .inr fun p' q' f1 f2 => by rw [e1] at f1; rw [e2] at f2; cases f1; cases f2; exact hb⟩
    | false => exact wpS_pure ⟨rfl, n + 1, rfl, rfl, u1.ext (m := lo + n) o (by (first | lia | omega)) e2 e1 hb⟩
  · rintro c st1 ⟨rfl, n, rfl, rfl, u1⟩
    exact ⟨rfl, _, rfl, by (first | lia | omega), by (first | lia | omega), u1, .inl (by (first | lia | omega))⟩
  · rintro c st1 ⟨rfl, n, rfl, n1, n2, u1, hstop⟩
    try dsimp only
    by_cases e1 : (n == nrem) = true
    · rw [if_pos e1]
      exact wpS_pure (h n st1 n1 n2 (Pl.refl _ _ _) u1)
    rw [if_neg e1]
    have n3 : n < nrem := by
      have : ¬ n = nrem := fun e => e1 (by simp [e])
      (first | lia | omega)
    have hstop2 := hstop.resolve_left (by (first | lia | omega))
    obtain ⟨pn, epn⟩ : ∃ p, (arrOf st1)[lo + n]? = some p := ⟨_, getElem?_pos _ (lo + n) (by (first | lia | omega))⟩
    obtain ⟨pm, epm⟩ : ∃ p, (arrOf st1)[lo + n - 1]? = some p := ⟨_, getElem?_pos _ (lo + n - 1) (by (first | lia | omega))⟩
    have hless := hstop2 pn pm epn epm
    by_cases e2 : n > 1
    · rw [if_pos e2]
      refine wpS_bind (wpS_ltAtL hc hk ho (by (first | lia | omega)) (by (first | lia | omega)) fun p q f1 f2 => ?_)
      cases hb : lt p q with
      | true =>
        try dsimp only
        rw [if_pos rfl]
        exact wpS_pure (h n st1 n1 n2 (Pl.refl _ _ _) u1)
      | false =>
        try dsimp only
        rw [if_neg Bool.false_ne_true]
        refine wpS_bind (wpS_revX ?_)
        have p2 := Pl.mirror (lo := lo) (hi := lo + nrem) (i := lo) (j := lo + n) st1 (by (first | lia | omega)) (by (first | lia | omega)) (by (first | lia | omega))
        have d2 : Dn lt (arrOf (setArr st1 (mirror (arrOf st1) lo (lo + n) ((lo + n - lo) / 2)))) lo (lo + n) := u1.mirror (by (first | lia | omega))
        have d3 : Dn lt (arrOf (setArr st1 (mirror (arrOf st1) lo (lo + n) ((lo + n - lo) / 2)))) lo (lo + (n + 1)) := by
          refine d2.ext (m := lo + n) o (by (first | lia | omega)) (p := p) (q := pn) ?_ ?_ ?_
          · show (mirror (arrOf st1) lo (lo + n) ((lo + n - lo) / 2))[lo + n - 1]? = some p
            rw [getElem?_mirror_all (by (first | lia | omega)), if_pos (by (first | lia | omega)), show lo + (lo + n) - 1 - (lo + n - 1) = lo by (first | lia | omega)]
            exact f1
          · show (mirror (arrOf st1) lo (lo + n) ((lo + n - lo) / 2))[lo + n]? = some pn
            rw [getElem?_mirror_all (by (first | lia | omega)), if_neg (by (first | lia | omega))]
            exact epn
          · rw [epm] at f2
            cases f2
            exact o.le_trans (o.le_of hless) hb
        generalize setArr st1 (mirror (arrOf st1) lo (lo + n) ((lo + n - lo) / 2)) = st2 at p2 d3
        refine wpS_bind (wpS_lift (wpAny_rule ⟨rfl, ?_⟩))
        refine wpS_bind (wpS_mono (wpS_forRange (I := fun x c st' => Pl lo (lo + nrem) st1 st' ∧ ∃ n q, c = (none, n, q) ∧ n = x ∧ 1 ≤ n ∧ q + 1 ≤ n ∧ Dn lt (arrOf st') lo (lo + n) ∧ Eqv lt (arrOf st') (lo + n - (q + 1)) (lo + n)) (Q := fun c st' => Pl lo (lo + nrem) st1 st' ∧ ∃ n q, c = (none, n, q) ∧ 1 ≤ n ∧ n ≤ nrem ∧ q + 1 ≤ n ∧ Dn lt (arrOf st') lo (lo + n) ∧ Eqv lt (arrOf st') (lo + n - (q + 1)) (lo + n)) ?_ ?_ ⟨p2, n + 1, 0, rfl, rfl, by (first | lia | omega), by (first | lia | omega), d3, fun x y u v a1 a2 a3 a4 eu ev => by obtain rfl : x = y := (by (first | lia | omega)); rw [eu] at ev; cases ev; exact o.le_refl _⟩) ?_)
        · rintro x c st3 hx1 hx ⟨p3, n, q, rfl, rfl, m1, m2, d3, q3⟩
          have z3 := p3.pm.size
          try dsimp only
          refine wpS_bind (wpS_ltAtL hc (p3.pm.kind.trans hk) (p3.pm.ok ho) (by (first | lia | omega)) (by (first | lia | omega)) fun p1 p0 e1 e0 => ?_)
          cases hb : lt p1 p0 with
          | true =>
            try dsimp only
            rw [if_pos rfl]
            by_cases q0 : q > 0
            · rw [if_pos q0]
              refine wpS_bind (wpS_revX ?_)
              have p4 := Pl.mirror (lo := lo) (hi := lo + nrem) (i := lo + n - (q + 1)) (j := lo + n) st3 (by (first | lia | omega)) (by (first | lia | omega)) (by (first | lia | omega))
              have d4 := d3.turn q3 (by (first | lia | omega)) (by (first | lia | omega))
              refine wpS_pure ⟨p3.trans p4, n + 1, 0, rfl, rfl, by (first | lia | omega), by (first | lia | omega), ?_, fun x y u v a1 a2 a3 a4 eu ev => by obtain rfl : x = y := (by (first | lia | omega)); rw [eu] at ev; cases ev; exact o.le_refl _⟩
              obtain ⟨p5, e5⟩ : ∃ p5, (arrOf (setArr st3 (mirror (arrOf st3) (lo + n - (q + 1)) (lo + n) ((lo + n - (lo + n - (q + 1))) / 2))))[lo + n - 1]? = some p5 := ⟨_, getElem?_pos _ (lo + n - 1) (by show _ < (mirror _ _ _ _).size; rw [mirror_size]; (first | lia | omega))⟩
              refine d4.ext (m := lo + n) o (by (first | lia | omega)) e5 (q := p1) ?_ ?_
              · show (mirror (arrOf st3) (lo + n - (q + 1)) (lo + n) ((lo + n - (lo + n - (q + 1))) / 2))[lo + n]? = some p1
                rw [getElem?_mirror_all (by (first | lia | omega)), if_neg (by (first | lia | omega))]
                exact e1
              · have e6 : (mirror (arrOf st3) (lo + n - (q + 1)) (lo + n) ((lo + n - (lo + n - (q + 1))) / 2))[lo + n - 1]? = some p5 := e5
                rw [getElem?_mirror_all (by (first | lia | omega)), if_pos (by (first | lia | omega))] at e6
                exact o.le_trans (o.le_of hb) (q3 _ _ p0 p5 (show lo + n - (q + 1) ≤ lo + n - 1 by (first | lia | omega)) (by (first | lia | omega)) (by (first | lia | omega)) (by (first | lia | omega)) e0 e6)
            · rw [if_neg q0]
              exact wpS_pure ⟨p3, n + 1, 0, rfl, rfl, by (first | lia | omega), by (first | lia | omega), d3.ext (m := lo + n) o (by (first | lia | omega)) e0 e1 (o.le_of hb), fun x y u v a1 a2 a3 a4 eu ev => by obtain rfl : x = y := (by (first | lia | omega)); rw [eu] at ev; cases ev; exact o.le_refl _⟩
          | false =>
            try dsimp only
            rw [if_neg Bool.false_ne_true]
            refine wpS_bind (wpS_ltAtL hc (p3.pm.kind.trans hk) (p3.pm.ok ho) (by (first | lia | omega)) (by (first | lia | omega)) fun p0' p1' e0' e1' => ?_)
            rw [e0] at e0'
            rw [e1] at e1'
            cases e0'
            cases e1'
            cases hb2 : lt p0 p1 with
            | true => exact wpS_pure ⟨p3, n, q, rfl, m1, by (first | lia | omega), m2, d3, q3⟩
            | false =>
              refine wpS_pure ⟨p3, n + 1, q + 1, rfl, rfl, by (first | lia | omega), by (first | lia | omega), d3.ext (m := lo + n) o (by (first | lia | omega)) e0 e1 hb2, fun x y u v a1 a2 a3 a4 eu ev => ?_⟩
              -- p0 and p1 alike
              have one : ∀ x u, lo + (n + 1) - (q + 1 + 1) ≤ x → x < lo + (n + 1) → (arrOf st3)[x]? = some u → Le lt u p0 ∧ Le lt p0 u := fun x u a1 a2 eu => by
                by_cases hx : x = lo + n
                · rw [hx, e1] at eu
                  cases eu
                  exact ⟨hb2, hb⟩
                · exact ⟨q3 x (lo + n - 1) u p0 (by (first | lia | omega)) (by (first | lia | omega)) (by (first | lia | omega)) (by (first | lia | omega)) eu e0, q3 (lo + n - 1) x p0 u (by (first | lia | omega)) (by (first | lia | omega)) (by (first | lia | omega)) (by (first | lia | omega)) e0 eu⟩
              exact o.le_trans (one x u a1 a2 eu).1 (one y v a3 a4 ev).2
        · rintro c st3 ⟨p3, n', q, rfl, rfl, m1, m2, d3, q3⟩
          exact ⟨p3, _, q, rfl, m1, by (first | lia | omega), m2, d3, q3⟩
        · rintro c st3 ⟨p3, n, q, rfl, m1, mn, m2, d3, q3⟩
          have z3 := p3.pm.size
          try dsimp only
          by_cases q0 : q > 0
          · rw [if_pos q0]
            refine wpS_bind (wpS_revX ?_)
            have p4 := Pl.mirror (lo := lo) (hi := lo + nrem) (i := lo + n - (q + 1)) (j := lo + n) st3 (by (first | lia | omega)) (by (first | lia | omega)) (by (first | lia | omega))
            have d4 := d3.turn q3 (by (first | lia | omega)) (by (first | lia | omega))
            have z4 := p4.pm.size
            generalize hst4 : setArr st3 (mirror (arrOf st3) (lo + n - (q + 1)) (lo + n) ((lo + n - (lo + n - (q + 1))) / 2)) = st4 at p4 z4
            have d5 : Dn lt (arrOf st4) lo (lo + n) := by rw [← hst4]; exact d4
            refine wpS_bind (wpS_revX ?_)
            have p6 := (p3.trans p4).trans (Pl.mirror (lo := lo) (hi := lo + nrem) (i := lo) (j := lo + n) st4 (by (first | lia | omega)) (by (first | lia | omega)) (by (first | lia | omega)))
            have u6 : Up lt (arrOf (setArr st4 (mirror (arrOf st4) lo (lo + n) ((lo + n - lo) / 2)))) lo (lo + n) := d5.mirror (by (first | lia | omega))
            have z6 := p6.pm.size
            generalize setArr st4 (mirror (arrOf st4) lo (lo + n) ((lo + n - lo) / 2)) = st5 at p6 u6 z6
            refine wpS_bind (wpS_mono (wpS_forRange (I := fun x c st' => st' = st5 ∧ ∃ k, c = (none, k) ∧ k = x ∧ Up lt (arrOf st5) lo (lo + k)) (Q := fun c st' => st' = st5 ∧ ∃ k, c = (none, k) ∧ n ≤ k ∧ k ≤ nrem ∧ Up lt (arrOf st5) lo (lo + k)) ?_ ?_ ⟨rfl, n, rfl, rfl, u6⟩) ?_)
            · rintro x c st7 hx1 hx2 ⟨rfl, k, rfl, rfl, u7⟩
              try dsimp only
              refine wpS_bind (wpS_ltAtL hc (p6.pm.kind.trans hk) (p6.pm.ok ho) (by (first | lia | omega)) (by (first | lia | omega)) fun p q e1 e2 => ?_)
              cases hb : lt p q with
              | true => exact wpS_pure ⟨rfl, k, rfl, by (first | lia | omega), by (first | lia | omega), u7⟩
              | false => exact wpS_pure ⟨rfl, k + 1, rfl, rfl, u7.ext (m := lo + k) o (by (first | lia | omega)) e2 e1 hb⟩
            · rintro c st7 ⟨rfl, k, rfl, rfl, u7⟩
              exact ⟨rfl, max n nrem, rfl, by (first | lia | omega), by (first | lia | omega), u7⟩
            · rintro c st7 ⟨rfl, k, rfl, k1, k2, u7⟩
              exact wpS_pure (h k _ (by (first | lia | omega)) k2 p6 u7)
          · rw [if_neg q0]
            refine wpS_bind (wpS_revX ?_)
            have p6 := p3.trans (Pl.mirror (lo := lo) (hi := lo + nrem) (i := lo) (j := lo + n) st3 (by (first | lia | omega)) (by (first | lia | omega)) (by (first | lia | omega)))
            have u6 : Up lt (arrOf (setArr st3 (mirror (arrOf st3) lo (lo + n) ((lo + n - lo) / 2)))) lo (lo + n) := d3.mirror (by (first | lia | omega))
            have z6 := p6.pm.size
            generalize setArr st3 (mirror (arrOf st3) lo (lo + n) ((lo + n - lo) / 2)) = st5 at p6 u6 z6
            refine wpS_bind (wpS_mono (wpS_forRange (I := fun x c st' => st' = st5 ∧ ∃ k, c = (none, k) ∧ k = x ∧ Up lt (arrOf st5) lo (lo + k)) (Q := fun c st' => st' = st5 ∧ ∃ k, c = (none, k) ∧ n ≤ k ∧ k ≤ nrem ∧ Up lt (arrOf st5) lo (lo + k)) ?_ ?_ ⟨rfl, n, rfl, rfl, u6⟩) ?_)
            · rintro x c st7 hx1 hx2 ⟨rfl, k, rfl, rfl, u7⟩
              try dsimp only
              refine wpS_bind (wpS_ltAtL hc (p6.pm.kind.trans hk) (p6.pm.ok ho) (by (first | lia | omega)) (by (first | lia | omega)) fun p q e1 e2 => ?_)
              cases hb : lt p q with
              | true => exact wpS_pure ⟨rfl, k, rfl, by (first | lia | omega), by (first | lia | omega), u7⟩
              | false => exact wpS_pure ⟨rfl, k + 1, rfl, rfl, u7.ext (m := lo + k) o (by (first | lia | omega)) e2 e1 hb⟩
            · rintro c st7 ⟨rfl, k, rfl, rfl, u7⟩
              exact ⟨rfl, max n nrem, rfl, by (first | lia | omega), by (first | lia | omega), u7⟩
            · rintro c st7 ⟨rfl, k, rfl, k1, k2, u7⟩
              exact wpS_pure (h k _ (by (first | lia | omega)) k2 p6 u7)
    · rw [if_neg e2]
      have p2 := Pl.refl lo (lo + nrem) st1
      have d3 : Dn lt (arrOf st1) lo (lo + (n + 1)) := by
        obtain rfl : n = 1 := by (first | lia | omega)
        exact dn_one.ext (m := lo + 1) o (by (first | lia | omega)) epm epn (o.le_of hless)
      refine wpS_bind (wpS_lift (wpAny_rule ⟨rfl, ?_⟩))
      refine wpS_bind (wpS_mono (wpS_forRange (I := fun x c st' => Pl lo (lo + nrem) st1 st' ∧ ∃ n q, c = (none, n, q) ∧ n = x ∧ 1 ≤ n ∧ q + 1 ≤ n ∧ Dn lt (arrOf st') lo (lo + n) ∧ Eqv lt (arrOf st') (lo + n - (q + 1)) (lo + n)) (Q := fun c st' => Pl lo (lo + nrem) st1 st' ∧ ∃ n q, c = (none, n, q) ∧ 1 ≤ n ∧ n ≤ nrem ∧ q + 1 ≤ n ∧ Dn lt (arrOf st') lo (lo + n) ∧ Eqv lt (arrOf st') (lo + n - (q + 1)) (lo + n)) ?_ ?_ ⟨p2, n + 1, 0, rfl, rfl, by (first | lia | omega), by (first | lia | omega), d3, fun x y u v a1 a2 a3 a4 eu ev => by obtain rfl : x = y := (by (first | lia | omega)); rw [eu] at ev; cases ev; exact o.le_refl _⟩) ?_)
      · rintro x c st3 hx1 hx ⟨p3, n, q, rfl, rfl, m1, m2, d3, q3⟩
        have z3 := p3.pm.size
        try dsimp only
        refine wpS_bind (wpS_ltAtL hc (p3.pm.kind.trans hk) (p3.pm.ok ho) (by (first | lia | omega)) (by (first | lia | omega)) fun p1 p0 e1 e0 => ?_)
        cases hb : lt p1 p0 with
        | true =>
          try dsimp only
          rw [if_pos rfl]
          by_cases q0 : q > 0
          · rw [if_pos q0]
            refine wpS_bind (wpS_revX ?_)
            have p4 := Pl.mirror (lo := lo) (hi := lo + nrem) (i := lo + n - (q + 1)) (j := lo + n) st3 (by (first | lia | omega)) (by (first | lia | omega)) (by (first | lia | omega))
            have d4 := d3.turn q3 (by (first | lia | omega)) (by (first | lia | omega))
            refine wpS_pure ⟨p3.trans p4, n + 1, 0, rfl, rfl, by (first | lia | omega), by (first | lia | omega), ?_, fun x y u v a1 a2 a3 a4 eu ev => by obtain rfl : x = y := (by (first | lia | omega)); rw [eu] at ev; cases ev; exact o.le_refl _⟩
            obtain ⟨p5, e5⟩ : ∃ p5, (arrOf (setArr st3 (mirror (arrOf st3) (lo + n - (q + 1)) (lo + n) ((lo + n - (lo + n - (q + 1))) / 2))))[lo + n - 1]? = some p5 := ⟨_, getElem?_pos _ (lo + n - 1) (by show _ < (mirror _ _ _ _).size; rw [mirror_size]; (first | lia | omega))⟩
            refine d4.ext (m := lo + n) o (by (first | lia | omega)) e5 (q := p1) ?_ ?_
            · show (mirror (arrOf st3) (lo + n - (q + 1)) (lo + n) ((lo + n - (lo + n - (q + 1))) / 2))[lo + n]? = some p1
              rw [getElem?_mirror_all (by (first | lia | omega)), if_neg (by (first | lia | omega))]
              exact e1
            · have e6 : (mirror (arrOf st3) (lo + n - (q + 1)) (lo + n) ((lo + n - (lo + n - (q + 1))) / 2))[lo + n - 1]? = some p5 := e5
              rw [getElem?_mirror_all (by (first | lia | omega)), if_pos (by (first | lia | omega))] at e6
              exact o.le_trans (o.le_of hb) (q3 _ _ p0 p5 (show lo + n - (q + 1) ≤ lo + n - 1 by (first | lia | omega)) (by (first | lia | omega)) (by (first | lia | omega)) (by (first | lia | omega)) e0 e6)
          · rw [if_neg q0]
            exact wpS_pure ⟨p3, n + 1, 0, rfl, rfl, by (first | lia | omega), by (first | lia | omega), d3.ext (m := lo + n) o (by (first | lia | omega)) e0 e1 (o.le_of hb), fun x y u v a1 a2 a3 a4 eu ev => by obtain rfl : x = y := (by (first | lia | omega)); rw [eu] at ev; cases ev; exact o.le_refl _⟩
        | false =>
          try dsimp only
          rw [if_neg Bool.false_ne_true]
          refine wpS_bind (wpS_ltAtL hc (p3.pm.kind.trans hk) (p3.pm.ok ho) (by (first | lia | omega)) (by (first | lia | omega)) fun p0' p1' e0' e1' => ?_)
          rw [e0] at e0'
          rw [e1] at e1'
          cases e0'
          cases e1'
          cases hb2 : lt p0 p1 with
          | true => exact wpS_pure ⟨p3, n, q, rfl, m1, by (first | lia | omega), m2, d3, q3⟩
          | false =>
            refine wpS_pure ⟨p3, n + 1, q + 1, rfl, rfl, by (first | lia | omega), by (first | lia | omega), d3.ext (m := lo + n) o (by (first | lia | omega)) e0 e1 hb2, fun x y u v a1 a2 a3 a4 eu ev => ?_⟩
            -- p0 and p1 alike
            have one : ∀ x u, lo + (n + 1) - (q + 1 + 1) ≤ x → x < lo + (n + 1) → (arrOf st3)[x]? = some u → Le lt u p0 ∧ Le lt p0 u := fun x u a1 a2 eu => by
              by_cases hx : x = lo + n
              · rw [hx, e1] at eu
                cases eu
                exact ⟨hb2, hb⟩
              · exact ⟨q3 x (lo + n - 1) u p0 (by (first | lia | omega)) (by (first | lia | omega)) (by (first | lia | omega)) (by (first | lia | omega)) eu e0, q3 (lo + n - 1) x p0 u (by (first | lia | omega)) (by (first | lia | omega)) (by (first | lia | omega)) (by (first | lia | omega)) e0 eu⟩
            exact o.le_trans (one x u a1 a2 eu).1 (one y v a3 a4 ev).2
      · rintro c st3 ⟨p3, n', q, rfl, rfl, m1, m2, d3, q3⟩
        exact ⟨p3, _, q, rfl, m1, by (first | lia | omega), m2, d3, q3⟩
      · rintro c st3 ⟨p3, n, q, rfl, m1, mn, m2, d3, q3⟩
        have z3 := p3.pm.size
        try dsimp only
        by_cases q0 : q > 0
        · rw [if_pos q0]
          refine wpS_bind (wpS_revX ?_)
          have p4 := Pl.mirror (lo := lo) (hi := lo + nrem) (i := lo + n - (q + 1)) (j := lo + n) st3 (by (first | lia | omega)) (by (first | lia | omega)) (by (first | lia | omega))
          have d4 := d3.turn q3 (by (first | lia | omega)) (by (first | lia | omega))
          have z4 := p4.pm.size
          generalize hst4 : setArr st3 (mirror (arrOf st3) (lo + n - (q + 1)) (lo + n) ((lo + n - (lo + n - (q + 1))) / 2)) = st4 at p4 z4
          have d5 : Dn lt (arrOf st4) lo (lo + n) := by rw [← hst4]; exact d4
          refine wpS_bind (wpS_revX ?_)
          have p6 := (p3.trans p4).trans (Pl.mirror (lo := lo) (hi := lo + nrem) (i := lo) (j := lo + n) st4 (by (first | lia | omega)) (by (first | lia | omega)) (by (first | lia | omega)))
          have u6 : Up lt (arrOf (setArr st4 (mirror (arrOf st4) lo (lo + n) ((lo + n - lo) / 2)))) lo (lo + n) := d5.mirror (by (first | lia | omega))
          have z6 := p6.pm.size
          generalize setArr st4 (mirror (arrOf st4) lo (lo + n) ((lo + n - lo) / 2)) = st5 at p6 u6 z6
          refine wpS_bind (wpS_mono (wpS_forRange (I := fun x c st' => st' = st5 ∧ ∃ k, c = (none, k) ∧ k = x ∧ Up lt (arrOf st5) lo (lo + k)) (Q := fun c st' => st' = st5 ∧ ∃ k, c = (none, k) ∧ n ≤ k ∧ k ≤ nrem ∧ Up lt (arrOf st5) lo (lo + k)) ?_ ?_ ⟨rfl, n, rfl, rfl, u6⟩) ?_)
          · rintro x c st7 hx1 hx2 ⟨rfl, k, rfl, rfl, u7⟩
            try dsimp only
            refine wpS_bind (wpS_ltAtL hc (p6.pm.kind.trans hk) (p6.pm.ok ho) (by (first | lia | omega)) (by (first | lia | omega)) fun p q e1 e2 => ?_)
            cases hb : lt p q with
            | true => exact wpS_pure ⟨rfl, k, rfl, by (first | lia | omega), by (first | lia | omega), u7⟩
            | false => exact wpS_pure ⟨rfl, k + 1, rfl, rfl, u7.ext (m := lo + k) o (by (first | lia | omega)) e2 e1 hb⟩
          · rintro c st7 ⟨rfl, k, rfl, rfl, u7⟩
            exact ⟨rfl, max n nrem, rfl, by (first | lia | omega), by (first | lia | omega), u7⟩
          · rintro c st7 ⟨rfl, k, rfl, k1, k2, u7⟩
            exact wpS_pure (h k _ (by (first | lia | omega)) k2 p6 u7)
        · rw [if_neg q0]
          refine wpS_bind (wpS_revX ?_)
          have p6 := p3.trans (Pl.mirror (lo := lo) (hi := lo + nrem) (i := lo) (j := lo + n) st3 (by (first | lia | omega)) (by (first | lia | omega)) (by (first | lia | omega)))
          have u6 : Up lt (arrOf (setArr st3 (mirror (arrOf st3) lo (lo + n) ((lo + n - lo) / 2)))) lo (lo + n) := d3.mirror (by (first | lia | omega))
          have z6 := p6.pm.size
          generalize setArr st3 (mirror (arrOf st3) lo (lo + n) ((lo + n - lo) / 2)) = st5 at p6 u6 z6
          refine wpS_bind (wpS_mono (wpS_forRange (I := fun x c st' => st' = st5 ∧ ∃ k, c = (none, k) ∧ k = x ∧ Up lt (arrOf st5) lo (lo + k)) (Q := fun c st' => st' = st5 ∧ ∃ k, c = (none, k) ∧ n ≤ k ∧ k ≤ nrem ∧ Up lt (arrOf st5) lo (lo + k)) ?_ ?_ ⟨rfl, n, rfl, rfl, u6⟩) ?_)
          · rintro x c st7 hx1 hx2 ⟨rfl, k, rfl, rfl, u7⟩
            try dsimp only
            refine wpS_bind (wpS_ltAtL hc (p6.pm.kind.trans hk) (p6.pm.ok ho) (by (first | lia | omega)) (by (first | lia | omega)) fun p q e1 e2 => ?_)
            cases hb : lt p q with
            | true => exact wpS_pure ⟨rfl, k, rfl, by (first | lia | omega), by (first | lia | omega), u7⟩
            | false => exact wpS_pure ⟨rfl, k + 1, rfl, rfl, u7.ext (m := lo + k) o (by (first | lia | omega)) e2 e1 hb⟩
          · rintro c st7 ⟨rfl, k, rfl, rfl, u7⟩
            exact ⟨rfl, max n nrem, rfl, by (first | lia | omega), by (first | lia | omega), u7⟩
          · rintro c st7 ⟨rfl, k, rfl, k1, k2, u7⟩
            exact wpS_pure (h k _ (by (first | lia | omega)) k2 p6 u7)
end
end Srd

namespace Srd
open PySem PyProof.Rows Srt
theorem cov_ge : ∀ {l : List (Nat × Nat × Nat)} {lo hi : Nat}, Cov l lo hi → ∀ z ∈ l, lo ≤ z.1
  | [], _, _, _, z, hz => (nomatch hz)
  | x :: r, lo, hi, ⟨a, b, c⟩, z, hz => by
    rcases List.mem_cons.mp hz with rfl | hz
    · (first | lia | omega)
    · have := cov_ge c z hz
      (first | lia | omega)
theorem cov_hi : ∀ {l : List (Nat × Nat × Nat)} {lo hi : Nat}, Cov l lo hi → ∀ z ∈ l, z.1 + z.2.1 ≤ hi
  | [], _, _, _, z, hz => (nomatch hz)
  | x :: r, lo, hi, ⟨a, b, c⟩, z, hz => by
    rcases List.mem_cons.mp hz with rfl | hz
    · have := c.le
      (first | lia | omega)
    · exact cov_hi c z hz
/-- the runs that are not put together -/
theorem cov_others : ∀ {l : List (Nat × Nat × Nat)} {i lo hi sa na p sb nb q : Nat}, Cov l lo hi → l[i]? = some (sa, na, p) → l[i + 1]? = some (sb, nb, q) →
    ∀ z ∈ (l.set i (sa, na + nb, p)).eraseIdx (i + 1), z = (sa, na + nb, p) ∨ z ∈ l ∧ (z.1 + z.2.1 ≤ sa ∨ sb + nb ≤ z.1)
  | x :: y :: r, 0, lo, hi, sa, na, p, sb, nb, q, ⟨a, b, c1, c2, c3⟩, h1, h2, z, hz => by
    have e1 : x = (sa, na, p) := by simpa using h1
    have e2 : y = (sb, nb, q) := by simpa using h2
    subst e1
    subst e2
    have hz' : z ∈ (sa, na + nb, p) :: r := hz
    rcases List.mem_cons.mp hz' with hz | hz
    · exact .inl hz
    · refine .inr ⟨List.mem_cons_of_mem _ (List.mem_cons_of_mem _ hz), .inr ?_⟩
      have := cov_ge c3 z hz
      have c1' : sb = lo + na := c1
      have this' : lo + na + nb ≤ z.1 := this
      (first | lia | omega)
  | x :: r, i + 1, lo, hi, sa, na, p, sb, nb, q, ⟨a, b, c⟩, h1, h2, z, hz => by
    have h1' : r[i]? = some (sa, na, p) := by simpa using h1
    have hz' : z ∈ x :: ((r.set i (sa, na + nb, p)).eraseIdx (i + 1)) := hz
    rcases List.mem_cons.mp hz' with rfl | hz
    · refine .inr ⟨List.mem_cons_self .., .inl ?_⟩
      have := cov_ge c _ (List.mem_of_getElem? h1')
      have this' : lo + z.2.1 ≤ sa := this
      (first | lia | omega)
    · rcases cov_others (l := r) (i := i) c h1' (by simpa using h2) z hz with h | ⟨h, h'⟩
      · exact .inl h
      · exact .inr ⟨List.mem_cons_of_mem _ h, h'⟩
  | [x], 0, _, _, _, _, _, _, _, _, _, _, h2, _, _ => by simp at h2
  | [], _, _, _, _, _, _, _, _, _, _, h1, _, _, _ => by simp at h1
/-- an item of a list with a piece put in -/
theorem splice_get {L r : List Keyed} {m : Nat} (h : m + r.length ≤ L.length) (x : Nat) : (L.take m ++ r ++ L.drop (m + r.length))[x]? = if x < m then L[x]? else if x < m + r.length then r[x - m]? else L[x]? := by
  have hm : (L.take m).length = m := by rw [List.length_take]; (first | lia | omega)
  by_cases h1 : x < m
  · rw [if_pos h1, List.append_assoc, List.getElem?_append_left (by (first | lia | omega)), List.getElem?_take_of_lt h1]
  rw [if_neg h1]
  by_cases h2 : x < m + r.length
  · rw [if_pos h2, List.getElem?_append_left (by rw [List.length_append]; (first | lia | omega)), List.getElem?_append_right (by (first | lia | omega)), hm]
  · rw [if_neg h2, List.getElem?_append_right (by rw [List.length_append]; (first | lia | omega)), List.getElem?_drop, List.length_append, hm]
    congr 1
    (first | lia | omega)
section
variable {lt : Keyed → Keyed → Bool} {κ : SortKind}
/-- some order of what was given, the runs cover it up to here, and each rises -/
structure SBL (lt : Keyed → Keyed → Bool) (a₀ : Array Keyed) (κ : SortKind) (hi : Nat) (st : SortSt) : Prop where
  sb : SB a₀ κ hi st
  ups : ∀ z ∈ (pendingOf st).toList, Up lt (arrOf st) z.1 (z.1 + z.2.1)
theorem Up.same {arr arr' : Array Keyed} {i j : Nat} (h : Up lt arr i j) (e : ∀ x, i ≤ x → x < j → arr'[x]? = arr[x]?) : Up lt arr' i j := fun x y p q h1 h2 h3 ep eq => by
  rw [e x (by (first | lia | omega)) (by (first | lia | omega))] at ep
  rw [e y (by (first | lia | omega)) (by (first | lia | omega))] at eq
  exact h x y p q h1 h2 h3 ep eq
theorem SBL.pl {a₀ : Array Keyed} {hi hi' : Nat} {st st' : SortSt} (x : SBL lt a₀ κ hi st) (p : Pl hi hi' st st') : SBL lt a₀ κ hi st' := ⟨x.sb.pm p.pm, fun z hz => by
  rw [p.pm.pend] at hz
  have h1 := cov_hi x.sb.cov z hz
  exact (x.ups z hz).same fun i _ h => p.out i (.inl (by (first | lia | omega)))⟩
end
end Srd

namespace Srd
open PySem PyProof.Rows Srt
section
variable {prog : Program} {w : World} {A : Around} {E : Value → Shared → Prop} {s : Shared} {κ : SortKind} {Ok : Keyed → Prop} {st : SortSt} {lt : Keyed → Keyed → Bool}
set_option maxHeartbeats 4000000 in
theorem wpS_mergeAtL {a₀ : Array Keyed} {hi i : Nat} {Q : Bool → SortSt → Prop} (o : Swo lt) (hc : CmpL prog w A s κ Ok lt) (h0 : ∀ p ∈ a₀.toList, Ok p) (hL : SBL lt a₀ κ hi st) (hh : hi ≤ a₀.size) (hi1 : i + 1 < (pendingOf st).size)
    (h : ∀ st', SBL lt a₀ κ hi st' → (∀ x, hi ≤ x → (arrOf st')[x]? = (arrOf st)[x]?) → (pendingOf st').size + 1 = (pendingOf st).size → Q true st') : wpS (model prog w) A E s (mergeAt' i) Q st := by
  have hB := hL.sb
  refine wpS_bind (wpS_get ?_)
  obtain ⟨⟨sa, na, p⟩, e1⟩ : ∃ x, (pendingOf st)[i]? = some x := ⟨_, getElem?_pos _ i (by (first | lia | omega))⟩
  obtain ⟨⟨sb, nb, q⟩, e2⟩ : ∃ x, (pendingOf st)[i + 1]? = some x := ⟨_, getElem?_pos _ (i + 1) hi1⟩
  obtain ⟨k1, k2, k3, k4, k5⟩ := hB.cov.at (i := i) (by rw [← e1]; simp) (by rw [← e2]; simp)
  have e3 : ((pendingOf st)[i]?, (pendingOf st)[i + 1]?) = (some (sa, na, p), some (sb, nb, q)) := by rw [e1, e2]
  have hsz := hB.size
  have l1 : (pendingOf st).toList[i]? = some (sa, na, p) := by rw [← e1]; simp
  have l2 : (pendingOf st).toList[i + 1]? = some (sb, nb, q) := by rw [← e2]; simp
  have ua : Up lt (arrOf st) sa (sa + na) := hL.ups _ (List.mem_of_getElem? l1)
  have ub : Up lt (arrOf st) sb (sb + nb) := hL.ups _ (List.mem_of_getElem? l2)
  have oth := cov_others hB.cov l1 l2
  show wpS _ _ _ _ (match ((pendingOf st)[i]?, (pendingOf st)[i + 1]?) with | (some (sa, na, power), some (sb, nb, _)) => _ | _ => _) Q st
  rw [e1, e2]
  dsimp only
  have hpl : (((pendingOf st).setIfInBounds i (sa, na + nb, p)).eraseIdxIfInBounds (i + 1)).toList = ((pendingOf st).toList.set i (sa, na + nb, p)).eraseIdx (i + 1) := by
    simp
  have hps : ((((pendingOf st).setIfInBounds i (sa, na + nb, p)).eraseIdxIfInBounds (i + 1)).size + 1 = (pendingOf st).size) := by
    have := congrArg List.length hpl
    rw [Array.length_toList, List.length_eraseIdx, List.length_set, Array.length_toList, if_pos hi1] at this
    (first | lia | omega)
  have hB1 : SB a₀ κ hi (SortSt.mk' (kindOf st) (arrOf st) (((pendingOf st).setIfInBounds i (sa, na + nb, p)).eraseIdxIfInBounds (i + 1)) (gallopOf st) (failedOf st)) := ⟨hB.arr, hB.kind, hB.fail, by
    show Cov (((pendingOf st).setIfInBounds i (sa, na + nb, p)).eraseIdxIfInBounds (i + 1)).toList 0 hi
    rw [hpl]
    exact k5⟩
  have hok := hB.ok h0
  have fin : ∀ st' : SortSt, SB a₀ κ hi st' → (pendingOf st').toList = ((pendingOf st).toList.set i (sa, na + nb, p)).eraseIdx (i + 1) → (∀ x, x < sa ∨ sb + nb ≤ x → (arrOf st')[x]? = (arrOf st)[x]?) → Up lt (arrOf st') sa (sa + (na + nb)) → SBL lt a₀ κ hi st' := fun st' hB' hp he hu => ⟨hB', fun z hz => by
    rw [hp] at hz
    rcases oth z hz with rfl | ⟨hz, hd⟩
    · exact hu
    · exact (hL.ups z hz).same fun x h1 h2 => he x (by (first | lia | omega))⟩
  have exm : ∀ (arr : Array Keyed) (x y : Nat) {p : Keyed}, p ∈ (arr.extract x y).toList → p ∈ arr.toList := fun arr x y p hp => by
    rw [Array.toList_extract, List.extract_eq_drop_take] at hp
    exact List.mem_of_mem_drop (List.mem_of_mem_take hp)
  refine wpS_bind (wpS_set ?_)
  refine wpS_bind (wpS_elem (arr := arrOf st) (by (first | lia | omega)) fun p1 m1 ep1 => ?_)
  refine wpS_bind (wpS_gallopL (a := arrOf st) o hc hB1.kind (hok p1 m1) hok (by (first | lia | omega)) (by (first | lia | omega)) ua fun k hk F1 F2 => ?_)
  dsimp only
  have low1 : ∀ i u, i < k → (arrOf st)[sa + i]? = some u → Le lt u p1 := fun i u hi eu => by
    have h3 := F1 i hi
    unfold BV at h3
    rw [eu] at h3
    have h4 : (!lt p1 u) = true := h3
    show lt p1 u = false
    simpa using h4
  have hig1 : ∀ i u, k ≤ i → i < na → (arrOf st)[sa + i]? = some u → Le lt p1 u := fun i u h1 h2 eu => by
    have h3 := F2 i h1 h2
    unfold BV at h3
    rw [eu] at h3
    have h4 : (!lt p1 u) = false := h3
    exact o.le_of (by simpa using h4)
  have p1le : ∀ y v, sb ≤ y → y < sb + nb → (arrOf st)[y]? = some v → Le lt p1 v := fun y v h1 h2 ev => by
    by_cases e : y = sb
    · rw [e, ep1] at ev
      cases ev
      exact o.le_refl _
    · exact ub sb y p1 v (by (first | lia | omega)) (by (first | lia | omega)) h2 ep1 ev
  by_cases c1 : (na - k == 0) = true
  · rw [if_pos c1]
    have ek : k = na := by
      have := eq_of_beq c1
      (first | lia | omega)
    refine wpS_pure (h _ (fin _ hB1 hpl (fun _ _ => rfl) ?_) (fun _ _ => rfl) hps)
    intro x y u v a1 a2 a3 eu ev
    have eu' : (arrOf st)[x]? = some u := eu
    have ev' : (arrOf st)[y]? = some v := ev
    by_cases hy : y < sb
    · exact ua x y u v a1 a2 (by (first | lia | omega)) eu' ev'
    by_cases hx : sb ≤ x
    · exact ub x y u v hx a2 (by (first | lia | omega)) eu' ev'
    exact o.le_trans (low1 (x - sa) u (by (first | lia | omega)) (by rw [show sa + (x - sa) = x by (first | lia | omega)]; exact eu')) (p1le y v (by (first | lia | omega)) (by (first | lia | omega)) ev')
  rw [if_neg c1]
  have n1 : ¬ na - k = 0 := fun e => c1 (by simp [e])
  refine wpS_bind (wpS_elem (arr := arrOf st) (by (first | lia | omega)) fun p2 m2 ep2 => ?_)
  refine wpS_bind (wpS_gallopL (a := arrOf st) o hc hB1.kind (hok p2 m2) hok (by (first | lia | omega)) (by (first | lia | omega)) ub fun nb' hnb G1 G2 => ?_)
  dsimp only
  have ep2' : (arrOf st)[sb - 1]? = some p2 := by
    rw [← ep2]
    congr 1
    (first | lia | omega)
  have lep2 : ∀ x u, sa ≤ x → x < sb → (arrOf st)[x]? = some u → Le lt u p2 := fun x u h1 h2 eu => by
    by_cases e : x = sb - 1
    · rw [e, ep2'] at eu
      cases eu
      exact o.le_refl _
    · exact ua x (sb - 1) u p2 h1 (by (first | lia | omega)) (by (first | lia | omega)) eu ep2'
  have low2 : ∀ i u, i < nb' → (arrOf st)[sb + i]? = some u → Le lt u p2 := fun i u hi eu => by
    have h3 := G1 i hi
    unfold BV at h3
    rw [eu] at h3
    exact o.le_of h3
  have hig2 : ∀ i u, nb' ≤ i → i < nb → (arrOf st)[sb + i]? = some u → Le lt p2 u := fun i u h1 h2 eu => by
    have h3 := G2 i h1 h2
    unfold BV at h3
    rw [eu] at h3
    exact h3
  by_cases c2 : (nb' == 0) = true
  · rw [if_pos c2]
    have ek : nb' = 0 := eq_of_beq c2
    refine wpS_pure (h _ (fin _ hB1 hpl (fun _ _ => rfl) ?_) (fun _ _ => rfl) hps)
    intro x y u v a1 a2 a3 eu ev
    have eu' : (arrOf st)[x]? = some u := eu
    have ev' : (arrOf st)[y]? = some v := ev
    by_cases hy : y < sb
    · exact ua x y u v a1 a2 (by (first | lia | omega)) eu' ev'
    by_cases hx : sb ≤ x
    · exact ub x y u v hx a2 (by (first | lia | omega)) eu' ev'
    exact o.le_trans (lep2 x u a1 (by (first | lia | omega)) eu') (hig2 (y - sb) v (by (first | lia | omega)) (by (first | lia | omega)) (by rw [show sb + (y - sb) = y by (first | lia | omega)]; exact ev'))
  rw [if_neg c2]
  have n2 : ¬ nb' = 0 := fun e => c2 (by simp [e])
  have xs : ((arrOf st).extract (sa + k) sb).size = na - k := by
    rw [Array.size_extract]
    (first | lia | omega)
  have ys : ((arrOf st).extract sb (sb + nb')).size = nb' := by
    rw [Array.size_extract]
    (first | lia | omega)
  have SX : So lt ((arrOf st).extract (sa + k) sb).toList := List.pairwise_iff_getElem.mpr fun x y hx hy hxy => by
    rw [Array.length_toList] at hx hy
    have ex : ((arrOf st).extract (sa + k) sb)[x]? = (arrOf st)[sa + k + x]? := by rw [Array.getElem?_extract, if_pos (by (first | lia | omega))]
    have ey : ((arrOf st).extract (sa + k) sb)[y]? = (arrOf st)[sa + k + y]? := by rw [Array.getElem?_extract, if_pos (by (first | lia | omega))]
    rw [← Array.getElem?_toList, List.getElem?_eq_getElem (by rw [Array.length_toList]; exact hx)] at ex
    rw [← Array.getElem?_toList, List.getElem?_eq_getElem (by rw [Array.length_toList]; exact hy)] at ey
    exact ua _ _ _ _ (by (first | lia | omega)) (show sa + k + x < sa + k + y by (first | lia | omega)) (by (first | lia | omega)) ex.symm ey.symm
  have SY : So lt ((arrOf st).extract sb (sb + nb')).toList := List.pairwise_iff_getElem.mpr fun x y hx hy hxy => by
    rw [Array.length_toList] at hx hy
    have ex : ((arrOf st).extract sb (sb + nb'))[x]? = (arrOf st)[sb + x]? := by rw [Array.getElem?_extract, if_pos (by (first | lia | omega))]
    have ey : ((arrOf st).extract sb (sb + nb'))[y]? = (arrOf st)[sb + y]? := by rw [Array.getElem?_extract, if_pos (by (first | lia | omega))]
    rw [← Array.getElem?_toList, List.getElem?_eq_getElem (by rw [Array.length_toList]; exact hx)] at ex
    rw [← Array.getElem?_toList, List.getElem?_eq_getElem (by rw [Array.length_toList]; exact hy)] at ey
    exact ub _ _ _ _ (by (first | lia | omega)) (show sb + x < sb + y by (first | lia | omega)) (by (first | lia | omega)) ex.symm ey.symm
  have HB0 : ∀ p, ((arrOf st).extract sb (sb + nb'))[0]? = some p → ∀ y ∈ ((arrOf st).extract (sa + k) sb).toList, Le lt p y := fun p ep y hy => by
    rw [Array.getElem?_extract, if_pos (by (first | lia | omega)), Nat.add_zero, ep1] at ep
    cases ep
    obtain ⟨m, h1, h2, e⟩ := mem_exI hy
    exact hig1 (m - sa) y (by (first | lia | omega)) (by (first | lia | omega)) (by rw [show sa + (m - sa) = m by (first | lia | omega)]; exact e)
  have HLA : ∀ x ∈ ((arrOf st).extract sb (sb + nb')).toList, ∀ q, ((arrOf st).extract (sa + k) sb)[((arrOf st).extract (sa + k) sb).size - 1]? = some q → Le lt x q := fun x hx q eq => by
    rw [xs, Array.getElem?_extract, if_pos (by (first | lia | omega)), show sa + k + (na - k - 1) = sb - 1 by (first | lia | omega), ep2'] at eq
    cases eq
    obtain ⟨m, h1, h2, e⟩ := mem_exI hx
    exact low2 (m - sb) x (by (first | lia | omega)) (by rw [show sb + (m - sb) = m by (first | lia | omega)]; exact e)
  -- what the piece put in gives
  have whole : ∀ (r : Array Keyed) (arr' : Array Keyed), Rs lt ((arrOf st).extract (sa + k) sb) ((arrOf st).extract sb (sb + nb')) r → r.toList.length = (na - k) + nb' → arr'.toList = (arrOf st).toList.take (sa + k) ++ r.toList ++ (arrOf st).toList.drop (sa + k + r.toList.length) →
      (∀ x, x < sa ∨ sb + nb ≤ x → arr'[x]? = (arrOf st)[x]?) ∧ Up lt arr' sa (sa + (na + nb)) := fun r arr' hr hrl ha => by
    have get : ∀ x, arr'[x]? = if x < sa + k then (arrOf st)[x]? else if x < sa + k + r.toList.length then r.toList[x - (sa + k)]? else (arrOf st)[x]? := fun x => by
      rw [← Array.getElem?_toList, ha, splice_get (by have hll : (arrOf st).toList.length = (arrOf st).size := Array.length_toList; (first | lia | omega)), Array.getElem?_toList]
    have inr : ∀ u, u ∈ r.toList → (∃ m, sa + k ≤ m ∧ m < sb ∧ (arrOf st)[m]? = some u) ∨ ∃ m, sb ≤ m ∧ m < sb + nb' ∧ (arrOf st)[m]? = some u := fun u hu => by
      rcases List.mem_append.mp (hr.perm.mem_iff.mp hu) with hu | hu
      · exact .inl (mem_exI hu)
      · exact .inr (mem_exI hu)
    refine ⟨fun x hx => ?_, fun x y u v a1 a2 a3 eu ev => ?_⟩
    · rw [get]
      by_cases h1 : x < sa + k
      · rw [if_pos h1]
      · rw [if_neg h1, if_neg (by (first | lia | omega))]
    rw [get] at eu ev
    by_cases hx1 : x < sa + k
    · rw [if_pos hx1] at eu
      have hu1 := low1 (x - sa) u (by (first | lia | omega)) (by rw [show sa + (x - sa) = x by (first | lia | omega)]; exact eu)
      by_cases hy1 : y < sa + k
      · rw [if_pos hy1] at ev
        exact ua x y u v a1 a2 (by (first | lia | omega)) eu ev
      rw [if_neg hy1] at ev
      by_cases hy2 : y < sa + k + r.toList.length
      · rw [if_pos hy2] at ev
        rcases inr v (List.mem_of_getElem? ev) with ⟨m, b1, b2, e⟩ | ⟨m, b1, b2, e⟩
        · exact ua x m u v a1 (by (first | lia | omega)) (by (first | lia | omega)) eu e
        · exact o.le_trans hu1 (p1le m v b1 (by (first | lia | omega)) e)
      · rw [if_neg hy2] at ev
        exact o.le_trans hu1 (p1le y v (by (first | lia | omega)) (by (first | lia | omega)) ev)
    rw [if_neg hx1] at eu
    rw [if_neg (by (first | lia | omega))] at ev
    by_cases hx2 : x < sa + k + r.toList.length
    · rw [if_pos hx2] at eu
      by_cases hy2 : y < sa + k + r.toList.length
      · rw [if_pos hy2] at ev
        obtain ⟨hx3, rfl⟩ := List.getElem?_eq_some_iff.mp eu
        obtain ⟨hy3, rfl⟩ := List.getElem?_eq_some_iff.mp ev
        exact (List.pairwise_iff_getElem.mp hr.sort) _ _ hx3 hy3 (by (first | lia | omega))
      · rw [if_neg hy2] at ev
        rcases inr u (List.mem_of_getElem? eu) with ⟨m, b1, b2, e⟩ | ⟨m, b1, b2, e⟩
        · exact o.le_trans (lep2 m u (by (first | lia | omega)) b2 e) (hig2 (y - sb) v (by (first | lia | omega)) (by (first | lia | omega)) (by rw [show sb + (y - sb) = y by (first | lia | omega)]; exact ev))
        · exact ub m y u v b1 (by (first | lia | omega)) (by (first | lia | omega)) e ev
    · rw [if_neg hx2] at eu
      rw [if_neg (by (first | lia | omega))] at ev
      exact ub x y u v (by (first | lia | omega)) a2 (by (first | lia | omega)) eu ev
  by_cases c3 : na - k ≤ nb'
  · rw [if_pos c3]
    refine wpS_bind (wpS_mergeLoL (a := (arrOf st).extract (sa + k) sb) (b := (arrOf st).extract sb (sb + nb')) o hc hB1.kind (fun p hp => hok p (exm _ _ _ hp)) (fun p hp => hok p (exm _ _ _ hp)) (by rw [xs]; (first | lia | omega)) (by rw [ys]; (first | lia | omega)) SX SY HB0 HLA fun r st2 lk hr => ?_)
    refine wpS_bind (wpS_modify ?_)
    refine wpS_bind (wpS_get ?_)
    have hf : failedOf st2 = none := lk.fail.trans hB.fail
    have hr2 : r.toList.Perm (((arrOf st).toList.drop (sa + k)).take ((na - k) + nb')) := by
      refine hr.perm.trans (List.Perm.of_eq ?_)
      rw [Array.toList_extract, Array.toList_extract, ex_mid _ (by (first | lia | omega)) (by (first | lia | omega))]
      congr 1
      (first | lia | omega)
    have hrl : r.toList.length = (na - k) + nb' := by
      rw [hr2.length_eq, List.length_take, List.length_drop, Array.length_toList]
      (first | lia | omega)
    show wpS _ _ _ _ (pure (failedOf st2).isNone) Q _
    rw [hf]
    have hnew : (List.foldl (fun (a : Array Keyed) (x : Keyed × Nat) => a.setIfInBounds (sa + k + x.2) x.1) (arrOf st2) r.toList.zipIdx).toList = (arrOf st).toList.take (sa + k) ++ r.toList ++ (arrOf st).toList.drop (sa + k + r.toList.length) := by
      rw [lk.arr, splice2 _ _ _ (by show sa + k + r.toList.length ≤ (arrOf st).size; (first | lia | omega))]
    obtain ⟨w1, w2⟩ := whole r _ hr hrl hnew
    refine wpS_pure (h _ (fin _ ⟨?_, lk.kind.trans hB.kind, hf, ?_⟩ (by show (pendingOf st2).toList = _; rw [lk.pend]; exact hpl) w1 w2) (fun x hx => w1 x (.inr (by (first | lia | omega)))) ?_)
    · show (List.foldl (fun (a : Array Keyed) (x : Keyed × Nat) => a.setIfInBounds (sa + k + x.2) x.1) (arrOf st2) r.toList.zipIdx).toList.Perm a₀.toList
      rw [hnew]
      exact (perm_mid hr2 hrl).trans hB.arr
    · show Cov (pendingOf st2).toList 0 hi
      rw [lk.pend]
      exact hB1.cov
    · show (pendingOf st2).size + 1 = _
      rw [lk.pend]
      exact hps
  · rw [if_neg c3]
    refine wpS_bind (wpS_mergeHiL (a := (arrOf st).extract (sa + k) sb) (b := (arrOf st).extract sb (sb + nb')) o hc hB1.kind (fun p hp => hok p (exm _ _ _ hp)) (fun p hp => hok p (exm _ _ _ hp)) (by rw [xs]; (first | lia | omega)) (by rw [ys]; (first | lia | omega)) SX SY HB0 HLA fun r st2 lk hr => ?_)
    refine wpS_bind (wpS_modify ?_)
    refine wpS_bind (wpS_get ?_)
    have hf : failedOf st2 = none := lk.fail.trans hB.fail
    have hr2 : r.toList.Perm (((arrOf st).toList.drop (sa + k)).take ((na - k) + nb')) := by
      refine hr.perm.trans (List.Perm.of_eq ?_)
      rw [Array.toList_extract, Array.toList_extract, ex_mid _ (by (first | lia | omega)) (by (first | lia | omega))]
      congr 1
      (first | lia | omega)
    have hrl : r.toList.length = (na - k) + nb' := by
      rw [hr2.length_eq, List.length_take, List.length_drop, Array.length_toList]
      (first | lia | omega)
    show wpS _ _ _ _ (pure (failedOf st2).isNone) Q _
    rw [hf]
    have hnew : (List.foldl (fun (a : Array Keyed) (x : Keyed × Nat) => a.setIfInBounds (sa + k + x.2) x.1) (arrOf st2) r.toList.zipIdx).toList = (arrOf st).toList.take (sa + k) ++ r.toList ++ (arrOf st).toList.drop (sa + k + r.toList.length) := by
      rw [lk.arr, splice2 _ _ _ (by show sa + k + r.toList.length ≤ (arrOf st).size; (first | lia | omega))]
    obtain ⟨w1, w2⟩ := whole r _ hr hrl hnew
    refine wpS_pure (h _ (fin _ ⟨?_, lk.kind.trans hB.kind, hf, ?_⟩ (by show (pendingOf st2).toList = _; rw [lk.pend]; exact hpl) w1 w2) (fun x hx => w1 x (.inr (by (first | lia | omega)))) ?_)
    · show (List.foldl (fun (a : Array Keyed) (x : Keyed × Nat) => a.setIfInBounds (sa + k + x.2) x.1) (arrOf st2) r.toList.zipIdx).toList.Perm a₀.toList
      rw [hnew]
      exact (perm_mid hr2 hrl).trans hB.arr
    · show Cov (pendingOf st2).toList 0 hi
      rw [lk.pend]
      exact hB1.cov
    · show (pendingOf st2).size + 1 = _
      rw [lk.pend]
      exact hps
end
end Srd

namespace Srd
open PySem PyProof.Rows Srt
section
variable {prog : Program} {w : World} {A : Around} {E : Value → Shared → Prop} {s : Shared} {κ : SortKind} {Ok : Keyed → Prop} {st : SortSt} {lt : Keyed → Keyed → Bool}
set_option maxHeartbeats 4000000 in
theorem wpS_runsL {a₀ : Array Keyed} {Q : Unit → SortSt → Prop} (o : Swo lt) (hc : CmpL prog w A s κ Ok lt) (h0 : ∀ p ∈ a₀.toList, Ok p) (hB : SBL lt a₀ κ 0 st) (h : ∀ st', (arrOf st').toList.Perm a₀.toList → So lt (arrOf st').toList → failedOf st' = none → Q () st') : wpS (model prog w) A E s sortRuns' Q st := by
  refine wpS_bind (wpS_get ?_)
  have hsz := hB.sb.size
  show wpS _ _ _ _ (forIn [:(arrOf st).size] _ _ >>= _) Q st
  rw [hsz]
  refine wpS_bind (wpS_mono (wpS_forRange (I := fun x c st' => ∃ lo, c = (none, lo) ∧ lo ≤ a₀.size ∧ SBL lt a₀ κ lo st' ∧ x ≤ lo) (Q := fun c st' => ∃ lo, c = (none, lo) ∧ lo = a₀.size ∧ SBL lt a₀ κ lo st') ?_ (fun c st' ⟨lo, z1, z2, z3, z4⟩ => ⟨lo, z1, by (first | lia | omega), z3⟩) ⟨0, rfl, Nat.zero_le _, hB, Nat.le_refl _⟩) ?_)
  · rintro x c st1 _ hx ⟨lo, rfl, hlo, hB1, hxl⟩
    try dsimp only
    by_cases c1 : lo ≥ a₀.size
    · rw [if_pos c1]
      exact wpS_pure ⟨lo, rfl, by (first | lia | omega), hB1⟩
    rw [if_neg c1]
    have hs1 := hB1.sb.size
    refine wpS_bind (wpS_countL o hc hB1.sb.kind (hB1.sb.ok h0) (by (first | lia | omega)) (by (first | lia | omega)) fun n st2 n1 n2 p2 u2 => ?_)
    have hB2 := hB1.pl p2
    have hs2 := hB2.sb.size
    try dsimp only
    show wpS _ _ _ _ (if n < minRun' a₀.size a₀.size 0 then _ else _) _ st2
    by_cases c2 : n < minRun' a₀.size a₀.size 0
    · rw [if_pos c2]
      refine wpS_bind (wpS_lift (wpAny_rule ⟨rfl, ?_⟩))
      refine wpS_bind (wpS_binaryL o hc hB2.sb.kind (hB2.sb.ok h0) (by show lo + min (a₀.size - lo) (minRun' a₀.size a₀.size 0) ≤ _; (first | lia | omega)) (by show n ≤ min (a₀.size - lo) (minRun' a₀.size a₀.size 0); (first | lia | omega)) (by show 1 ≤ min (a₀.size - lo) (minRun' a₀.size a₀.size 0); (first | lia | omega)) u2 fun st3 p3 u3 => ?_)
      rw [if_neg (by decide)]
      have hB3 := hB2.pl p3
      have u3' : Up lt (arrOf st3) lo (lo + min (a₀.size - lo) (minRun' a₀.size a₀.size 0)) := u3
      have hN : 1 ≤ min (a₀.size - lo) (minRun' a₀.size a₀.size 0) := by (first | lia | omega)
      refine wpS_bind (wpS_get ?_)
      cases hb : (pendingOf st3).back? with
      | none =>
        dsimp only
        refine wpS_bind (wpS_modify ?_)
        refine wpS_pure ⟨lo + min (a₀.size - lo) (minRun' a₀.size a₀.size 0), rfl, by (first | lia | omega), ⟨⟨hB3.sb.arr, hB3.sb.kind, hB3.sb.fail, ?_⟩, fun z hz => ?_⟩, by (first | lia | omega)⟩
        · show Cov ((pendingOf st3).push (lo, min (a₀.size - lo) (minRun' a₀.size a₀.size 0), 0)).toList 0 (lo + min (a₀.size - lo) (minRun' a₀.size a₀.size 0))
          rw [Array.toList_push]
          exact hB3.sb.cov.push hN
        · have hz' : z ∈ ((pendingOf st3).push (lo, min (a₀.size - lo) (minRun' a₀.size a₀.size 0), 0)).toList := hz
          rw [Array.toList_push] at hz'
          rcases List.mem_append.mp hz' with hz' | hz'
          · exact hB3.ups z hz'
          · rw [List.mem_singleton.mp hz']
            exact u3'
      | some t =>
        obtain ⟨s1, n1, q⟩ := t
        dsimp only
        refine wpS_bind (wpS_mono (wpS_forRange (I := fun _ c st' => c = (none, ()) ∧ SBL lt a₀ κ lo st' ∧ ∀ x, lo ≤ x → (arrOf st')[x]? = (arrOf st3)[x]?) (Q := fun c st' => c = (none, ()) ∧ SBL lt a₀ κ lo st' ∧ ∀ x, lo ≤ x → (arrOf st')[x]? = (arrOf st3)[x]?) ?_ (fun _ _ z => z) ⟨rfl, hB3, fun _ _ => rfl⟩) ?_)
        · rintro y c st4 _ _ ⟨rfl, hB4, hO4⟩
          refine wpS_bind (wpS_get ?_)
          by_cases g1 : (pendingOf st4).size > 1
          · rw [if_pos g1]
            obtain ⟨⟨a1, a2, older⟩, e⟩ : ∃ x, (pendingOf st4)[(pendingOf st4).size - 2]? = some x := ⟨_, getElem?_pos _ _ (by (first | lia | omega))⟩
            rw [e]
            dsimp only
            split
            · exact wpS_pure ⟨rfl, hB4, hO4⟩
            · refine wpS_bind (wpS_mergeAtL o hc h0 hB4 hlo (by show (pendingOf st4).size - 2 + 1 < (pendingOf st4).size; (first | lia | omega)) fun st5 hB5 hO5 _ => ?_)
              rw [if_neg (by decide)]
              exact wpS_pure ⟨rfl, hB5, fun x hx => (hO5 x hx).trans (hO4 x hx)⟩
          · rw [if_neg g1]
            exact wpS_pure ⟨rfl, hB4, hO4⟩
        · rintro c st4 ⟨rfl, hB4, hO4⟩
          dsimp only
          refine wpS_bind (wpS_modify ?_)
          refine wpS_bind (wpS_modify ?_)
          refine wpS_pure ⟨lo + min (a₀.size - lo) (minRun' a₀.size a₀.size 0), rfl, by (first | lia | omega), ⟨⟨hB4.sb.arr, hB4.sb.kind, hB4.sb.fail, ?_⟩, fun z hz => ?_⟩, by (first | lia | omega)⟩
          · show Cov (Array.push ((pendingOf st4).modify _ _) (lo, min (a₀.size - lo) (minRun' a₀.size a₀.size 0), 0)).toList 0 (lo + min (a₀.size - lo) (minRun' a₀.size a₀.size 0))
            rw [Array.toList_push, Array.toList_modify]
            refine Cov.push ?_ hN
            refine Cov.last _ (fun x => ?_) _ hB4.sb.cov
            exact ⟨rfl, rfl⟩
          · change z ∈ (Array.push ((pendingOf st4).modify _ _) (lo, min (a₀.size - lo) (minRun' a₀.size a₀.size 0), 0)).toList at hz
            rw [Array.toList_push, Array.toList_modify] at hz
            rcases List.mem_append.mp hz with hz | hz
            · obtain ⟨i, hi⟩ := List.mem_iff_getElem?.mp hz
              rw [List.getElem?_modify] at hi
              obtain ⟨z0, hz0, rfl⟩ := Option.map_eq_some_iff.mp hi
              have h1 := hB4.ups z0 (List.mem_of_getElem? hz0)
              split
              · exact h1
              · exact h1
            · rw [List.mem_singleton.mp hz]
              exact u3'.same fun x h1 _ => hO4 x h1
    · rw [if_neg c2]
      have hB3 := hB2
      have hN := n1
      have u3' := u2
      refine wpS_bind (wpS_get ?_)
      cases hb : (pendingOf st2).back? with
      | none =>
        dsimp only
        refine wpS_bind (wpS_modify ?_)
        refine wpS_pure ⟨lo + n, rfl, by (first | lia | omega), ⟨⟨hB3.sb.arr, hB3.sb.kind, hB3.sb.fail, ?_⟩, fun z hz => ?_⟩, by (first | lia | omega)⟩
        · show Cov ((pendingOf st2).push (lo, n, 0)).toList 0 (lo + n)
          rw [Array.toList_push]
          exact hB3.sb.cov.push hN
        · have hz' : z ∈ ((pendingOf st2).push (lo, n, 0)).toList := hz
          rw [Array.toList_push] at hz'
          rcases List.mem_append.mp hz' with hz' | hz'
          · exact hB3.ups z hz'
          · rw [List.mem_singleton.mp hz']
            exact u3'
      | some t =>
        obtain ⟨s1, n1, q⟩ := t
        dsimp only
        refine wpS_bind (wpS_mono (wpS_forRange (I := fun _ c st' => c = (none, ()) ∧ SBL lt a₀ κ lo st' ∧ ∀ x, lo ≤ x → (arrOf st')[x]? = (arrOf st2)[x]?) (Q := fun c st' => c = (none, ()) ∧ SBL lt a₀ κ lo st' ∧ ∀ x, lo ≤ x → (arrOf st')[x]? = (arrOf st2)[x]?) ?_ (fun _ _ z => z) ⟨rfl, hB3, fun _ _ => rfl⟩) ?_)
        · rintro y c st4 _ _ ⟨rfl, hB4, hO4⟩
          refine wpS_bind (wpS_get ?_)
          by_cases g1 : (pendingOf st4).size > 1
          · rw [if_pos g1]
            obtain ⟨⟨a1, a2, older⟩, e⟩ : ∃ x, (pendingOf st4)[(pendingOf st4).size - 2]? = some x := ⟨_, getElem?_pos _ _ (by (first | lia | omega))⟩
            rw [e]
            dsimp only
            split
            · exact wpS_pure ⟨rfl, hB4, hO4⟩
            · refine wpS_bind (wpS_mergeAtL o hc h0 hB4 hlo (by show (pendingOf st4).size - 2 + 1 < (pendingOf st4).size; (first | lia | omega)) fun st5 hB5 hO5 _ => ?_)
              rw [if_neg (by decide)]
              exact wpS_pure ⟨rfl, hB5, fun x hx => (hO5 x hx).trans (hO4 x hx)⟩
          · rw [if_neg g1]
            exact wpS_pure ⟨rfl, hB4, hO4⟩
        · rintro c st4 ⟨rfl, hB4, hO4⟩
          dsimp only
          refine wpS_bind (wpS_modify ?_)
          refine wpS_bind (wpS_modify ?_)
          refine wpS_pure ⟨lo + n, rfl, by (first | lia | omega), ⟨⟨hB4.sb.arr, hB4.sb.kind, hB4.sb.fail, ?_⟩, fun z hz => ?_⟩, by (first | lia | omega)⟩
          · show Cov (Array.push ((pendingOf st4).modify _ _) (lo, n, 0)).toList 0 (lo + n)
            rw [Array.toList_push, Array.toList_modify]
            refine Cov.push ?_ hN
            refine Cov.last _ (fun x => ?_) _ hB4.sb.cov
            exact ⟨rfl, rfl⟩
          · change z ∈ (Array.push ((pendingOf st4).modify _ _) (lo, n, 0)).toList at hz
            rw [Array.toList_push, Array.toList_modify] at hz
            rcases List.mem_append.mp hz with hz | hz
            · obtain ⟨i, hi⟩ := List.mem_iff_getElem?.mp hz
              rw [List.getElem?_modify] at hi
              obtain ⟨z0, hz0, rfl⟩ := Option.map_eq_some_iff.mp hi
              have h1 := hB4.ups z0 (List.mem_of_getElem? hz0)
              split
              · exact h1
              · exact h1
            · rw [List.mem_singleton.mp hz]
              exact u3'.same fun x h1 _ => hO4 x h1
  · rintro c st1 ⟨lo, rfl, rfl, hB1⟩
    try dsimp only
    refine wpS_bind (wpS_mono (wpS_forRange (I := fun x c st' => c = (none, ()) ∧ SBL lt a₀ κ a₀.size st' ∧ (pendingOf st').size + x ≤ a₀.size + 1) (Q := fun c st' => c = (none, ()) ∧ SBL lt a₀ κ a₀.size st' ∧ (pendingOf st').size ≤ 1) ?_ (fun c st' ⟨z1, z2, z3⟩ => ⟨z1, z2, by (first | lia | omega)⟩) ⟨rfl, hB1, by have := hB1.sb.cov.le; rw [Array.length_toList] at this; (first | lia | omega)⟩) ?_)
    · rintro x c st2 _ _ ⟨rfl, hB2, hp2⟩
      try dsimp only
      refine wpS_bind (wpS_get ?_)
      try dsimp only
      by_cases c2 : (pendingOf st2).size ≤ 1
      · rw [if_pos c2]
        exact wpS_pure ⟨rfl, hB2, c2⟩
      · rw [if_neg c2]
        have hx : ∀ b : Bool, (if b = true then (pendingOf st2).size - 2 - 1 else (pendingOf st2).size - 2) + 1 < (pendingOf st2).size := fun b => by
          cases b
          · rw [if_neg Bool.false_ne_true]; (first | lia | omega)
          · rw [if_pos rfl]; (first | lia | omega)
        refine wpS_bind (wpS_mergeAtL o hc h0 hB2 (Nat.le_refl _) (hx _) fun st3 hB3 _ hs3 => ?_)
        rw [if_neg (by decide)]
        exact wpS_pure ⟨rfl, hB3, by (first | lia | omega)⟩
    · rintro c st2 ⟨rfl, hB2, hp2⟩
      refine wpS_pure (h st2 hB2.sb.arr ?_ hB2.sb.fail)
      have hz2 := hB2.sb.size
      have hcov := hB2.sb.cov
      have hups := hB2.ups
      have hpl : (pendingOf st2).toList.length ≤ 1 := by rw [Array.length_toList]; exact hp2
      match hl : (pendingOf st2).toList, hpl with
      | [], _ =>
        rw [hl] at hcov
        have h0 : 0 = a₀.size := hcov
        refine so_of (n := 0) (fun x y _ _ _ _ h3 => by (first | lia | omega)) (by (first | lia | omega))
      | [z], _ =>
        rw [hl] at hcov hups
        obtain ⟨z1, z2, z3⟩ := hcov
        have z3' : 0 + z.2.1 = a₀.size := z3
        have hu := hups z (List.mem_singleton.mpr rfl)
        rw [z1, z3'] at hu
        exact so_of hu (by (first | lia | omega))
end
end Srd

namespace Srd
open PySem PyProof.Rows Srt PySem.W
section
variable {prog : Program} {w : World} {A : Around} {E : Value → Shared → Prop} {s : Shared}
/-- these can be sorted in this state by this order -/
def SortableL (prog : Program) (w : World) (A : Around) (lv : Value → Value → Bool) (vs : List Value) (s : Shared) : Prop :=
  ∃ κ, (∀ (Q : SortKind → Shared → Prop) (E : Value → Shared → Prop), Q κ s → wpAny (model prog w) A (keyKind' vs.toArray) Q E s) ∧ CmpL prog w A s κ (fun p => p ∈ (pairsOf vs).toList) fun x y => lv x.1 y.1
theorem zip_self_eq {vs : List Value} {p : Keyed} (h : p ∈ (pairsOf vs).toList) : p.1 = p.2 := by
  rw [pairsOf_toList] at h
  obtain ⟨i, hi⟩ := List.mem_iff_getElem?.mp h
  rw [List.getElem?_zip_eq_some] at hi
  have := hi.1.symm.trans hi.2
  exact Option.some.inj this
theorem so_short {lt : Keyed → Keyed → Bool} {vs : List Value} (h : vs.length < 2) : So lt (pairsOf vs).toList := List.pairwise_iff_getElem.mpr fun i j hi hj hij => by
  rw [Array.length_toList, pairsOf_size] at hi hj
  (first | lia | omega)
theorem snds_so {lv : Value → Value → Bool} {vs : List Value} {xs : Array Keyed} (hp : xs.toList.Perm (pairsOf vs).toList) (h : So (fun x y => lv x.1 y.1) xs.toList) : (xs.map (·.2)).toList.Pairwise (fun u v => lv v u = false) := by
  rw [Array.toList_map, List.pairwise_map]
  refine List.Pairwise.imp_of_mem (fun {x y} hx hy hxy => ?_) h
  have hxy' : lv y.1 x.1 = false := hxy
  rw [zip_self_eq (hp.mem_iff.mp hx), zip_self_eq (hp.mem_iff.mp hy)] at hxy'
  exact hxy'
theorem list_sort_L {lv : Value → Value → Bool} (o : Swo fun x y => lv x.1 y.1) {a : Addr} {vs : List Value} {n : Nat} {P : Fin → Shared → Prop} (ho : s.heap.get? a = some (seqObj "list" vs.toArray n)) (hlen : vs.length ≤ 90000)
    (hc : ∀ h6 : Heap, (∀ b o, b ≠ a → s.heap.get? b = some o → h6.get? b = some o) → 2 ≤ vs.length → SortableL prog w A lv vs { s with heap := h6 })
    (h : ∀ out : Array Value, out.toList.Perm vs → out.toList.Pairwise (fun u v => lv v u = false) → P (.done (.ret .none)) { s with heap := sortedHeap s.heap a vs out }) : wpAny (model prog w) A (Builtin.«list.sort» ⟨[.ref a], []⟩) P E s := by
  have hv : vs.toArray.size ≤ sizeLine := by rw [List.size_toArray, sizeLine_eq]; (first | lia | omega)
  have ha : a < s.heap.objs.size := Heap.lt_size ho
  obtain ⟨e1, ho1⟩ : ∃ e1, (s.heap.update a (Obj.mapSeq fun _ => #[])).get? a = some (seqObj "list" #[] e1) := ⟨_, get?_update_seq ho (fun _ => #[])⟩
  rw [list_sort_plain]
  refine wpAny_bind (listItems_at ho rfl (wpAny_bind (listUpdate_at ho rfl (wpAny_bind (seqEpoch_at ho1 rfl (wpAny_bind (wpAny_newTuple (wpAny_bind (wpAny_newList (wpAny_holding ?_)))))))  hv (Nat.zero_le _))))
  have nT : a ≠ (s.heap.update a (Obj.mapSeq fun _ => #[])).objs.size := by rw [Heap.size_update]; exact Nat.ne_of_lt ha
  have nL : a ≠ ((s.heap.update a (Obj.mapSeq fun _ => #[])).push (seqObj "tuple" vs.toArray 0)).objs.size := by rw [size_push', Heap.size_update]; exact Nat.ne_of_lt (Nat.lt_succ_of_lt ha)
  have ho6 : (((s.heap.update a (Obj.mapSeq fun _ => #[])).push (seqObj "tuple" vs.toArray 0)).push (seqObj "list" #[] 0)).get? a = some (seqObj "list" #[] e1) := by
    rw [Heap.get?_push_ne _ _ _ nL, Heap.get?_push_ne _ _ _ nT]
    exact ho1
  have hkeep : ∀ b o, b ≠ a → s.heap.get? b = some o → (((s.heap.update a (Obj.mapSeq fun _ => #[])).push (seqObj "tuple" vs.toArray 0)).push (seqObj "list" #[] 0)).get? b = some o := fun b o hb e => by
    refine Heap.get?_push_of_some _ (Heap.get?_push_of_some _ ?_)
    rw [Heap.get?_update_other _ _ hb.symm]
    exact e
  show wpAny (model prog w) A _ P E { s with heap := ((s.heap.update a (Obj.mapSeq fun _ => #[])).push (seqObj "tuple" vs.toArray 0)).push (seqObj "list" #[] 0) }
  dsimp only
  by_cases h2 : vs.toArray.size < 2
  · rw [if_pos h2, if_pos h2]
    refine wpAny_bind (wpAny_pure ?_)
    rw [StateT.run_pure]
    refine wpAny_bind (wpAny_pure (wpAny_bind (seqEpoch_at ho6 rfl (wpAny_bind (listUpdate_at ho6 rfl ?_ (Nat.zero_le _) ?_)))))
    · simp only [bne_self_eq_false, Bool.false_eq_true, if_false]
      exact wpAny_pure (h _ (snds_perm (xs := pairsOf vs) (List.Perm.refl _)) (snds_so (xs := pairsOf vs) (List.Perm.refl _) (so_short (by rw [List.size_toArray] at h2; exact h2))))
    · show ((pairsOf vs).map (·.2)).size ≤ _
      rw [Array.size_map, pairsOf_size, sizeLine_eq]
      (first | lia | omega)
  · rw [if_neg h2, if_neg h2]
    rw [List.size_toArray] at h2
    obtain ⟨κ, hkk, hcm⟩ := hc _ hkeep (by (first | lia | omega))
    refine wpAny_bind (hkk _ _ ?_)
    refine wpAny_bind (wpAny_mono (wpS_runsL (a₀ := pairsOf vs) (Q := fun _ st' => (arrOf st').toList.Perm (pairsOf vs).toList ∧ So (fun x y => lv x.1 y.1) (arrOf st').toList ∧ failedOf st' = none) o hcm (fun p hp => hp) ⟨⟨List.Perm.refl _, rfl, rfl, rfl⟩, fun z hz => (nomatch hz)⟩ fun st' a1 a3 a2 => ⟨a1, a3, a2⟩) ?_ fun _ _ e => e)
    rintro ⟨⟨⟩, st'⟩ s' ⟨rfl, hp, hso, hf⟩
    dsimp only
    refine wpAny_bind (seqEpoch_at ho6 rfl (wpAny_bind (listUpdate_at ho6 rfl ?_ (Nat.zero_le _) ?_)))
    · rw [hf]
      simp only [bne_self_eq_false, Bool.false_eq_true, if_false]
      exact wpAny_pure (h _ (snds_perm hp) (snds_so hp hso))
    · have hp' : (arrOf st').toList.Perm (pairsOf vs).toList := hp
      have := hp'.length_eq
      rw [Array.length_toList, Array.length_toList, pairsOf_size] at this
      show ((arrOf st').map (·.2)).size ≤ _
      rw [Array.size_map, sizeLine_eq]
      (first | lia | omega)
/-- sorted of what is gone through: a new list of its items, rising -/
theorem sorted_colL {lv : Value → Value → Bool} (o : Swo fun x y => lv x.1 y.1) {v : Value} {C : List Value → Prop} {Q : Value → Shared → Prop}
    (hcol : ∀ (Q' : List Value → Shared → Prop) (E' : Value → Shared → Prop), (∀ (ys : List Value) (h' : Heap) (tk : Nat) (d : Drawn), (∀ b o, s.heap.get? b = some o → h'.get? b = some o) → C ys → ys.length ≤ 90000 → s.heap.objs.size ≤ h'.objs.size → Q' ys { s with heap := h', toks := tk, drawn := d }) → wpAny (model prog w) A.in1 (collect v) Q' E' s)
    (hc : ∀ (ys : List Value) (h6 : Heap) (tk : Nat) (d : Drawn), C ys → (∀ b o, s.heap.get? b = some o → h6.get? b = some o) → 2 ≤ ys.length → SortableL prog w A.in1.in1 lv ys { s with heap := h6, toks := tk, drawn := d })
    (q : ∀ (p : Addr) (ys : List Value) (out : Array Value) (h' : Heap) (tk : Nat) (d : Drawn) (c : Nat), C ys → out.toList.Perm ys → out.toList.Pairwise (fun u v => lv v u = false) → (∀ b o, s.heap.get? b = some o → h'.get? b = some o) → h'.get? p = some (seqObj "list" out c) → s.heap.objs.size ≤ p → out.size ≤ 90000 → Q (.ref p) { s with heap := h', toks := tk, drawn := d }) :
    wpAny (model prog w) A (call (.builtin "sorted") [v]) Q E s := by
  refine Calls.call_function_entry kind_sorted plain_sorted entry_sorted (args_sorted1 _) ?_
  unfold Builtin.«sorted»
  refine wpAny_bind (m := checkCount "sorted" 1 1 _) (wpAny_pure (wpAny_bind (hcol _ _ fun ys h1 tk d k1 hC hyl hle => wpAny_bind (wpAny_newList ?_ (by rw [sizeLine_eq]; (first | lia | omega))))))
  have hoL : (h1.push (seqObj "list" ys.toArray 0)).get? h1.objs.size = some (seqObj "list" ys.toArray 0) := Heap.get?_push_size _ rfl
  have keep : ∀ b o, s.heap.get? b = some o → (h1.push (seqObj "list" ys.toArray 0)).get? b = some o := fun b o e => Heap.get?_push_of_some _ (k1 b o e)
  have hbp : ∀ b o, s.heap.get? b = some o → h1.objs.size ≠ b := fun b o e => Nat.ne_of_gt (Nat.lt_of_lt_of_le (Heap.lt_size e) hle)
  change wpAny _ _ _ _ _ { s with heap := h1.push (seqObj "list" ys.toArray 0), toks := tk, drawn := d }
  refine wpAny_bind (wpAny_holding (wpAny_call_entry slot_list_sort ⟨_, hoL, rfl⟩ entry_list_sort (list_sort_L (s := { s with heap := h1.push (seqObj "list" ys.toArray 0), toks := tk, drawn := d }) o hoL (by (first | lia | omega)) (fun h6 k6 h2 => hc ys h6 tk d hC (fun b o e => k6 b o (hbp b o e).symm (keep b o e)) h2) fun out hp hso => ⟨_, rfl, ?_⟩) (args_list_sort _)))
  generalize h1.push (seqObj "list" ys.toArray 0) = h5 at hoL keep
  obtain ⟨e1, ho1⟩ : ∃ e1, (h5.update h1.objs.size (Obj.mapSeq fun _ => #[])).get? h1.objs.size = some (seqObj "list" #[] e1) := ⟨_, get?_update_seq hoL (fun _ => #[])⟩
  have ho6 := Heap.get?_push_of_some (seqObj "list" #[] 0) (Heap.get?_push_of_some (seqObj "tuple" ys.toArray 0) ho1)
  have hol : out.size ≤ 90000 := by rw [← Array.length_toList, hp.length_eq]; exact hyl
  refine wpAny_pure ⟨_, rfl, q h1.objs.size ys out (sortedHeap h5 h1.objs.size ys out) tk d _ hC hp hso (fun b o e => ?_) (get?_update_seq ho6 (fun _ => out)) hle hol⟩
  unfold sortedHeap
  rw [Heap.get?_update_other _ _ (hbp b o e)]
  refine Heap.get?_push_of_some _ (Heap.get?_push_of_some _ ?_)
  rw [Heap.get?_update_other _ _ (hbp b o e)]
  exact keep b o e
end
section
variable {prog : Program} {w : World} {A : Around} {E : Value → Shared → Prop} {s : Shared} {T : String} {r d : Addr} {n : Nat} {P : Nat → Value → Prop} {OK : Heap → Prop}
/-- what is gone through, item by item -/
theorem collect_src {Q : List Value → Shared → Prop} (K : KdlSrc prog w T r d n P OK) (hh : A.handled = none) (hok : OK s.heap) (hn : n ≤ sizeLine)
    (q : ∀ (acc : Array Value) (h' : Heap) (tk : Nat), (∀ b o, s.heap.get? b = some o → h'.get? b = some o) → ItemsOf P acc n → s.heap.objs.size ≤ h'.objs.size → Q acc.toList { s with heap := h', toks := tk }) : wpAny (model prog w) A (collect (.ref r)) Q E s := by
  unfold collect
  refine wpAny_bind (wpAny_runValue (codeAny_builtin entry_proto_collect' ?_))
  change wpAny _ _ (do again (.builtin "list.__iadd__" ⟨[← newList [], .ref r], []⟩)) _ _ s
  refine wpAny_bind (wpAny_newList (wpAny_pure ⟨Code.quiet_builtin _ (by decide +kernel), codeAny_builtin entry_list_iadd' ?_⟩))
  change wpAny _ A.in1 (Builtin.List.listExtendWith (.ref s.heap.objs.size) (.ref r) (.ref s.heap.objs.size)) _ _ { s with heap := s.heap.push (seqObj "list" #[] 0) }
  have hlt := K.there _ hok
  refine kdl_extend (R := wants (fun v s' => wpAny (model prog w) A (match v with
          | Value.ref a => do
            let o ← load a
            match o.data with
            | .seq xs _ => pure xs.toList
            | _ => unsupported "internal:collect"
          | _ => unsupported "internal:collect") Q E s') E) (s := { s with heap := s.heap.push (seqObj "list" #[] 0) }) K hh (K.keep _ _ hok fun b _ o e => Heap.get?_push_of_some _ e) s.heap.objs.size (Nat.ne_of_gt hlt.1) (Nat.ne_of_gt hlt.2) _ 0 (Heap.get?_push_size _ rfl) (fun h' tk acc c kp hS hit => ?_) hn
  refine wpAny_bind (wpAny_load hS ?_)
  refine wpAny_pure ?_
  exact q acc h' tk (fun b o e => kp b o (Nat.ne_of_lt (Heap.lt_size e)) (Heap.get?_push_of_some _ e)) hit (Nat.le_of_lt (Heap.lt_size hS))
end
end Srd

/-! a list has no keys() -/
namespace Srd
open PySem PyProof.Rows
end Srd

/-! dict(list of pairs) -/
namespace Srd
open PySem PyProof.Rows
end Srd

/-! dict(list of pairs) and sorted(dict of ints), as rules -/
namespace L2
open PySem PySem.Spec PyProof.Rows PySem.W
end L2

/-! arguments without a star: what has no star, by its head alone -/
namespace L2
open PySem PySem.Spec PyProof.Rows
def notStar : Expr → Bool
  | .Starred .. => false
  | _ => true
theorem star_cons {e : Expr} (es : List Expr) (env : Env) (h : notStar e = true) : starEach (e :: es) env = (false, eval e env) :: starEach es env := by
  cases e <;> first | rfl | (exact absurd h Bool.false_ne_true)
section
variable {X : Cx} {x : Str} {ps : List Str} {j k : Nat} {sp : Sp} {e : Expr} {es : List Expr} {t : TA} {te : TE} {p pos : Pos}
theorem pa_consS (ha : PE X e te) (hr : PA X es t) (hn : notStar e = true := by rfl) : PA X (e :: es) (tCons te t) := pa_cons ha hr (star_cons es X.env hn)
end
end L2
/-! expressions and arguments, shut: nothing is unfolded while a deep display is put together -/
namespace L2
open PySem PySem.Spec PyProof.Rows
@[irreducible] def PEi (X : Cx) (e : Expr) (t : TE) : Prop := PE X e t
@[irreducible] def PAi (X : Cx) (es : List Expr) (t : TA) : Prop := PA X es t
section
variable {X : Cx} {x : Str} {ps : List Str} {j k : Nat} {sp : Sp} {e : Expr} {es : List Expr} {t : TA} {te : TE} {p pos : Pos}
theorem PEi.to (h : PEi X e te) : PE X e te := by unfold PEi at h; exact h
theorem PEi.of (h : PE X e te) : PEi X e te := by unfold PEi; exact h
theorem PAi.to (h : PAi X es t) : PA X es t := by unfold PAi at h; exact h
theorem PAi.of (h : PA X es t) : PAi X es t := by unfold PAi; exact h
theorem pei_int {i : Int} {j : Nat} : PEi X (.Constant (.int i) j pos) (tC (.int i)) := .of pe_int
theorem pei_str {x : Str} {j : Nat} : PEi X (.Constant (.str x) j pos) (tC (.str x)) := .of pe_str
theorem pai_nil : PAi X [] tNil := .of pa_nil
theorem pai_cons (ha : PEi X e te) (hr : PAi X es t) (hn : notStar e = true := by rfl) : PAi X (e :: es) (tCons te t) := .of (pa_consS ha.to hr.to hn)
theorem pei_tup {x1 : Nat} (h : PAi X es t) : PEi X (.Tuple es x1 pos) (tTup t) := .of (pe_tup h.to)
theorem pei_lst (h : PAi X es t) : PEi X (.List es pos) (tLst t) := .of (pe_lst h.to)
end
end L2

/-! sets of tuples: every element stands on its own way of probes -/
namespace Stg
open PySem Sts
end Stg

namespace Stg
open PySem Sts
end Stg

namespace Stg
open PySem Sts
end Stg

/-! the order of tuples of an int, a text and two ints -/
namespace Srd
open PySem PyProof.Rows Srt PySem.W
/-- a strict total order -/
structure Sto {α : Type} (lt : α → α → Bool) : Prop where
  irr : ∀ a, lt a a = false
  trans : ∀ a b c, lt a b = true → lt b c = true → lt a c = true
  tri : ∀ a b, lt a b = false → lt b a = false → a = b
section
variable {α β : Type} {lt : α → α → Bool} {lt2 : β → β → Bool}
theorem Sto.asym (o : Sto lt) {a b : α} (h : lt a b = true) : lt b a = false := by
  cases e : lt b a with
  | false => rfl
  | true =>
    have := o.trans a b a h e
    rw [o.irr] at this
    cases this
theorem Sto.neg (o : Sto lt) {x y z : α} (h1 : lt x y = false) (h2 : lt y z = false) : lt x z = false := by
  cases e : lt x z with
  | false => rfl
  | true =>
    cases e2 : lt y x with
    | true => rw [o.trans y x z e2 e] at h2; cases h2
    | false =>
      have := o.tri x y h1 e2
      subst this
      rw [e] at h2
      cases h2
theorem Sto.swo (o : Sto lt) (f : Value → α) : Swo fun x y => lt (f x.1) (f y.1) := ⟨fun _ _ h => o.asym h, fun _ _ _ h1 h2 => o.neg h1 h2⟩
def lexB [DecidableEq α] (lt : α → α → Bool) (lt2 : β → β → Bool) (x y : α × β) : Bool := lt x.1 y.1 || (decide (x.1 = y.1) && lt2 x.2 y.2)
theorem Sto.lex [DecidableEq α] (o : Sto lt) (o2 : Sto lt2) : Sto (lexB lt lt2) where
  irr := fun a => by unfold lexB; rw [o.irr, o2.irr]; simp
  trans := fun a b c h1 h2 => by
    unfold lexB at *
    simp only [Bool.or_eq_true, Bool.and_eq_true, decide_eq_true_eq] at *
    rcases h1 with h1 | ⟨e1, h1⟩
    · rcases h2 with h2 | ⟨e2, h2⟩
      · exact .inl (o.trans _ _ _ h1 h2)
      · exact .inl (e2 ▸ h1)
    · rcases h2 with h2 | ⟨e2, h2⟩
      · exact .inl (e1.symm ▸ h2)
      · exact .inr ⟨e1.trans e2, o2.trans _ _ _ h1 h2⟩
  tri := fun a b h1 h2 => by
    unfold lexB at *
    simp only [Bool.or_eq_false_iff, Bool.and_eq_false_imp, decide_eq_true_eq] at *
    have e1 := o.tri _ _ h1.1 h2.1
    have e2 := o2.tri _ _ (h1.2 e1) (h2.2 e1.symm)
    exact Prod.ext e1 e2
theorem sto_int : Sto fun a b : Int => decide (a < b) := ⟨fun a => by simp, fun a b c h1 h2 => by simp only [decide_eq_true_eq] at *; (first | lia | omega), fun a b h1 h2 => by simp only [decide_eq_false_iff_not] at *; (first | lia | omega)⟩
theorem list_lt_tri : ∀ a b : List Nat, ¬ a < b → ¬ b < a → a = b
  | [], [], _, _ => rfl
  | [], b :: bs, h, _ => absurd (List.nil_lt_cons b bs) h
  | a :: as, [], _, h => absurd (List.nil_lt_cons a as) h
  | a :: as, b :: bs, h1, h2 => by
    rw [List.cons_lt_cons_iff] at h1 h2
    have e : a = b := by
      rcases Nat.lt_trichotomy a b with z | z | z
      · exact absurd (.inl z) h1
      · exact z
      · exact absurd (.inl z) h2
    subst e
    rw [list_lt_tri as bs (fun z => h1 (.inr ⟨rfl, z⟩)) (fun z => h2 (.inr ⟨rfl, z⟩))]
theorem list_lt_irr : ∀ a : List Nat, ¬ a < a
  | [], h => by cases h
  | a :: as, h => by
    rw [List.cons_lt_cons_iff] at h
    rcases h with h | ⟨_, h⟩
    · (first | lia | omega)
    · exact list_lt_irr as h
theorem list_lt_trans : ∀ a b c : List Nat, a < b → b < c → a < c
  | [], _, [], _, h2 => by cases h2
  | [], _, c :: cs, _, _ => List.nil_lt_cons c cs
  | a :: as, [], _, h1, _ => by cases h1
  | a :: as, b :: bs, [], _, h2 => by cases h2
  | a :: as, b :: bs, c :: cs, h1, h2 => by
    rw [List.cons_lt_cons_iff] at *
    rcases h1 with h1 | ⟨e1, h1⟩
    · rcases h2 with h2 | ⟨e2, h2⟩
      · exact .inl (by (first | lia | omega))
      · exact .inl (by (first | lia | omega))
    · rcases h2 with h2 | ⟨e2, h2⟩
      · exact .inl (by (first | lia | omega))
      · exact .inr ⟨by (first | lia | omega), list_lt_trans as bs cs h1 h2⟩
theorem str_ext {x y : Str} (h : x.cps.toList = y.cps.toList) : x = y := by
  cases x
  cases y
  congr 1
  exact Array.toList_inj.mp h
theorem sto_str : Sto fun a b : Str => decide (a.cps.toList < b.cps.toList) := ⟨fun a => decide_eq_false (list_lt_irr _), fun a b c h1 h2 => decide_eq_true (list_lt_trans _ _ _ (of_decide_eq_true h1) (of_decide_eq_true h2)), fun a b h1 h2 => str_ext (list_lt_tri _ _ (of_decide_eq_false h1) (of_decide_eq_false h2))⟩
end
end Srd

namespace Stg
open PySem PyProof.Rows PySem.W Sts
end Stg

/-! strong sets of numbers; set(list) for any kind of set -/
namespace Stg
open PySem PyProof.Rows Sts
end Stg

/-! sorted(set(l)) and sorted(l), with all that can be said -/
namespace Srd
end Srd
namespace L2
open PySem PySem.Spec PyProof.Rows PySem.W Srd Sts Stg
end L2

namespace L2
open PySem PySem.Spec PyProof.Rows PySem.W Srd Sts Stg
end L2

/-! for x, y in zip(xs, ys) -/
namespace L2
open PySem PySem.Spec PyProof.Rows
end L2

/-! sorted(l) of tuples (int, str, int, int) and of ints: the same items, rising -/
namespace L2
open PySem PySem.Spec PyProof.Rows PySem.W Srd
section
variable {X : Cx}
theorem col_list {prog : Program} {w : World} {A : Around} {s : Shared} {l : Addr} {vs : List Value} (hl : s.heap.IsList l vs.toArray) (hn : vs.length ≤ 90000) {Q' : List Value → Shared → Prop} {E' : Value → Shared → Prop}
    (hq : ∀ (ys : List Value) (h' : Heap) (tk : Nat) (d : Drawn), (∀ b o, s.heap.get? b = some o → h'.get? b = some o) → ys = vs → ys.length ≤ 90000 → s.heap.objs.size ≤ h'.objs.size → Q' ys { s with heap := h', toks := tk, drawn := d }) : wpAny (model prog w) A (collect (.ref l)) Q' E' s := by
  refine collect_list hl ?_ (by rw [sizeLine_eq]; (first | lia | omega))
  refine hq _ _ s.toks s.drawn (fun b o e => ?_) rfl hn ?_
  · rw [Heap.get?_update_other _ _ (Nat.ne_of_gt (Heap.lt_size e))]
    exact Heap.get?_push_of_some _ e
  · rw [Heap.size_update, Heap.size_push]
    exact Nat.le_succ _
end
end L2

/-! range(a, b, 2) -/
namespace L2
open PySem PySem.Spec PyProof.Rows
end L2

namespace L2
open PySem PySem.Spec PyProof.Rows
end L2

/-! len(set(l)) of tuples (int, str, int, int): how many unlike ones -/
namespace L2
open PySem PySem.Spec PyProof.Rows PySem.W Srd Sts Stg
end L2

/-! sets of texts: sorted(set(l)) -/
namespace Stg
open PySem PyProof.Rows Sts
end Stg
namespace L2
open PySem PySem.Spec PyProof.Rows PySem.W Srd Sts Stg
end L2

/-! for x in reversed(l) -/
namespace L2
open PySem PySem.Spec PyProof.Rows
end L2

/-! forms in the heap, as lists of all that they hold; what their makers promise; kinds of groves -/
namespace Fg
open PySem L2 FgM
theorem pg_tupK {X : Cx} {K : PySem.W.Frag} {es : List Expr} {k : Nat} {t : TGs} {n : Nat} {pos : Pos} (hK : X.K = K) (hc : X.calm = true) (h : PGs X es t) (hn : (assignEach es X.env).length = n := by rfl) (hst : (assignEach es X.env).findIdx? (·.1) = none := by rfl) : PG X (.Tuple es k pos) (gTup K n t) := by
  subst hK
  exact pg_tup hc h hn hst
theorem bt_sorted : bootBuiltins "sorted" = some (.builtin "sorted") := by decide +kernel
theorem take_succ' {α : Type} {l : List α} {i : Nat} {x : α} (h : l[i]? = some x) : l.take (i + 1) = l.take i ++ [x] := by
  rw [List.take_add_one, h]
  rfl
theorem modN (x : Int) {n : Nat} (h : 0 < n) : ∃ k : Nat, x % (n : Int) = (k : Int) ∧ k < n := by
  have h1 := Int.emod_nonneg x (by (first | lia | omega) : (n : Int) ≠ 0)
  have h2 := Int.emod_lt_of_pos x (by (first | lia | omega) : (0 : Int) < (n : Int))
  obtain ⟨k, hk⟩ := Int.eq_ofNat_of_zero_le h1
  exact ⟨k, hk, by (first | lia | omega)⟩
/-! forms with all that is known of them -/
end Fg

namespace Fg
open PySem L2 FgM
/-! kinds of groves by a form; words gone through from the last one -/
end Fg

namespace Fg
open PySem L2 FgM
/-! lists of kinds, one for each rest of a row -/
/-! what the makers of words and forms promise -/
end Fg

/-! rows again and again -/
namespace Fg
open PySem L2 FgM
end Fg

/-! d.setdefault(k, x); sorted(d, reverse=True) of a dict with whole numbers as keys -/
namespace L2
open PySem PySem.Spec PyProof.Rows
end L2

/-! places of tags and of their ends; dicts by whole numbers -/
namespace Fg
open PySem L2 FgM
end Fg

namespace L2
open PySem PySem.Spec PyProof.Rows
end L2

/-! len of a dict; the place of a number in a list -/
namespace L2
open PySem PySem.Spec PyProof.Rows PySem.W
end L2

/-! pairs of numbers in order; sorted of a dict whose keys are such pairs -/
namespace Srd
open PySem PyProof.Rows Srt PySem.W
end Srd
namespace L2
open PySem PySem.Spec PyProof.Rows PySem.W Srd
end L2

/-! list(d): the keys of a dict, in its order -/
namespace L2
open PySem PySem.Spec PyProof.Rows PySem.W Srd
/-- tuples that are keys, one behind another -/
def KL (H : Hp) (ys : List V) (ks : List (List Key)) : Prop := Paired (fun z k => ∃ b, z = V.ref b ∧ H b = some (.tup (k.map kV))) ys ks
theorem keys_kl {H : Hp} {kvs : List (List Key × V)} {xs : List (List Key × Addr × Value)} (h : Paired (fun (p : List Key × V) (q : List Key × Addr × Value) => p.1 = q.1 ∧ H q.2.1 = some (.tup (p.1.map kV)) ∧ RelV p.2 q.2.2) kvs xs) : ∃ ys, Vals ys (xs.map fun x => Value.ref x.2.1) ∧ KL H ys (kvs.map (·.1)) := by
  induction h with
  | nil => exact ⟨[], .nil, .nil⟩
  | @cons p q l m r t ih =>
    obtain ⟨ys, h1, h2⟩ := ih
    exact ⟨.ref q.2.1 :: ys, .cons rfl h1, .cons ⟨q.2.1, rfl, r.2.1⟩ h2⟩
section
variable {X : Cx}
theorem items_keys {es : Array DictEntry} {acc : Array Value} (hit : ItemsOf (fun i v => ∃ e, es[i]? = some e ∧ v = e.key) acc es.size) : acc.toList = es.toList.map (·.key) := by
  refine List.ext_getElem? fun j => ?_
  rw [Array.getElem?_toList, List.getElem?_map, Array.getElem?_toList]
  cases hj : acc[j]? with
  | none =>
    have h3 : acc.size ≤ j := Array.getElem?_eq_none_iff.mp hj
    rw [hit.1] at h3
    rw [Array.getElem?_eq_none h3]
    rfl
  | some v =>
    obtain ⟨e, h1, rfl⟩ := hit.2 j v hj
    rw [h1]
    rfl
theorem call_list_dTk (hc : X.calm = true) : CallR X (.type "list") (fun xs H Q => ∃ (d : Addr) (kvs : List (List Key × V)), xs = [.ref d] ∧ H d = some (.dT kvs) ∧ ∀ l ys, H l = none → KL H ys (kvs.map (·.1)) → Q (.ref l) (upd H l (.lst ys))) := by
  intro pins s σ H xs us Q I r h
  obtain ⟨d, kvs, rfl, hd, q⟩ := h
  obtain ⟨u, rfl, rx⟩ := vals1 r
  obtain rfl : u = .ref d := rx
  obtain ⟨hl, lo, xs, rel, o, es, ep, ho, hx, hdat, hes, hnd⟩ := (show ObjOk X.prog X.w H s.heap d (.dT kvs) from I.hok d _ hd)
  obtain ⟨ys, rv, kl⟩ := keys_kl rel
  have hek : es.toList.map (·.key) = xs.map fun x => Value.ref x.2.1 := by
    rw [hes, List.map_map]
    rfl
  have hxl : kvs.length = xs.length := rel.length
  have hel : es.size = xs.length := by rw [← Array.length_toList, hes, List.length_map]
  have hyl := rv.length
  rw [List.length_map] at hyl
  refine kdl_call (raw_src lo) (I.ok.hd hc) (⟨o, ho, hx, hdat⟩ : RawD s.heap d es ep) (by rw [hel, ← hxl]; exact hl) fun h' tk acc c k e hit => ?_
  have hacc := items_keys hit
  have I2 := I.laid (h' := h') (t' := tk) (a := s.heap.objs.size) (o := .lst ys) k (Nat.le_refl _) (show ObjOk X.prog X.w _ h' _ (.lst ys) from ⟨by rw [hyl, ← hxl]; exact hl, acc.toList, c, by rw [hacc, hek]; exact rv, e⟩)
  exact ⟨.ref s.heap.objs.size, _, I2, rfl, q _ _ (I.hok.fresh (Nat.le_refl _)) kl⟩
end
end L2

/-! l.extend(d): the keys of a dict behind what l has -/
namespace L2
open PySem PySem.Spec PyProof.Rows PySem.W Srd
end L2

/-! for i, x in enumerate(tuple); min(list of ints) -/
namespace L2
open PySem PySem.Spec PyProof.Rows
end L2

/-! runs: the first rule at each tag -/
namespace Fg
open PySem L2 FgM
end Fg

/-! list.insert; a quad in a tuple of quads, and its place there -/
namespace L2
open PySem PySem.Spec PyProof.Rows Srd
end L2

/-! an own class called with arguments; isinstance of an own class -/
namespace L2
open PySem PySem.Spec PyProof.Rows
end L2

/-! sorted(set(l)) of a list of texts of any length, of which few are unlike -/
namespace Stg
open PySem PyProof.Rows Sts
end Stg
namespace L2
open PySem PySem.Spec PyProof.Rows PySem.W Srd Sts Stg
end L2
namespace L2
open PySem PySem.Spec PyProof.Rows
end L2
namespace L2
open PySem PySem.Spec PyProof.Rows
end L2

/-! the reader: its state, in the heap and as lists of pairs -/
namespace Fg
open PySem L2 FgM
/-! in the heap -/
/-! the promises of the reader's methods -/
end Fg

/-! what the laws of the reader build -/
namespace Fg
open PySem L2 FgM
end Fg
namespace L2
open PySem PySem.Spec PyProof.Rows
end L2
namespace L2
open PySem PySem.Spec PyProof.Rows
/-- is, is not of two bools -/
theorem op_isB {X : Cx} : OpR X (compareOp .Is) (fun x y H Q => ∃ a b, x = .bl a ∧ y = .bl b ∧ Q (.bl (decide (a = b))) H) := by
  intro pins s σ H x y v u Q I rx ry h
  obtain ⟨a, b, rfl, rfl, q⟩ := h
  cases rx
  cases ry
  cases a <;> cases b <;> exact wpAny_pure (fin_bl I q rfl)
end L2
namespace Fg
open PySem L2 FgM
end Fg
namespace Fg
open PySem L2 FgM
/-- a cut within a block whose parts have names -/
theorem via {u t : TS} {D : Ends} {σ : St} {H : Hp} (R : St → Hp → Prop) (h2 : ∀ σ' H', R σ' H' → t D σ' H') (h1 : (∀ σ' H', R σ' H' → t D σ' H') → u D σ H) : u D σ H := h1 h2
end Fg
namespace Fg
open PySem L2 FgM
end Fg

/-! sorted(list of pairs), sorted(list of texts) -/
namespace L2
open PySem PySem.Spec PyProof.Rows PySem.W Srd Sts Stg
end L2
namespace Fg
open PySem L2 FgM
end Fg
namespace Fg
open PySem L2 FgM
end Fg
namespace L2
open PySem PySem.Spec PyProof.Rows
/-! a display of many written numbers -/
end L2
namespace L2
open PySem PySem.Spec PyProof.Rows
end L2
namespace Fg
open PySem L2 FgM
end Fg

/-! sorted(set(l)) of a list of pairs of numbers; a pair in a list of pairs -/
namespace L2
open PySem PySem.Spec PyProof.Rows PySem.W Srd Sts Stg
end L2

/-! sum(list of ints) -/
namespace L2
open PySem PySem.Spec PyProof.Rows
end L2

/-! min(list of ints, default=d) -/
namespace L2
open PySem PySem.Spec PyProof.Rows PySem.SeqAt
end L2

/-! a grove under way: rows and tags that are open; one tag opened, one shut -/
namespace Fg
open PySem L2 FgM
/-! how many tags, how deep, what is within each -/
end Fg

/-! where the tags of a grove end; what stands at each place; how far two groves are apart -/
namespace Fg
open PySem L2 FgM
end Fg

/-! a tuple times an int; max(list of ints) -/
namespace L2
open PySem PySem.Spec PyProof.Rows
end L2

/-! a table: a list of lists of ints, each row a list of its own -/
namespace Fg
open PySem L2 FgM
end Fg

/-! how far groves are apart: steps, and what they tell -/
namespace Fg
open PySem L2 FgM
end Fg

/-! groves changed tree by tree; == of groves -/
namespace Fg
open PySem L2 FgM
end Fg

/-! dict(list of pairs) whose keys are tuples -/
namespace Srd
open PySem PyProof.Rows
end Srd
namespace L2
open PySem PySem.Spec PyProof.Rows PySem.W Srd
end L2

/-! pairs of a number and a text in order; sorted of a dict whose keys are such pairs -/
namespace Srd
open PySem PyProof.Rows Srt PySem.W
abbrev Ps := Int × Str
def psLt : Ps → Ps → Bool := lexB (fun a b : Int => decide (a < b)) fun a b : Str => decide (a.cps.toList < b.cps.toList)
theorem psLt_sto : Sto psLt := sto_int.lex sto_str
/-- such a tuple, as a value -/
def IsPs (h : Heap) (v : Value) (q : Ps) : Prop := ∃ a o t u n, v = .ref a ∧ h.get? a = some o ∧ o.cls = .type "tuple" ∧ o.data = .seq #[.int q.1 t, .str q.2 u] n
theorem IsPs.inj {h : Heap} {v : Value} {q q' : Ps} (x : IsPs h v q) (y : IsPs h v q') : q = q' := by
  obtain ⟨a, o, t, u, n, rfl, h1, _, h3⟩ := x
  obtain ⟨a', o', t', u', n', e, h1', _, h3'⟩ := y
  cases e
  rw [h1] at h1'
  cases h1'
  rw [h3] at h3'
  obtain ⟨q1, q2⟩ := q
  obtain ⟨r1, r2⟩ := q'
  simp only [Data.seq.injEq, Array.mk.injEq, List.cons.injEq, Value.int.injEq, Value.str.injEq, and_true] at h3'
  obtain ⟨⟨⟨e1, _⟩, ⟨e2, _⟩⟩, _⟩ := h3'
  rw [e1, e2]
theorem IsPs.keep {h h' : Heap} {v : Value} {q : Ps} (x : IsPs h v q) (k : ∀ b o, h.get? b = some o → h'.get? b = some o) : IsPs h' v q := by
  obtain ⟨a, o, t, u, n, rfl, h1, r⟩ := x
  exact ⟨a, o, t, u, n, rfl, k _ _ h1, r⟩
open Classical in
noncomputable def kps (h : Heap) (v : Value) : Ps := if x : ∃ q, IsPs h v q then x.choose else (0, Str.empty)
theorem kps_of {h : Heap} {v : Value} {q : Ps} (x : IsPs h v q) : kps h v = q := by
  unfold kps
  rw [dif_pos ⟨q, x⟩]
  exact (Exists.choose_spec (⟨q, x⟩ : ∃ q, IsPs h v q)).inj x
section
variable {prog : Program} {w : World} {A : Around} {s : Shared}
theorem pss_tups {h : Heap} : ∀ {vs : List Value}, (∀ v ∈ vs, ∃ q, IsPs h v q) → ∃ fs, KatTups h vs fs ∧ fs.length = vs.length ∧ ∀ f ∈ fs, ∃ i t, f = .int i t
  | [], _ => ⟨[], trivial, rfl, fun _ h => nomatch h⟩
  | v :: vs, hv => by
    obtain ⟨q, a, o, t, u, n, rfl, ho, hc, hd⟩ := hv v (List.mem_cons_self ..)
    obtain ⟨fs, kt, hl, hf⟩ := pss_tups (vs := vs) fun x hx => hv x (List.mem_cons_of_mem _ hx)
    refine ⟨.int q.1 t :: fs, KatTups.cons ho hc hd rfl kt, by simp [hl], fun f hm => ?_⟩
    rcases List.mem_cons.mp hm with rfl | hm
    · exact ⟨_, t, rfl⟩
    · exact hf f hm
theorem pss_sortableL {h0 : Heap} {vs : List Value} (hv : ∀ v ∈ vs, ∃ q, IsPs h0 v q) (k0 : ∀ b o, h0.get? b = some o → s.heap.get? b = some o) (h2 : 2 ≤ vs.length) : SortableL prog w A (fun u v => psLt (kps h0 u) (kps h0 v)) vs s := by
  have hv' : ∀ v ∈ vs, ∃ q, IsPs s.heap v q := fun v hm => let ⟨q, x⟩ := hv v hm; ⟨q, x.keep k0⟩
  obtain ⟨fs, k, hl, hf⟩ := pss_tups hv'
  refine ⟨tuples' true, fun Q E hq => ?_, ?_⟩
  · refine kat_kind (T := .type "int") k (by (first | lia | omega)) (fun v hm => ?_) rfl hq
    obtain ⟨i, t, rfl⟩ := hf v hm
    exact Looks.of_pure rfl
  · intro x y hx hy E
    rw [pairsOf_toList] at hx hy
    obtain ⟨q, xq⟩ := hv _ (mem_zip_self hx).2
    obtain ⟨q', yq⟩ := hv _ (mem_zip_self hy).2
    have e1 : (fun x y : Keyed => psLt (kps h0 x.1) (kps h0 y.1)) x y = psLt q q' := by
      show psLt (kps h0 x.1) (kps h0 y.1) = _
      have hx1 := (mem_zip_self hx)
      have hy1 := (mem_zip_self hy)
      rw [kps_of xq, kps_of yq]
    rw [e1]
    obtain ⟨a, o, t, u, n, e, ho, hc, hd⟩ := xq.keep k0
    obtain ⟨a', o', t', u', n', e', ho', hc', hd'⟩ := yq.keep k0
    rw [e, e']
    obtain ⟨q1, q2⟩ := q
    obtain ⟨r1, r2⟩ := q'
    refine kat_lt ho hd ho' hd' ?_
    have unf : psLt (q1, q2) (r1, r2) = (decide (q1 < r1) || (decide (q1 = r1) && decide (q2.cps.toList < r2.cps.toList))) := rfl
    rw [unf]
    refine kat_cons (wpAny_eqBool_int (kat_go (fun c1 => kat_yes ?_) (fun c1 => kat_no ?_)))
    · have c1' : q1 = r1 := eq_of_beq c1
      refine kat_cons (wpAny_eqBool_str (kat_go (fun c4 => kat_yes (kat_nil ⟨rfl, ?_⟩)) (fun c4 => kat_no ?_)))
      · have c4' : q2 = r2 := eq_of_beq c4
        subst c1' c4'
        simp [list_lt_irr]
      · refine kat_one _ _ (PyProof.Rows.lt_str ⟨rfl, ?_⟩)
        subst c1'
        simp
    · refine oneLt_int ⟨rfl, ?_⟩
      have c1' : ¬ q1 = r1 := fun z => by rw [z] at c1; simp at c1
      simp [c1']
end
end Srd
namespace L2
open PySem PySem.Spec PyProof.Rows PySem.W Srd
def tps (q : Ps) : HO := .tup [.int q.1, .str q.2]
def psK (q : Ps) : List Key := [Sum.inl q.1, Sum.inr q.2]
/-- pairs in the heap, one behind another -/
def PsL (H : Hp) (zs : List V) (qs : List Ps) : Prop := Paired (fun z q => ∃ p, z = V.ref p ∧ H p = some (tps q)) zs qs
theorem PsL.mem {H : Hp} : ∀ {zs : List V} {qs : List Ps}, PsL H zs qs → ∀ z ∈ zs, ∃ p, ∃ q ∈ qs, z = V.ref p ∧ H p = some (tps q)
  | _, _, .cons ⟨p, e1, e2⟩ t, z, hz => by
    rcases List.mem_cons.mp hz with rfl | hz
    · exact ⟨p, _, List.mem_cons_self .., e1, e2⟩
    · obtain ⟨p, q, hq, r⟩ := PsL.mem t z hz
      exact ⟨p, q, List.mem_cons_of_mem _ hq, r⟩
theorem PsL.length {H : Hp} : ∀ {zs : List V} {qs : List Ps}, PsL H zs qs → zs.length = qs.length
  | _, _, .nil => rfl
  | _, _, .cons _ t => by rw [List.length_cons, List.length_cons, PsL.length t]
theorem PsL.get {H : Hp} : ∀ {zs : List V} {qs : List Ps}, PsL H zs qs → ∀ (i : Nat) z, zs[i]? = some z → ∃ p q, qs[i]? = some q ∧ z = V.ref p ∧ H p = some (tps q)
  | _, _, .cons ⟨p, e1, e2⟩ t, i, z, hz => by
    cases i with
    | zero =>
      injection hz with hz
      subst hz
      exact ⟨p, _, rfl, e1, e2⟩
    | succ i => exact PsL.get t i z hz
theorem PsL.keep {H H' : Hp} : ∀ {zs : List V} {qs : List Ps}, PsL H zs qs → (∀ b xs, H b = some (.tup xs) → H' b = some (.tup xs)) → PsL H' zs qs
  | _, _, .nil, _ => .nil
  | _, _, .cons ⟨p, e1, e2⟩ t, k => .cons ⟨p, e1, k _ _ e2⟩ (PsL.keep t k)
theorem isPs_of {P : Program} {w : World} {H : Hp} {h : Heap} {t : Addr} {q : Ps} (ok : HOk P w H h) (e : H t = some (tps q)) : IsPs h (.ref t) q := by
  obtain ⟨_, us, rus, o, ho, hc', n, hd⟩ := ok t _ e
  obtain ⟨u1, us, rfl, r1, rus⟩ := Vals.inv rus
  obtain ⟨u2, us, rfl, r2, rus⟩ := Vals.inv rus
  obtain rfl := Vals.end_ rus
  obtain ⟨t1, rfl⟩ := r1
  obtain ⟨t2, rfl⟩ := r2
  exact ⟨t, o, t1, t2, n, rfl, ho, hc', hd⟩
theorem psl_sub {P : Program} {w : World} {H : Hp} {h0 : Heap} (ok : HOk P w H h0) {ys : List V} {its : List Value} {qs : List Ps} (rv : Vals ys its) (ql : PsL H ys qs) : ∀ us : List Value, (∀ u ∈ us, u ∈ its) → ∃ zs, Vals zs us ∧ PsL H zs (us.map (kps h0))
  | [], _ => ⟨[], .nil, .nil⟩
  | u :: us, h => by
    obtain ⟨y, hy, ry⟩ := vals_mem rv u (h u (List.mem_cons_self ..))
    obtain ⟨zs, rz, hz⟩ := psl_sub ok rv ql us fun x hx => h x (List.mem_cons_of_mem _ hx)
    obtain ⟨t, q, _, rfl, e2⟩ := ql.mem y hy
    have hu : u = Value.ref t := ry
    subst hu
    exact ⟨_, .cons ry rz, .cons ⟨t, rfl, by rw [kps_of (isPs_of ok e2)]; exact e2⟩ hz⟩
theorem kps_all {P : Program} {w : World} {H : Hp} {h0 : Heap} (ok : HOk P w H h0) : ∀ {ys : List V} {its : List Value} {qs : List Ps}, Vals ys its → PsL H ys qs → its.map (kps h0) = qs
  | _, _, _, .nil, .nil => rfl
  | _, _, _, .cons (b := u) r rr, .cons ⟨p, e1, e2⟩ t => by
    subst e1
    have hu : u = Value.ref p := r
    subst hu
    rw [List.map_cons, kps_all ok rr t, kps_of (isPs_of ok e2)]
/-- the keys of such a dict, in its object -/
theorem keys_psl {H : Hp} {kvs : List (List Key × V)} {xs : List (List Key × Addr × Value)} (h : Paired (fun (p : List Key × V) (q : List Key × Addr × Value) => p.1 = q.1 ∧ H q.2.1 = some (.tup (p.1.map kV)) ∧ RelV p.2 q.2.2) kvs xs) : ∀ {ps : List Ps}, kvs.map (·.1) = ps.map psK → ∃ ys, Vals ys (xs.map fun x => Value.ref x.2.1) ∧ PsL H ys ps := by
  induction h with
  | nil =>
    intro ps e
    cases ps with
    | nil => exact ⟨[], .nil, .nil⟩
    | cons n ns => cases e
  | @cons p q l m r t ih =>
    intro ps e
    cases ps with
    | nil => cases e
    | cons n ns =>
      rw [List.map_cons, List.map_cons] at e
      obtain ⟨e1, e2⟩ := List.cons.inj e
      obtain ⟨ys, h1, h2⟩ := ih e2
      refine ⟨.ref q.2.1 :: ys, .cons rfl h1, .cons ⟨q.2.1, rfl, ?_⟩ h2⟩
      have h3 := r.2.1
      rw [e1] at h3
      exact h3
section
variable {X : Cx}
theorem call_sorted_dPs (hc : X.calm = true) : CallR X (.builtin "sorted") (fun xs H Q => ∃ (d : Addr) (kvs : List (List Key × V)) (ps : List Ps), xs = [.ref d] ∧ H d = some (.dT kvs) ∧ kvs.length ≤ 90000 ∧ kvs.map (·.1) = ps.map psK ∧ ∀ (r : Addr) (zs : List V) (ms : List Ps), H r = none → ms.Perm ps → ms.Pairwise (fun a b => psLt b a = false) → PsL H zs ms → Q (.ref r) (upd H r (.lst zs))) := by
  intro pins s σ H xs us Q I r h
  obtain ⟨d, kvs, ps, rfl, hd, hlen, hkn, q⟩ := h
  obtain ⟨u, rfl, rx⟩ := vals1 r
  obtain rfl : u = .ref d := rx
  obtain ⟨z, lo, xs, rel, o, es, ep, ho, hx, hdat, hes, hnd⟩ := (show ObjOk X.prog X.w H s.heap d (.dT kvs) from I.hok d _ hd)
  obtain ⟨ys, rv, pl⟩ := keys_psl rel hkn
  have hek : es.toList.map (·.key) = xs.map fun x => Value.ref x.2.1 := by
    rw [hes, List.map_map]
    rfl
  have hxl : kvs.length = xs.length := rel.length
  have hel : es.size = xs.length := by rw [← Array.length_toList, hes, List.length_map]
  refine sorted_colL (lv := fun u v => psLt (kps s.heap u) (kps s.heap v)) (C := fun ys => ys = xs.map fun x => Value.ref x.2.1) (psLt_sto.swo (kps s.heap)) (fun Q' E' hq => ?_) (fun ys' h6 tk6 d6 hC k6 h2l => ?_) fun pa ys' out h3 tk3 d3 c hC hperm hso k3 e3 hle hos => ?_
  · refine collect_src (raw_src lo) (I.ok.hd hc) (⟨o, ho, hx, hdat⟩ : RawD s.heap d es ep) (by rw [sizeLine_eq]; (first | lia | omega)) fun acc h' tk kp hit hle => ?_
    have hacc : acc.toList = es.toList.map (·.key) := by
      refine List.ext_getElem? fun j => ?_
      rw [Array.getElem?_toList, List.getElem?_map, Array.getElem?_toList]
      cases hj : acc[j]? with
      | none =>
        have h3 : acc.size ≤ j := Array.getElem?_eq_none_iff.mp hj
        rw [hit.1] at h3
        rw [Array.getElem?_eq_none h3]
        rfl
      | some v =>
        obtain ⟨e, h1, rfl⟩ := hit.2 j v hj
        rw [h1]
        rfl
    rw [hacc, hek]
    exact hq _ h' tk s.drawn kp rfl (by rw [List.length_map]; (first | lia | omega)) hle
  · subst hC
    refine pss_sortableL (h0 := s.heap) (fun v hv => ?_) k6 h2l
    obtain ⟨y, hy, ry⟩ := vals_mem rv v hv
    obtain ⟨t, q1, _, rfl, e2⟩ := pl.mem y hy
    obtain rfl : v = Value.ref t := ry
    exact ⟨q1, isPs_of I.hok e2⟩
  · subst hC
    obtain ⟨zs, rz, hzq⟩ := psl_sub I.hok rv pl out.toList fun u hu => hperm.mem_iff.mp hu
    have hzl : zs.length = out.size := rz.length.trans (Array.length_toList ..)
    have hol : out.size = xs.length := by
      have := hperm.length_eq
      rw [Array.length_toList, List.length_map] at this
      exact this
    have I2 := I.laid (h' := h3) (t' := tk3) (a := pa) (o := .lst zs) (fun b o e => k3 b o e) hle (show ObjOk X.prog X.w _ h3 _ (.lst zs) from ⟨by rw [sizeLine_eq]; (first | lia | omega), out.toList, c, rz, e3⟩)
    refine ⟨.ref pa, _, I2.draws (d := d3), rfl, q pa zs _ (I.hok.fresh hle) ?_ (List.pairwise_map.mpr hso) hzq⟩
    rw [← kps_all I.hok rv pl]
    exact hperm.map _
end
end L2

/-! parts of changers in the heap, streams; text.index, list.index of a tuple -/
namespace L2
open PySem PySem.Spec PyProof.Rows PySem.W
end L2
namespace Fg
open PySem L2 FgM
/-- parts -/
inductive Pa where
  | nil
  | kids (m : Int) (o : Pa)
  | tag (t : Str) (w o : Pa)
inductive RepP (H : Hp) : List V → Pa → Prop
  | nil : RepP H [] .nil
  | kids {a : Addr} {m : Int} {vs : List V} {o : Pa} : H a = some (.tup [.str "kids", .int m]) → RepP H vs o → RepP H (.ref a :: vs) (.kids m o)
  | tag {a q : Addr} {t : Str} {ys vs : List V} {w o : Pa} : H a = some (.tup [.str "tag", .str t, .ref q]) → H q = some (.tup ys) → RepP H ys w → RepP H vs o → RepP H (.ref a :: vs) (.tag t w o)
theorem RepP.mono {H H' : Hp} (k : TK H H') : ∀ {vs : List V} {g : Pa}, RepP H vs g → RepP H' vs g
  | _, _, .nil => .nil
  | _, _, .kids h1 h2 => .kids (k _ _ h1) (h2.mono k)
  | _, _, .tag h1 h2 h3 h4 => .tag (k _ _ h1) (k _ _ h2) (h3.mono k) (h4.mono k)
namespace Pa
def app : Pa → Pa → Pa
  | .nil, q => q
  | .kids m o, q => .kids m (app o q)
  | .tag t w o, q => .tag t w (app o q)
def sz : Pa → Nat
  | .nil => 0
  | .kids _ o => 1 + sz o
  | .tag _ w o => 1 + sz w + sz o
def dep : Pa → Nat
  | .nil => 0
  | .kids _ o => dep o
  | .tag _ w o => max (dep w + 1) (dep o)
theorem dep_le : ∀ p : Pa, dep p ≤ sz p
  | .nil => Nat.le_refl _
  | .kids m o => by have := dep_le o; simp only [dep, sz]; (first | lia | omega)
  | .tag t w o => by have := dep_le w; have := dep_le o; simp only [dep, sz]; (first | lia | omega)
theorem sz_app : ∀ p q : Pa, sz (app p q) = sz p + sz q
  | .nil, q => by simp [app, sz]
  | .kids m o, q => by simp only [app, sz, sz_app o q]; (first | lia | omega)
  | .tag t w o, q => by simp only [app, sz, sz_app o q]; (first | lia | omega)
/-- the first i -/
def take : Nat → Pa → Pa
  | 0, _ => .nil
  | _ + 1, .nil => .nil
  | i + 1, .kids m o => .kids m (take i o)
  | i + 1, .tag t w o => .tag t w (take i o)
end Pa
theorem RepP.app {H : Hp} : ∀ {xs ys : List V} {p q : Pa}, RepP H xs p → RepP H ys q → RepP H (xs ++ ys) (p.app q)
  | _, _, _, _, .nil, h => h
  | _, _, _, _, .kids h1 h2, h => .kids h1 (h2.app h)
  | _, _, _, _, .tag h1 h2 h3 h4, h => .tag h1 h2 h3 (h4.app h)
theorem RepP.length {H : Hp} : ∀ {xs : List V} {p : Pa}, RepP H xs p → xs.length ≤ p.sz
  | _, _, .nil => Nat.le_refl _
  | _, _, .kids _ h => by have := h.length; simp only [Pa.sz, List.length_cons]; (first | lia | omega)
  | _, _, .tag _ _ _ h => by have := h.length; simp only [Pa.sz, List.length_cons]; (first | lia | omega)
theorem RepP.at {H : Hp} : ∀ {xs : List V} {p : Pa}, RepP H xs p → ∀ (i : Nat) z, xs[i]? = some z → ∃ a, z = V.ref a ∧ ((∃ m, H a = some (.tup [.str "kids", .int m]) ∧ p.take (i + 1) = (p.take i).app (Pa.kids m Pa.nil)) ∨ ∃ t q ys w, H a = some (.tup [.str "tag", .str t, .ref q]) ∧ H q = some (.tup ys) ∧ RepP H ys w ∧ p.take (i + 1) = (p.take i).app (Pa.tag t w Pa.nil) ∧ w.dep < p.dep ∧ w.sz < p.sz)
  | _, _, .kids h1 h2, i, z, hz => by
    cases i with
    | zero =>
      injection hz with hz
      subst hz
      exact ⟨_, rfl, .inl ⟨_, h1, rfl⟩⟩
    | succ i =>
      obtain ⟨a, e, h⟩ := h2.at i z hz
      refine ⟨a, e, ?_⟩
      rcases h with ⟨m, g1, g2⟩ | ⟨t, q, ys, w, g1, g2, g3, g4, g5, g6⟩
      · exact .inl ⟨m, g1, by show Pa.kids _ (Pa.take (i + 1) _) = Pa.kids _ ((Pa.take i _).app _); rw [g2]⟩
      · exact .inr ⟨t, q, ys, w, g1, g2, g3, by show Pa.kids _ (Pa.take (i + 1) _) = Pa.kids _ ((Pa.take i _).app _); rw [g4], g5, by simp only [Pa.sz]; (first | lia | omega)⟩
  | _, _, .tag h1 h2 h3 h4, i, z, hz => by
    cases i with
    | zero =>
      injection hz with hz
      subst hz
      exact ⟨_, rfl, .inr ⟨_, _, _, _, h1, h2, h3, rfl, by simp only [Pa.dep]; (first | lia | omega), by simp only [Pa.sz]; (first | lia | omega)⟩⟩
    | succ i =>
      obtain ⟨a, e, h⟩ := h4.at i z hz
      refine ⟨a, e, ?_⟩
      rcases h with ⟨m, g1, g2⟩ | ⟨t, q, ys, w, g1, g2, g3, g4, g5, g6⟩
      · exact .inl ⟨m, g1, by show Pa.tag _ _ (Pa.take (i + 1) _) = Pa.tag _ _ ((Pa.take i _).app _); rw [g2]⟩
      · exact .inr ⟨t, q, ys, w, g1, g2, g3, by show Pa.tag _ _ (Pa.take (i + 1) _) = Pa.tag _ _ ((Pa.take i _).app _); rw [g4], by simp only [Pa.dep]; (first | lia | omega), by simp only [Pa.sz]; (first | lia | omega)⟩
theorem RepP.take_all {H : Hp} : ∀ {xs : List V} {p : Pa}, RepP H xs p → p.take xs.length = p
  | _, _, .nil => rfl
  | _, _, .kids _ h => by show Pa.kids _ (Pa.take _ _) = _; rw [h.take_all]
  | _, _, .tag _ _ _ h => by show Pa.tag _ _ (Pa.take _ _) = _; rw [h.take_all]
theorem Pa.take_sz : ∀ (i : Nat) (p : Pa), (p.take i).sz ≤ p.sz
  | 0, _ => Nat.zero_le _
  | _ + 1, .nil => Nat.le_refl _
  | i + 1, .kids m o => by have := Pa.take_sz i o; simp only [Pa.take, Pa.sz]; (first | lia | omega)
  | i + 1, .tag t w o => by have := Pa.take_sz i o; simp only [Pa.take, Pa.sz]; (first | lia | omega)
theorem tagB_letsS {z : Str} (h : Lets z) (h8 : z.length ≤ 8) : tagB z = true := by
  have h1 : 1 ≤ z.length := by
    have : 0 < z.cps.toList.length := List.length_pos_iff.mpr h.1
    rw [Array.length_toList] at this
    exact this
  unfold tagB
  rw [decide_eq_true h1, decide_eq_true h8, Bool.true_and, Bool.true_and, List.all_eq_true]
  intro c hc
  have := h.2 c hc
  unfold azB
  simp; (first | lia | omega)
end Fg

/-! methods that may raise; isinstance of an exception, of any class -/
namespace L2
open PySem PySem.Spec PyProof.Rows PySem.W
theorem takes_no {X : Cx} : Takes X (fun _ _ _ _ => False) := fun _ _ _ _ _ _ _ _ _ _ _ h => h.elim
end L2
namespace L2
open PySem PySem.Spec PyProof.Rows
end L2
namespace L2
open PySem PySem.Spec PyProof.Rows
end L2

/-! for k in d: a dict by ints or texts, walked; it is held fast while it is walked -/
namespace L2
open PySem PySem.Spec PyProof.Rows PySem.W
end L2

/-! C() where the class has no __init__ of its own -/
namespace L2
open PySem PySem.Spec PyProof.Rows PySem.W
end L2

/-! a def with defaults -/
namespace L2
open PySem PySem.Spec PyProof.Rows
end L2

/-! what comes of a grove by a changer, in any sense; the changed grove, its tags and depth -/
namespace Fg
open PySem L2 FgM
end Fg
namespace Fg
open PySem L2 FgM
end Fg

/-! sorted(d, reverse=True) at any length; defs with defaults that may raise -/
namespace Srd
open PySem PyProof.Rows Srt PySem.W
end Srd
namespace L2
open PySem PySem.Spec PyProof.Rows PySem.W
end L2
namespace L2
open PySem PySem.Spec PyProof.Rows
end L2

/-! a text put into a text by its repr: f'{x!r}' -/
namespace L2
open PySem PySem.Spec PyProof.Rows
def tFvR (tv : TE) : TE := fun σ H Q => tv σ H fun v H1 => ∃ z, v = .str z ∧ (reprText z).length ≤ sizeLine ∧ Q (.str (reprText z)) H1
section
variable {X : Cx} {e : Expr} {te : TE} {pos : Pos}
theorem pe_fvr (he : PE X e te) : PE X (.FormattedValue e 114 none pos) (tFvR te) := by
  intro pins s σ H Q I h
  refine wpAny_FormattedValue_repr (thn (he pins s σ H _ I h) fun u s1 ⟨v, H1, I1, r, z, ev, hz, q⟩ => ?_)
  subst ev
  obtain ⟨tk, rfl⟩ := r
  refine pyReprObj_str ?_ hz
  exact formatField_str (fun t' tk => ⟨.str (reprText z), H1, (I1.tok _).tok _, ⟨_, rfl⟩, q⟩) hz
end
end L2

/-! a dict by tuples, walked; sorted of a list of pairs of a number and a text; range with any step -/
namespace L2
open PySem PySem.Spec PyProof.Rows PySem.W
section
variable {X : Cx} {pins : List (Addr × Obj)} {σ : St} {H : Hp} {s : Shared} {d : Addr} {ob : Obj} {kvs : List (List Key × V)}
theorem Inv.freezeT (I : Inv X pins σ H s) (hd : H d = some (.dT kvs)) (ho : s.heap.get? d = some ob) : Inv X pins σ (upd H d (.frz ob (.dT kvs))) s := by
  have q := I.hok d _ hd
  exact I.write (x := d) (e := d) (h' := s.heap) (t' := s.toks) (by rw [hd]; trivial) (.inl rfl) (fun b u _ q => q) ⟨ob, ho⟩ ⟨ho, q.stay (fun c v _ q => q) (fun c q => by rw [upd_ne (fun z => by rw [z, hd] at q; cases q)]; exact q) fun c xs q => by rw [upd_ne (fun z => by rw [z, hd] at q; cases q)]; exact q⟩
end
def ItdT (d : Addr) (ob : Obj) (kvs : List (List Key × V)) : It := ⟨fun i H => H d = some (.frz ob (.dT kvs)) ∧ i < kvs.length, fun i H x H' => H' = H ∧ ∃ k v b, kvs[i]? = some (k, v) ∧ x = .ref b ∧ H b = some (.tup (k.map kV)), fun i H => H d = some (.frz ob (.dT kvs)) ∧ kvs.length ≤ i⟩
theorem kt_at {H : Hp} {kvs : List (List Key × V)} {xs : List (List Key × Addr × Value)} (h : Paired (fun (p : List Key × V) (q : List Key × Addr × Value) => p.1 = q.1 ∧ H q.2.1 = some (.tup (p.1.map kV)) ∧ RelV p.2 q.2.2) kvs xs) : ∀ (i : Nat) (x : List Key × Addr × Value), xs[i]? = some x → ∃ k v, kvs[i]? = some (k, v) ∧ H x.2.1 = some (.tup (k.map kV)) := by
  induction h with
  | nil => intro i x e; cases i <;> cases e
  | @cons p q l m r t ih =>
    intro i x e
    cases i with
    | zero =>
      injection e with e
      subst e
      exact ⟨p.1, p.2, rfl, r.2.1⟩
    | succ i => exact ih i x e
theorem turn_dictT {P : Program} {w : World} {K : PySem.W.Frag} {tg : Expr} (d : Addr) (ob : Obj) (kvs : List (List Key × V)) (es : Array DictEntry) (ep : Nat) (hx : ob.ExactDict) (hdat : ob.data = .dict es ep) (hl : es.size = kvs.length) (it : Addr) :
    Turn P w K tg (ItdT d ob kvs) [it] it (fun i h => h.IsKeyIter it d i es.size ep) where
  mem := by simp
  obj := fun i h st b hb => by
    have e : b = it := by simpa using hb
    subst e
    obtain ⟨o, e, c, dd⟩ := st
    exact ⟨o, e, fun v z => by rw [dd] at z; cases z⟩
  keep := fun i h h' st k => st.at fun o e => k it (by simp) o e
  item := by
    intro X hP hw hK hc i pins s σ H E I hf st hg
    subst hP hw hK
    obtain ⟨hH, hi⟩ := hg
    obtain ⟨hob, z, lo, xs, rel, o2, es2, ep2, ho2, hx2, hdat2, hes2, hnd2⟩ := (show ObjOk X.prog X.w H s.heap d (.frz ob (.dT kvs)) from I.hok d _ hH)
    rw [hob] at ho2
    cases ho2
    rw [hdat] at hdat2
    cases hdat2
    have hi' : i < es.size := by (first | lia | omega)
    obtain ⟨f0, f1, f2, f3, f4, f5⟩ := hf it (by simp)
    refine raw_item st (⟨ob, hob, hx, hdat⟩ : RawD s.heap d es ep) hi' fun h' st' sb => ?_
    have I1 : Inv X pins σ H { s with heap := h' } := I.turned (t' := s.toks) (fun b o hb e => (sb.2 b hb).trans e) f0 f1 f3 f4 f5
    have hxi : i < xs.length := by
      have := rel.length
      (first | lia | omega)
    have hk : es[i].key = Value.ref xs[i].2.1 := by
      have e1 : es.toList[i]? = some es[i] := by simp
      rw [hes2, List.getElem?_map, List.getElem?_eq_getElem hxi] at e1
      injection e1 with e1
      rw [← e1]
      rfl
    obtain ⟨k, v, hkv, hb⟩ := kt_at rel i xs[i] (List.getElem?_eq_getElem hxi)
    obtain ⟨o, e, c, dd⟩ := id st'
    exact ⟨_, rfl, go_of (s := { s with heap := h' }) e c dd (by decide) ⟨.ref xs[i].2.1, H, I1, hk, ⟨rfl, k, v, _, hkv, rfl, hb⟩, st', fun b hb => (hf b hb).1⟩⟩
  done := by
    intro X hP hw hK hc i pins s σ H E I hf st hg
    subst hP hw hK
    obtain ⟨hH, hi⟩ := hg
    obtain ⟨hob, _⟩ := (show ObjOk X.prog X.w H s.heap d (.frz ob (.dT kvs)) from I.hok d _ hH)
    obtain ⟨f0, f1, f2, f3, f4, f5⟩ := hf it (by simp)
    exact raw_end (I.ok.hd hc) st (⟨ob, hob, hx, hdat⟩ : RawD s.heap d es ep) (by (first | lia | omega)) fun h' eb => ⟨rfl, I.turned (t' := s.toks) (fun b o hb e => eb b o hb e) f0 f1 f3 f4 f5⟩
  self := fun _ _ _ _ _ st h => wpAny_pyIter_keyiter st h
section
variable {X : Cx} {tg : Expr}
def iDictT (tl : TE) : TI := fun σ H R => tl σ H fun x H1 => ∃ d kvs, x = .ref d ∧ H1 d = some (.dT kvs) ∧ ∀ ob, R (ItdT d ob kvs) (upd H1 d (.frz ob (.dT kvs)))
theorem pi_dictT {l : Expr} {tl : TE} (hl : PE X l tl) : PI X tg l (iDictT tl) := by
  intro pins s σ H R I h
  refine thn (hl pins s σ H _ I h) fun v s1 ⟨x, H1, I1, r1, q1⟩ => ?_
  obtain ⟨d, kvs, e, hq, q⟩ := q1
  subst e
  cases r1
  obtain ⟨z, lo, xs, rel, ob, es, ep, ho, hx, hdat, hes, hnd⟩ := (show ObjOk X.prog X.w H1 s1.heap d (.dT kvs) from I1.hok d _ hq)
  have I2 := I1.freezeT hq ho
  have hel : es.size = kvs.length := by rw [← Array.length_toList, hes, List.length_map, rel.length]
  refine raw_iter lo (⟨ob, ho, hx, hdat⟩ : RawD s1.heap d es ep) ?_
  refine ⟨s1.heap.objs.size, [s1.heap.objs.size], _, _, _, rfl, I2.kept (t' := s1.toks) fun b o e => Heap.get?_push_of_some _ e, turn_dictT d ob kvs es ep hx hdat hel _, ⟨_, Heap.get?_push_size _ rfl, rfl, rfl⟩, fun b hb => ?_, q ob⟩
  have e : b = s1.heap.objs.size := by simpa using hb
  subst e
  exact I2.fpOk (Nat.le_refl _) (I2.hok.fresh (Nat.le_refl _))
end
/-- a comprehension over such a dict -/
theorem comp_dictT {d p : Addr} {ob : Obj} {kvs : List (List Key × V)} {g : TG} {te : TE} {R : Hp → Prop} {σ0 : St} {H0 : Hp} (Pv : Nat → List V → St → Hp → Prop) (h0 : Pv 0 [] σ0 H0)
    (hl : ∀ i ys σ H, i ≤ kvs.length → Pv i ys σ H → H d = some (.frz ob (.dT kvs)) ∧ H p = some (.lst ys))
    (hs : ∀ i ys k v b σ H, i < kvs.length → kvs[i]? = some (k, v) → H b = some (.tup (k.map kV)) → Pv i ys σ H → g (.ref b) σ H fun σ3 H4 => te σ3 H4 fun v H5 => H5 p = some (.lst ys) ∧ ys.length < sizeLine ∧ ∃ m', m' < kvs.length - i ∧ CW kvs.length Pv (i + 1) m' (ys ++ [v]) σ3 (upd H5 p (.lst (ys ++ [v]))))
    (hd : ∀ ys σ H, Pv kvs.length ys σ H → R H) :
    ∃ W : Nat → Nat → List V → St → Hp → Prop, (∃ m, W 0 m [] σ0 H0) ∧ ∀ i m ys σc H2, W i m ys σc H2 → H2 p = some (.lst ys) ∧ (((ItdT d ob kvs).stop i H2 ∧ R H2) ∨ ((ItdT d ob kvs).go i H2 ∧ ∀ x H3, (ItdT d ob kvs).yld i H2 x H3 → g x σc H3 fun σ3 H4 => te σ3 H4 fun v H5 =>
      H5 p = some (.lst ys) ∧ ys.length < sizeLine ∧ ∃ m', m' < m ∧ W (i + 1) m' (ys ++ [v]) σ3 (upd H5 p (.lst (ys ++ [v]))))) := by
  refine ⟨CW kvs.length Pv, ⟨_, rfl, Nat.zero_le _, h0⟩, ?_⟩
  rintro i m ys σ H ⟨rfl, hi, hp⟩
  obtain ⟨h1, h2⟩ := hl i ys σ H hi hp
  refine ⟨h2, ?_⟩
  by_cases hlt : i < kvs.length
  · refine .inr ⟨⟨h1, hlt⟩, ?_⟩
    rintro x H3 ⟨rfl, k, v, b, hk, rfl, hb⟩
    exact hs i ys k v b σ _ hlt hk hb hp
  · refine .inl ⟨⟨h1, by (first | lia | omega)⟩, hd ys σ H ?_⟩
    have e : i = kvs.length := by (first | lia | omega)
    rw [← e]
    exact hp
theorem DGet.tf {H : Hp} {a b : Addr} {ob : Obj} {kvs : List (List Key × V)} {k : List Key} (e : H a = some (.frz ob (.dT kvs))) (eb : H b = some (.tup (k.map kV))) : DGet H a (.ref b) (valV kvs k) := .inr ⟨kvs, k, b, .inr ⟨ob, e⟩, rfl, eb, rfl⟩
section
open Srd
variable {X : Cx}
theorem call_sorted_lPs (hc : X.calm = true) : CallR X (.builtin "sorted") (fun xs H Q => ∃ (l : Addr) (ys : List V) (ps : List Ps), xs = [.ref l] ∧ SqL X.K H l ys ∧ ys.length ≤ 90000 ∧ PsL H ys ps ∧ ∀ (r : Addr) (zs : List V) (ms : List Ps), H r = none → ms.Perm ps → ms.Pairwise (fun a b => psLt b a = false) → PsL H zs ms → Q (.ref r) (upd H r (.lst zs))) := by
  intro pins s σ H xs us Q I r h
  obtain ⟨l, ys, ps, rfl, hq, hlen, hpl, q⟩ := h
  obtain ⟨u, rfl, ru⟩ := vals1 r
  obtain rfl : u = .ref l := ru
  obtain ⟨its, rv, pl, hz⟩ := I.list hq
  have hl := rv.length
  refine sorted_colL (lv := fun u v => psLt (kps s.heap u) (kps s.heap v)) (C := fun ys => ys = its) (psLt_sto.swo (kps s.heap)) (fun Q' E' hq' => ?_) (fun ys' h6 tk6 d6 hC k6 h2l => ?_) fun pa ys' out h3 tk3 d3 c hC hperm hso k3 e3 hle hos => ?_
  · exact col_list pl.isList (by (first | lia | omega)) hq'
  · subst hC
    refine pss_sortableL (h0 := s.heap) (fun v hv => ?_) k6 h2l
    obtain ⟨y, hy, ry⟩ := vals_mem rv v hv
    obtain ⟨t, q1, _, rfl, e2⟩ := hpl.mem y hy
    obtain rfl : v = Value.ref t := ry
    exact ⟨q1, isPs_of I.hok e2⟩
  · subst hC
    obtain ⟨zs, rz, hzq⟩ := psl_sub I.hok rv hpl out.toList fun u hu => hperm.mem_iff.mp hu
    have hzl : zs.length = out.size := rz.length.trans (Array.length_toList ..)
    have I2 := I.laid (h' := h3) (t' := tk3) (a := pa) (o := .lst zs) (fun b o e => k3 b o e) hle (show ObjOk X.prog X.w _ h3 _ (.lst zs) from ⟨by rw [sizeLine_eq]; (first | lia | omega), out.toList, c, rz, e3⟩)
    refine ⟨.ref pa, _, I2.draws (d := d3), rfl, q pa zs _ (I.hok.fresh hle) ?_ (List.pairwise_map.mpr hso) hzq⟩
    rw [← kps_all I.hok rv hpl]
    exact hperm.map _
end
theorem small_stepS {a b c : Int} (ha : -1000000 ≤ a) (ha' : a ≤ 1000000) (hb : -1000000 ≤ b) (hb' : b ≤ 1000000) (hc : 0 < c) (hc' : c ≤ 1000) : Builtin.Range.small a b c = true := by
  unfold Builtin.Range.small Builtin.Range.rangeSize
  simp only [Builtin.Range.rangeFitsLong, Bool.and_eq_true, Bool.or_eq_true, decide_eq_true_eq, beq_iff_eq]
  simp only [show c > 0 from hc, if_true]
  have h1 : a < b → 0 ≤ (b - a - 1) / c := fun z => Int.ediv_nonneg (by (first | lia | omega)) (by (first | lia | omega))
  have h2 : a < b → (b - a - 1) / c ≤ b - a - 1 := fun z => Int.ediv_le_self _ (by (first | lia | omega))
  split <;> refine ⟨⟨⟨⟨⟨?_, ?_⟩, ?_, ?_⟩, by (first | lia | omega), by (first | lia | omega)⟩, ?_, ?_⟩, ?_⟩ <;> first | (first | lia | omega) | (right; simp; (first | lia | omega)) | (left; rfl)
def iRngS (ta : TA) : TI := fun σ H R => ta σ H fun vs H1 => ∃ a b c : Int, vs = [.int a, .int b, .int c] ∧ (-1000000 ≤ a ∧ a ≤ 1000000 ∧ -1000000 ≤ b ∧ b ≤ 1000000) ∧ (0 < c ∧ c ≤ 1000) ∧ R (Itst a c (Builtin.Range.rangeSize a b c).toNat) H1
section
variable {X : Cx} {tg : Expr}
theorem pi_rangeS {a b c : Expr} {ta : TA} {p pos : Pos} (hg : Gl X "range") (hm : X.mg "range" = none) (ha : PA X [a, b, c] ta) (hs : starEach [a, b, c] X.env = [(false, eval a X.env), (false, eval b X.env), (false, eval c X.env)] := by rfl)
    (hs2 : starEach [b, c] X.env = [(false, eval b X.env), (false, eval c X.env)] := by rfl) (hs3 : starEach [c] X.env = [(false, eval c X.env)] := by rfl) : PI X tg (.Call (.Name "range" p) [a, b, c] [] pos) (iRngS ta) := by
  intro pins s σ H R I h
  refine Call_ (ld_blt I hg hm boot_range (PyProof.Rows.callWith_type1 (thn (ha pos pins s σ H _ I h) fun us s1 ⟨vs, H1, I1, r1, q1⟩ => ?_) (by rw [hs, hs2]) (by rw [hs2]; rfl)))
  obtain ⟨x, y, z, e, ⟨q1, q2, q3, q4⟩, ⟨hz, hz'⟩, q⟩ := q1
  subst e
  have hz0 : z ≠ 0 := by (first | lia | omega)
  have hzs : z.natAbs < 1073741824 := by (first | lia | omega)
  cases r1 with
  | cons r rr =>
    cases rr with
    | cons r2 rr =>
      cases rr with
      | cons r3 rr =>
        cases rr
        obtain ⟨t, rfl⟩ := r
        obtain ⟨t2, rfl⟩ := r2
        obtain ⟨t3, rfl⟩ := r3
        refine call_range_3 hz0 ?_ (.inl (PyProof.noPylong_small hzs))
        refine wpAny_pyIter_range (IsRange.new ..) (small_stepS q1 q2 q3 q4 hz hz') ?_
        have I2 : Inv X pins σ H1 { s1 with heap := s1.heap.push { cls := .type "range", data := .fields #[.int x t, .int y t2, .int z t3] } } := I1.kept (t' := s1.toks) fun b o e => Heap.get?_push_of_some _ e
        refine ⟨_, [_], _, _, H1, rfl, I2.kept (t' := s1.toks) fun b o e => Heap.get?_push_of_some _ e, turn_steps _ x z (Builtin.Range.rangeSize x y z).toNat, ?_, fun b hb => ?_, q⟩
        · have hn : 0 ≤ Builtin.Range.rangeSize x y z := by
            unfold Builtin.Range.rangeSize
            rw [if_pos hz]
            split
            · have := Int.ediv_nonneg (a := y - x - 1) (b := z) (by (first | lia | omega)) (by (first | lia | omega))
              (first | lia | omega)
            · (first | lia | omega)
          show IsRangeIter _ _ (x + ((0 : Nat) : Int) * z) (((Builtin.Range.rangeSize x y z).toNat : Int) - ((0 : Nat) : Int)) z
          rw [Int.toNat_of_nonneg hn, show x + ((0 : Nat) : Int) * z = x by simp, show Builtin.Range.rangeSize x y z - ((0 : Nat) : Int) = Builtin.Range.rangeSize x y z by simp]
          exact Heap.get?_push_size _ rfl
        · obtain rfl := List.mem_singleton.mp hb
          exact I2.fpOk (Nat.le_refl _) (I2.hok.fresh (Nat.le_refl _))
end
end L2
/-! a statement with a deep display, shut: pss_one would unfold it all -/
namespace L2
open PySem PySem.Spec PyProof.Rows
@[irreducible] def PSi (X : Cx) (st : Stmt) (t : TS) : Prop := PS X st t
@[irreducible] def PSsi (X : Cx) (ss : List Stmt) (t : TS) : Prop := PSs X ss t
section
variable {X : Cx}
theorem pssi_one {st : Stmt} {t : TS} (h : PSi X st t) : PSsi X [st] t := by
  unfold PSi at h
  unfold PSsi
  exact pss_one h
theorem pssi_cons {st : Stmt} {ss : List Stmt} {t u : TS} (h : PSi X st t) (k : PSs X ss u) : PSsi X (st :: ss) (tSeq t u) := by
  unfold PSi at h
  unfold PSsi
  exact pss_cons h k
theorem psi_set {i : Nat} {x : Str} {e : Expr} {te : TE} {pos pos' : Pos} (hN : X.N.Nodup) (hi : X.N[i]? = some x) (hx : Loc X.env.scope x) (he : PEi X e te) (hs : swapsWith e (some (.Name x pos')) pos.line X.env = pure false := by rfl) (hf : X.fn x = true ∨ X.env.scope.names.lookup x = some .local := by first | exact .inl rfl | exact .inr rfl | assumption) : PSi X (.Assign [.Name x pos'] e pos) (tAsg te (gName i)) := by
  unfold PSi
  exact ps_set hN hi hx he.to hs hf
theorem psi_for {tg iter : Expr} {body : List Stmt} {wi : TI} {g : TG} {tb : TS} {pos : Pos} (hp : PassesOwn (model X.prog X.w) X.A X.env X.xe) (hc : X.calm = true) (hi : PI X tg iter wi) (hg : PG X tg g) (hb : PSsi X body tb)
    (hs : ∀ x, foldedSetIterable iter X.env x = pure x := by intro _; rfl) : PSi X (.For tg iter body [] pos) (tFor wi g tb) := by
  unfold PSsi at hb
  unfold PSi
  exact ps_for hp hc hi hg hb hs
theorem hideS {b : List Stmt} {D : Ends} {σ : St} {H : Hp} (s : List Stmt) {t : TS} (h : PSsi X s t) (k : ∀ u, PSsi X s u → u = t → ∃ t, PSs X b t ∧ t D σ H) : ∃ t, PSs X b t ∧ t D σ H := k t h rfl
theorem pai_strs {es : List Expr} {ss : List Str} (h : strsOf es = some ss := by rfl) : PAi X es (tStrs ss) := .of (pa_strs h)
theorem endS {b : List Stmt} {D : Ends} {σ : St} {H : Hp} {u : TS} (h : PSsi X b u) (q : u D σ H) : ∃ t, PSs X b t ∧ t D σ H := ⟨u, by unfold PSsi at h; exact h, q⟩
theorem psst_cons {st : Stmt} {ss : List Stmt} {t u : TS} (h : PS X st t) (k : PSsi X ss u) : PSs X (st :: ss) (tSeq t u) := by
  unfold PSsi at k
  exact pss_cons h k
end
end L2

namespace K71
open PySem L2 FgM Fg
def top (i : Nat) : Stmt := PySem.Challenge.pw_formgrove_k71_a_changer_made.main.body.getD i (.Pass ⟨0, 0, 0, 0⟩)
abbrev s_is_tag : Stmt := top 18
abbrev s_changer : Stmt := top 21
abbrev s_refuse_bad_part : Stmt := top 22
abbrev s_all_parts : Stmt := top 23
abbrev s_l_cell_at : Stmt := top 25
abbrev s_l_whole : Stmt := top 26
abbrev s_l_numbers : Stmt := top 27
abbrev s_l_tag : Stmt := top 28
abbrev s_l_parts : Stmt := top 29
abbrev s_l_rules : Stmt := top 30
abbrev s_l_bad_part : Stmt := top 31
abbrev s_l_spoiled : Stmt := top 32
abbrev s_l_right_parts : Stmt := top 33
abbrev s_l_right : Stmt := top 34
abbrev s_l_refused : Stmt := top 35
abbrev s_law : Stmt := top 36
theorem sc_is_tag : FnScope ["text"] ["text"] (defScope s_is_tag) := ⟨rfl, rfl, rfl, by decide +kernel, rfl, by decide +kernel, by decide +kernel⟩
theorem sc_changer : FnScope ["modes", "rules", "known", "mode", "tag", "parts", "part"] ["modes", "rules"] (defScope s_changer) := ⟨rfl, rfl, rfl, by decide +kernel, rfl, by decide +kernel, by decide +kernel⟩
theorem sc_refuse_bad_part : FnScope ["modes", "part", "mode", "tag"] ["modes", "part"] (defScope s_refuse_bad_part) := ⟨rfl, rfl, rfl, by decide +kernel, rfl, by decide +kernel, by decide +kernel⟩
theorem sc_all_parts : FnScope ["parts", "found", "part"] ["parts"] (defScope s_all_parts) := ⟨rfl, rfl, rfl, by decide +kernel, rfl, by decide +kernel, by decide +kernel⟩
theorem sc_l_cell_at : FnScope ["_law_script", "_law_k"] ["_law_script", "_law_k"] (defScope s_l_cell_at) := ⟨rfl, rfl, rfl, by decide +kernel, rfl, by decide +kernel, by decide +kernel⟩
theorem sc_l_whole : FnScope ["_law_found"] ["_law_found"] (defScope s_l_whole) := ⟨rfl, rfl, rfl, by decide +kernel, rfl, by decide +kernel, by decide +kernel⟩
theorem sc_l_numbers : FnScope ["_law_script", "_law_first", "_law_many", "_law_found", "_law_number", "_law_k", "_law_cell"] ["_law_script", "_law_first", "_law_many"] (defScope s_l_numbers) := ⟨rfl, rfl, rfl, by decide +kernel, rfl, by decide +kernel, by decide +kernel⟩
theorem sc_l_tag : FnScope ["_law_number", "_law_some", "_law_tag_here", "_law_k"] ["_law_number"] (defScope s_l_tag) := ⟨rfl, rfl, rfl, by decide +kernel, rfl, by decide +kernel, by decide +kernel⟩
theorem sc_l_parts : FnScope ["_law_numbers_here", "_law_modes", "_law_names", "_law_rows", "_law_kids", "_law_number", "_law_turn", "_law_inner"] ["_law_numbers_here", "_law_modes"] (defScope s_l_parts) := ⟨rfl, rfl, rfl, by decide +kernel, rfl, by decide +kernel, by decide +kernel⟩
theorem sc_l_rules : FnScope ["_law_numbers_here", "_law_modes", "_law_known", "_law_k", "_law_pair", "_law_last", "_law_rules_here", "_law_turn"] ["_law_numbers_here", "_law_modes"] (defScope s_l_rules) := ⟨rfl, rfl, rfl, by decide +kernel, rfl, by decide +kernel, by decide +kernel⟩
theorem sc_l_bad_part : FnScope ["_law_modes", "_law_cell", "_law_some", "_law_part", "_law_turn"] ["_law_modes", "_law_cell"] (defScope s_l_bad_part) := ⟨rfl, rfl, rfl, by decide +kernel, rfl, by decide +kernel, by decide +kernel⟩
theorem sc_l_spoiled : FnScope ["_law_modes", "_law_rules_here", "_law_cell", "_law_way", "_law_at", "_law_mode", "_law_tag_here", "_law_parts_here", "_law_rule", "_law_cut", "_law_other", "_law_double"] ["_law_modes", "_law_rules_here", "_law_cell"] (defScope s_l_spoiled) := ⟨rfl, rfl, rfl, by decide +kernel, rfl, by decide +kernel, by decide +kernel⟩
theorem sc_l_right_parts : FnScope ["_law_found", "_law_part"] ["_law_found"] (defScope s_l_right_parts) := ⟨rfl, rfl, rfl, by decide +kernel, rfl, by decide +kernel, by decide +kernel⟩
theorem sc_l_right : FnScope ["_law_found", "_law_modes", "_law_rules_here", "_law_rule", "_law_pairs", "_law_mode", "_law_tag_here", "_law_parts_here"] ["_law_found", "_law_modes", "_law_rules_here"] (defScope s_l_right) := ⟨rfl, rfl, rfl, by decide +kernel, rfl, by decide +kernel, by decide +kernel⟩
theorem sc_l_refused : FnScope ["_law_modes", "_law_rules_here", "_law_told", "e"] ["_law_modes", "_law_rules_here"] (defScope s_l_refused) := ⟨rfl, rfl, rfl, by decide +kernel, rfl, by decide +kernel, by decide +kernel⟩
theorem sc_law : FnScope ["_law_script", "_law_first", "_law_modes", "_law_rules_here", "_law_many", "_law_some", "_law_handed", "_law_found"] ["_law_script"] (defScope s_law) := ⟨rfl, rfl, rfl, by decide +kernel, rfl, by decide +kernel, by decide +kernel⟩
structure XC (K : PySem.W.Frag) (mg : Str → Option Value) (X_GroveError X_NoGrove X_BadForm X_TooMany X_TooBig X_NoneFits X_NoBook X_TwiceNamed X_NoName X_Ring X_BadChanger X_NoRecipe X_NotStraight X_NoChange X_NoRow : Addr) : Prop where
  n_GroveError : mg "GroveError" = some (.ref X_GroveError)
  n_NoGrove : mg "NoGrove" = some (.ref X_NoGrove)
  n_BadForm : mg "BadForm" = some (.ref X_BadForm)
  n_TooMany : mg "TooMany" = some (.ref X_TooMany)
  n_TooBig : mg "TooBig" = some (.ref X_TooBig)
  n_NoneFits : mg "NoneFits" = some (.ref X_NoneFits)
  n_NoBook : mg "NoBook" = some (.ref X_NoBook)
  n_TwiceNamed : mg "TwiceNamed" = some (.ref X_TwiceNamed)
  n_NoName : mg "NoName" = some (.ref X_NoName)
  n_Ring : mg "Ring" = some (.ref X_Ring)
  n_BadChanger : mg "BadChanger" = some (.ref X_BadChanger)
  n_NoRecipe : mg "NoRecipe" = some (.ref X_NoRecipe)
  n_NotStraight : mg "NotStraight" = some (.ref X_NotStraight)
  n_NoChange : mg "NoChange" = some (.ref X_NoChange)
  n_NoRow : mg "NoRow" = some (.ref X_NoRow)
  bas : XBas K X_GroveError
  isG : PySem.W.isClsIn K X_GroveError = true
  tyG : PySem.W.typeIn K (.ref X_GroveError) = some (.type "type")
  c_GroveError : XCl K X_GroveError
  c_NoGrove : XCl K X_NoGrove
  c_BadForm : XCl K X_BadForm
  c_TooMany : XCl K X_TooMany
  c_TooBig : XCl K X_TooBig
  c_NoneFits : XCl K X_NoneFits
  c_NoBook : XCl K X_NoBook
  c_TwiceNamed : XCl K X_TwiceNamed
  c_NoName : XCl K X_NoName
  c_Ring : XCl K X_Ring
  c_BadChanger : XCl K X_BadChanger
  c_NoRecipe : XCl K X_NoRecipe
  c_NotStraight : XCl K X_NotStraight
  c_NoChange : XCl K X_NoChange
  c_NoRow : XCl K X_NoRow
  top_BadChanger : XTop K X_BadChanger X_GroveError
  ini_BadChanger : PySem.W.findIn K (.ref X_BadChanger) "__init__" = some (some (.builtin "ValueError.__init__"))
  mV_BadChanger : PySem.W.mroIn K X_BadChanger (.type "ValueError") = some true
  ne_BadChanger : X_BadChanger ≠ X_GroveError
  m_BadChanger_GroveError : PySem.W.mroIn K X_BadChanger (.ref X_GroveError) = some true
  m_BadChanger_NoGrove : PySem.W.mroIn K X_BadChanger (.ref X_NoGrove) = some false
  m_BadChanger_BadForm : PySem.W.mroIn K X_BadChanger (.ref X_BadForm) = some false
  m_BadChanger_TooMany : PySem.W.mroIn K X_BadChanger (.ref X_TooMany) = some false
  m_BadChanger_TooBig : PySem.W.mroIn K X_BadChanger (.ref X_TooBig) = some false
  m_BadChanger_NoneFits : PySem.W.mroIn K X_BadChanger (.ref X_NoneFits) = some false
  m_BadChanger_NoBook : PySem.W.mroIn K X_BadChanger (.ref X_NoBook) = some false
  m_BadChanger_TwiceNamed : PySem.W.mroIn K X_BadChanger (.ref X_TwiceNamed) = some false
  m_BadChanger_NoName : PySem.W.mroIn K X_BadChanger (.ref X_NoName) = some false
  m_BadChanger_Ring : PySem.W.mroIn K X_BadChanger (.ref X_Ring) = some false
  m_BadChanger_BadChanger : PySem.W.mroIn K X_BadChanger (.ref X_BadChanger) = some true
  m_BadChanger_NoRecipe : PySem.W.mroIn K X_BadChanger (.ref X_NoRecipe) = some false
  m_BadChanger_NotStraight : PySem.W.mroIn K X_BadChanger (.ref X_NotStraight) = some false
  m_BadChanger_NoChange : PySem.W.mroIn K X_BadChanger (.ref X_NoChange) = some false
  m_BadChanger_NoRow : PySem.W.mroIn K X_BadChanger (.ref X_NoRow) = some false
abbrev blts : List Str := ["ValueError", "all", "bool", "int", "isinstance", "len", "list", "max", "min", "range", "reversed", "sorted", "str", "tuple"]
section
variable {P : Program} {w : World} {K : PySem.W.Frag} {mg : Str → Option Value} {base : Heap} {f : Addr} {fd : FuncData} {X_GroveError X_NoGrove X_BadForm X_TooMany X_TooBig X_NoneFits X_NoBook X_TwiceNamed X_NoName X_Ring X_BadChanger X_NoRecipe X_NotStraight X_NoChange X_NoRow : Addr}
theorem ok_is_tag (B : ∀ x ∈ blts, mg x = none) (Cc : ∃ t : Tok, mg "LONGEST_TAG" = some (.int 8 t)) (F : Fun K "is_tag" "is_tag" s_is_tag f fd) : FnOk P w K mg base CX0 1 f fd ["text"] spIsTag := by
  refine F.ok sc_is_tag (fun vs H Q E h => ?_) (fun cdv A outer s H vs Q E hr h => ?_)
  · obtain ⟨z, rfl, _⟩ := h
    rfl
  obtain ⟨z, rfl, hz, q⟩ := h
  obtain ⟨t8, c_LONGEST_TAG⟩ := Cc
  unfold tagB at q
  refine ⟨_, (pss_one (ps_ret (pe_and (pe_chain op_le op_le pe_int (pe_callB call_len_str rfl (B "len" (by decide)) PySem.boot_len (pa_cons (pv 0) pa_nil)) (pe_glob (v := .int 8) rfl c_LONGEST_TAG ⟨_, rfl⟩)) (pe_one (pe_callB (call_all rfl) rfl (B "all" (by decide)) bt_all (pa_cons (pe_comp_az (pv 0) rfl (by decide) (by decide) rfl (by decide) rfl (by decide) (fun _ => rfl)) pa_nil)))))), ?_⟩
  refine ⟨_, rfl, z, rfl, len1000 (by (first | lia | omega)), _, _, rfl, rfl, _, rfl, ?_⟩
  refine ite2 (fun c => ?_) (fun c => ?_)
  · have c1 : 1 ≤ z.length := by
      have := of_decide_eq_true c
      (first | lia | omega)
    rw [decide_eq_true c1, Bool.true_and] at q
    refine ⟨_, _, rfl, rfl, _, rfl, ?_⟩
    refine ite2 (fun c => ?_) (fun c => ?_)
    · have c2 : z.length ≤ 8 := by
        have := of_decide_eq_true c
        (first | lia | omega)
      rw [decide_eq_true c2, Bool.true_and] at q
      refine ⟨_, rfl, z, rfl, len1000 (by (first | lia | omega)), fun p hp => ⟨p, z.cps.toList.map azB, rfl, SqL.of ?_, ?_⟩⟩
      · rw [upd_same, List.map_map]
        rfl
      · have e : (z.cps.toList.map azB).all id = z.cps.toList.all azB := by
          rw [List.all_map]
          rfl
        rw [e]
        exact q _ (Same.new hp)
    · have c2 : ¬ z.length ≤ 8 := fun h => c (decide_eq_true (by show ((z.length : Nat) : Int) ≤ 8; (first | lia | omega)))
      rw [decide_eq_false c2, Bool.false_and] at q
      exact q H (Same.refl H)
  · have c1 : ¬ 1 ≤ z.length := fun h => c (decide_eq_true (by show (1 : Int) ≤ ((z.length : Nat) : Int); (first | lia | omega)))
    rw [decide_eq_false c1, Bool.false_and, Bool.false_and] at q
    exact ⟨_, rfl, iteF (q H (Same.refl H))⟩
theorem ok_l_cell_at (B : ∀ x ∈ blts, mg x = none) (F : Fun K "_law_cell_at" "_law_cell_at" s_l_cell_at f fd) : FnOk P w K mg base CX0 1 f fd ["_law_script", "_law_k"] (spCell K) := by
  refine F.ok sc_l_cell_at (fun vs H Q E h => ?_) (fun cdv A outer s H vs Q E hr h => ?_)
  · obtain ⟨a, ns, k, rfl, _⟩ := h
    rfl
  obtain ⟨a, ns, k, rfl, hS, h63, h0, q⟩ := h
  refine ⟨_, (pss_cons (ps_if (pt_cmpR op_lt (pv 1) (pe_callB call_len_seq rfl (B "len" (by decide)) PySem.boot_len (pa_cons (pv 0) pa_nil)) (nomark _))
      (pss_one (ps_ret (pe_ix ix_list (pv 0) (pv 1) (fun _ _ => rfl))))
      pss_nil)
    (pss_one (ps_ret pe_int))), ?_⟩
  refine ⟨_, rfl, _, rfl, a, _, rfl, .inl hS, _, _, rfl, rfl, _, rfl, ?_⟩
  refine ite2 (fun c => ?_) (fun c => ?_)
  · have c' := of_decide_eq_true c
    rw [List.length_map] at c'
    obtain ⟨v, hv⟩ := ints_at (ns := ns) h0 c'
    exact ⟨_, rfl, _, rfl, a, _, k, _, rfl, rfl, hS, hv, q v⟩
  · exact q 0
/-- a part of the one sort or the other -/
def PtV (H : Hp) (z : V) (x : Int ⊕ Str) : Prop := match x with | .inl m => ∃ a, z = .ref a ∧ H a = some (.tup [.str "kids", .int m]) | .inr t => ∃ a q, z = .ref a ∧ H a = some (.tup [.str "tag", .str t, .ref q])
def PtL (H : Hp) (zs : List V) (xs : List (Int ⊕ Str)) : Prop := Paired (PtV H) zs xs
theorem PtL.tk {H H' : Hp} (k : TK H H') : ∀ {zs : List V} {xs : List (Int ⊕ Str)}, PtL H zs xs → PtL H' zs xs
  | _, _, .nil => .nil
  | _, _, .cons (b := x) r t => .cons (by
      cases x with
      | inl m => obtain ⟨a, e, h⟩ := r; exact ⟨a, e, k _ _ h⟩
      | inr t' => obtain ⟨a, q, e, h⟩ := r; exact ⟨a, q, e, k _ _ h⟩) (PtL.tk k t)
def allP : Pa → List (Int ⊕ Str)
  | .nil => []
  | .kids m o => .inl m :: allP o
  | .tag t w o => .inr t :: (allP w ++ allP o)
theorem allP_app : ∀ p q : Pa, allP (p.app q) = allP p ++ allP q
  | .nil, q => rfl
  | .kids m o, q => by simp [Pa.app, allP, allP_app o q]
  | .tag t w o, q => by simp [Pa.app, allP, allP_app o q]
theorem allP_len : ∀ p : Pa, (allP p).length = p.sz
  | .nil => rfl
  | .kids m o => by simp [allP, Pa.sz, allP_len o]; (first | lia | omega)
  | .tag t w o => by simp [allP, Pa.sz, allP_len w, allP_len o]; (first | lia | omega)
def spAllP (d : Nat) : Sp := fun vs H Q _ => ∃ (q : Addr) (ys : List V) (p : Pa), vs = [.ref q] ∧ H q = some (.tup ys) ∧ RepP H ys p ∧ p.dep < d ∧ p.sz ≤ 1000 ∧ ∀ (r : Addr) (zs : List V) (H' : Hp), Same H H' → H r = none → H' r = some (.lst zs) → PtL H' zs (allP p) → Q (.ref r) H'
set_option maxHeartbeats 2000000 in
theorem ok_all_parts (d : Nat) (B : ∀ x ∈ blts, mg x = none) (g_all_parts : Has P w K mg base "all_parts" ["parts"] d (spAllP d)) (F : Fun K "all_parts" "all_parts" s_all_parts f fd) : FnOk P w K mg base CX0 (d + 1) f fd ["parts"] (spAllP (d + 1)) := by
  refine F.ok sc_all_parts (fun vs H Q E h => ?_) (fun cdv A outer s H vs Q E hr h => ?_)
  · obtain ⟨q, ys, p, rfl, _⟩ := h
    rfl
  obtain ⟨q, ys, p, rfl, hq, hP, hd, hz, qq⟩ := h
  have hpl := hP.length
  refine ⟨_, (pss_cons (ps_set (i := 1) sc_all_parts.nd rfl (Or.inl rfl) (pe_lst pa_nil))
    (pss_cons (ps_for PassesOwn.never rfl (pi_tup (pv 0)) (pg_name (i := 2) sc_all_parts.nd rfl (Or.inl rfl))
      (pss_cons (ps_expr (pe_bm PySem.F.plainAttrs_list PySem.F.slot_list_append PySem.F.type_list_append mt_append (pv 1) (pa_cons (pv 2) pa_nil)))
        (pss_one (ps_if (pt_cmpR op_eq (pe_ix ix_tup (pv 2) pe_int (fun _ _ => rfl)) pe_str (nomark _))
          (pss_one (ps_expr (pe_bm PySem.F.plainAttrs_list PySem.F.slot_list_extend PySem.F.type_list_extend mt_extend (pv 1) (pa_cons (pe_has g_all_parts hr rfl (pa_cons (pe_ix ix_tup (pv 2) pe_int (fun _ _ => rfl)) pa_nil) (by (first | lia | omega))) pa_nil))))
          pss_nil))))
    (pss_one (ps_ret (pv 1))))), ?_⟩
  refine ⟨by decide, fun L hL => ?_⟩
  have s0 : Same H (upd H L (.lst [])) := Same.new hL
  refine ⟨_, rfl, q, rfl, ⟨_, SqT.of (s0 _ _ hq)⟩, for_tup (K := K) (a := q) (xs := ys) (fun i σ H1 => ∃ (v2 : Option V) (zs : List V), σ = [some (.ref q), some (.ref L), v2] ∧ Same H H1 ∧ H1 L = some (.lst zs) ∧ PtL H1 zs (allP (p.take i)))
    ⟨none, [], rfl, s0, upd_same, .nil⟩ ?_ ?_ ?_⟩
  · rintro i σ H1 _ ⟨_, _, _, s1, _⟩
    exact SqT.of (s1 _ _ hq)
  · rintro i x σ H1 hx ⟨v2, zs, rfl, s1, hL1, hzs⟩
    obtain ⟨a, rfl, ha⟩ := hP.at i x hx
    have hts := p.take_sz i
    have hzl : zs.length = (p.take i).sz := (Paired.length hzs).trans (allP_len _)
    refine ⟨_, rfl, .inl ⟨rfl, _, SqL.of hL1⟩, _, rfl, L, _, _, rfl, rfl, hL1, len1000' (by (first | lia | omega)), ?_⟩
    have tk : TK H1 (upd H1 L (.lst (zs ++ [.ref a]))) := TK.lst hL1
    rcases ha with ⟨m, h1, h2⟩ | ⟨t, q', ys', w', h1, h2, h3, h4, h5, h6⟩
    · have h1' := tk _ _ (s1 _ _ h1)
      refine ⟨_, rfl, a, _, 0, _, rfl, rfl, SqT.of h1', rfl, rfl, _, rfl, iteF ?_⟩
      refine ⟨_, _, rfl, s1.upd_new hL, upd_same, ?_⟩
      rw [h2, allP_app]
      exact Paired.app (hzs.tk tk) (.cons ⟨a, rfl, h1'⟩ .nil)
    · have h1' := tk _ _ (s1 _ _ h1)
      refine ⟨_, rfl, a, _, 0, _, rfl, rfl, SqT.of h1', rfl, rfl, _, rfl, iteT ?_⟩
      have s2 : Same H (upd H1 L (.lst (zs ++ [.ref a]))) := s1.upd_new hL
      refine ⟨_, rfl, .inl ⟨rfl, _, SqL.of upd_same⟩, _, rfl, a, _, 2, _, rfl, rfl, SqT.of h1', rfl, q', ys', w', rfl, s2 _ _ h2, h3.mono s2.tk, by (first | lia | omega), by (first | lia | omega), fun r zr H3 s3 hr0 hr3 hzr => ?_⟩
      have hL3 := s3 _ _ (show (upd H1 L (.lst (zs ++ [.ref a]))) L = some (.lst (zs ++ [.ref a])) from upd_same)
      have hrl : zr.length = w'.sz := (Paired.length hzr).trans (allP_len _)
      refine ⟨L, r, _, _, rfl, rfl, hL3, hr3, len1000 (by rw [List.length_append, List.length_singleton]; (first | lia | omega)), ?_⟩
      have tk4 := TK.lst (o := .lst (zs ++ [.ref a] ++ zr)) hL3
      refine ⟨_, _, rfl, (s2.trans s3).upd_new hL, upd_same, ?_⟩
      rw [h4, allP_app]
      have e : allP (Pa.tag t w' .nil) = .inr t :: allP w' := by simp [allP]
      rw [e]
      have k5 : PtL (upd H3 L (.lst (zs ++ [.ref a] ++ zr))) (zs ++ (.ref a :: zr)) (allP (p.take i) ++ .inr t :: allP w') := Paired.app (((hzs.tk tk).tk s3.tk).tk tk4) (.cons ⟨a, q', rfl, tk4 _ _ (s3 _ _ h1')⟩ (hzr.tk tk4))
      rw [show zs ++ V.ref a :: zr = zs ++ [V.ref a] ++ zr by simp] at k5
      exact k5
  · rintro σ H1 ⟨v2, zs, rfl, s1, hL1, hzs⟩
    rw [hP.take_all] at hzs
    exact ⟨_, rfl, qq L zs H1 s1 hL hL1 hzs⟩
def PtX (H : Hp) (a : Addr) : Int ⊕ Str → Prop
  | .inl m => H a = some (.tup [.str "kids", .int m]) ∧ m.natAbs.log2 < 1900
  | .inr t => ∃ v, H a = some (.tup [.str "tag", .str t, v]) ∧ t.length ≤ 1000 ∧ ∀ c ∈ t.cps.toList, c < 16 ^ 8
def okX (n : Int) : Int ⊕ Str → Prop
  | .inl m => 0 ≤ m ∧ m < n
  | .inr t => tagB t = true
def spBadP (C : Addr) : Sp := fun vs H Q E => ∃ (n : Int) (a : Addr) (x : Int ⊕ Str), vs = [.int n, .ref a] ∧ n.natAbs.log2 < 1900 ∧ PtX H a x ∧ (okX n x → ∀ H', Same H H' → Q .non H') ∧ (¬ okX n x → ∀ H', Same H H' → E (.ref C) none H')
theorem len_num {i : Int} (h : i.natAbs.log2 < 1900) : (Str.ofString (toString i)).length ≤ 1901 := by
  rw [PyProof.Rows.ofString_len]
  exact int_text_length_le (by decide) h
set_option maxHeartbeats 1000000 in
theorem ok_refuse_bad_part (B : ∀ x ∈ blts, mg x = none) (xc : XC K mg X_GroveError X_NoGrove X_BadForm X_TooMany X_TooBig X_NoneFits X_NoBook X_TwiceNamed X_NoName X_Ring X_BadChanger X_NoRecipe X_NotStraight X_NoChange X_NoRow) (g_is_tag : Has P w K mg base "is_tag" ["text"] 1 spIsTag) (F : Fun K "refuse_bad_part" "refuse_bad_part" s_refuse_bad_part f fd) : FnOk P w K mg base (CXE P w) 2 f fd ["modes", "part"] (spBadP X_BadChanger) := by
  refine F.okX sc_refuse_bad_part (fun vs H Q E h => ?_) (fun cdv A outer s H vs Q E hr h => ?_)
  · obtain ⟨n, a, x, rfl, _⟩ := h
    rfl
  obtain ⟨n, a, x, rfl, hn, hx, q1, q2⟩ := h
  have ln := len_num hn
  refine hideI ((sBody ((defBody s_refuse_bad_part).getD 1 (.Pass ⟨0, 0, 0, 0⟩))).drop 1) (pss_one (ps_raise0 xc.top_BadChanger xc.ini_BadChanger xc.n_BadChanger takes_def hr rfl (pa_cons (pe_joined (pj_cons (pe_fvr (pv 3)) (pj_cons pe_str pj_nil))) pa_nil))) (fun u1t1 h1t1 e1t1 => ?_)
  refine hideI ((sBody ((defBody s_refuse_bad_part).getD 1 (.Pass ⟨0, 0, 0, 0⟩))).drop 0) (pss_cons (ps_set (i := 3) sc_refuse_bad_part.nd rfl (Or.inl rfl) (pe_ix ix_tup (pv 1) pe_int (fun _ _ => rfl))) h1t1) (fun u1t0 h1t0 e1t0 => ?_)
  refine hideI ((defBody s_refuse_bad_part).drop 1) (pss_one (ps_if (PW.pt (pw_and (pt_cmpR op_eq (pe_ix ix_tup (pv 1) pe_int (fun _ _ => rfl)) pe_str (nomark _)) (pw_and1 (pt_not (pt_truth (pe_has g_is_tag hr rfl (pa_cons (pe_ix ix_tup (pv 1) pe_int (fun _ _ => rfl)) pa_nil)) (fun _ => rfl))))))
      h1t0
      pss_nil)) (fun u1 h1 e1 => ?_)
  refine hideI ((sBody ((defBody s_refuse_bad_part).getD 0 (.Pass ⟨0, 0, 0, 0⟩))).drop 1) (pss_one (ps_raise0 xc.top_BadChanger xc.ini_BadChanger xc.n_BadChanger takes_def hr rfl (pa_cons (pe_joined (pj_cons (pe_fv (pv 2)) (pj_cons pe_str (pj_cons (pe_fv (pv 0)) pj_nil)))) pa_nil))) (fun u0t1 h0t1 e0t1 => ?_)
  refine hideI ((sBody ((defBody s_refuse_bad_part).getD 0 (.Pass ⟨0, 0, 0, 0⟩))).drop 0) (pss_cons (ps_set (i := 2) sc_refuse_bad_part.nd rfl (Or.inl rfl) (pe_ix ix_tup (pv 1) pe_int (fun _ _ => rfl))) h0t1) (fun u0t0 h0t0 e0t0 => ?_)
  refine hideI ((defBody s_refuse_bad_part).drop 0) (pss_cons (ps_if (PW.pt (pw_and (pt_cmpR op_eq (pe_ix ix_tup (pv 1) pe_int (fun _ _ => rfl)) pe_str (nomark _)) (pw_and1 (pt_not (pt_chain op_le op_lt pe_int (pe_ix ix_tup (pv 1) pe_int (fun _ _ => rfl)) (pv 0))))))
      h0t0
      pss_nil) h1) (fun u0 h0 e0 => ?_)
  refine ⟨u0, h0, ?_⟩
  refine by_eq e0 ?_
  cases x with
  | inl m =>
    obtain ⟨ha, hm⟩ := hx
    have lm := len_num hm
    have bad : ¬ okX n (.inl m) → ∀ D : Ends, u0t0 D [some (.int n), some (.ref a), none, none] H := fun hb D => by
      refine by_eq e0t0 ?_
      refine ⟨_, rfl, a, _, 1, _, rfl, rfl, SqT.of ha, rfl, ?_⟩
      show u0t1 _ _ _
      refine by_eq e0t1 ?_
      have l1 : (Str.ofString " is no mode of ").length = 15 := by decide
      have l0 : (Str.empty : Str).length = 0 := rfl
      refine ⟨_, rfl, .inr ⟨_, rfl, by (first | lia | omega), _, rfl, ?_, _, rfl, ?_, _, rfl, .inr ⟨_, rfl, by (first | lia | omega), _, rfl, ?_, ?_, ?_⟩⟩⟩
      · rw [strLen_append, sizeLine_eq]
        (first | lia | omega)
      · rw [strLen_append, strLen_append, sizeLine_eq]
        (first | lia | omega)
      · rw [strLen_append, strLen_append, strLen_append, sizeLine_eq]
        (first | lia | omega)
      · rw [strLen_append, strLen_append, strLen_append, sizeLine_eq]
        (first | lia | omega)
      exact ⟨(by show 1 ≤ 1000; decide), fun y hy => q2 hb _ (Same.new hy)⟩
    have good : okX n (.inl m) → u1 { nx := fun _ H' => Q .non H', rt := Q } [some (.int n), some (.ref a), none, none] H := fun hg => by
      refine by_eq e1 ?_
      refine ⟨_, rfl, a, _, 0, _, rfl, rfl, SqT.of ha, rfl, rfl, _, rfl, ite2 (fun z => absurd (of_decide_eq_true z) (by decide)) (fun _ => iteF ?_)⟩
      exact q1 hg _ (Same.refl _)
    refine ⟨_, rfl, a, _, 0, _, rfl, rfl, SqT.of ha, rfl, rfl, _, rfl, ite2 (fun _ => ?_) (fun z => absurd (decide_eq_true rfl) z)⟩
    refine ⟨_, rfl, a, _, 1, _, rfl, rfl, SqT.of ha, rfl, _, _, rfl, rfl, _, rfl, ite2 (fun c => ?_) (fun c => ?_)⟩
    · have c : (0 : Int) ≤ m := of_decide_eq_true c
      refine ⟨_, rfl, _, _, rfl, rfl, _, rfl, ?_⟩
      by_cases c2 : m < n
      · rw [decide_eq_true c2]
        exact iteF (good ⟨c, c2⟩)
      · rw [decide_eq_false c2]
        exact iteT (bad (fun z => c2 z.2) _)
    · have c : ¬ (0 : Int) ≤ m := fun z => c (decide_eq_true z)
      exact ⟨false, rfl, iteT (bad (fun z => c z.1) _)⟩
  | inr t =>
    obtain ⟨v, ha, ht, hcs⟩ := hx
    have lr := PySem.StrLaws.reprText_len t hcs
    refine ⟨_, rfl, a, _, 0, _, rfl, rfl, SqT.of ha, rfl, rfl, _, rfl, ite2 (fun z => absurd (of_decide_eq_true z) (by decide)) (fun _ => iteF ?_)⟩
    show u1 _ _ _
    refine by_eq e1 ?_
    refine ⟨_, rfl, a, _, 0, _, rfl, rfl, SqT.of ha, rfl, rfl, _, rfl, ite2 (fun _ => ?_) (fun z => absurd (decide_eq_true rfl) z)⟩
    refine ⟨_, rfl, a, _, 1, _, rfl, rfl, SqT.of ha, rfl, t, rfl, by (first | lia | omega), fun H1 s1 => ⟨_, rfl, ?_⟩⟩
    cases c : tagB t with
    | true => exact iteF (q1 c _ s1)
    | false =>
      refine iteT ?_
      show u1t0 _ _ _
      refine by_eq e1t0 ?_
      refine ⟨_, rfl, a, _, 1, _, rfl, rfl, SqT.of (s1 _ _ ha), rfl, ?_⟩
      show u1t1 _ _ _
      refine by_eq e1t1 ?_
      have l1 : (Str.ofString " is no tag").length = 10 := by decide
      have l0 : (Str.empty : Str).length = 0 := rfl
      refine ⟨_, rfl, t, rfl, by rw [sizeLine_eq]; (first | lia | omega), _, rfl, ?_, _, rfl, ?_, ?_, ?_⟩
      · rw [strLen_append, sizeLine_eq]
        (first | lia | omega)
      · rw [strLen_append, strLen_append, sizeLine_eq]
        (first | lia | omega)
      · rw [strLen_append, strLen_append, sizeLine_eq]
        (first | lia | omega)
      have nb : ¬ okX n (.inr t) := fun z => by
        have z : tagB t = true := z
        rw [c] at z
        cases z
      exact ⟨(by show 1 ≤ 1000; decide), fun y hy => q2 nb _ (s1.trans (Same.new hy))⟩
/-- a rule in the heap -/
def RuV (H : Hp) (z : V) (r : Int × Str × Pa) : Prop := ∃ a q ys, z = V.ref a ∧ H a = some (.tup [.int r.1, .str r.2.1, .ref q]) ∧ H q = some (.tup ys) ∧ RepP H ys r.2.2
def RuL (H : Hp) (zs : List V) (rs : List (Int × Str × Pa)) : Prop := Paired (RuV H) zs rs
theorem RuL.tk {H H' : Hp} (k : TK H H') : ∀ {zs : List V} {rs : List (Int × Str × Pa)}, RuL H zs rs → RuL H' zs rs
  | _, _, .nil => .nil
  | _, _, .cons ⟨a, q, ys, e, h1, h2, h3⟩ t => .cons ⟨a, q, ys, e, k _ _ h1, k _ _ h2, h3.mono k⟩ (RuL.tk k t)
theorem RuL.get {H : Hp} : ∀ {zs : List V} {rs : List (Int × Str × Pa)}, RuL H zs rs → ∀ (i : Nat) z, zs[i]? = some z → ∃ r, rs[i]? = some r ∧ RuV H z r
  | _, _, .cons r t, i, z, hz => by
    cases i with
    | zero =>
      injection hz with hz
      subst hz
      exact ⟨_, rfl, r⟩
    | succ i => exact RuL.get t i z hz
theorem PtL.get {H : Hp} : ∀ {zs : List V} {xs : List (Int ⊕ Str)}, PtL H zs xs → ∀ (i : Nat) z, zs[i]? = some z → ∃ x, xs[i]? = some x ∧ PtV H z x
  | _, _, .cons r t, i, z, hz => by
    cases i with
    | zero =>
      injection hz with hz
      subst hz
      exact ⟨_, rfl, r⟩
    | succ i => exact PtL.get t i z hz
def rkP (r : Int × Str × Pa) : Srd.Ps := (r.1, r.2.1)
def rkey (i : Int) (t : Str) : List Key := [Sum.inl i, Sum.inr t]
theorem rkey_inj {i j : Int} {t u : Str} (h : rkey i t = rkey j u) : i = j ∧ t = u := by
  unfold rkey at h
  simpa using h
def XB : Int ⊕ Str → Prop
  | .inl m => m.natAbs.log2 < 1900
  | .inr t => t.length ≤ 1000 ∧ ∀ c ∈ t.cps.toList, c < 16 ^ 8
structure RB (r : Int × Str × Pa) : Prop where
  m : XB (.inl r.1)
  t : XB (.inr r.2.1)
  p : ∀ x ∈ allP r.2.2, XB x
  d : r.2.2.dep < 22
  s : r.2.2.sz ≤ 1000
structure okR (n : Int) (r : Int × Str × Pa) : Prop where
  m : okX n (.inl r.1)
  t : okX n (.inr r.2.1)
  p : ∀ x ∈ allP r.2.2, okX n x
structure okC (n : Int) (rs : List (Int × Str × Pa)) : Prop where
  n1 : 1 ≤ n
  n4 : n ≤ 4
  ok : ∀ r ∈ rs, okR n r
  nd : (rs.map rkP).Nodup
/-- the rules in their order -/
structure Srt (rs ms : List (Int × Str × Pa)) : Prop where
  mem : ∀ r ∈ ms, r ∈ rs
  perm : (ms.map rkP).Perm (rs.map rkP)
  up : (ms.map rkP).Pairwise fun a b => Srd.psLt b a = false
theorem nd_key {rs : List (Int × Str × Pa)} (nd : (rs.map rkP).Nodup) : ∀ a ∈ rs, ∀ b ∈ rs, rkP a = rkP b → a = b := by
  induction rs with
  | nil => exact fun a h => nomatch h
  | cons x xs ih =>
    rw [List.map_cons, List.nodup_cons] at nd
    intro a ha b hb e
    rcases List.mem_cons.mp ha with h1 | h1
    · rcases List.mem_cons.mp hb with h2 | h2
      · rw [h1, h2]
      · exact absurd (List.mem_map.mpr ⟨b, h2, by rw [← e, h1]⟩) nd.1
    · rcases List.mem_cons.mp hb with h2 | h2
      · exact absurd (List.mem_map.mpr ⟨a, h1, by rw [e, h2]⟩) nd.1
      · exact ih nd.2 a h1 b h2 e
theorem map_key {rs : List (Int × Str × Pa)} (nd : (rs.map rkP).Nodup) : ∀ {a b : List (Int × Str × Pa)}, (∀ r ∈ a, r ∈ rs) → (∀ r ∈ b, r ∈ rs) → a.map rkP = b.map rkP → a = b
  | [], [], _, _, _ => rfl
  | x :: a, y :: b, ha, hb, e => by
    rw [List.map_cons, List.map_cons] at e
    obtain ⟨e1, e2⟩ := List.cons.inj e
    rw [nd_key nd x (ha x (by simp)) y (hb y (by simp)) e1, map_key nd (fun r h => ha r (by simp [h])) (fun r h => hb r (by simp [h])) e2]
theorem Srt.uniq {rs a b : List (Int × Str × Pa)} (nd : (rs.map rkP).Nodup) (ha : Srt rs a) (hb : Srt rs b) : a = b :=
  map_key nd ha.mem hb.mem (List.Perm.eq_of_pairwise (fun x y _ _ h1 h2 => (Srd.psLt_sto.tri x y h2 h1)) ha.up hb.up (ha.perm.trans hb.perm.symm))
/-- rules in a dict by (mode, tag) -/
def RkL (H : Hp) (m : List (List Key × V)) (rs : List (Int × Str × Pa)) : Prop := Paired (fun (kv : List Key × V) (r : Int × Str × Pa) => kv.1 = rkey r.1 r.2.1 ∧ ∃ q ys, kv.2 = V.ref q ∧ H q = some (.tup ys) ∧ RepP H ys r.2.2) m rs
theorem RkL.tk {H H' : Hp} (k : TK H H') : ∀ {m : List (List Key × V)} {rs : List (Int × Str × Pa)}, RkL H m rs → RkL H' m rs
  | _, _, .nil => .nil
  | _, _, .cons ⟨e, q, ys, h1, h2, h3⟩ t => .cons ⟨e, q, ys, h1, k _ _ h2, h3.mono k⟩ (RkL.tk k t)
theorem RkL.keys {H : Hp} : ∀ {m : List (List Key × V)} {rs : List (Int × Str × Pa)}, RkL H m rs → m.map (·.1) = (rs.map rkP).map psK
  | _, _, .nil => rfl
  | _, _, .cons ⟨e, _⟩ t => by rw [List.map_cons, List.map_cons, List.map_cons, e, RkL.keys t]; rfl
theorem psK_inj {a b : Srd.Ps} (h : psK a = psK b) : a = b := by
  obtain ⟨a1, a2⟩ := a
  obtain ⟨b1, b2⟩ := b
  obtain ⟨rfl, rfl⟩ := rkey_inj h
  rfl
theorem RkL.val {H : Hp} : ∀ {m : List (List Key × V)} {rs : List (Int × Str × Pa)}, RkL H m rs → ∀ k : Srd.Ps, (k ∉ rs.map rkP ∧ valV m (psK k) = none) ∨ ∃ r q ys, r ∈ rs ∧ rkP r = k ∧ valV m (psK k) = some (.ref q) ∧ H q = some (.tup ys) ∧ RepP H ys r.2.2
  | _, _, .nil, k => .inl ⟨by simp, rfl⟩
  | _, _, .cons (a := kv) (b := r) (l₁ := m) ⟨e, q, ys, h1, h2, h3⟩ t, k => by
    obtain ⟨kk, v⟩ := kv
    have e : kk = psK (rkP r) := e
    have h1 : v = V.ref q := h1
    subst e h1
    by_cases c : rkP r = k
    · refine .inr ⟨r, q, ys, by simp, c, ?_, h2, h3⟩
      rw [← c]
      exact valV_pos rfl
    · have c' : psK (rkP r) ≠ psK k := fun z => c (psK_inj z)
      have ev : valV ((psK (rkP r), V.ref q) :: m) (psK k) = valV m (psK k) := valV_neg c'
      rw [ev]
      rcases RkL.val t k with ⟨h, hv⟩ | ⟨r', q', ys', h, z⟩
      · refine .inl ⟨fun z => ?_, hv⟩
        rw [List.map_cons] at z
        rcases List.mem_cons.mp z with z | z
        · exact c z.symm
        · exact h z
      · exact .inr ⟨r', q', ys', List.mem_cons_of_mem _ h, z⟩
theorem RkL.put {H : Hp} {m : List (List Key × V)} {rs : List (Int × Str × Pa)} (h : RkL H m rs) {r : Int × Str × Pa} {q : Addr} {ys : List V} (nk : rkP r ∉ rs.map rkP) (hq : H q = some (.tup ys)) (hp : RepP H ys r.2.2) : RkL H (putK m (rkey r.1 r.2.1) (.ref q)) (rs ++ [r]) := by
  have : (m.any fun kv => decide (kv.1 = rkey r.1 r.2.1)) = false := by
    refine Bool.eq_false_iff.mpr fun z => ?_
    obtain ⟨kv, hkv, z⟩ := List.any_eq_true.mp z
    have z := of_decide_eq_true z
    have e : kv.1 ∈ (rs.map rkP).map psK := by
      rw [← h.keys]
      exact List.mem_map_of_mem hkv
    obtain ⟨k, hk, e⟩ := List.mem_map.mp e
    rw [z] at e
    have : k = rkP r := psK_inj e
    exact nk (this ▸ hk)
  unfold putK
  rw [this]
  exact Paired.app h (.cons ⟨rfl, q, ys, rfl, hq, hp⟩ .nil)
theorem azB_small {c : Nat} (h : azB c = true) : c < 16 ^ 8 := by
  unfold azB at h
  simp only [Bool.and_eq_true, decide_eq_true_eq] at h
  (first | lia | omega)
theorem tag_small {n : Int} {t : Str} (h : okX n (.inr t)) : t.length ≤ 8 ∧ XB (.inr t) := by
  have h : tagB t = true := h
  unfold tagB at h
  simp only [Bool.and_eq_true, decide_eq_true_eq, List.all_eq_true] at h
  exact ⟨h.1.2, by (first | lia | omega), fun c hc => azB_small (h.2 c hc)⟩
theorem log_small {m : Int} (h : m.natAbs < 2 ^ 1900) : XB (.inl m) := by
  show m.natAbs.log2 < 1900
  by_cases z : m.natAbs = 0
  · rw [z]; decide
  · exact (Nat.log2_lt z).mpr h
theorem okX_XB {n : Int} (hn : n ≤ 100) : ∀ {x : Int ⊕ Str}, okX n x → XB x
  | .inl m, h => log_small (by obtain ⟨a, b⟩ := h; exact Nat.lt_of_lt_of_le (show m.natAbs < 128 by (first | lia | omega)) (Nat.pow_le_pow_right (n := 2) (by decide) (show 7 ≤ 1900 by decide)))
  | .inr t, h => (tag_small h).2
def spChanger (C : Addr) : Sp := fun vs H Q E => ∃ (n : Int) (L : Addr) (zs : List V) (rs : List (Int × Str × Pa)), vs = [.int n, .ref L] ∧ n.natAbs.log2 < 1900 ∧ H L = some (.lst zs) ∧ RuL H zs rs ∧ rs.length ≤ 60 ∧ (∀ r ∈ rs, RB r) ∧
  (okC n rs → ∀ (c T : Addr) (ws : List V) (ms : List (Int × Str × Pa)) (H' : Hp), Same H H' → H' c = some (.tup [.int n, .ref T]) → H' T = some (.tup ws) → RuL H' ws ms → Srt rs ms → Q (.ref c) H') ∧
  (¬ okC n rs → ∀ H', Same H H' → E (.ref C) none H')
set_option maxHeartbeats 4000000 in
theorem ok_changer (B : ∀ x ∈ blts, mg x = none) (Cc : ∃ t : Tok, mg "MOST_MODES" = some (.int 4 t)) (xc : XC K mg X_GroveError X_NoGrove X_BadForm X_TooMany X_TooBig X_NoneFits X_NoBook X_TwiceNamed X_NoName X_Ring X_BadChanger X_NoRecipe X_NotStraight X_NoChange X_NoRow) (g_refuse_bad_part : HasX P w K mg base "refuse_bad_part" ["modes", "part"] 2 (spBadP X_BadChanger)) (g_all_parts : Has P w K mg base "all_parts" ["parts"] 22 (spAllP 22)) (F : Fun K "changer" "changer" s_changer f fd) : FnOk P w K mg base (CXE P w) 23 f fd ["modes", "rules"] (spChanger X_BadChanger) := by
  refine F.okX sc_changer (fun vs H Q E h => ?_) (fun cdv A outer s H vs Q E hr h => ?_)
  · obtain ⟨n, L, zs, rs, rfl, _⟩ := h
    rfl
  obtain ⟨n, L, zs, rs, rfl, hn, hL, hrs, hl, hb, q1, q2⟩ := h
  have hu1 : (A.deeper (PyProof.Rows.envOfC (Str.ofString "changer") (defScope s_changer) s.heap.objs.size f cdv)).units + 1 < cLine := by have := hr.un; (first | lia | omega)
  have ln := len_num hn
  obtain ⟨t1, c_MOST_MODES⟩ := Cc
  have hzl : zs.length = rs.length := Paired.length hrs
  refine hideI ((defBody s_changer).drop 3) (pss_one (ps_ret (pe_tup (pa_cons (pv 0) (pa_cons (pe_callTy call_tuple_of rfl (B "tuple" (by decide)) bt_tuple (pa_cons (pe_comp (cl := _) ["mode", "tag"] [("known", 2)] (pi_list (pe_callB (call_sorted_dPs rfl) rfl (B "sorted" (by decide)) bt_sorted (pa_cons (pv 2) pa_nil))) (fun _ _ _ _ => (pg_tupK (K := K) (n := 2) rfl rfl (pgs_cons (pg_name (i := 0) (show List.Nodup (["mode", "tag", "known"] : List Str) by decide) rfl (Or.inl rfl)) (pgs_cons (pg_name (i := 1) (show List.Nodup (["mode", "tag", "known"] : List Str) by decide) rfl (Or.inl rfl)) pgs_nil)))) (fun _ _ _ _ => (pe_tup (pa_cons (pv 0) (pa_cons (pv 1) (pa_cons (pe_dget hu1 (pv 2) (pe_tup (pa_cons (pv 0) (pa_cons (pv 1) pa_nil))) (fun _ _ => rfl)) pa_nil))))) rfl rfl (by decide) rfl (by decide) (cap_cl (by (repeat' first | exact List.forall_mem_nil _ | refine List.forall_mem_cons.mpr ⟨?_, ?_⟩) <;> rfl)) (cap_has (by (repeat' first | exact List.forall_mem_nil _ | refine List.forall_mem_cons.mpr ⟨?_, ?_⟩) <;> first | (intro h; exact ⟨_, rfl⟩) | (intro h; exact absurd h (by decide)))) (fun _ => by (repeat' first | exact List.forall_mem_nil _ | refine List.forall_mem_cons.mpr ⟨?_, ?_⟩) <;> exact ⟨rfl, rfl, Or.inl rfl⟩) (fun _ => rfl)) pa_nil)) pa_nil))))) (fun u3 h3 e3 => ?_)
  refine hideI ((sBody ((defBody s_changer).getD 2 (.Pass ⟨0, 0, 0, 0⟩))).drop 4) (pss_one (ps_dput hu1 (pv 2) (pe_tup (pa_cons (pv 3) (pa_cons (pv 4) pa_nil))) (pv 5) rfl)) (fun u2_4 h2_4 e2_4 => ?_)
  refine hideI ((sBody ((defBody s_changer).getD 2 (.Pass ⟨0, 0, 0, 0⟩))).drop 3) (pss_cons (ps_if (pt_cmp (pc_din hu1 (pe_tup (pa_cons (pv 3) (pa_cons (pv 4) pa_nil))) (pv 2)))
      (pss_one (ps_raise0 xc.top_BadChanger xc.ini_BadChanger xc.n_BadChanger takes_def hr rfl (pa_cons (pe_joined (pj_cons pe_str (pj_cons (pe_fv (pv 3)) (pj_cons pe_str (pj_cons (pe_fv (pv 4)) pj_nil))))) pa_nil)))
      pss_nil) h2_4) (fun u2_3 h2_3 e2_3 => ?_)
  refine hideI ((sBody ((sBody ((defBody s_changer).getD 2 (.Pass ⟨0, 0, 0, 0⟩))).getD 2 (.Pass ⟨0, 0, 0, 0⟩))).drop 0) (pss_one (ps_expr (pe_hasX g_refuse_bad_part takes_def hr rfl (pa_cons (pv 0) (pa_cons (pv 6) pa_nil))))) (fun u2_2_0 h2_2_0 e2_2_0 => ?_)
  refine hideI ((sBody ((defBody s_changer).getD 2 (.Pass ⟨0, 0, 0, 0⟩))).drop 2) (pss_cons (ps_for PassesOwn.leaving rfl (pi_list (pe_has g_all_parts hr rfl (pa_cons (pv 5) pa_nil))) (pg_name (i := 6) sc_changer.nd rfl (Or.inl rfl))
      h2_2_0) h2_3) (fun u2_2 h2_2 e2_2 => ?_)
  refine hideI ((sBody ((defBody s_changer).getD 2 (.Pass ⟨0, 0, 0, 0⟩))).drop 1) (pss_cons (ps_expr (pe_hasX g_refuse_bad_part takes_def hr rfl (pa_cons (pv 0) (pa_cons (pe_tup (pa_cons pe_str (pa_cons (pv 4) (pa_cons (pv 5) pa_nil)))) pa_nil)))) h2_2) (fun u2_1 h2_1 e2_1 => ?_)
  refine hideI ((sBody ((defBody s_changer).getD 2 (.Pass ⟨0, 0, 0, 0⟩))).drop 0) (pss_cons (ps_expr (pe_hasX g_refuse_bad_part takes_def hr rfl (pa_cons (pv 0) (pa_cons (pe_tup (pa_cons pe_str (pa_cons (pv 3) pa_nil))) pa_nil)))) h2_1) (fun u2_0 h2_0 e2_0 => ?_)
  refine hideI ((defBody s_changer).drop 2) (pss_cons (ps_for PassesOwn.leaving rfl (pi_list (pv 1)) (pg_tup rfl (pgs_cons (pg_name (i := 3) sc_changer.nd rfl (Or.inl rfl)) (pgs_cons (pg_name (i := 4) sc_changer.nd rfl (Or.inl rfl)) (pgs_cons (pg_name (i := 5) sc_changer.nd rfl (Or.inl rfl)) pgs_nil))))
      h2_0) h3) (fun u2 h2 e2 => ?_)
  refine hideI ((defBody s_changer).drop 1) (pss_cons (ps_set (i := 2) sc_changer.nd rfl (Or.inr rfl) pe_dnewT) h2) (fun u1 h1 e1 => ?_)
  refine hideI ((defBody s_changer).drop 0) (pss_cons (ps_if (pt_not (pt_chain op_le op_le pe_int (pv 0) (pe_glob (v := .int 4) rfl c_MOST_MODES ⟨_, rfl⟩)))
      (pss_one (ps_raise0 xc.top_BadChanger xc.ini_BadChanger xc.n_BadChanger takes_def hr rfl (pa_cons (pe_joined (pj_cons pe_str (pj_cons (pe_fv (pv 0)) (pj_cons pe_str pj_nil)))) pa_nil)))
      pss_nil) h1) (fun u0 h0 e0 => ?_)
  refine ⟨u0, h0, ?_⟩
  refine by_eq e0 ?_
  refine ⟨_, rfl, _, _, rfl, rfl, _, rfl, ite2 (fun c => ?_) (fun c => ?_)⟩
  rotate_left
  · have c : ¬ (1 : Int) ≤ n := fun z => c (decide_eq_true z)
    refine ⟨false, rfl, iteT ?_⟩
    have l1 : (Str.ofString "there can't be ").length = 15 := by decide
    have l2 : (Str.ofString " modes").length = 6 := by decide
    have l0 : (Str.empty : Str).length = 0 := rfl
    refine ⟨_, rfl, ?_, _, rfl, .inr ⟨_, rfl, by (first | lia | omega), _, rfl, ?_, _, rfl, ?_, ?_, ?_⟩⟩
    · rw [strLen_append, sizeLine_eq]
      (first | lia | omega)
    · rw [strLen_append, strLen_append, sizeLine_eq]
      (first | lia | omega)
    · rw [strLen_append, strLen_append, strLen_append, sizeLine_eq]
      (first | lia | omega)
    · rw [strLen_append, strLen_append, strLen_append, sizeLine_eq]
      (first | lia | omega)
    exact ⟨(by show 1 ≤ 1000; decide), fun y hy => q2 (fun z => c z.n1) _ (Same.new hy)⟩
  have c : (1 : Int) ≤ n := of_decide_eq_true c
  refine ⟨_, _, rfl, rfl, _, rfl, ?_⟩
  by_cases c2 : n ≤ 4
  rotate_left
  · rw [decide_eq_false c2]
    refine iteT ?_
    have l1 : (Str.ofString "there can't be ").length = 15 := by decide
    have l2 : (Str.ofString " modes").length = 6 := by decide
    have l0 : (Str.empty : Str).length = 0 := rfl
    refine ⟨_, rfl, ?_, _, rfl, .inr ⟨_, rfl, by (first | lia | omega), _, rfl, ?_, _, rfl, ?_, ?_, ?_⟩⟩
    · rw [strLen_append, sizeLine_eq]
      (first | lia | omega)
    · rw [strLen_append, strLen_append, sizeLine_eq]
      (first | lia | omega)
    · rw [strLen_append, strLen_append, strLen_append, sizeLine_eq]
      (first | lia | omega)
    · rw [strLen_append, strLen_append, strLen_append, sizeLine_eq]
      (first | lia | omega)
    exact ⟨(by show 1 ≤ 1000; decide), fun y hy => q2 (fun z => c2 z.n4) _ (Same.new hy)⟩
  rw [decide_eq_true c2]
  refine iteF ?_
  show u1 _ _ _
  refine by_eq e1 ?_
  refine fun d hd => ?_
  have s0 : Same H (upd H d (.dT [])) := Same.new hd
  have hd0 : (upd H d (.dT [])) d = some (.dT []) := upd_same
  show u2 _ _ _
  refine by_eq e2 ?_
  generalize upd H d (.dT []) = H0 at s0 hd0 ⊢
  refine ⟨_, rfl, L, rfl, ⟨_, SqL.of (s0 _ _ hL)⟩, for_list (K := K) (a := L) (xs := zs) (fun i σ H1 => ∃ (v3 v4 v5 v6 : Option V) (m : List (List Key × V)), σ = [some (.int n), some (.ref L), some (.ref d), v3, v4, v5, v6] ∧ Same H H1 ∧ H1 d = some (.dT m) ∧ RkL H1 m (rs.take i) ∧ (∀ r ∈ rs.take i, okR n r) ∧ ((rs.take i).map rkP).Nodup)
    ⟨none, none, none, none, [], rfl, s0, hd0, .nil, fun _ h => (nomatch h), List.nodup_nil⟩ ?_ ?_ ?_⟩
  · rintro i σ H1 _ ⟨_, _, _, _, _, _, s1, _⟩
    exact SqL.of (s1 _ _ hL)
  · rintro i x σ H1 hx ⟨v3, v4, v5, v6, m, rfl, s1, hd1, hm, hok, hnd⟩
    obtain ⟨r, hri, a, pq, ys, rfl, ha, hq, hp⟩ := (hrs.tk s1.tk).get i x hx
    obtain ⟨md, tg, pa⟩ := r
    have hrm : (md, tg, pa) ∈ rs := List.mem_of_getElem? hri
    have hb0 := hb _ hrm
    have hil : i < rs.length := (List.getElem?_eq_some_iff.mp hri).1
    refine ⟨a, _, rfl, SqT.of ha, rfl, _, _, rfl, _, _, rfl, _, _, rfl, rfl, ?_⟩
    show u2_0 _ [some (.int n), some (.ref L), some (.ref d), some (.int md), some (.str tg), some (.ref pq), v6] H1
    refine by_eq e2_0 ?_
    refine ⟨_, rfl, _, rfl, (by show 2 ≤ sizeLine; decide), fun t1 h1 => ?_⟩
    have s2 := Same.new (o := .tup [.str "kids", .int md]) h1
    refine ⟨n, t1, .inl md, rfl, hn, ⟨upd_same, hb0.m⟩, fun k1 H2 s3 => ?_, fun nk H2 s3 => q2 (fun z => nk (z.ok _ hrm).m) _ (s1.trans (s2.trans s3))⟩
    show u2_1 _ [some (.int n), some (.ref L), some (.ref d), some (.int md), some (.str tg), some (.ref pq), v6] H2
    have s23 := s2.trans s3
    clear s2 s3
    refine by_eq e2_1 ?_
    refine ⟨_, rfl, _, rfl, _, rfl, (by show 3 ≤ sizeLine; decide), fun t2 h2 => ?_⟩
    have s4 := Same.new (o := .tup [.str "tag", .str tg, .ref pq]) h2
    refine ⟨n, t2, .inr tg, rfl, hn, ⟨_, upd_same, hb0.t.1, hb0.t.2⟩, fun k2 H3 s5 => ?_, fun nk H3 s5 => q2 (fun z => nk (z.ok _ hrm).t) _ (s1.trans (s23.trans (s4.trans s5)))⟩
    show u2_2 _ [some (.int n), some (.ref L), some (.ref d), some (.int md), some (.str tg), some (.ref pq), v6] H3
    have s13 := s23.trans (s4.trans s5)
    clear s23 s4 s5 h1 h2
    refine by_eq e2_2 ?_
    refine ⟨_, rfl, pq, ys, pa, rfl, s13 _ _ hq, hp.mono s13.tk, hb0.d, hb0.s, fun al zp H4 s6 hal0 hal hzp => ?_⟩
    have s14 := s13.trans s6
    have hal1 : H al = none := s1.free (s13.free hal0)
    have hpl : zp.length = (allP pa).length := Paired.length hzp
    refine ⟨al, rfl, ⟨_, SqL.of hal⟩, for_list (K := K) (a := al) (xs := zp) (fun j σ H5 => ∃ v6 : Option V, σ = [some (.int n), some (.ref L), some (.ref d), some (.int md), some (.str tg), some (.ref pq), v6] ∧ Same H4 H5 ∧ ∀ x ∈ (allP pa).take j, okX n x)
      ⟨v6, rfl, Same.refl _, fun _ h => (nomatch h)⟩ ?_ ?_ ?_⟩
    · rintro j σ H5 _ ⟨_, _, s5, _⟩
      exact SqL.of (s5 _ _ hal)
    · rintro j x σ H5 hx ⟨v6, rfl, s5, hxs⟩
      obtain ⟨y, hy, hpt⟩ := (hzp.tk s5.tk).get j x hx
      have hym : y ∈ allP pa := List.mem_of_getElem? hy
      have hyb := hb0.p y hym
      obtain ⟨b, rfl, hb5⟩ : ∃ b, x = .ref b ∧ PtX H5 b y := by
        cases y with
        | inl m' => obtain ⟨b, e, h⟩ := hpt; exact ⟨b, e, h, hyb⟩
        | inr t' => obtain ⟨b, q', e, h⟩ := hpt; exact ⟨b, e, _, h, hyb.1, hyb.2⟩
      show u2_2_0 _ [some (.int n), some (.ref L), some (.ref d), some (.int md), some (.str tg), some (.ref pq), some (.ref b)] H5
      refine by_eq e2_2_0 ?_
      refine ⟨_, rfl, _, rfl, n, b, y, rfl, hn, hb5, fun k3 H6 s7 => ?_, fun nk H6 s7 => q2 (fun z => nk ((z.ok _ hrm).p y hym)) _ (s1.trans (s14.trans (s5.trans s7)))⟩
      refine ⟨_, rfl, s5.trans s7, fun z hz => ?_⟩
      rw [take_succ' hy] at hz
      rcases List.mem_append.mp hz with hz | hz
      · exact hxs z hz
      · rw [List.mem_singleton.mp hz]
        exact k3
    · rintro σ H5 ⟨v6, rfl, s5, hxs⟩
      rw [hpl, List.take_length] at hxs
      have s15 := s14.trans s5
      have okr : okR n (md, tg, pa) := ⟨k1, k2, hxs⟩
      have hd5 := s15 _ _ hd1
      have hm5 := hm.tk s15.tk
      have hp5 := hp.mono s15.tk
      have hq5 := s15 _ _ hq
      have sH5 := s1.trans s15
      clear s13 s6 s14 s5 hzp hal s15
      show u2_3 _ [some (.int n), some (.ref L), some (.ref d), some (.int md), some (.str tg), some (.ref pq), v6] H5
      refine by_eq e2_3 ?_
      refine ⟨_, rfl, _, rfl, (by show 2 ≤ sizeLine; decide), fun kt hkt => ?_⟩
      have s7 := Same.new (o := .tup [.int md, .str tg]) hkt
      refine ⟨_, rfl, d, _, rfl, DGet.t (k := psK (md, tg)) (s7 _ _ hd5) upd_same, ?_⟩
      rcases hm5.val (md, tg) with ⟨hno, hv⟩ | ⟨r', q', ys', hr', hk', hv, _⟩
      · rw [hv]
        refine ⟨_, rfl, iteF ?_⟩
        show u2_4 _ [some (.int n), some (.ref L), some (.ref d), some (.int md), some (.str tg), some (.ref pq), v6] _
        refine by_eq e2_4 ?_
        have hd7 := s7 _ _ hd5
        have hm7 := hm5.tk s7.tk
        have hq7 := s7 _ _ hq5
        have hp7 := hp5.mono s7.tk
        have sH7 := sH5.trans s7
        generalize upd H5 kt (.tup [.int md, .str tg]) = H7 at hd7 hm7 hq7 hp7 sH7 ⊢
        refine ⟨_, rfl, _, rfl, _, rfl, _, rfl, (by show 2 ≤ sizeLine; decide), fun k2t hk2 => ?_⟩
        have s8 := Same.new (o := .tup [.int md, .str tg]) hk2
        have hml : m.length = (rs.take i).length := Paired.length hm7
        rw [List.length_take] at hml
        refine ⟨d, _, rfl, DPut.t (k := rkey md tg) (s8 _ _ hd7) upd_same (len1000' (by (first | lia | omega))), ?_⟩
        have tkd : TK (upd H7 k2t (.tup [.int md, .str tg])) (upd (upd H7 k2t (.tup [.int md, .str tg])) d (.dT (putK m (rkey md tg) (.ref pq)))) := fun b ys e => by
          rw [upd_ne (ne_of e (s8 _ _ hd7) (fun z => nomatch z))]
          exact e
        have tk := s8.tk.trans tkd
        refine ⟨_, _, _, _, _, rfl, (sH7.trans s8).upd_new hd, upd_same, ?_, ?_, ?_⟩
        · rw [take_succ' hri]
          exact (hm7.tk tk).put (r := (md, tg, pa)) hno (tk _ _ hq7) (hp7.mono tk)
        · intro r hr
          rw [take_succ' hri] at hr
          rcases List.mem_append.mp hr with hr | hr
          · exact hok r hr
          · rw [List.mem_singleton.mp hr]
            exact okr
        · rw [take_succ' hri, List.map_append]
          refine List.nodup_append.mpr ⟨hnd, by simp, fun x hx y hy e => ?_⟩
          have hy : y = (md, tg) := by simpa [rkP] using hy
          rw [e, hy] at hx
          exact hno hx
      · rw [hv]
        refine ⟨_, rfl, iteT ?_⟩
        have lm0 : md.natAbs.log2 < 1900 := hb0.m
        have lm : (Str.ofString (toString md)).length ≤ 1901 := len_num lm0
        have lt : tg.length ≤ 1000 := hb0.t.1
        have l1 : (Str.ofString "mode ").length = 5 := by decide
        have l2 : (Str.ofString " has two rules for ").length = 19 := by decide
        have l0 : (Str.empty : Str).length = 0 := rfl
        have bad : ¬ okC n rs := fun z => by
          have z := z.nd
          rw [← List.take_append_drop i rs, List.map_append] at z
          have hd0 : (md, tg, pa) ∈ rs.drop i := by
            refine List.mem_of_getElem? (i := 0) ?_
            rw [List.getElem?_drop]
            exact hri
          exact (List.nodup_append.mp z).2.2 _ (List.mem_map_of_mem hr') _ (List.mem_map_of_mem hd0) hk'
        refine ⟨_, rfl, ?_, _, rfl, .inr ⟨_, rfl, by (first | lia | omega), _, rfl, ?_, _, rfl, ?_, _, rfl, .inl ⟨_, rfl, by rw [sizeLine_eq]; (first | lia | omega), _, rfl, ?_, ?_, ?_⟩⟩⟩
        · rw [strLen_append, sizeLine_eq]
          (first | lia | omega)
        · rw [strLen_append, strLen_append, sizeLine_eq]
          (first | lia | omega)
        · rw [strLen_append, strLen_append, strLen_append, sizeLine_eq]
          (first | lia | omega)
        · rw [strLen_append, strLen_append, strLen_append, strLen_append, sizeLine_eq]
          (first | lia | omega)
        · rw [strLen_append, strLen_append, strLen_append, strLen_append, sizeLine_eq]
          (first | lia | omega)
        exact ⟨(by show 1 ≤ 1000; decide), fun y hy => q2 bad _ (sH5.trans (s7.trans (Same.new hy)))⟩
  · rintro σ H1 ⟨v3, v4, v5, v6, m, rfl, s1, hd1, hm, hok, hnd⟩
    rw [hzl, List.take_length] at hm hok hnd
    have okc : okC n rs := ⟨c, c2, hok, hnd⟩
    have hml : m.length = rs.length := Paired.length hm
    show u3 _ _ _
    refine by_eq e3 ?_
    refine ⟨_, rfl, _, rfl, d, m, rs.map rkP, rfl, hd1, by (first | lia | omega), hm.keys, fun ks zk kl hk0 hperm hup hks => ?_⟩
    have s2 := Same.new (o := .lst zk) hk0
    have hkl : kl.length = rs.length := by rw [hperm.length_eq, List.length_map]
    have hzk : zk.length = kl.length := hks.length
    have hk2 : (upd H1 ks (.lst zk)) ks = some (.lst zk) := upd_same
    have hks2 := hks.keep s2.tk
    have hd2 := s2 _ _ hd1
    have hm2 := hm.tk s2.tk
    have sH2 := s1.trans s2
    generalize upd H1 ks (.lst zk) = H2 at hk2 hks2 hd2 hm2 sH2 ⊢
    refine ⟨ks, rfl, ⟨_, SqL.of hk2⟩, fun pc hpc => ?_⟩
    refine comp_list (K := K) (a := ks) (p := pc) (xs := zk) (fun i us σ H6 => ∃ (w0 w1 : Option V) (ms : List (Int × Str × Pa)), σ = [w0, w1, some (.ref d)] ∧ Same H2 H6 ∧ H6 pc = some (.lst us) ∧ us.length = i ∧ RuL H6 us ms ∧ (∀ r ∈ ms, r ∈ rs) ∧ ms.map rkP = kl.take i)
      ⟨none, none, [], rfl, Same.new hpc, upd_same, rfl, .nil, fun _ h => (nomatch h), rfl⟩ ?_ ?_ ?_
    · rintro i us σ H6 _ ⟨_, _, _, _, s6, h, _⟩
      exact ⟨SqL.of (s6 _ _ hk2), h⟩
    · rintro i us x σ H6 hi hx ⟨w0, w1, ms, rfl, s6, hp6, hul, hrl6, hmem, hkey⟩
      obtain ⟨pk, kk, e1, rfl, e3⟩ := hks2.get i x hx
      have hkm : kk ∈ rs.map rkP := hperm.mem_iff.mp (List.mem_of_getElem? e1)
      rcases hm2.val kk with ⟨no, _⟩ | ⟨r, qp, yp, hr, hrk, hv, x2, x3⟩
      · exact absurd hkm no
      subst hrk
      refine ⟨pk, _, rfl, SqT.of (s6 _ _ e3), rfl, _, _, rfl, _, _, rfl, rfl, ?_⟩
      refine ⟨_, rfl, _, rfl, _, rfl, _, rfl, _, rfl, (by show 2 ≤ sizeLine; decide), fun kt hkt => ?_⟩
      have s7 := Same.new (o := .tup [.int r.1, .str r.2.1]) hkt
      have hg : DGet (upd H6 kt (.tup [.int r.1, .str r.2.1])) d (.ref kt) (some (.ref qp)) := by
        have := DGet.t (k := psK (rkP r)) ((s6.trans s7) _ _ hd2) (show (upd H6 kt (.tup [.int r.1, .str r.2.1])) kt = some (.tup ((psK (rkP r)).map kV)) from upd_same)
        rw [hv] at this
        exact this
      refine ⟨d, _, rfl, hg, (by show 3 ≤ sizeLine; decide), fun t3 ht3 => ?_⟩
      have s8 := Same.new (o := .tup [.int r.1, .str r.2.1, .ref qp]) ht3
      have s78 := s7.trans s8
      have hp8 := s78 _ _ hp6
      have tk := s78.tk.trans (TK.lst (o := .lst (us ++ [.ref t3])) hp8)
      have nt : t3 ≠ pc := fun z => nomatch ((z ▸ ht3 : _ = none).symm.trans (s7 _ _ hp6))
      refine ⟨hp8, len1000' (by (first | lia | omega)), CW.next hi ⟨_, _, ms ++ [r], rfl, (s6.trans s78).upd_new hpc, upd_same, by rw [List.length_append, List.length_singleton, hul], Paired.app (hrl6.tk tk) (.cons ⟨t3, qp, yp, rfl, ?_, tk _ _ (s6 _ _ x2), (x3.mono s6.tk).mono tk⟩ .nil), fun r' hr' => ?_, ?_⟩⟩
      · rw [upd_ne nt]
        exact upd_same
      · rcases List.mem_append.mp hr' with hr' | hr'
        · exact hmem r' hr'
        · rw [List.mem_singleton.mp hr']
          exact hr
      · rw [take_succ' e1, List.map_append, hkey]
        rfl
    rintro us σ H6 ⟨w0, w1, ms, rfl, s6, hp6, hul, hrl6, hmem, hkey⟩
    rw [hzk, List.take_length] at hkey
    refine ⟨pc, us, rfl, .inl ⟨SqL.of hp6, fun T hT => ?_⟩⟩
    have s7 := Same.new (o := .tup us) hT
    refine ⟨(by show 2 ≤ sizeLine; decide), fun ca hca => ?_⟩
    have s8 := Same.new (o := .tup [.int n, .ref T]) hca
    refine q1 okc ca T us ms _ (sH2.trans (s6.trans (s7.trans s8))) upd_same (s8 _ _ upd_same) (hrl6.tk (s7.trans s8).tk) ⟨hmem, ?_, ?_⟩
    · rw [hkey]
      exact hperm
    · rw [hkey]
      exact hup
/-- parts under way: rows and open tags -/
structure PgS (H H1 : Hp) (R T : Addr) (as : List Addr) (gs : List Pa) (ts : List Str) : Prop where
  sm : Same H H1
  hT : H1 T = some (.lst ((ts.map V.str).reverse))
  hR : H1 R = some (.lst ((as.map V.ref).reverse))
  rows : Paired (fun a g => ∃ xs, H1 a = some (.lst xs) ∧ RepP H1 xs g) as gs
  nd : (R :: T :: as).Nodup
  fr : ∀ b ∈ R :: T :: as, H b = none
  gl : gs.length = ts.length + 1
section
variable {H H1 : Hp} {R T : Addr} {as : List Addr} {gs : List Pa} {ts : List Str}
theorem rowsP_there {H1 : Hp} : ∀ {as : List Addr} {gs : List Pa}, Paired (fun a g => ∃ xs, H1 a = some (.lst xs) ∧ RepP H1 xs g) as gs → ∀ b ∈ as, ∃ o, H1 b = some o
  | _, _, .cons ⟨xs, h, _⟩ t, b, hb => by
    rcases List.mem_cons.mp hb with rfl | hb
    · exact ⟨_, h⟩
    · exact rowsP_there t b hb
theorem rowsP_mono {H1 H2 : Hp} (k : TK H1 H2) : ∀ {as : List Addr} {gs : List Pa}, Paired (fun a g => ∃ xs, H1 a = some (.lst xs) ∧ RepP H1 xs g) as gs → (∀ b ∈ as, ∀ o, H1 b = some o → H2 b = some o) → Paired (fun a g => ∃ xs, H2 a = some (.lst xs) ∧ RepP H2 xs g) as gs
  | _, _, .nil, _ => .nil
  | _, _, .cons ⟨xs, h, r⟩ t, kb => .cons ⟨xs, kb _ (List.mem_cons_self ..) _ h, r.mono k⟩ (rowsP_mono k t fun b hb => kb b (List.mem_cons_of_mem _ hb))
theorem PgS.nR (h : PgS H H1 R T as gs ts) : ∀ b ∈ as, b ≠ R := fun b hb e => (List.nodup_cons.mp h.nd).1 (by rw [← e]; exact List.mem_cons_of_mem _ hb)
theorem PgS.nT (h : PgS H H1 R T as gs ts) : ∀ b ∈ as, b ≠ T := fun b hb e => (List.nodup_cons.mp (List.nodup_cons.mp h.nd).2).1 (by rw [← e]; exact hb)
theorem PgS.RT (h : PgS H H1 R T as gs ts) : R ≠ T := fun e => (List.nodup_cons.mp h.nd).1 (by rw [e]; exact List.mem_cons_self ..)
theorem PgS.opened {wd : Str} {l : Addr} (h : PgS H H1 R T as gs ts) (hl : (upd H1 T (.lst ((ts.map V.str).reverse ++ [.str wd]))) l = none) : PgS H (upd (upd (upd H1 T (.lst ((ts.map V.str).reverse ++ [.str wd]))) l (.lst [])) R (.lst ((as.map V.ref).reverse ++ [.ref l]))) R T (l :: as) (.nil :: gs) (wd :: ts) := by
  obtain ⟨nlT, hl1⟩ := upd_none hl
  have nlR : R ≠ l := ne_of_none h.hR hl1
  have hRT := h.RT
  have hRb : (upd (upd H1 T (.lst ((ts.map V.str).reverse ++ [.str wd]))) l (.lst [])) R = some (.lst (as.map V.ref).reverse) := by
    rw [upd_ne nlR, upd_ne hRT]
    exact h.hR
  have tk : TK H1 (upd (upd (upd H1 T (.lst ((ts.map V.str).reverse ++ [.str wd]))) l (.lst [])) R (.lst ((as.map V.ref).reverse ++ [.ref l]))) := ((TK.lst h.hT).trans (TK.new hl)).trans (TK.lst hRb)
  have nla : l ∉ as := fun hb => by
    obtain ⟨o, ho⟩ := rowsP_there h.rows l hb
    rw [hl1] at ho
    cases ho
  obtain ⟨ndR, ndT⟩ := List.nodup_cons.mp h.nd
  obtain ⟨ndT', ndA⟩ := List.nodup_cons.mp ndT
  refine ⟨((h.sm.upd_new (h.fr T (by simp))).upd_new (h.sm.free hl1)).upd_new (h.fr R (by simp)), ?_, ?_, .cons ⟨[], ?_, .nil⟩ (rowsP_mono tk h.rows fun b hb o ho => ?_), ?_, ?_, by rw [List.length_cons, List.length_cons, h.gl]⟩
  · rw [upd_ne hRT.symm, upd_ne nlT.symm, upd_same, List.map_cons, List.reverse_cons]
  · rw [upd_same, List.map_cons, List.reverse_cons]
  · rw [upd_ne nlR.symm]
    exact upd_same
  · rw [upd_ne (h.nR b hb), upd_ne (ne_of_none ho hl1), upd_ne (h.nT b hb)]
    exact ho
  · refine List.nodup_cons.mpr ⟨fun h => ?_, List.nodup_cons.mpr ⟨fun h => ?_, List.nodup_cons.mpr ⟨nla, ndA⟩⟩⟩
    · rcases List.mem_cons.mp h with h | h
      · exact hRT h
      · rcases List.mem_cons.mp h with h | h
        · exact nlR h
        · exact ndR (List.mem_cons_of_mem _ h)
    · rcases List.mem_cons.mp h with h | h
      · exact nlT h.symm
      · exact ndT' h
  · intro b hb
    simp only [List.mem_cons] at hb
    rcases hb with rfl | rfl | rfl | hb
    · exact h.fr _ (by simp)
    · exact h.fr _ (by simp)
    · exact h.sm.free hl1
    · exact h.fr b (by simp [hb])
/-- the innermost row, one part longer -/
theorem PgS.put {b0 pt : Addr} {g0 q : Pa} {vs : List V} {a1 : List Addr} {g1 : List Pa} (h : PgS H H1 R T (b0 :: a1) (g0 :: g1) ts) (h0 : H1 b0 = some (.lst vs)) (r0 : RepP H1 vs g0) (s : Same H1 H2) (hq : RepP (upd H2 b0 (.lst (vs ++ [.ref pt]))) [.ref pt] q) : PgS H (upd H2 b0 (.lst (vs ++ [.ref pt]))) R T (b0 :: a1) (g0.app q :: g1) ts := by
  have tk : TK H1 (upd H2 b0 (.lst (vs ++ [.ref pt]))) := s.tk.trans (TK.lst (s _ _ h0))
  have nb : ∀ b ∈ a1, b ≠ b0 := fun b hb e => (List.nodup_cons.mp (List.nodup_cons.mp (List.nodup_cons.mp h.nd).2).2).1 (by rw [← e]; exact hb)
  have hrows := h.rows
  cases hrows with
  | cons r t =>
    refine ⟨(h.sm.trans s).upd_new (h.fr b0 (by simp)), ?_, ?_, .cons ⟨_, upd_same, (r0.mono tk).app hq⟩ (rowsP_mono tk t fun b hb o ho => ?_), h.nd, h.fr, h.gl⟩
    · rw [upd_ne (h.nT b0 (List.mem_cons_self ..)).symm]
      exact s _ _ h.hT
    · rw [upd_ne (h.nR b0 (List.mem_cons_self ..)).symm]
      exact s _ _ h.hR
    · rw [upd_ne (nb b hb)]
      exact s _ _ ho
/-- the innermost row taken off, and its tag -/
theorem PgS.two (h : PgS H H1 R T as gs (t :: ts)) : ∃ b0 b1 a2 g0 g1 g2 vs0 vs1, as = b0 :: b1 :: a2 ∧ gs = g0 :: g1 :: g2 ∧ H1 b0 = some (.lst vs0) ∧ RepP H1 vs0 g0 ∧ H1 b1 = some (.lst vs1) ∧ RepP H1 vs1 g1 ∧ H1 R = some (.lst (((b1 :: a2).map V.ref).reverse ++ [.ref b0])) ∧ H1 T = some (.lst ((ts.map V.str).reverse ++ [.str t])) := by
  have hgl := h.gl
  have hR := h.hR
  have hT := h.hT
  have hrows := h.rows
  cases gs with
  | nil => simp at hgl
  | cons g0 gs =>
    cases gs with
    | nil => simp at hgl
    | cons g1 gs =>
      cases hrows with
      | @cons b0 _ as _ r0 hrows =>
        cases hrows with
        | @cons b1 _ as _ r1 hrows =>
          obtain ⟨vs0, h00, r00⟩ := r0
          obtain ⟨vs1, h11, r11⟩ := r1
          refine ⟨b0, b1, as, g0, g1, gs, vs0, vs1, rfl, rfl, h00, r00, h11, r11, ?_, ?_⟩
          · rw [hR, List.map_cons, List.reverse_cons]
          · rw [hT, List.map_cons, List.reverse_cons]
/-- behind both pops: a shorter state -/
theorem PgS.popped {b0 : Addr} {g0 : Pa} {a1 : List Addr} {g1 : List Pa} {t : Str} {l : Addr} {vs0 : List V} (h : PgS H H1 R T (b0 :: a1) (g0 :: g1) (t :: ts)) (hl : (upd H1 R (.lst ((a1.map V.ref).reverse))) l = none) : PgS H (upd (upd (upd H1 R (.lst ((a1.map V.ref).reverse))) l (.tup vs0)) T (.lst ((ts.map V.str).reverse))) R T a1 g1 ts := by
  obtain ⟨nlR, hl1⟩ := upd_none hl
  have hRT := h.RT
  have nlT : T ≠ l := ne_of_none h.hT hl1
  have hTb : (upd (upd H1 R (.lst ((a1.map V.ref).reverse))) l (.tup vs0)) T = some (.lst (((t :: ts).map V.str).reverse)) := by
    rw [upd_ne nlT, upd_ne hRT.symm]
    exact h.hT
  have tk : TK H1 (upd (upd (upd H1 R (.lst ((a1.map V.ref).reverse))) l (.tup vs0)) T (.lst ((ts.map V.str).reverse))) := ((TK.lst h.hR).trans (TK.new hl)).trans (TK.lst hTb)
  have hgl := h.gl
  have hrows := h.rows
  have nRs := h.nR
  have nTs := h.nT
  cases hrows with
  | cons r rt =>
    obtain ⟨ndR, ndT⟩ := List.nodup_cons.mp h.nd
    obtain ⟨ndT', ndA⟩ := List.nodup_cons.mp ndT
    refine ⟨((h.sm.upd_new (h.fr R (by simp))).upd_new (h.sm.free hl1)).upd_new (h.fr T (by simp)), upd_same, ?_, rowsP_mono tk rt fun b hb o ho => ?_, ?_, fun b hb => h.fr b ?_, by simp at hgl ⊢; (first | lia | omega)⟩
    · rw [upd_ne hRT, upd_ne nlR.symm]
      exact upd_same
    · rw [upd_ne (nTs b (List.mem_cons_of_mem _ hb)), upd_ne (ne_of_none ho hl1), upd_ne (nRs b (List.mem_cons_of_mem _ hb))]
      exact ho
    · refine List.nodup_cons.mpr ⟨fun z => ndR ?_, List.nodup_cons.mpr ⟨fun z => ndT' (List.mem_cons_of_mem _ z), (List.nodup_cons.mp ndA).2⟩⟩
      rcases List.mem_cons.mp z with z | z
      · exact absurd z hRT
      · exact List.mem_cons_of_mem _ (List.mem_cons_of_mem _ z)
    · simp only [List.mem_cons] at hb ⊢
      rcases hb with h | h | h
      · exact .inl h
      · exact .inr (.inl h)
      · exact .inr (.inr (.inr h))
end
/-- a closed tag -/
theorem PgS.shutting {H H1 : Hp} {R T b0 b1 l l2 : Addr} {a2 : List Addr} {g0 g1 : Pa} {g2 : List Pa} {t : Str} {ts : List Str} {vs0 vs1 : List V} (h : PgS H H1 R T (b0 :: b1 :: a2) (g0 :: g1 :: g2) (t :: ts)) (h0 : H1 b0 = some (.lst vs0)) (r0 : RepP H1 vs0 g0) (h1 : H1 b1 = some (.lst vs1)) (r1 : RepP H1 vs1 g1)
    (hl : (upd H1 R (.lst ((b1 :: a2).map V.ref).reverse)) l = none) (hl2 : (upd (upd (upd H1 R (.lst ((b1 :: a2).map V.ref).reverse)) l (.tup vs0)) T (.lst (ts.map V.str).reverse)) l2 = none) :
    (upd H1 R (.lst ((b1 :: a2).map V.ref).reverse)) b0 = some (.lst vs0) ∧ (upd (upd H1 R (.lst ((b1 :: a2).map V.ref).reverse)) l (.tup vs0)) R = some (.lst ((a2.map V.ref).reverse ++ [.ref b1])) ∧ (upd (upd H1 R (.lst ((b1 :: a2).map V.ref).reverse)) l (.tup vs0)) b1 = some (.lst vs1) ∧ (upd (upd H1 R (.lst ((b1 :: a2).map V.ref).reverse)) l (.tup vs0)) T = some (.lst ((ts.map V.str).reverse ++ [.str t])) ∧
    (upd (upd (upd (upd H1 R (.lst ((b1 :: a2).map V.ref).reverse)) l (.tup vs0)) T (.lst (ts.map V.str).reverse)) l2 (.tup [.str "tag", .str t, .ref l])) b1 = some (.lst vs1) ∧
    PgS H (upd (upd (upd (upd (upd H1 R (.lst ((b1 :: a2).map V.ref).reverse)) l (.tup vs0)) T (.lst (ts.map V.str).reverse)) l2 (.tup [.str "tag", .str t, .ref l])) b1 (.lst (vs1 ++ [.ref l2]))) R T (b1 :: a2) (g1.app (.tag t g0 .nil) :: g2) ts := by
  have hp := h.popped (vs0 := vs0) hl
  obtain ⟨nlR, hl1⟩ := upd_none hl
  have n0R := h.nR b0 (by simp)
  have n1R := h.nR b1 (by simp)
  have n1T := h.nT b1 (by simp)
  have n1l : b1 ≠ l := ne_of_none h1 hl1
  have nTl : T ≠ l := ne_of_none h.hT hl1
  have h1p : (upd (upd H1 R (.lst ((b1 :: a2).map V.ref).reverse)) l (.tup vs0)) b1 = some (.lst vs1) := by
    rw [upd_ne n1l, upd_ne n1R]
    exact h1
  have hTp : (upd (upd H1 R (.lst ((b1 :: a2).map V.ref).reverse)) l (.tup vs0)) T = some (.lst ((ts.map V.str).reverse ++ [.str t])) := by
    rw [upd_ne nTl, upd_ne h.RT.symm, h.hT, List.map_cons, List.reverse_cons]
  have h1q : (upd (upd (upd H1 R (.lst ((b1 :: a2).map V.ref).reverse)) l (.tup vs0)) T (.lst (ts.map V.str).reverse)) b1 = some (.lst vs1) := by
    rw [upd_ne n1T]
    exact h1p
  have tkq : TK H1 (upd (upd (upd H1 R (.lst ((b1 :: a2).map V.ref).reverse)) l (.tup vs0)) T (.lst (ts.map V.str).reverse)) := ((TK.lst h.hR).trans (TK.new hl)).trans (TK.lst hTp)
  have s2 : Same (upd (upd (upd H1 R (.lst ((b1 :: a2).map V.ref).reverse)) l (.tup vs0)) T (.lst (ts.map V.str).reverse)) (upd (upd (upd (upd H1 R (.lst ((b1 :: a2).map V.ref).reverse)) l (.tup vs0)) T (.lst (ts.map V.str).reverse)) l2 (.tup [.str "tag", .str t, .ref l])) := Same.new hl2
  have n2b : l2 ≠ b1 := fun z => by rw [z, h1q] at hl2; cases hl2
  have tk5 := s2.tk.trans (TK.lst (o := .lst (vs1 ++ [.ref l2])) (s2 _ _ h1q))
  refine ⟨by rw [upd_ne n0R]; exact h0, ?_, h1p, hTp, s2 _ _ h1q, hp.put (pt := l2) (q := .tag t g0 .nil) h1q (r1.mono tkq) s2 (.tag (q := l) ?_ ?_ ((r0.mono tkq).mono tk5) .nil)⟩
  · rw [upd_ne nlR.symm, upd_same, List.map_cons, List.reverse_cons]
  · rw [upd_ne n2b]
    exact upd_same
  · refine tk5 _ _ ?_
    rw [upd_ne nTl.symm]
    exact upd_same
theorem PgS.start2 {H : Hp} {a0 R T : Addr} (hT : H T = none) (h0 : (upd H T (.lst [])) a0 = none) (hR : (upd (upd H T (.lst [])) a0 (.lst [])) R = none) : PgS H (upd (upd (upd H T (.lst [])) a0 (.lst [])) R (.lst [.ref a0])) R T [a0] [.nil] [] := by
  obtain ⟨n0T, h0'⟩ := upd_none h0
  obtain ⟨nR0, hR1⟩ := upd_none hR
  obtain ⟨nRT, hR'⟩ := upd_none hR1
  refine ⟨((Same.new hT).upd_new h0').upd_new hR', ?_, upd_same, .cons ⟨[], ?_, .nil⟩ .nil, ?_, ?_, rfl⟩
  · rw [upd_ne nRT.symm, upd_ne n0T.symm]
    exact upd_same
  · rw [upd_ne nR0.symm]
    exact upd_same
  · simp [nRT, nR0, n0T.symm]
  · intro b hb
    simp only [List.mem_cons, List.not_mem_nil, or_false] at hb
    rcases hb with rfl | rfl | rfl
    · exact hR'
    · exact hT
    · exact h0'
theorem PgS.more {H H1 H2 : Hp} {R T : Addr} {as : List Addr} {gs : List Pa} {ts : List Str} (h : PgS H H1 R T as gs ts) (s : Same H1 H2) : PgS H H2 R T as gs ts :=
  ⟨h.sm.trans s, s _ _ h.hT, s _ _ h.hR, rowsP_mono s.tk h.rows fun b _ o e => s b o e, h.nd, h.fr, h.gl⟩
def spNums72 (K : PySem.W.Frag) : Sp := fun vs H Q _ => ∃ (a : Addr) (ns : List Int) (st m : Int), vs = [.ref a, .int st, .int m] ∧ SqL K H a (ns.map V.int) ∧ ns.length ≤ 63 ∧ 0 ≤ m ∧ m ≤ 400 ∧
  ∀ (r : Addr) (xs : List Int) (H' : Hp), Same H H' → H r = none → H' r = some (.lst (xs.map V.int)) → xs.length = m.toNat → (∀ x ∈ xs, 0 ≤ x ∧ x < 2147483647) → Q (.ref r) H'
theorem ok_l_numbers (B : ∀ x ∈ blts, mg x = none) (g_l_cell_at : Has P w K mg base "_law_cell_at" ["_law_script", "_law_k"] 1 (spCell K)) (F : Fun K "_law_numbers" "_law_numbers" s_l_numbers f fd) :
    FnOk P w K mg base CX0 2 f fd ["_law_script", "_law_first", "_law_many"] (spNums72 K) := by
  refine F.ok sc_l_numbers (fun vs H Q E h => ?_) (fun cdv A outer s H vs Q E hr h => ?_)
  · obtain ⟨a, ns, st, m, rfl, _⟩ := h
    rfl
  obtain ⟨a, ns, st, m, rfl, hS, h63, h0, h1, q⟩ := h
  refine ⟨_, (pss_cons (ps_set (i := 3) sc_l_numbers.nd rfl (Or.inl rfl) (pe_lst pa_nil))
    (pss_cons (ps_set (i := 4) sc_l_numbers.nd rfl (Or.inl rfl) (pe_op op_add pe_int (pv 1)))
    (pss_cons (ps_for PassesOwn.never rfl (pi_range1 rfl (B "range" (by decide)) (pa_cons (pv 2) pa_nil)) (pg_name (i := 5) sc_l_numbers.nd rfl (Or.inl rfl))
      (pss_cons (ps_set (i := 6) sc_l_numbers.nd rfl (Or.inl rfl) (pe_has g_l_cell_at hr rfl (pa_cons (pv 0) (pa_cons (pe_op op_add pe_int (pe_op op_mod (pe_op op_add (pv 1) (pv 5)) (pe_callB (call_max2 rfl) rfl (B "max" (by decide)) bt_max (pa_cons pe_int (pa_cons (pe_op op_sub (pe_callB call_len_seq rfl (B "len" (by decide)) PySem.boot_len (pa_cons (pv 0) pa_nil)) pe_int) pa_nil))))) pa_nil))))
        (pss_cons (ps_set (i := 4) sc_l_numbers.nd rfl (Or.inl rfl) (pe_op op_mod (pe_op op_add (pe_op op_add (pe_op op_mul (pv 4) pe_int) (pv 6)) (pe_op op_mul (pv 5) (pv 5))) pe_int))
        (pss_one (ps_expr (pe_bm PySem.F.plainAttrs_list PySem.F.slot_list_append PySem.F.type_list_append mt_append (pv 3) (pa_cons (pv 4) pa_nil)))))))
    (pss_one (ps_ret (pv 3)))))), ?_⟩
  refine ⟨by decide, fun p hp => ?_⟩
  refine ⟨_, rfl, _, _, rfl, rfl, ?_⟩
  refine ⟨_, rfl, m, rfl, by (first | lia | omega), by (first | lia | omega), for_range (lo := 0) (n := m.toNat) (fun i σ H1 => ∃ (xs : List Int) (num : Int) (v4 v5 : Option V), σ = [some (.ref a), some (.int st), some (.int m), some (.ref p), some (.int num), v4, v5] ∧
    Same H H1 ∧ H1 p = some (.lst (xs.map V.int)) ∧ xs.length = i ∧ (∀ x ∈ xs, 0 ≤ x ∧ x < 2147483647)) ⟨[], _, none, none, rfl, Same.new hp, upd_same, rfl, fun _ h => nomatch h⟩ ?_ ?_⟩
  · rintro i σ H1 hi ⟨xs, num, v4, v5, rfl, sm, hp1, hl, hx⟩
    have hS1 := sm.seq hS
    refine ⟨_, rfl, _, rfl, _, rfl, _, _, rfl, rfl, _, rfl, a, _, rfl, .inl hS1, _, _, rfl, rfl, _, _, rfl, _, _, rfl, rfl, ?_, _, _, rfl, rfl, a, ns, _, rfl, hS1, h63, ?_, fun v => ?_⟩
    · exact max_pos _
    · have := Int.emod_nonneg (st + (0 + (i : Int))) (Int.ne_of_gt (max_pos (((ns.map V.int).length : Int) - 2)))
      (first | lia | omega)
    refine ⟨_, rfl, _, _, rfl, rfl, .inr ⟨by decide, by decide⟩, _, rfl, _, _, rfl, rfl, _, rfl, _, rfl, _, _, rfl, rfl, .inl ⟨by (first | lia | omega), by (first | lia | omega)⟩, _, _, rfl, rfl, _, _, rfl, rfl, (by show (0 : Int) < 2147483647; decide), ?_⟩
    refine ⟨_, rfl, .inl ⟨rfl, _, SqL.of hp1⟩, _, rfl, p, _, _, rfl, rfl, hp1, len1000' (by rw [List.length_map]; (first | lia | omega)), ?_⟩
    refine ⟨xs ++ [(num * 48271 + v + (0 + (i : Int)) * (0 + (i : Int))) % 2147483647], _, _, _, rfl, sm.upd_new hp, ?_, ?_, ?_⟩
    · rw [upd_same, List.map_append]
      rfl
    · rw [List.length_append, hl]
      rfl
    · intro x hx'
      rcases List.mem_append.mp hx' with hx' | hx'
      · exact hx x hx'
      · obtain rfl := List.mem_singleton.mp hx'
        exact ⟨Int.emod_nonneg _ (by decide), Int.emod_lt_of_pos _ (by decide)⟩
  · rintro σ H1 ⟨xs, num, v4, v5, rfl, sm, hp1, hl, hx⟩
    exact ⟨_, rfl, q p xs H1 sm hp hp1 hl hx⟩
theorem lets_len {t : Str} (h : Let0 t) (hl : 1 ≤ t.length) : Lets t := ⟨fun z => by
  have : t.cps.toList.length = t.length := Array.length_toList
  rw [z, List.length_nil] at this
  (first | lia | omega), h⟩
def spTag71 : Sp := fun vs H Q _ => ∃ n : Int, vs = [.int n] ∧ ∀ t : Str, tagB t = true → Q (.str t) H
theorem ok_l_tag (B : ∀ x ∈ blts, mg x = none) (F : Fun K "_law_tag" "_law_tag" s_l_tag f fd) : FnOk P w K mg base CX0 1 f fd ["_law_number"] spTag71 := by
  refine F.ok sc_l_tag (fun vs H Q E h => ?_) (fun cdv A outer s H vs Q E hr h => ?_)
  · obtain ⟨n, rfl, _⟩ := h
    rfl
  obtain ⟨n, rfl, q⟩ := h
  have a0 : Let0 "a" := by intro c hc; revert c; decide
  refine ⟨_, (pss_cons (ps_set (i := 1) sc_l_tag.nd rfl (Or.inl rfl) pe_str)
    (pss_cons (ps_if (pt_cmpR op_eq (pe_op op_mod (pv 0) pe_int) pe_int (nomark _))
      (pss_one (ps_ret (pe_op op_add_str (pe_ix ix_str (pv 1) (pe_op op_mod (pe_op op_fdiv (pv 0) pe_int) pe_int) (fun _ _ => rfl)) (pe_op op_mul_str pe_str (pe_op op_mod (pe_op op_fdiv (pv 0) pe_int) pe_int)))))
      pss_nil)
    (pss_cons (ps_set (i := 2) sc_l_tag.nd rfl (Or.inl rfl) pe_str)
    (pss_cons (ps_for PassesOwn.never rfl (pi_range1 rfl (B "range" (by decide)) (pa_cons (pe_op op_add pe_int (pe_op op_mod (pe_op op_fdiv (pv 0) pe_int) pe_int)) pa_nil)) (pg_name (i := 3) sc_l_tag.nd rfl (Or.inl rfl))
      (pss_cons (ps_set (i := 0) sc_l_tag.nd rfl (Or.inl rfl) (pe_op op_mod (pe_op op_add (pe_op op_mul (pv 0) pe_int) (pv 3)) pe_int))
        (pss_one (ps_set (i := 2) sc_l_tag.nd rfl (Or.inl rfl) (pe_op op_add_str (pv 2) (pe_ix ix_str (pv 1) (pe_op op_mod (pv 0) pe_int) (fun _ _ => rfl)))))))
    (pss_one (ps_ret (pv 2))))))), ?_⟩
  -- number % 4 == 0
  refine ⟨_, rfl, _, _, rfl, rfl, (by show (0 : Int) < 4; decide), rfl, _, rfl, ?_⟩
  refine ite2 (fun _ => ?_) (fun _ => ?_)
  · obtain ⟨c, hc, c1, c2⟩ := abc_at (i := n / 4 % 3) (Int.emod_nonneg _ (by decide)) (Int.lt_trans (Int.emod_lt_of_pos _ (by decide)) (by decide))
    have e1 := Int.emod_nonneg (n / 12) (by decide : (8 : Int) ≠ 0)
    have e2 := Int.emod_lt_of_pos (n / 12) (by decide : (0 : Int) < 8)
    refine ⟨_, rfl, _, rfl, _, _, rfl, rfl, ⟨by decide, by decide⟩, _, _, rfl, rfl, (by show (0 : Int) < 3; decide), _, _, c, rfl, rfl, (by decide), hc, ?_⟩
    refine ⟨_, rfl, _, _, rfl, rfl, ⟨by decide, by decide⟩, _, _, rfl, rfl, (by show (0 : Int) < 8; decide), _, _, rfl, rfl, by (first | lia | omega), by (first | lia | omega), ?_, _, _, rfl, rfl, ?_, ?_⟩
    · show (n / 12 % 8).toNat * 1 ≤ sizeLine
      exact len1000 (by (first | lia | omega))
    · rw [repS_len]
      show 1 + (n / 12 % 8).toNat * 1 ≤ sizeLine
      exact len1000 (by (first | lia | omega))
    · refine q _ (tagB_letsS (lets_l (lets_one c1 c2) (let0_rep a0 _)) ?_)
      rw [app_len, repS_len]
      show 1 + (n / 12 % 8).toNat * 1 ≤ 8
      (first | lia | omega)
  -- letter by letter
  have e1 := Int.emod_nonneg (n / 4) (by decide : (8 : Int) ≠ 0)
  have e2 := Int.emod_lt_of_pos (n / 4) (by decide : (0 : Int) < 8)
  refine ⟨_, rfl, _, _, rfl, rfl, ⟨by decide, by decide⟩, _, _, rfl, rfl, (by show (0 : Int) < 8; decide), _, _, rfl, rfl, _, rfl, by (first | lia | omega), by (first | lia | omega), for_range (lo := 0) (n := (1 + n / 4 % 8).toNat)
    (fun i σ H1 => ∃ (n' : Int) (t : Str) (v4 : Option V), σ = [some (.int n'), some (.str ABC), some (.str t), v4] ∧ H1 = H ∧ Let0 t ∧ t.length = i) ⟨n, Str.empty, none, rfl, rfl, (fun c hc => nomatch hc), rfl⟩ ?_ ?_⟩
  · rintro i σ H1 hi ⟨n', t, v4, rfl, rfl, ht, hl⟩
    have m1 := Int.emod_nonneg (n' * 69621 + (0 + (i : Int))) (by decide : (2147483629 : Int) ≠ 0)
    have m2 := Int.emod_lt_of_pos (n' * 69621 + (0 + (i : Int))) (by decide : (0 : Int) < 2147483629)
    refine ⟨_, rfl, _, _, rfl, rfl, .inr ⟨by decide, by decide⟩, _, rfl, _, _, rfl, rfl, _, _, rfl, rfl, (by show (0 : Int) < 2147483629; decide), ?_⟩
    obtain ⟨c, hc, c1, c2⟩ := abc_at (i := (n' * 69621 + (0 + (i : Int))) % 2147483629 % 26) (Int.emod_nonneg _ (by decide)) (Int.emod_lt_of_pos _ (by decide))
    refine ⟨_, rfl, _, rfl, _, rfl, _, _, rfl, rfl, (by show (0 : Int) < 26; decide), _, _, c, rfl, rfl, (by decide), hc, _, _, rfl, rfl, ?_, ?_⟩
    · show t.length + 1 ≤ sizeLine
      exact len1000 (by (first | lia | omega))
    · refine ⟨_, t ++ ⟨#[c]⟩, _, rfl, rfl, let0_app ht (lets_one c1 c2).let0, ?_⟩
      rw [app_len, hl]
      rfl
  · rintro σ H1 ⟨n', t, v4, rfl, rfl, ht, hl⟩
    exact ⟨_, rfl, q t (tagB_letsS (lets_len ht (by (first | lia | omega))) (by (first | lia | omega)))⟩
/-- what is known of parts under way -/
structure PgX (md : Int) (gs : List Pa) (os : List Str) (i : Nat) : Prop where
  sz : (gs.map Pa.sz).sum + os.length ≤ i
  ok : ∀ g ∈ gs, ∀ x ∈ allP g, okX md x
  op : ∀ x ∈ os, tagB x = true
theorem PgX.shut {md : Int} {g0 g1 : Pa} {g2 : List Pa} {t : Str} {os : List Str} {i : Nat} (h : PgX md (g0 :: g1 :: g2) (t :: os) i) : PgX md (g1.app (.tag t g0 .nil) :: g2) os i := by
  obtain ⟨h1, h3, h4⟩ := h
  refine ⟨?_, fun g hg => ?_, fun x hx => h4 x (List.mem_cons_of_mem _ hx)⟩
  · simp only [List.map_cons, List.sum_cons, List.length_cons, Pa.sz_app, Pa.sz] at h1 ⊢
    (first | lia | omega)
  · rcases List.mem_cons.mp hg with rfl | hg
    · intro x hx
      rw [allP_app] at hx
      rcases List.mem_append.mp hx with hx | hx
      · exact h3 g1 (by simp) x hx
      · simp only [allP, List.append_nil, List.mem_cons] at hx
        rcases hx with rfl | hx
        · exact h4 t (List.mem_cons_self ..)
        · exact h3 g0 (by simp) x hx
    · exact h3 g (by simp [hg])
def spParts71 : Sp := fun vs H Q _ => ∃ (na : Addr) (xs : List Int) (md : Int), vs = [.ref na, .int md] ∧ H na = some (.lst (xs.map V.int)) ∧ xs.length ≤ 6 ∧ 0 < md ∧ md < 100 ∧ ∀ (r : Addr) (ys : List V) (p : Pa) (H' : Hp), Same H H' → H' r = some (.tup ys) → RepP H' ys p → p.sz ≤ 6 → (∀ x ∈ allP p, okX md x) → Q (.ref r) H'
set_option maxHeartbeats 8000000 in
theorem ok_l_parts (B : ∀ x ∈ blts, mg x = none) (g_l_tag : Has P w K mg base "_law_tag" ["_law_number"] 1 spTag71) (F : Fun K "_law_parts" "_law_parts" s_l_parts f fd) : FnOk P w K mg base CX0 2 f fd ["_law_numbers_here", "_law_modes"] spParts71 := by
  refine F.ok sc_l_parts (fun vs H Q E h => ?_) (fun cdv A outer s H vs Q E hr h => ?_)
  · obtain ⟨na, xs, md, rfl, _⟩ := h
    rfl
  obtain ⟨na, xs, md, rfl, hna, hx6, m0, m1, q⟩ := h
  refine hideI ((defBody s_l_parts).drop 5) (pss_one (ps_ret (pe_callTy call_tuple_of rfl (B "tuple" (by decide)) bt_tuple (pa_cons (pe_ix ix_list (pv 3) pe_int (fun _ _ => rfl)) pa_nil)))) (fun u5 h5 e5 => ?_)
  refine hideI ((sBody ((defBody s_l_parts).getD 4 (.Pass ⟨0, 0, 0, 0⟩))).drop 1) (pss_one (ps_expr (pe_bm PySem.F.plainAttrs_list PySem.F.slot_list_append PySem.F.type_list_append mt_append (pe_ix ix_list (pv 3) (pe_un un_neg pe_int) (fun _ _ => rfl)) (pa_cons (pe_tup (pa_cons pe_str (pa_cons (pe_bm0 PySem.F.plainAttrs_list PySem.F.slot_list_pop PySem.F.type_list_pop mt_pop (pv 2)) (pa_cons (pv 7) pa_nil)))) pa_nil)))) (fun u4_1 h4_1 e4_1 => ?_)
  refine hideI ((sBody ((defBody s_l_parts).getD 4 (.Pass ⟨0, 0, 0, 0⟩))).drop 0) (pss_cons (ps_set (i := 7) sc_l_parts.nd rfl (Or.inl rfl) (pe_callTy call_tuple_of rfl (B "tuple" (by decide)) bt_tuple (pa_cons (pe_bm0 PySem.F.plainAttrs_list PySem.F.slot_list_pop PySem.F.type_list_pop mt_pop (pv 3)) pa_nil))) h4_1) (fun u4_0 h4_0 e4_0 => ?_)
  refine hideI ((defBody s_l_parts).drop 4) (pss_cons (ps_while PassesOwn.never (pt_cmpR op_gt (pe_callB call_len_seq rfl (B "len" (by decide)) PySem.boot_len (pa_cons (pv 2) pa_nil)) pe_int (nomark _))
      h4_0) h5) (fun u4 h4 e4 => ?_)
  refine hideI ((sBody ((sBody ((defBody s_l_parts).getD 3 (.Pass ⟨0, 0, 0, 0⟩))).getD 1 (.Pass ⟨0, 0, 0, 0⟩))).drop 1) (pss_one (ps_set (i := 4) sc_l_parts.nd rfl (Or.inl rfl) (pe_op op_add (pv 4) pe_int))) (fun u3_1t1 h3_1t1 e3_1t1 => ?_)
  refine hideI ((sBody ((sBody ((defBody s_l_parts).getD 3 (.Pass ⟨0, 0, 0, 0⟩))).getD 1 (.Pass ⟨0, 0, 0, 0⟩))).drop 0) (pss_cons (ps_expr (pe_bm PySem.F.plainAttrs_list PySem.F.slot_list_append PySem.F.type_list_append mt_append (pe_ix ix_list (pv 3) (pe_un un_neg pe_int) (fun _ _ => rfl)) (pa_cons (pe_tup (pa_cons pe_str (pa_cons (pe_op op_mod (pe_op op_fdiv (pv 5) pe_int) (pv 1)) pa_nil))) pa_nil))) h3_1t1) (fun u3_1t0 h3_1t0 e3_1t0 => ?_)
  refine hideI ((sElse ((sBody ((defBody s_l_parts).getD 3 (.Pass ⟨0, 0, 0, 0⟩))).getD 1 (.Pass ⟨0, 0, 0, 0⟩))).drop 1) (pss_one (ps_expr (pe_bm PySem.F.plainAttrs_list PySem.F.slot_list_append PySem.F.type_list_append mt_append (pv 3) (pa_cons (pe_lst pa_nil) pa_nil)))) (fun u3_1e1 h3_1e1 e3_1e1 => ?_)
  refine hideI ((sElse ((sBody ((defBody s_l_parts).getD 3 (.Pass ⟨0, 0, 0, 0⟩))).getD 1 (.Pass ⟨0, 0, 0, 0⟩))).drop 0) (pss_cons (ps_expr (pe_bm PySem.F.plainAttrs_list PySem.F.slot_list_append PySem.F.type_list_append mt_append (pv 2) (pa_cons (pe_has g_l_tag hr rfl (pa_cons (pe_op op_fdiv (pv 5) pe_int) pa_nil)) pa_nil))) h3_1e1) (fun u3_1e0 h3_1e0 e3_1e0 => ?_)
  refine hideI ((sBody ((defBody s_l_parts).getD 3 (.Pass ⟨0, 0, 0, 0⟩))).drop 1) (pss_one (ps_if (PW.pt (pw_and (pt_cmpR op_eq (pe_op op_mod (pe_op op_fdiv (pv 5) pe_int) pe_int) pe_int (nomark _)) (pw_and1 (pt_cmpR op_lt (pv 4) pe_int (nomark _)))))
      h3_1t0
      h3_1e0)) (fun u3_1 h3_1 e3_1 => ?_)
  refine hideI ((sBody ((sBody ((defBody s_l_parts).getD 3 (.Pass ⟨0, 0, 0, 0⟩))).getD 0 (.Pass ⟨0, 0, 0, 0⟩))).drop 1) (pss_one (ps_expr (pe_bm PySem.F.plainAttrs_list PySem.F.slot_list_append PySem.F.type_list_append mt_append (pe_ix ix_list (pv 3) (pe_un un_neg pe_int) (fun _ _ => rfl)) (pa_cons (pe_tup (pa_cons pe_str (pa_cons (pe_bm0 PySem.F.plainAttrs_list PySem.F.slot_list_pop PySem.F.type_list_pop mt_pop (pv 2)) (pa_cons (pv 7) pa_nil)))) pa_nil)))) (fun u3_0_1 h3_0_1 e3_0_1 => ?_)
  refine hideI ((sBody ((sBody ((defBody s_l_parts).getD 3 (.Pass ⟨0, 0, 0, 0⟩))).getD 0 (.Pass ⟨0, 0, 0, 0⟩))).drop 0) (pss_cons (ps_set (i := 7) sc_l_parts.nd rfl (Or.inl rfl) (pe_callTy call_tuple_of rfl (B "tuple" (by decide)) bt_tuple (pa_cons (pe_bm0 PySem.F.plainAttrs_list PySem.F.slot_list_pop PySem.F.type_list_pop mt_pop (pv 3)) pa_nil))) h3_0_1) (fun u3_0_0 h3_0_0 e3_0_0 => ?_)
  refine hideI ((sBody ((defBody s_l_parts).getD 3 (.Pass ⟨0, 0, 0, 0⟩))).drop 0) (pss_cons (ps_for PassesOwn.never rfl (pi_range1 rfl (B "range" (by decide)) (pa_cons (pe_callB (call_min2 rfl) rfl (B "min" (by decide)) bt_min (pa_cons (pe_callB call_len_seq rfl (B "len" (by decide)) PySem.boot_len (pa_cons (pv 2) pa_nil)) (pa_cons (pe_ix ix_list (pe_lst (pa_cons pe_int (pa_cons pe_int (pa_cons pe_int (pa_cons pe_int pa_nil))))) (pe_op op_mod (pv 5) pe_int) (fun _ _ => rfl)) pa_nil))) pa_nil)) (pg_name (i := 6) sc_l_parts.nd rfl (Or.inl rfl))
      h3_0_0) h3_1) (fun u3_0 h3_0 e3_0 => ?_)
  refine hideI ((defBody s_l_parts).drop 3) (pss_cons (ps_for PassesOwn.never rfl (pi_list (pv 0)) (pg_name (i := 5) sc_l_parts.nd rfl (Or.inl rfl))
      h3_0) h4) (fun u3 h3 e3 => ?_)
  refine hideI ((defBody s_l_parts).drop 2) (pss_cons (ps_set (i := 4) sc_l_parts.nd rfl (Or.inl rfl) pe_int) h3) (fun u2 h2 e2 => ?_)
  refine hideI ((defBody s_l_parts).drop 1) (pss_cons (ps_set (i := 3) sc_l_parts.nd rfl (Or.inl rfl) (pe_lst (pa_cons (pe_lst pa_nil) pa_nil))) h2) (fun u1 h1 e1 => ?_)
  refine hideI ((defBody s_l_parts).drop 0) (pss_cons (ps_set (i := 2) sc_l_parts.nd rfl (Or.inl rfl) (pe_lst pa_nil)) h1) (fun u0 h0 e0 => ?_)
  refine ⟨u0, h0, ?_⟩
  refine by_eq e0 ?_
  refine ⟨by decide, fun T hT => ?_⟩
  show u1 _ _ _
  refine by_eq e1 ?_
  refine ⟨by decide, fun a0 h0 => ⟨(by show 1 ≤ sizeLine; decide), fun R hR => ?_⟩⟩
  have g0 := PgS.start2 hT h0 hR
  show u2 _ _ _
  refine by_eq e2 ?_
  show u3 _ _ _
  refine by_eq e3 ?_
  generalize upd (upd (upd H T (.lst [])) a0 (.lst [])) R (.lst [.ref a0]) = H1 at g0 ⊢
  refine ⟨_, rfl, na, rfl, ⟨_, SqL.of (g0.sm _ _ hna)⟩, for_list (K := K) (a := na) (xs := xs.map V.int) (fun i σ H2 => ∃ (as : List Addr) (gs : List Pa) (os : List Str) (kb : Nat) (v7 v8 v9 : Option V), σ = [some (.ref na), some (.int md), some (.ref T), some (.ref R), some (.int (kb : Int)), v7, v8, v9] ∧ PgS H H2 R T as gs os ∧ PgX md gs os i ∧ (kb : Int) ≤ 2)
    ⟨_, _, _, 0, none, none, none, rfl, g0, ⟨Nat.le_refl _, fun g hg => by rw [List.mem_singleton.mp hg]; exact fun _ h => (nomatch h), fun _ h => (nomatch h)⟩, (by decide)⟩ ?_ ?_ ?_⟩
  · rintro i σ H2 _ ⟨_, _, _, _, _, _, _, _, hg, _⟩
    exact SqL.of (hg.sm _ _ hna)
  · rintro i x σ H2 hx ⟨as, gs, os, kb, v7, v8, v9, rfl, hg, hb, hkm⟩
    obtain ⟨hil, hix⟩ := List.getElem?_eq_some_iff.mp hx
    rw [List.length_map] at hil
    obtain rfl : x = V.int xs[i] := by
      rw [← hix, List.getElem_map]
    generalize xs[i] = num
    -- how many are shut
    have e0' := Int.emod_nonneg num (by decide : (4 : Int) ≠ 0)
    have e1' := Int.emod_lt_of_pos num (by decide : (0 : Int) < 4)
    obtain ⟨cl, hcl⟩ := ints_at (ns := [0, 0, 1, 2]) e0' e1'
    have cl0 : 0 ≤ cl := by
      generalize num % 4 = z at e0' e1' hcl
      rcases (show z = 0 ∨ z = 1 ∨ z = 2 ∨ z = 3 by (first | lia | omega)) with rfl | rfl | rfl | rfl
      · injection hcl with hcl; injection hcl with hcl; (first | lia | omega)
      · injection hcl with hcl; injection hcl with hcl; (first | lia | omega)
      · injection hcl with hcl; injection hcl with hcl; (first | lia | omega)
      · injection hcl with hcl; injection hcl with hcl; (first | lia | omega)
    refine by_eq e3_0 ?_
    refine ⟨_, rfl, T, _, rfl, .inl (SqL.of hg.hT), (by show 4 ≤ sizeLine; decide), fun L hL => ?_⟩
    have sL : Same H2 (upd H2 L (.lst [.int 0, .int 0, .int 1, .int 2])) := Same.new hL
    have hgL : PgS H (upd H2 L (.lst [.int 0, .int 0, .int 1, .int 2])) R T as gs os := hg.more sL
    refine ⟨_, rfl, _, _, rfl, rfl, (by show (0 : Int) < 4; decide), L, _, _, _, rfl, rfl, SqL.of upd_same, hcl, _, _, rfl, ?_⟩
    generalize upd H2 L (.lst [.int 0, .int 0, .int 1, .int 2]) = H3 at sL hgL ⊢
    clear hg sL hL
    have hbo : os.length ≤ 6 := by
      have := hb.sz
      (first | lia | omega)
    have hol : ((os.map V.str).reverse.length : Int) = (os.length : Int) := by rw [List.length_reverse, List.length_map]
    obtain ⟨c, hc, hcl2⟩ : ∃ c : Nat, (if cl < ((os.map V.str).reverse.length : Int) then cl else ((os.map V.str).reverse.length : Int)) = (c : Int) ∧ c ≤ os.length := by
      rw [hol]
      by_cases z : cl < (os.length : Int)
      · exact ⟨cl.toNat, by rw [if_pos z]; (first | lia | omega), by (first | lia | omega)⟩
      · exact ⟨os.length, by rw [if_neg z], Nat.le_refl _⟩
    refine ⟨(c : Int), (congrArg (fun z => [V.int z]) hc), by (first | lia | omega), by (first | lia | omega), for_range (lo := 0) (n := c) (fun j σ H4 => ∃ (as : List Addr) (gs : List Pa) (os' : List Str) (v8 v9 : Option V), σ = [some (.ref na), some (.int md), some (.ref T), some (.ref R), some (.int (kb : Int)), some (.int num), v8, v9] ∧ PgS H H4 R T as gs os' ∧ PgX md gs os' i ∧ os'.length + j = os.length)
      ⟨as, gs, os, v8, v9, rfl, hgL, hb, rfl⟩ ?_ ?_⟩
    · rintro j σ H4 hj ⟨as, gs, os', v8, v9, rfl, hg, hb, hoj⟩
      cases os' with
      | nil =>
        rw [List.length_nil] at hoj
        (first | lia | omega)
      | cons t os' =>
        obtain ⟨b0, b1, a2, g0, g1, g2, vs0, vs1, rfl, rfl, h00, r00, h11, r11, hRs, hTs⟩ := hg.two
        have hv1 := r11.length
        have hsz1 : g1.sz ≤ 6 := by
          have := hb.sz
          simp only [List.map_cons, List.sum_cons] at this
          (first | lia | omega)
        refine by_eq e3_0_0 ?_
        refine ⟨_, rfl, .inl ⟨rfl, _, SqL.of hRs⟩, R, _, _, rfl, rfl, hRs, snoc_last _ _, ?_⟩
        rw [snoc_drop]
        have h0R : (upd H4 R (.lst ((b1 :: a2).map V.ref).reverse)) b0 = some (.lst vs0) := by
          rw [upd_ne (hg.nR b0 (by simp))]
          exact h00
        refine ⟨b0, vs0, rfl, .inl ⟨SqL.of h0R, fun l hl => ?_⟩⟩
        refine by_eq e3_0_1 ?_
        have hRb : (upd (upd H4 R (.lst ((b1 :: a2).map V.ref).reverse)) l (.tup vs0)) R = some (.lst ((a2.map V.ref).reverse ++ [.ref b1])) := by
          rw [upd_ne (upd_none hl).1.symm, upd_same, List.map_cons, List.reverse_cons]
        have h1b : (upd (upd H4 R (.lst ((b1 :: a2).map V.ref).reverse)) l (.tup vs0)) b1 = some (.lst vs1) := by
          rw [upd_ne (ne_of_none h11 (upd_none hl).2), upd_ne (hg.nR b1 (by simp))]
          exact h11
        have hTb : (upd (upd H4 R (.lst ((b1 :: a2).map V.ref).reverse)) l (.tup vs0)) T = some (.lst ((os'.map V.str).reverse ++ [.str t])) := by
          rw [upd_ne (ne_of_none hg.hT (upd_none hl).2), upd_ne hg.RT.symm]
          exact hTs
        refine ⟨_, rfl, 1, rfl, R, _, -1, .ref b1, rfl, rfl, SqL.of hRb, atI_last _ _, .inl ⟨rfl, _, SqL.of h1b⟩, _, rfl, .inl ⟨rfl, _, SqL.of hTb⟩, T, _, _, rfl, rfl, hTb, snoc_last _ _, ?_⟩
        rw [snoc_drop]
        refine ⟨_, rfl, (by show 3 ≤ sizeLine; decide), fun l2 hl2 => ?_⟩
        obtain ⟨_, _, _, _, z5, z6⟩ := hg.shutting h00 r00 h11 r11 hl hl2
        refine ⟨b1, _, _, rfl, rfl, z5, len1000' (by (first | lia | omega)), ?_⟩
        rw [List.length_cons] at hoj
        exact ⟨_, _, os', _, _, rfl, z6, hb.shut, by (first | lia | omega)⟩
    · rintro σ H4 ⟨as, gs, os', v8, v9, rfl, hg, hb, hoj⟩
      clear hgL hoj
      have hgl := hg.gl
      have hb1 := hb.sz
      have hal : as.length = gs.length := Paired.length hg.rows
      have hol : os'.length ≤ 6 := by (first | lia | omega)
      show u3_1 _ _ _
      refine by_eq e3_1 ?_
      have hb1' : (gs.map Pa.sz).sum + os'.length ≤ i := hb1
      refine via (t := u3_1e0) (R := fun σ H5 => σ = [some (.ref na), some (.int md), some (.ref T), some (.ref R), some (.int (kb : Int)), some (.int num), v8, v9] ∧ H5 = H4) ?_ fun fin => ?_
      · rintro σ H5 ⟨rfl, rfl⟩
        refine by_eq e3_1e0 ?_
        refine ⟨_, rfl, .inl ⟨rfl, _, SqL.of hg.hT⟩, _, rfl, _, _, rfl, rfl, ⟨by decide, by decide⟩, num / 12, rfl, fun tt htt => ⟨T, _, _, rfl, rfl, hg.hT, len1000' (by rw [List.length_reverse, List.length_map]; (first | lia | omega)), ?_⟩⟩
        have hRa2 : (upd H5 T (.lst ((os'.map V.str).reverse ++ [.str tt]))) R = some (.lst (as.map V.ref).reverse) := by
          rw [upd_ne hg.RT]
          exact hg.hR
        show u3_1e1 _ _ _
        refine by_eq e3_1e1 ?_
        refine ⟨_, rfl, .inl ⟨rfl, _, SqL.of hRa2⟩, by decide, fun l hl => ?_⟩
        obtain ⟨_, hl1⟩ := upd_none hl
        have hRb : (upd (upd H5 T (.lst ((os'.map V.str).reverse ++ [.str tt]))) l (.lst [])) R = some (.lst (as.map V.ref).reverse) := by
          rw [upd_ne (ne_of_none hg.hR hl1)]
          exact hRa2
        refine ⟨R, _, _, rfl, rfl, hRb, len1000' (by rw [List.length_reverse, List.length_map]; (first | lia | omega)), ?_⟩
        refine ⟨_, _, _, kb, _, _, _, rfl, hg.opened hl, ⟨?_, fun g hg' => ?_, fun x hx => ?_⟩, hkm⟩
        · simp only [List.map_cons, List.sum_cons, List.length_cons, Pa.sz]
          (first | lia | omega)
        · rcases List.mem_cons.mp hg' with rfl | hg'
          · exact fun _ h => (nomatch h)
          · exact hb.ok g hg'
        · rcases List.mem_cons.mp hx with rfl | hx
          · exact htt
          · exact hb.op x hx
      · refine ⟨_, rfl, _, _, rfl, rfl, ⟨by decide, by decide⟩, _, _, rfl, rfl, (by show (0 : Int) < 3; decide), rfl, _, rfl, ite2 (fun c1 => ?_) (fun c1 => iteF (fin _ _ ⟨rfl, rfl⟩))⟩
        refine ⟨_, rfl, _, _, rfl, rfl, _, rfl, ite2 (fun c2 => ?_) (fun c2 => fin _ _ ⟨rfl, rfl⟩)⟩
        have c2 : (kb : Int) < 2 := of_decide_eq_true c2
        show u3_1t0 _ _ _
        refine by_eq e3_1t0 ?_
        have hrows := hg.rows
        cases gs with
        | nil => simp at hgl
        | cons g0 gs =>
          cases hrows with
          | @cons b0 _ a1 _ r0 hrows =>
            obtain ⟨vs0, h00, r00⟩ := r0
            have hRl : H4 R = some (.lst ((a1.map V.ref).reverse ++ [.ref b0])) := by rw [hg.hR, List.map_cons, List.reverse_cons]
            have hvl := r00.length
            have hsz0 : g0.sz ≤ 6 := by
              simp only [List.map_cons, List.sum_cons] at hb1
              (first | lia | omega)
            refine ⟨_, rfl, 1, rfl, R, _, -1, .ref b0, rfl, rfl, SqL.of hRl, atI_last _ _, .inl ⟨rfl, _, SqL.of h00⟩, _, rfl, _, _, rfl, rfl, ⟨by decide, by decide⟩, _, rfl, _, _, rfl, rfl, m0, (by show 2 ≤ sizeLine; decide), fun pt hpt => ?_⟩
            have s5 : Same H4 (upd H4 pt (.tup [.str "kids", .int (num / 12 % md)])) := Same.new hpt
            have npb : pt ≠ b0 := fun z => by rw [z, h00] at hpt; cases hpt
            refine ⟨b0, _, _, rfl, rfl, s5 _ _ h00, len1000' (by (first | lia | omega)), ?_⟩
            show u3_1t1 _ _ _
            refine by_eq e3_1t1 ?_
            refine ⟨_, rfl, _, _, rfl, rfl, ?_⟩
            refine ⟨_, _, _, kb + 1, _, _, _, rfl, hg.put (q := .kids (num / 12 % md) .nil) h00 r00 s5 (.kids (by rw [upd_ne npb]; exact upd_same) .nil), ⟨?_, fun g hg' => ?_, hb.op⟩, by (first | lia | omega)⟩
            · simp only [List.map_cons, List.sum_cons, Pa.sz_app, Pa.sz] at hb1 ⊢
              (first | lia | omega)
            · rcases List.mem_cons.mp hg' with rfl | hg'
              · intro x hx
                rw [allP_app] at hx
                rcases List.mem_append.mp hx with hx | hx
                · exact hb.ok g0 (List.mem_cons_self ..) x hx
                · have hx : x ∈ [Sum.inl (num / 12 % md)] := hx
                  rw [List.mem_singleton.mp hx]
                  exact ⟨Int.emod_nonneg _ (by (first | lia | omega)), Int.emod_lt_of_pos _ m0⟩
              · exact hb.ok g (List.mem_cons_of_mem _ hg')
  · rintro σ H2 ⟨as, gs, os, kb, v7, v8, v9, rfl, hg, hb, hkm⟩
    rw [List.length_map] at hb
    show u4 _ _ _
    refine by_eq e4 ?_
    let W : Nat → St → Hp → Prop := fun n σ H3 => ∃ (as : List Addr) (gs : List Pa) (os : List Str) (v9 : Option V), σ = [some (.ref na), some (.int md), some (.ref T), some (.ref R), some (.int (kb : Int)), v7, v8, v9] ∧ PgS H H3 R T as gs os ∧ PgX md gs os xs.length ∧ n = os.length
    refine ⟨W, ⟨_, as, gs, os, v9, rfl, hg, hb, rfl⟩, ?_⟩
    clear hb hg
    rintro n σ H3 ⟨as, gs, os, v9, rfl, hg, hb, rfl⟩
    refine ⟨_, rfl, T, _, rfl, .inl (SqL.of hg.hT), _, _, rfl, rfl, _, rfl, ite2 (fun cc => ?_) (fun cc => ?_)⟩
    · cases os with
      | nil => exact absurd (of_decide_eq_true cc) (by decide)
      | cons t os =>
        obtain ⟨b0, b1, a2, g0, g1, g2, vs0, vs1, rfl, rfl, h00, r00, h11, r11, hRs, hTs⟩ := hg.two
        have hv1 := r11.length
        have hsz1 : g1.sz ≤ 6 := by
          have := hb.sz
          simp only [List.map_cons, List.sum_cons] at this
          (first | lia | omega)
        refine ⟨fun σ' H' => ∃ m', m' < (t :: os).length ∧ W m' σ' H', fun _ _ h => h, ?_⟩
        refine by_eq e4_0 ?_
        refine ⟨_, rfl, .inl ⟨rfl, _, SqL.of hRs⟩, R, _, _, rfl, rfl, hRs, snoc_last _ _, ?_⟩
        rw [snoc_drop]
        have h0R : (upd H3 R (.lst ((b1 :: a2).map V.ref).reverse)) b0 = some (.lst vs0) := by
          rw [upd_ne (hg.nR b0 (by simp))]
          exact h00
        refine ⟨b0, vs0, rfl, .inl ⟨SqL.of h0R, fun l hl => ?_⟩⟩
        refine by_eq e4_1 ?_
        have hRb : (upd (upd H3 R (.lst ((b1 :: a2).map V.ref).reverse)) l (.tup vs0)) R = some (.lst ((a2.map V.ref).reverse ++ [.ref b1])) := by
          rw [upd_ne (upd_none hl).1.symm, upd_same, List.map_cons, List.reverse_cons]
        have h1b : (upd (upd H3 R (.lst ((b1 :: a2).map V.ref).reverse)) l (.tup vs0)) b1 = some (.lst vs1) := by
          rw [upd_ne (ne_of_none h11 (upd_none hl).2), upd_ne (hg.nR b1 (by simp))]
          exact h11
        have hTb : (upd (upd H3 R (.lst ((b1 :: a2).map V.ref).reverse)) l (.tup vs0)) T = some (.lst ((os.map V.str).reverse ++ [.str t])) := by
          rw [upd_ne (ne_of_none hg.hT (upd_none hl).2), upd_ne hg.RT.symm]
          exact hTs
        refine ⟨_, rfl, 1, rfl, R, _, -1, .ref b1, rfl, rfl, SqL.of hRb, atI_last _ _, .inl ⟨rfl, _, SqL.of h1b⟩, _, rfl, .inl ⟨rfl, _, SqL.of hTb⟩, T, _, _, rfl, rfl, hTb, snoc_last _ _, ?_⟩
        rw [snoc_drop]
        refine ⟨_, rfl, (by show 3 ≤ sizeLine; decide), fun l2 hl2 => ?_⟩
        obtain ⟨_, _, _, _, z5, z6⟩ := hg.shutting h00 r00 h11 r11 hl hl2
        refine ⟨b1, _, _, rfl, rfl, z5, len1000' (by (first | lia | omega)), ?_⟩
        exact ⟨os.length, by rw [List.length_cons]; (first | lia | omega), _, _, os, _, rfl, z6, hb.shut, rfl⟩
    · cases os with
      | cons t os =>
        refine absurd (decide_eq_true ?_) cc
        show (0 : Int) < ((((t :: os).map V.str).reverse.length : Nat) : Int)
        rw [List.length_reverse, List.length_map, List.length_cons]
        (first | lia | omega)
      | nil =>
        have hgl := hg.gl
        have hrows := hg.rows
        cases gs with
        | nil => simp at hgl
        | cons g gs =>
          obtain rfl : gs = [] := List.eq_nil_of_length_eq_zero (by simpa using hgl)
          cases hrows with
          | @cons b _ _ _ r hrows =>
            cases hrows
            obtain ⟨vs, hbb, hgr⟩ := r
            refine by_eq e5 ?_
            refine ⟨_, rfl, R, _, 0, .ref b, rfl, rfl, SqL.of hg.hR, rfl, b, vs, rfl, .inl ⟨SqL.of hbb, fun r hr => ?_⟩⟩
            have h1 := hb.sz
            simp only [List.map_cons, List.map_nil, List.sum_cons, List.sum_nil, List.length_nil] at h1
            exact q r vs g _ (hg.sm.upd_new (hg.sm.free hr)) upd_same (hgr.mono (TK.new hr)) (by (first | lia | omega)) (hb.ok g (List.mem_cons_self ..))
theorem pd_take {α β : Type} {F : α → β → Prop} : ∀ {xs : List α} {ys : List β}, Paired F xs ys → ∀ n, Paired F (xs.take n) (ys.take n)
  | _, _, .nil, n => by cases n <;> exact .nil
  | _, _, .cons r t, 0 => .nil
  | _, _, .cons r t, n + 1 => .cons r (pd_take t n)
theorem pd_drop {α β : Type} {F : α → β → Prop} : ∀ {xs : List α} {ys : List β}, Paired F xs ys → ∀ n, Paired F (xs.drop n) (ys.drop n)
  | _, _, .nil, n => by cases n <;> exact .nil
  | _, _, .cons r t, 0 => .cons r t
  | _, _, .cons r t, n + 1 => pd_drop t n
theorem pd_rev {α β : Type} {F : α → β → Prop} : ∀ {xs : List α} {ys : List β}, Paired F xs ys → Paired F xs.reverse ys.reverse
  | _, _, .nil => .nil
  | _, _, .cons r t => by
    rw [List.reverse_cons, List.reverse_cons]
    exact Paired.app (pd_rev t) (.cons r .nil)
theorem cut_mid (xs : List V) (i j : Nat) (h : i ≤ j) (hj : j ≤ xs.length) : cutV xs (some (i : Int)) (some (j : Int)) = (xs.drop i).take (j - i) := by
  unfold cutV
  rw [HT.sIx_nat, HT.sIx_nat, Nat.min_eq_left hj, Nat.min_eq_left (by (first | lia | omega))]
structure GoodR (md : Int) (rs : List (Int × Str × Pa)) : Prop where
  ok : ∀ r ∈ rs, okR md r ∧ r.2.2.sz ≤ 6
  nd : (rs.map rkP).Nodup
theorem RkL.put2 {H : Hp} {md : Int} {m : List (List Key × V)} {rs : List (Int × Str × Pa)} (h : RkL H m rs) (ho : GoodR md rs) {r : Int × Str × Pa} {q : Addr} {ys : List V} (hq : H q = some (.tup ys)) (hp : RepP H ys r.2.2) (hi : okR md r ∧ r.2.2.sz ≤ 6) : ∃ rs', RkL H (putK m (rkey r.1 r.2.1) (.ref q)) rs' ∧ GoodR md rs' ∧ rs' ≠ [] ∧ rs'.length ≤ rs.length + 1 := by
  by_cases c : rkP r ∈ rs.map rkP
  · have c2 : (m.any fun kv => decide (kv.1 = rkey r.1 r.2.1)) = true := by
      have : psK (rkP r) ∈ m.map (·.1) := by
        rw [h.keys]
        exact List.mem_map_of_mem c
      obtain ⟨kv, hkv, e⟩ := List.mem_map.mp this
      exact List.any_eq_true.mpr ⟨kv, hkv, decide_eq_true e⟩
    unfold putK
    rw [if_pos c2]
    let g : Int × Str × Pa → Int × Str × Pa := fun x => if rkP x = rkP r then r else x
    have hg : ∀ x, rkP (g x) = rkP x := fun x => by
      by_cases z : rkP x = rkP r
      · simp only [g, if_pos z]
        exact z.symm
      · simp only [g, if_neg z]
    refine ⟨rs.map g, ?_, ⟨fun x hx => ?_, ?_⟩, ?_, by rw [List.length_map]; (first | lia | omega)⟩
    · clear c ho c2
      induction h with
      | nil => exact .nil
      | @cons kv x m rs hh tl ih =>
        refine .cons ?_ ih
        obtain ⟨e, q', ys', e1, e2, e3⟩ := hh
        by_cases z : kv.1 = rkey r.1 r.2.1
        · have z' : rkP x = rkP r := psK_inj (show psK (rkP x) = psK (rkP r) by rw [show psK (rkP r) = kv.1 from z.symm]; exact e.symm)
          simp only [g, if_pos z, if_pos z']
          exact ⟨z, q, ys, rfl, hq, hp⟩
        · have z' : ¬ rkP x = rkP r := fun w => z (e.trans (congrArg psK w))
          simp only [g, if_neg z, if_neg z']
          exact ⟨e, q', ys', e1, e2, e3⟩
    · obtain ⟨x0, hx0, rfl⟩ := List.mem_map.mp hx
      by_cases z : rkP x0 = rkP r
      · simp only [g, if_pos z]
        exact hi
      · simp only [g, if_neg z]
        exact ho.ok x0 hx0
    · rw [List.map_map, show rkP ∘ g = rkP from funext hg]
      exact ho.nd
    · intro z
      rw [List.map_eq_nil_iff] at z
      rw [z] at c
      cases c
  · refine ⟨rs ++ [r], h.put c hq hp, ⟨fun x hx => ?_, ?_⟩, by simp, by rw [List.length_append]; exact Nat.le_refl _⟩
    · rcases List.mem_append.mp hx with hx | hx
      · exact ho.ok x hx
      · rw [List.mem_singleton.mp hx]
        exact hi
    · rw [List.map_append]
      refine List.nodup_append.mpr ⟨ho.nd, by simp, fun x hx y hy e => ?_⟩
      have hy : y = rkP r := by simpa using hy
      rw [e, hy] at hx
      exact c hx
theorem RkL.at {H : Hp} {m : List (List Key × V)} {rs : List (Int × Str × Pa)} (h : RkL H m rs) : ∀ (i : Nat) k v, m[i]? = some (k, v) → ∃ r, rs[i]? = some r ∧ k = psK (rkP r) ∧ ∃ q ys, v = V.ref q ∧ H q = some (.tup ys) ∧ RepP H ys r.2.2 := by
  induction h with
  | nil => intro i k v e; cases i <;> cases e
  | @cons kv x m rs hh tl ih =>
    intro i k v e
    cases i with
    | zero =>
      injection e with e
      subst e
      obtain ⟨e1, q, ys, e2, e3⟩ := hh
      exact ⟨x, rfl, e1, q, ys, e2, e3⟩
    | succ i => exact ih i k v e
theorem RkL.val1 {H : Hp} {m : List (List Key × V)} {rs : List (Int × Str × Pa)} (h : RkL H m rs) (nd : (rs.map rkP).Nodup) (r : Int × Str × Pa) (hr : r ∈ rs) : ∃ q ys, valV m (psK (rkP r)) = some (.ref q) ∧ H q = some (.tup ys) ∧ RepP H ys r.2.2 := by
  rcases h.val (rkP r) with ⟨no, _⟩ | ⟨r', q, ys, h1, h2, h3, h4, h5⟩
  · exact absurd (List.mem_map_of_mem hr) no
  · rw [nd_key nd r' h1 r hr h2] at h5
    exact ⟨q, ys, h3, h4, h5⟩
def spRules71 : Sp := fun vs H Q _ => ∃ (na : Addr) (xs : List Int) (md : Int) (k : Nat), vs = [.ref na, .int md] ∧ H na = some (.lst (xs.map V.int)) ∧ xs.length = 6 * k ∧ 1 ≤ k ∧ k ≤ 8 ∧ (∀ x ∈ xs, 0 ≤ x) ∧ 1 ≤ md ∧ md ≤ 4 ∧ ∀ (L : Addr) (zs : List V) (rs : List (Int × Str × Pa)) (H' : Hp), Same H H' → H L = none → H' L = some (.lst zs) → RuL H' zs rs → GoodR md rs → rs ≠ [] → rs.length ≤ 8 → Q (.ref L) H'
set_option maxHeartbeats 4000000 in
theorem ok_l_rules (B : ∀ x ∈ blts, mg x = none) (g_l_tag : Has P w K mg base "_law_tag" ["_law_number"] 1 spTag71) (g_l_parts : Has P w K mg base "_law_parts" ["_law_numbers_here", "_law_modes"] 2 spParts71) (F : Fun K "_law_rules" "_law_rules" s_l_rules f fd) : FnOk P w K mg base CX0 3 f fd ["_law_numbers_here", "_law_modes"] spRules71 := by
  refine F.ok sc_l_rules (fun vs H Q E h => ?_) (fun cdv A outer s H vs Q E hr h => ?_)
  · obtain ⟨na, xs, md, k, rfl, _⟩ := h
    rfl
  obtain ⟨na, xs, md, k, rfl, hna, hxl, k1, k8, hx0, m1, m4, q⟩ := h
  have hu1 : (A.deeper (PyProof.Rows.envOfC (Str.ofString "_law_rules") (defScope s_l_rules) s.heap.objs.size f cdv)).units + 1 < cLine := by have := hr.un; (first | lia | omega)
  refine hideI ((defBody s_l_rules).drop 4) (pss_one (ps_ret (pe_op op_cat (pe_list_rev rfl rfl (B "list" (by decide)) rfl (B "reversed" (by decide)) (pa_cons (pe_slice sl_list (pv 6) (po_some (pv 7)) po_none) pa_nil)) (pe_slice sl_list (pv 6) po_none (po_some (pv 7)))))) (fun u4 h4 e4 => ?_)
  refine hideI ((defBody s_l_rules).drop 3) (pss_cons (ps_set (i := 7) sc_l_rules.nd rfl (Or.inl rfl) (pe_op op_mod (pe_ix ix_list (pv 0) pe_int (fun _ _ => rfl)) (pe_callB call_len_seq rfl (B "len" (by decide)) PySem.boot_len (pa_cons (pv 6) pa_nil)))) h4) (fun u3 h3 e3 => ?_)
  refine hideI ((defBody s_l_rules).drop 2) (pss_cons (ps_set_comp (cl := _) (n0 := 6) sc_l_rules.nd rfl (Or.inl rfl) ["_law_mode", "_law_tag_here"] [("_law_known", 2)] (pi_dictT (pv 2)) (fun _ _ _ _ => (pg_tupK (K := K) (n := 2) rfl rfl (pgs_cons (pg_name (i := 0) (show List.Nodup (["_law_mode", "_law_tag_here", "_law_known"] : List Str) by decide) rfl (Or.inl rfl)) (pgs_cons (pg_name (i := 1) (show List.Nodup (["_law_mode", "_law_tag_here", "_law_known"] : List Str) by decide) rfl (Or.inl rfl)) pgs_nil)))) (fun _ _ _ _ => (pe_tup (pa_cons (pv 0) (pa_cons (pv 1) (pa_cons (pe_dget hu1 (pv 2) (pe_tup (pa_cons (pv 0) (pa_cons (pv 1) pa_nil))) (fun _ _ => rfl)) pa_nil))))) rfl rfl (by decide) rfl (by decide) (cap_cl (by (repeat' first | exact List.forall_mem_nil _ | refine List.forall_mem_cons.mpr ⟨?_, ?_⟩) <;> rfl)) (cap_has (by (repeat' first | exact List.forall_mem_nil _ | refine List.forall_mem_cons.mpr ⟨?_, ?_⟩) <;> first | (intro h; exact ⟨_, rfl⟩) | (intro h; exact absurd h (by decide)))) (fun _ => by (repeat' first | exact List.forall_mem_nil _ | refine List.forall_mem_cons.mpr ⟨?_, ?_⟩) <;> exact ⟨rfl, rfl, Or.inl rfl⟩) (fun _ => rfl) rfl) h3) (fun u2 h2 e2 => ?_)
  refine hideI ((sBody ((defBody s_l_rules).getD 1 (.Pass ⟨0, 0, 0, 0⟩))).drop 2) (pss_one (ps_dput hu1 (pv 2) (pv 4) (pe_has g_l_parts hr rfl (pa_cons (pe_slice sl_list (pv 0) (po_some (pe_op op_add (pv 3) pe_int)) (po_some (pv 5))) (pa_cons (pv 1) pa_nil))) rfl)) (fun u1_2 h1_2 e1_2 => ?_)
  refine hideI ((sBody ((defBody s_l_rules).getD 1 (.Pass ⟨0, 0, 0, 0⟩))).drop 1) (pss_cons (ps_set (i := 5) sc_l_rules.nd rfl (Or.inl rfl) (pe_op op_add (pe_op op_add (pv 3) pe_int) (pe_op op_mod (pe_op op_fdiv (pe_ix ix_list (pv 0) (pv 3) (fun _ _ => rfl)) pe_int) pe_int))) h1_2) (fun u1_1 h1_1 e1_1 => ?_)
  refine hideI ((sBody ((defBody s_l_rules).getD 1 (.Pass ⟨0, 0, 0, 0⟩))).drop 0) (pss_cons (ps_set (i := 4) sc_l_rules.nd rfl (Or.inl rfl) (pe_tup (pa_cons (pe_op op_mod (pe_ix ix_list (pv 0) (pv 3) (fun _ _ => rfl)) (pv 1)) (pa_cons (pe_has g_l_tag hr rfl (pa_cons (pe_op op_fdiv (pe_ix ix_list (pv 0) (pv 3) (fun _ _ => rfl)) pe_int) pa_nil)) pa_nil)))) h1_1) (fun u1_0 h1_0 e1_0 => ?_)
  refine hideI ((defBody s_l_rules).drop 1) (pss_cons (ps_for PassesOwn.never rfl (pi_rangeS rfl (B "range" (by decide)) (pa_cons pe_int (pa_cons (pe_callB call_len_seq rfl (B "len" (by decide)) PySem.boot_len (pa_cons (pv 0) pa_nil)) (pa_cons pe_int pa_nil)))) (pg_name (i := 3) sc_l_rules.nd rfl (Or.inl rfl))
      h1_0) h2) (fun u1 h1 e1 => ?_)
  refine hideI ((defBody s_l_rules).drop 0) (pss_cons (ps_set (i := 2) sc_l_rules.nd rfl (Or.inr rfl) pe_dnewT) h1) (fun u0 h0 e0 => ?_)
  refine ⟨u0, h0, ?_⟩
  refine by_eq e0 ?_
  refine fun d hd => ?_
  have s0 : Same H (upd H d (.dT [])) := Same.new hd
  have hd0 : (upd H d (.dT [])) d = some (.dT []) := upd_same
  show u1 _ _ _
  refine by_eq e1 ?_
  generalize upd H d (.dT []) = H0 at s0 hd0 ⊢
  have rsz : (Builtin.Range.rangeSize 0 ((xs.map V.int).length : Int) 6).toNat = k := by
    rw [List.length_map, hxl]
    unfold Builtin.Range.rangeSize
    rw [if_pos (by decide), if_pos (by (first | lia | omega))]
    (first | lia | omega)
  refine ⟨_, rfl, na, _, rfl, .inl (SqL.of (s0 _ _ hna)), 0, _, 6, rfl, ⟨by decide, by decide, by (first | lia | omega), by rw [List.length_map]; (first | lia | omega)⟩, ⟨by decide, by decide⟩, ?_⟩
  rw [rsz]
  refine for_steps (fun i σ H1 => ∃ (v3 v4 v5 : Option V) (m : List (List Key × V)) (rs : List (Int × Str × Pa)), σ = [some (.ref na), some (.int md), some (.ref d), v3, v4, v5, none, none] ∧ Same H H1 ∧ H1 d = some (.dT m) ∧ RkL H1 m rs ∧ GoodR md rs ∧ (0 < i → rs ≠ []) ∧ rs.length ≤ i)
    ⟨none, none, none, [], [], rfl, s0, hd0, .nil, ⟨fun _ h => (nomatch h), List.nodup_nil⟩, fun z => absurd z (by decide), Nat.le_refl _⟩ ?_ ?_
  · rintro i σ H1 hi ⟨v3, v4, v5, m, rs, rfl, s1, hd1, hm, hg, hne, hrl⟩
    have hna1 := s1 _ _ hna
    have hat : 6 * i < xs.length := by (first | lia | omega)
    have g0 : atI (xs.map V.int) (0 + (i : Int) * 6) = some (.int (xs[6 * i])) := by
      rw [show (0 : Int) + (i : Int) * 6 = ((6 * i : Nat) : Int) by (first | lia | omega)]
      exact atI_nat (by rw [List.getElem?_map, List.getElem?_eq_getElem hat]; rfl)
    have n0 := hx0 _ (List.getElem_mem hat)
    generalize xs[6 * i] = num at g0 n0
    show u1_0 _ [some (.ref na), some (.int md), some (.ref d), some (.int (0 + (i : Int) * 6)), v4, v5, none, none] H1
    refine by_eq e1_0 ?_
    refine ⟨_, rfl, _, rfl, na, _, _, _, rfl, rfl, SqL.of hna1, g0, _, rfl, _, _, rfl, rfl, by (first | lia | omega), _, rfl, _, rfl, na, _, _, _, rfl, rfl, SqL.of hna1, g0, _, _, rfl, rfl, ⟨by decide, by decide⟩, num / 4, rfl, fun tg htg => ⟨(by show 2 ≤ sizeLine; decide), fun pr hpr => ?_⟩⟩
    have s2 := Same.new (o := .tup [.int (num % md), .str tg]) hpr
    have hpr2 : (upd H1 pr (.tup [.int (num % md), .str tg])) pr = some (.tup [.int (num % md), .str tg]) := upd_same
    show u1_1 _ [some (.ref na), some (.int md), some (.ref d), some (.int (0 + (i : Int) * 6)), some (.ref pr), v5, none, none] _
    generalize upd H1 pr (.tup [.int (num % md), .str tg]) = H2 at s2 hpr2 ⊢
    refine by_eq e1_1 ?_
    refine ⟨_, rfl, _, _, rfl, rfl, _, rfl, _, rfl, na, _, _, _, rfl, rfl, SqL.of (s2 _ _ hna1), g0, _, _, rfl, rfl, ⟨by decide, by decide⟩, _, _, rfl, rfl, (by show (0 : Int) < 6; decide), _, _, rfl, rfl, ?_⟩
    have b0 := Int.emod_nonneg (num / 8) (by decide : (6 : Int) ≠ 0)
    have b1 := Int.emod_lt_of_pos (num / 8) (by decide : (0 : Int) < 6)
    obtain ⟨j, hj, hj5⟩ : ∃ j : Nat, 0 + (i : Int) * 6 + 1 + num / 8 % 6 = ((6 * i + 1 + j : Nat) : Int) ∧ j ≤ 5 := ⟨(num / 8 % 6).toNat, by (first | lia | omega), by (first | lia | omega)⟩
    show u1_2 _ [some (.ref na), some (.int md), some (.ref d), some (.int (0 + (i : Int) * 6)), some (.ref pr), some (.int (0 + (i : Int) * 6 + 1 + num / 8 % 6)), none, none] H2
    rw [hj]
    refine by_eq e1_2 ?_
    have hna2 := s2 _ _ hna1
    refine ⟨_, rfl, _, rfl, _, _, rfl, rfl, _, rfl, _, rfl, _, rfl, na, _, rfl, SqL.of hna2, fun C hC => ?_⟩
    have e1 : cutV (xs.map V.int) (some (0 + (i : Int) * 6 + 1)) (some ((6 * i + 1 + j : Nat) : Int)) = ((xs.drop (6 * i + 1)).take j).map V.int := by
      rw [show (0 : Int) + (i : Int) * 6 + 1 = ((6 * i + 1 : Nat) : Int) by (first | lia | omega), cut_mid _ _ _ (by (first | lia | omega)) (by rw [List.length_map]; (first | lia | omega)), List.map_take, List.map_drop, show 6 * i + 1 + j - (6 * i + 1) = j by (first | lia | omega)]
    rw [e1]
    have s3 := Same.new (o := .lst (((xs.drop (6 * i + 1)).take j).map V.int)) hC
    refine ⟨_, rfl, C, (xs.drop (6 * i + 1)).take j, md, rfl, upd_same, by rw [List.length_take]; (first | lia | omega), by (first | lia | omega), by (first | lia | omega), fun r ys p H4 s4 hr4 hp hsz hok => ?_⟩
    have s14 := s2.trans (s3.trans s4)
    have hd4 := s14 _ _ hd1
    have hml : m.length = rs.length := Paired.length hm
    refine ⟨_, rfl, _, rfl, d, _, rfl, DPut.t (k := rkey (num % md) tg) hd4 ((s3.trans s4) _ _ hpr2) (len1000' (by (first | lia | omega))), ?_⟩
    have tkd : TK H4 (upd H4 d (.dT (putK m (rkey (num % md) tg) (.ref r)))) := fun b ys e => by
      rw [upd_ne (ne_of e hd4 (fun z => nomatch z))]
      exact e
    obtain ⟨rs', g1, g2, g3, g4⟩ := ((hm.tk s14.tk).tk tkd).put2 hg (r := (num % md, tg, p)) (tkd _ _ hr4) (hp.mono tkd) ⟨⟨⟨Int.emod_nonneg _ (by (first | lia | omega)), Int.emod_lt_of_pos _ (by (first | lia | omega))⟩, htg, hok⟩, hsz⟩
    exact ⟨_, _, _, _, rs', rfl, (s1.trans s14).upd_new hd, upd_same, g1, g2, fun _ => g3, by (first | lia | omega)⟩
  · rintro σ H1 ⟨v3, v4, v5, m, rs, rfl, s1, hd1, hm, hg, hne, hrl⟩
    have hne := hne (by (first | lia | omega))
    have hml : m.length = rs.length := Paired.length hm
    show u2 _ _ _
    refine by_eq e2 ?_
    refine ⟨_, rfl, d, m, rfl, hd1, fun ob pc hpc => ?_⟩
    have sF : Same H (upd H1 d (.frz ob (.dT m))) := s1.upd_new hd
    have tkF : TK H1 (upd H1 d (.frz ob (.dT m))) := fun b ys e => by
      rw [upd_ne (ne_of e hd1 (fun z => nomatch z))]
      exact e
    have hm2 := hm.tk tkF
    have hd2 : (upd H1 d (.frz ob (.dT m))) d = some (.frz ob (.dT m)) := upd_same
    generalize upd H1 d (.frz ob (.dT m)) = H2 at sF hm2 hd2 hpc ⊢
    refine comp_dictT (d := d) (p := pc) (ob := ob) (kvs := m) (fun i us σ H6 => ∃ (w0 w1 : Option V), σ = [w0, w1, some (.ref d)] ∧ Same H2 H6 ∧ H6 pc = some (.lst us) ∧ us.length = i ∧ RuL H6 us (rs.take i))
      ⟨none, none, rfl, Same.new hpc, upd_same, rfl, .nil⟩ ?_ ?_ ?_
    · rintro i us σ H6 _ ⟨_, _, _, s6, h, _⟩
      exact ⟨s6 _ _ hd2, h⟩
    · rintro i us k v b σ H6 hi hk hb ⟨w0, w1, rfl, s6, hp6, hul, hrl6⟩
      obtain ⟨r, e1, rfl, qp, yp, rfl, x2, x3⟩ := hm2.at i k v hk
      have hr1 : r ∈ rs := List.mem_of_getElem? e1
      obtain ⟨qv, yv, y1, y2, y3⟩ := hm2.val1 hg.nd r hr1
      refine ⟨b, _, rfl, SqT.of hb, rfl, _, _, rfl, _, _, rfl, rfl, ?_⟩
      refine ⟨_, rfl, _, rfl, _, rfl, _, rfl, _, rfl, (by show 2 ≤ sizeLine; decide), fun kt hkt => ?_⟩
      have s7 := Same.new (o := .tup [.int r.1, .str r.2.1]) hkt
      have hgt : DGet (upd H6 kt (.tup [.int r.1, .str r.2.1])) d (.ref kt) (some (.ref qv)) := by
        have := DGet.tf (k := psK (rkP r)) ((s6.trans s7) _ _ hd2) (show (upd H6 kt (.tup [.int r.1, .str r.2.1])) kt = some (.tup ((psK (rkP r)).map kV)) from upd_same)
        rw [y1] at this
        exact this
      refine ⟨d, _, rfl, hgt, (by show 3 ≤ sizeLine; decide), fun t3 ht3 => ?_⟩
      have s8 := Same.new (o := .tup [.int r.1, .str r.2.1, .ref qv]) ht3
      have s78 := s7.trans s8
      have hp8 := s78 _ _ hp6
      have tk := s78.tk.trans (TK.lst (o := .lst (us ++ [.ref t3])) hp8)
      have nt : t3 ≠ pc := fun z => nomatch ((z ▸ ht3 : _ = none).symm.trans (s7 _ _ hp6))
      refine ⟨hp8, len1000' (by (first | lia | omega)), CW.next hi ⟨_, _, rfl, (s6.trans s78).upd_new hpc, upd_same, by rw [List.length_append, List.length_singleton, hul], ?_⟩⟩
      rw [take_succ' e1]
      refine Paired.app (hrl6.tk tk) (.cons ⟨t3, qv, yv, rfl, ?_, tk _ _ (s6 _ _ y2), (y3.mono s6.tk).mono tk⟩ .nil)
      rw [upd_ne nt]
      exact upd_same
    rintro us σ H6 ⟨w0, w1, rfl, s6, hp6, hul, hrl6⟩
    rw [hml, List.take_length] at hrl6
    have sH6 := sF.trans s6
    clear hm2 hd2 hpc hm hd1 s1 s6
    show u3 _ _ _
    refine by_eq e3 ?_
    have h0 : 0 < xs.length := by (first | lia | omega)
    have hrs0 : 0 < rs.length := List.length_pos_iff.mpr hne
    refine ⟨_, rfl, na, _, _, _, rfl, rfl, SqL.of (sH6 _ _ hna), atI_nat (j := 0) (by rw [List.getElem?_map, List.getElem?_eq_getElem h0]; rfl), _, rfl, pc, _, rfl, .inl (SqL.of hp6), _, _, rfl, rfl, by (first | lia | omega), ?_⟩
    obtain ⟨j, hj, hjl⟩ := modN xs[0] (n := us.length) (by (first | lia | omega))
    show u4 _ [some (.ref na), some (.int md), some (.ref d), v3, v4, v5, some (.ref pc), some (.int (xs[0] % (us.length : Int)))] H6
    rw [hj]
    refine by_eq e4 ?_
    refine ⟨_, rfl, _, rfl, _, rfl, pc, _, rfl, SqL.of hp6, fun c1 hc1 => ?_⟩
    rw [cut_from]
    have s7 := Same.new (o := .lst (us.drop j)) hc1
    refine ⟨c1, _, rfl, SqL.of upd_same, fun c2 hc2 => ?_⟩
    have s8 := Same.new (o := .lst (us.drop j).reverse) hc2
    refine ⟨_, rfl, _, rfl, _, rfl, pc, _, rfl, SqL.of ((s7.trans s8) _ _ hp6), fun c3 hc3 => ?_⟩
    rw [cut_upto]
    have s9 := Same.new (o := .lst (us.take j)) hc3
    refine ⟨c2, c3, _, _, rfl, rfl, s9 _ _ upd_same, upd_same, ?_, fun c4 hc4 => ?_⟩
    · rw [List.length_reverse, List.length_drop, List.length_take]
      exact len1000 (by (first | lia | omega))
    have s10 := Same.new (o := .lst ((us.drop j).reverse ++ us.take j)) hc4
    have s := s7.trans (s8.trans (s9.trans s10))
    have pm : ((rs.drop j).reverse ++ rs.take j).Perm rs := by
      refine ((List.reverse_perm _).append_right _).trans ?_
      refine (List.perm_append_comm).trans ?_
      rw [List.take_append_drop]
    refine q c4 _ ((rs.drop j).reverse ++ rs.take j) _ (sH6.trans s) (sH6.free (s7.free (s8.free (s9.free hc4)))) upd_same (Paired.app (pd_rev (pd_drop (hrl6.tk s.tk) j)) (pd_take (hrl6.tk s.tk) j)) ⟨fun r hr => hg.ok r (pm.mem_iff.mp hr), (pm.map rkP).nodup_iff.mpr hg.nd⟩ (fun z => hne ?_) (by rw [pm.length_eq]; (first | lia | omega))
    rw [z] at pm
    exact pm.symm.eq_nil
def badT (t : Str) : Bool := !tagB t && decide (t.length ≤ 1000) && t.cps.toList.all fun c => decide (c < 16 ^ 8)
theorem badT_not {n : Int} {t : Str} (h : badT t = true) : ¬ okX n (.inr t) ∧ XB (.inr t) := by
  unfold badT at h
  simp only [Bool.and_eq_true, Bool.not_eq_true', decide_eq_true_eq, List.all_eq_true] at h
  refine ⟨fun z => ?_, h.1.2, h.2⟩
  have z : tagB t = true := z
  rw [h.1.1] at z
  cases z
theorem strs_bad {ws : List Str} (h : ws.all badT = true) {i : Int} {n : Nat} (hn : n = ws.length) (h0 : 0 < n) : ∃ t, atI (ws.map V.str) (i % (n : Int)) = some (.str t) ∧ badT t = true := by
  obtain ⟨k, hk, hkl⟩ := modN i h0
  subst hn
  refine ⟨ws[k], ?_, List.all_eq_true.mp h _ (List.getElem_mem hkl)⟩
  have := strs_at (ws := ws) (n := k) hkl
  rw [← hk] at this
  exact this
theorem wrap_all {p : Pa} {x : Int ⊕ Str} : x ∈ allP (Pa.tag "a" ((Pa.kids 0 .nil).app (p.app (.tag "b" .nil .nil))) .nil) ↔ (x = .inr ("a" : Str) ∨ x = .inl 0 ∨ x ∈ allP p ∨ x = .inr ("b" : Str)) := by
  show x ∈ Sum.inr ("a" : Str) :: (allP ((Pa.kids 0 .nil).app (p.app (.tag "b" .nil .nil))) ++ []) ↔ _
  rw [allP_app, allP_app]
  simp [allP]
def spBad71 : Sp := fun vs H Q _ => ∃ md c : Int, vs = [.int md, .int c] ∧ 1 ≤ md ∧ md ≤ 4 ∧ ∀ (a : Addr) (p : Pa) (H' : Hp), Same H H' → RepP H' [.ref a] p → (∃ x ∈ allP p, ¬ okX md x) → (∀ x ∈ allP p, XB x) → p.sz ≤ 10 → Q (.ref a) H'
set_option maxHeartbeats 400000 in
theorem ok_l_bad_part (B : ∀ x ∈ blts, mg x = none) (F : Fun K "_law_bad_part" "_law_bad_part" s_l_bad_part f fd) : FnOk P w K mg base CX0 1 f fd ["_law_modes", "_law_cell"] spBad71 := by
  refine F.ok sc_l_bad_part (fun vs H Q E h => ?_) (fun cdv A outer s H vs Q E hr h => ?_)
  · obtain ⟨md, c, rfl, _⟩ := h
    rfl
  obtain ⟨md, c, rfl, m1, m4, q⟩ := h
  refine hideI ((defBody s_l_bad_part).drop 4) (pss_one (ps_ret (pv 3))) (fun u4 h4 e4 => ?_)
  refine hideS ((sBody ((defBody s_l_bad_part).getD 3 (.Pass ⟨0, 0, 0, 0⟩))).drop 0) (pssi_one (psi_set (i := 3) sc_l_bad_part.nd rfl (Or.inl rfl) (pei_tup (pai_cons pei_str (pai_cons pei_str (pai_cons (pei_tup (pai_cons (pei_tup (pai_cons pei_str (pai_cons pei_int pai_nil))) (pai_cons (.of (pv 3)) (pai_cons (pei_tup (pai_cons pei_str (pai_cons pei_str (pai_cons (pei_tup pai_nil) pai_nil)))) pai_nil)))) pai_nil)))))) (fun u3_0 h3_0 e3_0 => ?_)
  refine hideS ((defBody s_l_bad_part).drop 3) (pssi_cons (psi_for PassesOwn.never rfl (pi_range1 rfl (B "range" (by decide)) (pa_cons (pe_op op_mod (pe_op op_fdiv (pv 1) pe_int) pe_int) pa_nil)) (pg_name (i := 4) sc_l_bad_part.nd rfl (Or.inl rfl))
      h3_0) h4) (fun u3 h3 e3 => ?_)
  refine hideI ((defBody s_l_bad_part).drop 2) (psst_cons (ps_if (pt_cmpR op_eq (pe_op op_mod (pv 1) pe_int) pe_int (nomark _))
      (pss_one (ps_set (i := 3) sc_l_bad_part.nd rfl (Or.inl rfl) (pe_tup (pa_cons pe_str (pa_cons (pe_ix ix_list (pe_lst (pa_cons (pv 0) (pa_cons (pe_un un_neg pe_int) (pa_cons (pe_op op_add (pv 0) pe_int) (pa_cons (pe_op op_pow pe_int pe_int) (pa_cons (pe_un un_neg pe_int) pa_nil)))))) (pe_op op_mod (pe_op op_fdiv (pv 1) pe_int) pe_int) (fun _ _ => rfl)) pa_nil)))))
      pss_nil) h3) (fun u2 h2 e2 => ?_)
  refine hideI ((defBody s_l_bad_part).drop 1) (pss_cons (ps_set (i := 3) sc_l_bad_part.nd rfl (Or.inl rfl) (pe_tup (pa_cons pe_str (pa_cons (pe_ix ix_list (pv 2) (pe_op op_mod (pe_op op_fdiv (pv 1) pe_int) pe_int) (fun _ _ => rfl)) (pa_cons (pe_tup pa_nil) pa_nil))))) h2) (fun u1 h1 e1 => ?_)
  refine hideS ((defBody s_l_bad_part).drop 0) (pssi_cons (psi_set (i := 2) sc_l_bad_part.nd rfl (Or.inl rfl) (pei_lst pai_strs)) h1) (fun u0 h0 e0 => ?_)
  refine endS h0 ?_
  refine by_eq e0 ?_
  refine ⟨(by show 12 ≤ sizeLine; decide), fun L hL => ?_⟩
  have s0 := Same.new (o := .lst (List.map V.str ["", "A", "abcdefghi", "a1", "/", " ", "0", "aB", "a b", "-", "{}", "a/"])) hL
  obtain ⟨t, ht, hbt⟩ := strs_bad (ws := ["", "A", "abcdefghi", "a1", "/", " ", "0", "aB", "a b", "-", "{}", "a/"]) (i := c / 4) (n := 12) (by decide +kernel) rfl (by decide)
  show u1 _ _ _
  refine by_eq e1 ?_
  refine ⟨_, rfl, _, rfl, _, _, rfl, rfl, ⟨by decide, by decide⟩, _, _, rfl, rfl, (by show (0 : Int) < 12; decide), L, _, _, _, rfl, rfl, SqL.of upd_same, ht, (by decide), fun e he => ⟨(by show 3 ≤ sizeLine; decide), fun a ha => ?_⟩⟩
  have s1 := Same.new (o := .tup []) he
  have s2 := Same.new (o := .tup [.str "tag", .str t, .ref e]) ha
  obtain ⟨bt1, bt2⟩ := badT_not (n := md) hbt
  have sH2 := s0.trans (s1.trans s2)
  have r2 : RepP _ [.ref a] (Pa.tag t .nil .nil) := .tag upd_same (s2 _ _ upd_same) .nil .nil
  show u2 _ [some (.int md), some (.int c), some (.ref L), some (.ref a), none] _
  generalize upd _ a (.tup [.str "tag", .str t, .ref e]) = H2 at sH2 r2 ⊢
  clear s0 s1 s2
  refine by_eq e2 ?_
  refine via (t := u3) (R := fun σ H3 => ∃ (a : Addr) (p : Pa), σ = [some (.int md), some (.int c), some (.ref L), some (.ref a), none] ∧ Same H H3 ∧ RepP H3 [.ref a] p ∧ (∃ x ∈ allP p, ¬ okX md x) ∧ (∀ x ∈ allP p, XB x) ∧ p.sz ≤ 1) ?_ fun fin => ?_
  · rintro σ H3 ⟨a, p, rfl, s3, rp, nb, xb, sz⟩
    refine by_eq e3 ?_
    have c0 := Int.emod_nonneg (c / 48) (by decide : (4 : Int) ≠ 0)
    have c1 := Int.emod_lt_of_pos (c / 48) (by decide : (0 : Int) < 4)
    refine ⟨_, rfl, _, _, rfl, rfl, ⟨by decide, by decide⟩, _, _, rfl, rfl, (by show (0 : Int) < 4; decide), _, rfl, by (first | lia | omega), by (first | lia | omega), for_range (lo := 0) (n := (c / 48 % 4).toNat) (fun i σ H4 => ∃ (a : Addr) (p : Pa) (v4 : Option V), σ = [some (.int md), some (.int c), some (.ref L), some (.ref a), v4] ∧ Same H H4 ∧ RepP H4 [.ref a] p ∧ (∃ x ∈ allP p, ¬ okX md x) ∧ (∀ x ∈ allP p, XB x) ∧ p.sz ≤ 1 + 3 * i)
      ⟨a, p, none, rfl, s3, rp, nb, xb, sz⟩ ?_ ?_⟩
    · rintro i σ H4 hi ⟨a, p, v4, rfl, s4, rp, nb, xb, sz⟩
      refine by_eq e3_0 ?_
      refine ⟨(by show 2 ≤ sizeLine; decide), fun k1 hk1 => ⟨_, rfl, (by decide), fun k2 hk2 => ⟨(by show 3 ≤ sizeLine; decide), fun k3 hk3 => ⟨(by show 3 ≤ sizeLine; decide), fun k4 hk4 => ⟨(by show 3 ≤ sizeLine; decide), fun k5 hk5 => ?_⟩⟩⟩⟩⟩
      have z1 := Same.new (o := .tup [.str "kids", .int 0]) hk1
      have z2 := Same.new (o := .tup []) hk2
      have z3 := Same.new (o := .tup [.str "tag", .str "b", .ref k2]) hk3
      have z4 := Same.new (o := .tup [.ref k1, .ref a, .ref k3]) hk4
      have z5 := Same.new (o := .tup [.str "tag", .str "a", .ref k4]) hk5
      have z345 := z3.trans (z4.trans z5)
      refine ⟨k5, Pa.tag "a" ((Pa.kids 0 .nil).app (p.app (.tag "b" .nil .nil))) .nil, _, rfl, s4.trans (z1.trans (z2.trans z345)), .tag upd_same (z5 _ _ upd_same) (RepP.app (.kids ((z2.trans z345) _ _ upd_same) .nil) (RepP.app (rp.mono (z1.trans (z2.trans z345)).tk) (.tag ((z4.trans z5) _ _ upd_same) (z345 _ _ upd_same) .nil .nil))) .nil, ?_, ?_, ?_⟩
      · obtain ⟨x, hx, nx⟩ := nb
        exact ⟨x, wrap_all.mpr (.inr (.inr (.inl hx))), nx⟩
      · intro x hx
        rcases wrap_all.mp hx with rfl | rfl | hx | rfl
        · exact okX_XB (n := md) (by (first | lia | omega)) (show tagB "a" = true by decide)
        · exact okX_XB (n := md) (by (first | lia | omega)) (show (0 : Int) ≤ 0 ∧ (0 : Int) < md from ⟨by decide, by (first | lia | omega)⟩)
        · exact xb x hx
        · exact okX_XB (n := md) (by (first | lia | omega)) (show tagB "b" = true by decide)
      · simp only [Pa.sz, Pa.sz_app]
        (first | lia | omega)
    · rintro σ H4 ⟨a, p, v4, rfl, s4, rp, nb, xb, sz⟩
      show u4 _ _ _
      refine by_eq e4 ?_
      exact ⟨_, rfl, q a p H4 s4 rp nb xb (by (first | lia | omega))⟩
  · have first : ∃ x ∈ allP (Pa.tag t .nil .nil), ¬ okX md x := ⟨.inr t, by simp [allP], bt1⟩
    have fxb : ∀ x ∈ allP (Pa.tag t .nil .nil), XB x := fun x hx => by
      have : x = .inr t := by simpa [allP] using hx
      rw [this]
      exact bt2
    refine ⟨_, rfl, _, _, rfl, rfl, (by show (0 : Int) < 2; decide), rfl, _, rfl, ite2 (fun c1 => ?_) (fun c1 => fin _ _ ⟨a, _, rfl, sH2, r2, first, fxb, Nat.le_refl _⟩)⟩
    refine ⟨_, rfl, 1, rfl, _, rfl, _, _, rfl, rfl, _, _, rfl, rfl, ⟨by decide, by decide, by decide⟩, 7, rfl, (by show 5 ≤ sizeLine; decide), fun L2 hL2 => ?_⟩
    have x1 := Same.new (o := .lst [.int md, .int (-1), .int (md + 1), .int (10 ^ 20), .int (-7)]) hL2
    obtain ⟨k, hk, hkl⟩ := modN (c / 4) (n := 5) (by decide)
    obtain ⟨m, hm, nm, xm⟩ : ∃ m : Int, atI [V.int md, .int (-1), .int (md + 1), .int (10 ^ 20), .int (-7)] (c / 4 % 5) = some (.int m) ∧ ¬ (0 ≤ m ∧ m < md) ∧ m.natAbs < 2 ^ 80 := by
      have hk : c / 4 % 5 = (k : Int) := hk
      rw [hk]
      rcases (show k = 0 ∨ k = 1 ∨ k = 2 ∨ k = 3 ∨ k = 4 by (first | lia | omega)) with rfl | rfl | rfl | rfl | rfl
      · exact ⟨md, rfl, by (first | lia | omega), by (first | lia | omega)⟩
      · exact ⟨-1, rfl, by (first | lia | omega), by (first | lia | omega)⟩
      · exact ⟨md + 1, rfl, by (first | lia | omega), by (first | lia | omega)⟩
      · exact ⟨10 ^ 20, rfl, by (first | lia | omega), by (first | lia | omega)⟩
      · exact ⟨-7, rfl, by (first | lia | omega), by (first | lia | omega)⟩
    refine ⟨_, rfl, _, _, rfl, rfl, ⟨by decide, by decide⟩, _, _, rfl, rfl, (by show (0 : Int) < 5; decide), L2, _, _, _, rfl, rfl, SqL.of upd_same, hm, (by show 2 ≤ sizeLine; decide), fun a2 ha2 => ?_⟩
    have x2 := Same.new (o := .tup [.str "kids", .int m]) ha2
    refine fin _ _ ⟨a2, .kids m .nil, rfl, sH2.trans (x1.trans x2), .kids upd_same .nil, ⟨.inl m, by simp [allP], nm⟩, fun x hx => ?_, Nat.le_refl _⟩
    have : x = .inl m := by simpa [allP] using hx
    rw [this]
    exact log_small (Nat.lt_of_lt_of_le xm (Nat.pow_le_pow_right (by decide) (by decide)))
theorem rep_split {H : Hp} : ∀ {ys : List V} {p : Pa}, RepP H ys p → ∀ n : Nat, ∃ p1 p2 : Pa, RepP H (ys.take n) p1 ∧ RepP H (ys.drop n) p2 ∧ p = p1.app p2
  | _, _, .nil, n => ⟨.nil, .nil, by cases n <;> exact .nil, by cases n <;> exact .nil, rfl⟩
  | _, _, .kids h1 h2, 0 => ⟨.nil, _, .nil, .kids h1 h2, rfl⟩
  | _, _, .tag h1 h2 h3 h4, 0 => ⟨.nil, _, .nil, .tag h1 h2 h3 h4, rfl⟩
  | _, _, .kids h1 h2, n + 1 => by
    obtain ⟨p1, p2, a, b, c⟩ := rep_split h2 n
    exact ⟨.kids _ p1, p2, .kids h1 a, b, by rw [c]; rfl⟩
  | _, _, .tag h1 h2 h3 h4, n + 1 => by
    obtain ⟨p1, p2, a, b, c⟩ := rep_split h4 n
    exact ⟨.tag _ _ p1, p2, .tag h1 h2 h3 a, b, by rw [c]; rfl⟩
theorem RB_good {md : Int} (h4 : md ≤ 4) {r : Int × Str × Pa} (h : okR md r ∧ r.2.2.sz ≤ 6) : RB r :=
  ⟨okX_XB (by (first | lia | omega)) h.1.m, okX_XB (by (first | lia | omega)) h.1.t, fun x hx => okX_XB (by (first | lia | omega)) (h.1.p x hx), by have := r.2.2.dep_le; (first | lia | omega), by (first | lia | omega)⟩
def spSpoil71 : Sp := fun vs H Q _ => ∃ (md c : Int) (L : Addr) (zs : List V) (rs : List (Int × Str × Pa)), vs = [.int md, .ref L, .int c] ∧ 1 ≤ md ∧ md ≤ 4 ∧ H L = some (.lst zs) ∧ RuL H zs rs ∧ GoodR md rs ∧ rs ≠ [] ∧ rs.length ≤ 8 ∧ ∀ (r L' : Addr) (n : Int) (zs' : List V) (rs' : List (Int × Str × Pa)) (H' : Hp), Same H H' → H' r = some (.tup [.int n, .ref L']) → H' L' = some (.lst zs') → RuL H' zs' rs' → n.natAbs.log2 < 1900 → rs'.length ≤ 60 → (∀ r ∈ rs', RB r) → ¬ okC n rs' → Q (.ref r) H'
set_option maxHeartbeats 4000000 in
theorem ok_l_spoiled (B : ∀ x ∈ blts, mg x = none) (g_l_bad_part : Has P w K mg base "_law_bad_part" ["_law_modes", "_law_cell"] 1 spBad71) (F : Fun K "_law_spoiled" "_law_spoiled" s_l_spoiled f fd) : FnOk P w K mg base CX0 2 f fd ["_law_modes", "_law_rules_here", "_law_cell"] spSpoil71 := by
  refine F.ok sc_l_spoiled (fun vs H Q E h => ?_) (fun cdv A outer s H vs Q E hr h => ?_)
  · obtain ⟨md, c, L, zs, rs, rfl, _⟩ := h
    rfl
  obtain ⟨md, c, L, zs, rs, rfl, m1, m4, hL, hrs, hg, hne, hrl, q⟩ := h
  have hzl : zs.length = rs.length := Paired.length hrs
  have hr0 : 0 < rs.length := List.length_pos_iff.mpr hne
  have mlog : md.natAbs.log2 < 1900 := log_small (Nat.lt_of_lt_of_le (show md.natAbs < 8 by (first | lia | omega)) (Nat.pow_le_pow_right (n := 2) (by decide) (show 3 ≤ 1900 by decide)))
  refine hideI ((defBody s_l_spoiled).drop 6) (pss_one (ps_ret (pe_tup (pa_cons (pv 0) (pa_cons (pe_op op_cat (pe_op op_cat (pe_slice sl_list (pv 1) po_none (po_some (pv 4))) (pe_lst (pa_cons (pv 8) pa_nil))) (pe_slice sl_list (pv 1) (po_some (pe_op op_add (pv 4) pe_int)) po_none)) pa_nil))))) (fun u6 h6 e6 => ?_)
  refine hideI ((sBody ((sElse ((sElse ((defBody s_l_spoiled).getD 5 (.Pass ⟨0, 0, 0, 0⟩))).getD 0 (.Pass ⟨0, 0, 0, 0⟩))).getD 0 (.Pass ⟨0, 0, 0, 0⟩))).drop 1) (pss_one (ps_set (i := 8) sc_l_spoiled.nd rfl (Or.inl rfl) (pe_tup (pa_cons (pv 5) (pa_cons (pv 6) (pa_cons (pe_op op_catG (pe_op op_catG (pe_slice sl_tupU (pv 7) po_none (po_some (pv 9))) (pe_tup (pa_cons (pe_has g_l_bad_part hr rfl (pa_cons (pv 0) (pa_cons (pv 2) pa_nil))) pa_nil))) (pe_slice sl_tupU (pv 7) (po_some (pv 9)) po_none)) pa_nil)))))) (fun u5e0e0t1 h5e0e0t1 e5e0e0t1 => ?_)
  refine hideI ((sBody ((sElse ((sElse ((defBody s_l_spoiled).getD 5 (.Pass ⟨0, 0, 0, 0⟩))).getD 0 (.Pass ⟨0, 0, 0, 0⟩))).getD 0 (.Pass ⟨0, 0, 0, 0⟩))).drop 0) (pss_cons (ps_set (i := 9) sc_l_spoiled.nd rfl (Or.inl rfl) (pe_op op_mod (pv 2) (pe_op op_add (pe_callB call_len_seq rfl (B "len" (by decide)) PySem.boot_len (pa_cons (pv 7) pa_nil)) pe_int))) h5e0e0t1) (fun u5e0e0t0 h5e0e0t0 e5e0e0t0 => ?_)
  refine hideI ((sElse ((sElse ((sElse ((defBody s_l_spoiled).getD 5 (.Pass ⟨0, 0, 0, 0⟩))).getD 0 (.Pass ⟨0, 0, 0, 0⟩))).getD 0 (.Pass ⟨0, 0, 0, 0⟩))).drop 2) (pss_one (ps_ret (pe_tup (pa_cons (pv 0) (pa_cons (pe_op op_cat (pe_op op_cat (pe_slice sl_list (pv 1) po_none (po_some (pv 10))) (pe_lst (pa_cons (pv 11) pa_nil))) (pe_slice sl_list (pv 1) (po_some (pv 10)) po_none)) pa_nil))))) (fun u5e0e0e2 h5e0e0e2 e5e0e0e2 => ?_)
  refine hideI ((sElse ((sElse ((sElse ((defBody s_l_spoiled).getD 5 (.Pass ⟨0, 0, 0, 0⟩))).getD 0 (.Pass ⟨0, 0, 0, 0⟩))).getD 0 (.Pass ⟨0, 0, 0, 0⟩))).drop 1) (pss_cons (ps_set (i := 11) sc_l_spoiled.nd rfl (Or.inl rfl) (pe_tup (pa_cons (pv 5) (pa_cons (pv 6) (pa_cons (pe_ix ix_list (pe_lst (pa_cons (pv 7) (pa_cons (pe_tup (pa_cons (pe_tup (pa_cons pe_str (pa_cons pe_int pa_nil))) pa_nil)) (pa_cons (pe_tup pa_nil) pa_nil)))) (pe_op op_mod (pv 2) pe_int) (fun _ _ => rfl)) pa_nil))))) h5e0e0e2) (fun u5e0e0e1 h5e0e0e1 e5e0e0e1 => ?_)
  refine hideI ((sElse ((sElse ((sElse ((defBody s_l_spoiled).getD 5 (.Pass ⟨0, 0, 0, 0⟩))).getD 0 (.Pass ⟨0, 0, 0, 0⟩))).getD 0 (.Pass ⟨0, 0, 0, 0⟩))).drop 0) (pss_cons (ps_set (i := 10) sc_l_spoiled.nd rfl (Or.inl rfl) (pe_op op_mod (pv 2) (pe_op op_add (pe_callB call_len_seq rfl (B "len" (by decide)) PySem.boot_len (pa_cons (pv 1) pa_nil)) pe_int))) h5e0e0e1) (fun u5e0e0e0 h5e0e0e0 e5e0e0e0 => ?_)
  refine hideI ((sElse ((sElse ((defBody s_l_spoiled).getD 5 (.Pass ⟨0, 0, 0, 0⟩))).getD 0 (.Pass ⟨0, 0, 0, 0⟩))).drop 0) (pss_one (ps_if (pt_cmpR op_eq (pv 3) pe_int (nomark _))
      h5e0e0t0
      h5e0e0e0)) (fun u5e0e0 h5e0e0 e5e0e0 => ?_)
  refine hideI ((sElse ((defBody s_l_spoiled).getD 5 (.Pass ⟨0, 0, 0, 0⟩))).drop 0) (pss_one (ps_if (pt_cmpR op_eq (pv 3) pe_int (nomark _))
      (pss_one (ps_set (i := 8) sc_l_spoiled.nd rfl (Or.inl rfl) (pe_tup (pa_cons (pv 5) (pa_cons (pe_ix ix_list (pe_lst pa_strs) (pe_op op_mod (pv 2) pe_int) (fun _ _ => rfl)) (pa_cons (pv 7) pa_nil))))))
      h5e0e0)) (fun u5e0 h5e0 e5e0 => ?_)
  refine hideI ((defBody s_l_spoiled).drop 5) (pss_cons (ps_if (pt_cmpR op_eq (pv 3) pe_int (nomark _))
      (pss_one (ps_set (i := 8) sc_l_spoiled.nd rfl (Or.inl rfl) (pe_tup (pa_cons (pe_ix ix_list (pe_lst (pa_cons (pv 0) (pa_cons (pe_un un_neg pe_int) (pa_cons (pe_op op_add (pv 0) pe_int) (pa_cons (pe_op op_pow pe_int pe_int) pa_nil))))) (pe_op op_mod (pv 2) pe_int) (fun _ _ => rfl)) (pa_cons (pv 6) (pa_cons (pv 7) pa_nil))))))
      h5e0) h6) (fun u5 h5 e5 => ?_)
  refine hideI ((defBody s_l_spoiled).drop 4) (pss_cons (ps_if (pt_cmpR op_eq (pv 3) pe_int (nomark _))
      (pss_one (ps_ret (pe_tup (pa_cons (pe_ix ix_list (pe_lst (pa_cons pe_int (pa_cons pe_int (pa_cons (pe_un un_neg pe_int) (pa_cons (pe_op op_pow pe_int pe_int) (pa_cons (pe_un un_neg pe_int) pa_nil)))))) (pe_op op_mod (pv 2) pe_int) (fun _ _ => rfl)) (pa_cons (pe_ix ix_list (pe_lst (pa_cons (pv 1) (pa_cons (pe_lst pa_nil) pa_nil))) (pe_op op_mod (pe_op op_fdiv (pv 2) pe_int) pe_int) (fun _ _ => rfl)) pa_nil)))))
      pss_nil) h5) (fun u4 h4 e4 => ?_)
  refine hideI ((defBody s_l_spoiled).drop 3) (pss_cons (ps_set (i := 2) sc_l_spoiled.nd rfl (Or.inl rfl) (pe_op op_mod (pe_op op_mul (pe_op op_fdiv (pv 2) pe_int) pe_int) pe_int)) h4) (fun u3 h3 e3 => ?_)
  refine hideI ((defBody s_l_spoiled).drop 2) (pss_cons (ps_asg (pe_ix ix_list (pv 1) (pv 4) (fun _ _ => rfl)) (pg_tup rfl (pgs_cons (pg_name (i := 5) sc_l_spoiled.nd rfl (Or.inl rfl)) (pgs_cons (pg_name (i := 6) sc_l_spoiled.nd rfl (Or.inl rfl)) (pgs_cons (pg_name (i := 7) sc_l_spoiled.nd rfl (Or.inl rfl)) pgs_nil))))) h3) (fun u2 h2 e2 => ?_)
  refine hideI ((defBody s_l_spoiled).drop 1) (pss_cons (ps_set (i := 4) sc_l_spoiled.nd rfl (Or.inl rfl) (pe_op op_mod (pe_op op_fdiv (pv 2) pe_int) (pe_callB call_len_seq rfl (B "len" (by decide)) PySem.boot_len (pa_cons (pv 1) pa_nil)))) h2) (fun u1 h1 e1 => ?_)
  refine hideI ((defBody s_l_spoiled).drop 0) (pss_cons (ps_set (i := 3) sc_l_spoiled.nd rfl (Or.inl rfl) (pe_op op_mod (pv 2) pe_int)) h1) (fun u0 h0 e0 => ?_)
  refine ⟨u0, h0, ?_⟩
  refine by_eq e0 ?_
  refine ⟨_, rfl, _, _, rfl, rfl, (by show (0 : Int) < 5; decide), ?_⟩
  show u1 _ _ _
  refine by_eq e1 ?_
  obtain ⟨i, hi, hil⟩ := modN (c / 5) (n := zs.length) (by (first | lia | omega))
  refine ⟨_, rfl, _, _, rfl, rfl, ⟨by decide, by decide⟩, _, rfl, L, _, rfl, .inl (SqL.of hL), _, _, rfl, rfl, by (first | lia | omega), ?_⟩
  show u2 _ [some (.int md), some (.ref L), some (.int c), some (.int (c % 5)), some (.int (c / 5 % (zs.length : Int))), none, none, none, none, none, none, none] H
  rw [hi]
  refine by_eq e2 ?_
  have hzi : zs[i]? = some zs[i] := List.getElem?_eq_getElem hil
  obtain ⟨⟨mo, tg, pa⟩, hri, a, pq, ys, eza, ha, hq, hp⟩ := hrs.get i zs[i] hzi
  rw [eza] at hzi
  have hrm : (mo, tg, pa) ∈ rs := List.mem_of_getElem? hri
  have hgr := hg.ok _ hrm
  have hrb : RB (mo, tg, pa) := RB_good m4 hgr
  have hil2 : i < rs.length := by (first | lia | omega)
  refine ⟨_, rfl, _, rfl, L, _, _, _, rfl, rfl, SqL.of hL, atI_nat hzi, a, _, rfl, SqT.of ha, rfl, _, _, rfl, _, _, rfl, _, _, rfl, rfl, ?_⟩
  show u3 _ [some (.int md), some (.ref L), some (.int c), some (.int (c % 5)), some (.int (i : Int)), some (.int mo), some (.str tg), some (.ref pq), none, none, none, none] H
  have w0 := Int.emod_nonneg c (by decide : (5 : Int) ≠ 0)
  have w5 := Int.emod_lt_of_pos c (by decide : (0 : Int) < 5)
  generalize c % 5 = wy at w0 w5
  refine by_eq e3 ?_
  refine ⟨_, rfl, _, _, rfl, rfl, ⟨by decide, by decide⟩, _, _, rfl, rfl, .inr ⟨by decide, by decide⟩, _, _, rfl, rfl, (by show (0 : Int) < 1000003; decide), ?_⟩
  show u4 _ [some (.int md), some (.ref L), some (.int (c / 5 * 69621 % 1000003)), some (.int wy), some (.int (i : Int)), some (.int mo), some (.str tg), some (.ref pq), none, none, none, none] H
  generalize c / 5 * 69621 % 1000003 = x
  -- a rule in another's place
  have put : ∀ (H1 : Hp) (b : Addr) (r : Int × Str × Pa), Same H H1 → RuV H1 (.ref b) r → RB r → ¬ okR md r → ∀ (v9 v10 v11 : Option V), u6 { nx := fun _ H' => Q .non H', rt := Q } [some (.int md), some (.ref L), some (.int x), some (.int wy), some (.int (i : Int)), some (.int mo), some (.str tg), some (.ref pq), some (.ref b), v9, v10, v11] H1 := fun H1 b r s1 hb rb nok v9 v10 v11 => by
    refine by_eq e6 ?_
    have hL1 := s1 _ _ hL
    refine ⟨_, rfl, _, rfl, _, rfl, _, rfl, L, _, rfl, SqL.of hL1, fun c1 hc1 => ?_⟩
    rw [cut_upto]
    have z1 := Same.new (o := .lst (zs.take i)) hc1
    refine ⟨_, rfl, (by show 1 ≤ sizeLine; decide), fun c2 hc2 => ?_⟩
    have z2 := Same.new (o := .lst [.ref b]) hc2
    refine ⟨c1, c2, _, _, rfl, rfl, z2 _ _ upd_same, upd_same, ?_, fun c3 hc3 => ?_⟩
    · rw [List.length_take]
      exact len1000 (by show min i zs.length + 1 ≤ 100000; (first | lia | omega))
    have z3 := Same.new (o := .lst (zs.take i ++ [.ref b])) hc3
    refine ⟨_, rfl, _, rfl, _, _, rfl, rfl, _, rfl, L, _, rfl, SqL.of ((z1.trans (z2.trans z3)) _ _ hL1), fun c4 hc4 => ?_⟩
    rw [show ((i : Int) + 1) = ((i + 1 : Nat) : Int) by (first | lia | omega), cut_from]
    have z4 := Same.new (o := .lst (zs.drop (i + 1))) hc4
    refine ⟨c3, c4, _, _, rfl, rfl, z4 _ _ upd_same, upd_same, ?_, fun c5 hc5 => ?_⟩
    · rw [List.length_append, List.length_take, List.length_drop]
      exact len1000 (by show min i zs.length + 1 + (zs.length - (i + 1)) ≤ 100000; (first | lia | omega))
    have z5 := Same.new (o := .lst (zs.take i ++ [.ref b] ++ zs.drop (i + 1))) hc5
    refine ⟨(by show 2 ≤ sizeLine; decide), fun c6 hc6 => ?_⟩
    have z6 := Same.new (o := .tup [.int md, .ref c5]) hc6
    have z := z1.trans (z2.trans (z3.trans (z4.trans (z5.trans z6))))
    have hrs6 := (hrs.tk s1.tk).tk z.tk
    obtain ⟨ba, bq, by', e1, e2, e3, e4⟩ := hb
    refine q c6 c5 md _ (rs.take i ++ [r] ++ rs.drop (i + 1)) _ (s1.trans z) upd_same (z6 _ _ upd_same) (Paired.app (Paired.app (pd_take hrs6 i) (.cons ⟨ba, bq, by', e1, z _ _ e2, z _ _ e3, e4.mono z.tk⟩ .nil)) (pd_drop hrs6 (i + 1))) mlog ?_ (fun r' hr' => ?_) fun ok => nok (ok.ok r (by simp))
    · rw [List.length_append, List.length_append, List.length_take, List.length_drop, List.length_singleton]
      (first | lia | omega)
    · rcases List.mem_append.mp hr' with hr' | hr'
      · rcases List.mem_append.mp hr' with hr' | hr'
        · exact RB_good m4 (hg.ok r' (List.mem_of_mem_take hr'))
        · rw [List.mem_singleton.mp hr']
          exact rb
      · exact RB_good m4 (hg.ok r' (List.mem_of_mem_drop hr'))
  refine by_eq e4 ?_
  refine ⟨_, rfl, rfl, _, rfl, ite2 (fun cw => ?_) (fun cw => ?_)⟩
  · -- too few or too many modes
    obtain ⟨k, hk, hkl⟩ := modN x (n := 5) (by decide)
    obtain ⟨m, hm, nm, xm⟩ : ∃ m : Int, atI [V.int 0, .int 5, .int (-1), .int (10 ^ 30), .int (-4)] (x % 5) = some (.int m) ∧ ¬ (1 ≤ m ∧ m ≤ 4) ∧ m.natAbs < 2 ^ 110 := by
      have hk : x % 5 = (k : Int) := hk
      rw [hk]
      rcases (show k = 0 ∨ k = 1 ∨ k = 2 ∨ k = 3 ∨ k = 4 by (first | lia | omega)) with rfl | rfl | rfl | rfl | rfl
      · exact ⟨0, rfl, by (first | lia | omega), by (first | lia | omega)⟩
      · exact ⟨5, rfl, by (first | lia | omega), by (first | lia | omega)⟩
      · exact ⟨-1, rfl, by (first | lia | omega), by (first | lia | omega)⟩
      · exact ⟨10 ^ 30, rfl, by (first | lia | omega), by (first | lia | omega)⟩
      · exact ⟨-4, rfl, by (first | lia | omega), by (first | lia | omega)⟩
    have mlog2 : m.natAbs.log2 < 1900 := log_small (Nat.lt_of_lt_of_le xm (Nat.pow_le_pow_right (n := 2) (by decide) (show 110 ≤ 1900 by decide)))
    refine ⟨1, rfl, _, _, rfl, rfl, ⟨by decide, by decide, by decide⟩, 4, rfl, (by show 5 ≤ sizeLine; decide), fun L1 hL1 => ?_⟩
    have z1 := Same.new (o := .lst [.int 0, .int 5, .int (-1), .int (10 ^ 30), .int (-4)]) hL1
    refine ⟨_, rfl, _, _, rfl, rfl, (by show (0 : Int) < 5; decide), L1, _, _, _, rfl, rfl, SqL.of upd_same, hm, ?_⟩
    refine ⟨_, rfl, (by decide), fun L2 hL2 => ⟨(by show 2 ≤ sizeLine; decide), fun L3 hL3 => ?_⟩⟩
    have z2 := Same.new (o := .lst []) hL2
    have z3 := Same.new (o := .lst [.ref L, .ref L2]) hL3
    obtain ⟨j, hj, hjl⟩ := modN (x / 5) (n := 2) (by decide)
    have hj : x / 5 % 2 = (j : Int) := hj
    have z123 := z1.trans (z2.trans z3)
    obtain ⟨L', zs', rs', h1, h2, h3, h4⟩ : ∃ (L' : Addr) (zs' : List V) (rs' : List (Int × Str × Pa)), atI [V.ref L, .ref L2] (x / 5 % 2) = some (.ref L') ∧ (∀ H', Same (upd (upd (upd H L1 (.lst [.int 0, .int 5, .int (-1), .int (10 ^ 30), .int (-4)])) L2 (.lst [])) L3 (.lst [.ref L, .ref L2])) H' → H' L' = some (.lst zs') ∧ RuL H' zs' rs') ∧ rs'.length ≤ 60 ∧ ∀ r ∈ rs', RB r := by
      rcases (show j = 0 ∨ j = 1 by (first | lia | omega)) with rfl | rfl
      · exact ⟨L, zs, rs, by rw [hj]; rfl, fun H' s' => ⟨s' _ _ (z123 _ _ hL), hrs.tk (z123.trans s').tk⟩, by (first | lia | omega), fun r hr => RB_good m4 (hg.ok r hr)⟩
      · exact ⟨L2, [], [], by rw [hj]; rfl, fun H' s' => ⟨(z3.trans s') _ _ upd_same, .nil⟩, by decide, fun r hr => nomatch hr⟩
    refine ⟨_, rfl, _, _, rfl, rfl, ⟨by decide, by decide⟩, _, _, rfl, rfl, (by show (0 : Int) < 2; decide), L3, _, _, _, rfl, rfl, SqL.of upd_same, h1, (by show 2 ≤ sizeLine; decide), fun r hr => ?_⟩
    have z4 := Same.new (o := .tup [.int m, .ref L']) hr
    obtain ⟨k1, k2⟩ := h2 _ z4
    exact q r L' m zs' rs' _ (z123.trans z4) upd_same k1 k2 mlog2 h3 h4 fun ok => nm ⟨ok.n1, ok.n4⟩
  have nw0 : wy ≠ 0 := fun z => cw (decide_eq_true (congrArg V.int z))
  show u5 _ _ _
  refine by_eq e5 ?_
  refine ⟨_, rfl, rfl, _, rfl, ite2 (fun cw1 => ?_) (fun cw1 => ?_)⟩
  · -- another mode
    obtain ⟨k, hk, hkl⟩ := modN x (n := 4) (by decide)
    obtain ⟨m, hm, nm, xm⟩ : ∃ m : Int, atI [V.int md, .int (-1), .int (md + 3), .int (10 ^ 9)] (x % 4) = some (.int m) ∧ ¬ (0 ≤ m ∧ m < md) ∧ m.natAbs < 2 ^ 80 := by
      have hk : x % 4 = (k : Int) := hk
      rw [hk]
      rcases (show k = 0 ∨ k = 1 ∨ k = 2 ∨ k = 3 by (first | lia | omega)) with rfl | rfl | rfl | rfl
      · exact ⟨md, rfl, by (first | lia | omega), by (first | lia | omega)⟩
      · exact ⟨-1, rfl, by (first | lia | omega), by (first | lia | omega)⟩
      · exact ⟨md + 3, rfl, by (first | lia | omega), by (first | lia | omega)⟩
      · exact ⟨10 ^ 9, rfl, by (first | lia | omega), by (first | lia | omega)⟩
    refine ⟨_, rfl, 1, rfl, _, rfl, _, _, rfl, rfl, _, _, rfl, rfl, ⟨by decide, by decide, by decide⟩, (by show 4 ≤ sizeLine; decide), fun L1 hL1 => ?_⟩
    have z1 := Same.new (o := .lst [.int md, .int (-1), .int (md + 3), .int (10 ^ 9)]) hL1
    refine ⟨_, rfl, _, _, rfl, rfl, (by show (0 : Int) < 4; decide), L1, _, _, _, rfl, rfl, SqL.of upd_same, hm, _, rfl, _, rfl, (by show 3 ≤ sizeLine; decide), fun b hb => ?_⟩
    have z2 := Same.new (o := .tup [.int m, .str tg, .ref pq]) hb
    have z := z1.trans z2
    exact put _ b (m, tg, pa) z ⟨b, pq, ys, rfl, upd_same, z _ _ hq, hp.mono z.tk⟩ ⟨log_small (Nat.lt_of_lt_of_le xm (Nat.pow_le_pow_right (n := 2) (by decide) (show 80 ≤ 1900 by decide))), hrb.t, hrb.p, hrb.d, hrb.s⟩ (fun ok => nm ok.m) _ _ _
  have nw1 : wy ≠ 1 := fun z => cw1 (decide_eq_true (congrArg V.int z))
  show u5e0 _ _ _
  refine by_eq e5e0 ?_
  refine ⟨_, rfl, rfl, _, rfl, ite2 (fun cw2 => ?_) (fun cw2 => ?_)⟩
  · -- another tag
    obtain ⟨t, ht, hbt⟩ := strs_bad (ws := ["", "A", "abcdefghi", "a1", "/", " ", "aZ", "a b"]) (i := x) (n := 8) (by decide +kernel) rfl (by decide)
    obtain ⟨bt1, bt2⟩ := badT_not (n := md) hbt
    refine ⟨_, rfl, (by show 8 ≤ sizeLine; decide), fun L1 hL1 => ?_⟩
    have z1 := Same.new (o := .lst (List.map V.str ["", "A", "abcdefghi", "a1", "/", " ", "aZ", "a b"])) hL1
    refine ⟨_, rfl, _, _, rfl, rfl, (by show (0 : Int) < 8; decide), L1, _, _, _, rfl, rfl, SqL.of upd_same, ht, _, rfl, (by show 3 ≤ sizeLine; decide), fun b hb => ?_⟩
    have z2 := Same.new (o := .tup [.int mo, .str t, .ref pq]) hb
    have z := z1.trans z2
    exact put _ b (mo, t, pa) z ⟨b, pq, ys, rfl, upd_same, z _ _ hq, hp.mono z.tk⟩ ⟨hrb.m, bt2, hrb.p, hrb.d, hrb.s⟩ (fun ok => bt1 ok.t) _ _ _
  have nw2 : wy ≠ 2 := fun z => cw2 (decide_eq_true (congrArg V.int z))
  show u5e0e0 _ _ _
  refine by_eq e5e0e0 ?_
  refine ⟨_, rfl, rfl, _, rfl, ite2 (fun cw3 => ?_) (fun cw3 => ?_)⟩
  · -- a bad part
    show u5e0e0t0 _ _ _
    refine by_eq e5e0e0t0 ?_
    obtain ⟨k, hk, hkl⟩ := modN x (n := ys.length + 1) (by (first | lia | omega))
    refine ⟨_, rfl, _, rfl, pq, _, rfl, .inr (SqT.of hq), _, _, rfl, rfl, _, _, rfl, rfl, (by show (0 : Int) < (ys.length : Int) + 1; (first | lia | omega)), ?_⟩
    show u5e0e0t1 _ [some (.int md), some (.ref L), some (.int x), some (.int wy), some (.int (i : Int)), some (.int mo), some (.str tg), some (.ref pq), none, some (.int (x % ((ys.length : Int) + 1))), none, none] H
    rw [show x % ((ys.length : Int) + 1) = (k : Int) from hk]
    refine by_eq e5e0e0t1 ?_
    refine ⟨_, rfl, _, rfl, _, rfl, _, rfl, _, rfl, pq, _, rfl, hq, fun c1 H1 z1 hc1 => ?_⟩
    rw [cut_upto] at hc1
    refine ⟨_, rfl, _, rfl, md, x, rfl, m1, m4, fun b pb H2 z2 rb nb xb sb => ⟨(by show 1 ≤ sizeLine; decide), fun c2 hc2 => ?_⟩⟩
    have z3 := Same.new (o := .tup [.ref b]) hc2
    refine ⟨c1, c2, _, _, rfl, rfl, (z2.trans z3) _ _ hc1, upd_same, ?_, fun c3 H3 z4 hc3 => ?_⟩
    · have := hp.length
      have := hgr.2
      rw [List.length_take]
      exact len1000 (by show min k ys.length + 1 ≤ 100000; (first | lia | omega))
    refine ⟨_, rfl, _, rfl, _, rfl, pq, _, rfl, (z1.trans (z2.trans (z3.trans z4))) _ _ hq, fun c4 H4 z5 hc4 => ?_⟩
    rw [cut_from] at hc4
    refine ⟨c3, c4, _, _, rfl, rfl, z5 _ _ hc3, hc4, ?_, fun c5 H5 z6 hc5 => ⟨(by show 3 ≤ sizeLine; decide), fun c6 hc6 => ?_⟩⟩
    · have h1 := hp.length
      have h2 : pa.sz ≤ 6 := hgr.2
      rw [List.length_append, List.length_take, List.length_drop]
      exact len1000 (by show min k ys.length + 1 + (ys.length - k) ≤ 100000; (first | lia | omega))
    have z7 := Same.new (o := .tup [.int mo, .str tg, .ref c5]) hc6
    have zb := z3.trans (z4.trans (z5.trans (z6.trans z7)))
    have z := z1.trans (z2.trans zb)
    obtain ⟨p1, p2, h1, h2, h3⟩ := rep_split (show RepP _ ys pa from hp.mono z.tk) k
    have rp : RepP (upd H5 c6 (.tup [.int mo, .str tg, .ref c5])) (ys.take k ++ [.ref b] ++ ys.drop k) ((p1.app pb).app p2) := (h1.app (rb.mono zb.tk)).app h2
    have ap : ∀ y, y ∈ allP ((p1.app pb).app p2) ↔ (y ∈ allP pa ∨ y ∈ allP pb) := fun y => by
      rw [h3, allP_app, allP_app, allP_app]
      simp only [List.mem_append]
      constructor
      · rintro ((h | h) | h)
        · exact .inl (.inl h)
        · exact .inr h
        · exact .inl (.inr h)
      · rintro ((h | h) | h)
        · exact .inl (.inl h)
        · exact .inr h
        · exact .inl (.inr h)
    have sz : ((p1.app pb).app p2).sz ≤ 16 := by
      have h4 : pa.sz ≤ 6 := hgr.2
      rw [h3, Pa.sz_app] at h4
      rw [Pa.sz_app, Pa.sz_app]
      (first | lia | omega)
    refine put _ c6 (mo, tg, (p1.app pb).app p2) z ⟨c6, c5, _, rfl, upd_same, z7 _ _ hc5, rp⟩ ⟨hrb.m, hrb.t, fun y hy => ?_, ?_, ?_⟩ (fun ok => ?_) _ _ _
    · rcases (ap y).mp hy with h | h
      · exact hrb.p y h
      · exact xb y h
    · have := ((p1.app pb).app p2).dep_le
      show ((p1.app pb).app p2).dep < 22
      (first | lia | omega)
    · show ((p1.app pb).app p2).sz ≤ 1000
      (first | lia | omega)
    · obtain ⟨y, hy, ny⟩ := nb
      exact ny (ok.p y ((ap y).mpr (.inr hy)))
  · -- a double
    show u5e0e0e0 _ _ _
    refine by_eq e5e0e0e0 ?_
    obtain ⟨o, ho, hol⟩ := modN x (n := zs.length + 1) (by (first | lia | omega))
    refine ⟨_, rfl, _, rfl, L, _, rfl, .inl (SqL.of hL), _, _, rfl, rfl, _, _, rfl, rfl, (by show (0 : Int) < (zs.length : Int) + 1; (first | lia | omega)), ?_⟩
    show u5e0e0e1 _ [some (.int md), some (.ref L), some (.int x), some (.int wy), some (.int (i : Int)), some (.int mo), some (.str tg), some (.ref pq), none, none, some (.int (x % ((zs.length : Int) + 1))), none] H
    rw [show x % ((zs.length : Int) + 1) = (o : Int) from ho]
    refine by_eq e5e0e0e1 ?_
    refine ⟨_, rfl, _, rfl, _, rfl, (by show 2 ≤ sizeLine; decide), fun k1 hk1 => ⟨(by show 1 ≤ sizeLine; decide), fun k2 hk2 => ⟨(by decide), fun k3 hk3 => ⟨(by show 3 ≤ sizeLine; decide), fun k4 hk4 => ?_⟩⟩⟩⟩
    have z1 := Same.new (o := .tup [.str "kids", .int 0]) hk1
    have z2 := Same.new (o := .tup [.ref k1]) hk2
    have z3 := Same.new (o := .tup []) hk3
    have z4 := Same.new (o := .lst [.ref pq, .ref k2, .ref k3]) hk4
    have z14 := z1.trans (z2.trans (z3.trans z4))
    obtain ⟨j, hj, hjl⟩ := modN x (n := 3) (by decide)
    have hj : x % 3 = (j : Int) := hj
    obtain ⟨q', yq, pd, g1, g2, g3, g4⟩ : ∃ (q' : Addr) (yq : List V) (pd : Pa), atI [V.ref pq, .ref k2, .ref k3] (x % 3) = some (.ref q') ∧ (upd (upd (upd (upd H k1 (.tup [.str "kids", .int 0])) k2 (.tup [.ref k1])) k3 (.tup [])) k4 (.lst [.ref pq, .ref k2, .ref k3])) q' = some (.tup yq) ∧ RepP (upd (upd (upd (upd H k1 (.tup [.str "kids", .int 0])) k2 (.tup [.ref k1])) k3 (.tup [])) k4 (.lst [.ref pq, .ref k2, .ref k3])) yq pd ∧ RB (mo, tg, pd) := by
      rw [hj]
      rcases (show j = 0 ∨ j = 1 ∨ j = 2 by (first | lia | omega)) with rfl | rfl | rfl
      · exact ⟨pq, ys, pa, rfl, z14 _ _ hq, hp.mono z14.tk, hrb⟩
      · refine ⟨k2, [.ref k1], .kids 0 .nil, rfl, (z3.trans z4) _ _ upd_same, .kids ((z2.trans (z3.trans z4)) _ _ upd_same) .nil, hrb.m, hrb.t, fun y hy => ?_, (by show 0 < 22; decide), (by show 1 ≤ 1000; decide)⟩
        have : y = .inl 0 := by simpa [allP] using hy
        rw [this]
        exact okX_XB (n := md) (by (first | lia | omega)) (show (0 : Int) ≤ 0 ∧ (0 : Int) < md from ⟨by decide, by (first | lia | omega)⟩)
      · exact ⟨k3, [], .nil, rfl, z4 _ _ upd_same, .nil, hrb.m, hrb.t, fun y hy => (nomatch hy), (by show 0 < 22; decide), (by show 0 ≤ 1000; decide)⟩
    refine ⟨_, rfl, _, _, rfl, rfl, (by show (0 : Int) < 3; decide), k4, _, _, _, rfl, rfl, SqL.of upd_same, g1, (by show 3 ≤ sizeLine; decide), fun d hd => ?_⟩
    have z5 := Same.new (o := .tup [.int mo, .str tg, .ref q']) hd
    have hd5 : (upd (upd (upd (upd (upd H k1 (.tup [.str "kids", .int 0])) k2 (.tup [.ref k1])) k3 (.tup [])) k4 (.lst [.ref pq, .ref k2, .ref k3])) d (.tup [.int mo, .str tg, .ref q'])) d = some (.tup [.int mo, .str tg, .ref q']) := upd_same
    have g2' := z5 _ _ g2
    have g3' := g3.mono z5.tk
    have s5 := z14.trans z5
    show u5e0e0e2 _ [some (.int md), some (.ref L), some (.int x), some (.int wy), some (.int (i : Int)), some (.int mo), some (.str tg), some (.ref pq), none, none, some (.int (o : Int)), some (.ref d)] _
    generalize upd (upd (upd (upd (upd H k1 (.tup [.str "kids", .int 0])) k2 (.tup [.ref k1])) k3 (.tup [])) k4 (.lst [.ref pq, .ref k2, .ref k3])) d (.tup [.int mo, .str tg, .ref q']) = H1 at hd5 g2' g3' s5 ⊢
    clear z1 z2 z3 z4 z14 z5 g1 g2 g3
    refine by_eq e5e0e0e2 ?_
    have hL1 := s5 _ _ hL
    refine ⟨_, rfl, _, rfl, _, rfl, _, rfl, L, _, rfl, SqL.of hL1, fun c1 hc1 => ?_⟩
    rw [cut_upto]
    have z1 := Same.new (o := .lst (zs.take o)) hc1
    refine ⟨_, rfl, (by show 1 ≤ sizeLine; decide), fun c2 hc2 => ?_⟩
    have z2 := Same.new (o := .lst [.ref d]) hc2
    refine ⟨c1, c2, _, _, rfl, rfl, z2 _ _ upd_same, upd_same, ?_, fun c3 hc3 => ?_⟩
    · rw [List.length_take]
      exact len1000 (by show min o zs.length + 1 ≤ 100000; (first | lia | omega))
    have z3 := Same.new (o := .lst (zs.take o ++ [.ref d])) hc3
    refine ⟨_, rfl, _, rfl, _, rfl, L, _, rfl, SqL.of ((z1.trans (z2.trans z3)) _ _ hL1), fun c4 hc4 => ?_⟩
    rw [cut_from]
    have z4 := Same.new (o := .lst (zs.drop o)) hc4
    refine ⟨c3, c4, _, _, rfl, rfl, z4 _ _ upd_same, upd_same, ?_, fun c5 hc5 => ?_⟩
    · rw [List.length_append, List.length_take, List.length_drop]
      exact len1000 (by show min o zs.length + 1 + (zs.length - o) ≤ 100000; (first | lia | omega))
    have z5 := Same.new (o := .lst (zs.take o ++ [.ref d] ++ zs.drop o)) hc5
    refine ⟨(by show 2 ≤ sizeLine; decide), fun c6 hc6 => ?_⟩
    have z6 := Same.new (o := .tup [.int md, .ref c5]) hc6
    have z := z1.trans (z2.trans (z3.trans (z4.trans (z5.trans z6))))
    have hrs6 := (hrs.tk s5.tk).tk z.tk
    have pm : (rs.take o ++ [(mo, tg, pd)] ++ rs.drop o).Perm ((mo, tg, pd) :: rs) := by
      rw [List.append_assoc]
      refine (List.perm_append_comm).trans ?_
      show ((mo, tg, pd) :: (rs.drop o ++ rs.take o)).Perm _
      refine List.Perm.cons _ ?_
      refine (List.perm_append_comm).trans ?_
      rw [List.take_append_drop]
    refine q c6 c5 md _ (rs.take o ++ [(mo, tg, pd)] ++ rs.drop o) _ (s5.trans z) upd_same (z6 _ _ upd_same) (Paired.app (Paired.app (pd_take hrs6 o) (.cons ⟨d, q', yq, rfl, z _ _ hd5, z _ _ g2', g3'.mono z.tk⟩ .nil)) (pd_drop hrs6 o)) mlog ?_ (fun r' hr' => ?_) fun ok => ?_
    · rw [pm.length_eq, List.length_cons]
      (first | lia | omega)
    · rcases List.mem_cons.mp (pm.mem_iff.mp hr') with rfl | hr'
      · exact g4
      · exact RB_good m4 (hg.ok r' hr')
    · have nd := (pm.map rkP).nodup_iff.mp ok.nd
      rw [List.map_cons, List.nodup_cons] at nd
      exact nd.1 (List.mem_map.mpr ⟨(mo, tg, pa), hrm, rfl⟩)
theorem ok_l_whole (B : ∀ x ∈ blts, mg x = none) (F : Fun K "_law_whole" "_law_whole" s_l_whole f fd) : FnOk P w K mg base CX0 1 f fd ["_law_found"] spWhole := by
  refine F.ok sc_l_whole (fun vs H Q E h => ?_) (fun cdv A outer s H vs Q E hr h => ?_)
  · obtain ⟨i, rfl, _⟩ := h
    rfl
  obtain ⟨i, rfl, q⟩ := h
  refine ⟨_, (pss_one (ps_ret (pe_and (pe_callB call_isinst rfl (B "isinstance" (by decide)) bt_isinstance (pa_cons (pv 0) (pa_cons (pe_ty rfl (B "int" (by decide)) bt_int) pa_nil))) (pe_one (pe_not (pe_callB call_isinst rfl (B "isinstance" (by decide)) bt_isinstance (pa_cons (pv 0) (pa_cons (pe_ty rfl (B "bool" (by decide)) bt_bool) pa_nil)))))))), ?_⟩
  refine ⟨_, rfl, .int i, "int", .type "int", true, rfl, .int i, rfl, true, rfl, iteT ?_⟩
  exact ⟨_, rfl, .int i, "bool", .type "int", false, rfl, .int i, rfl, false, rfl, q⟩
def spRP (d : Nat) : Sp := fun vs H Q _ => ∃ (q : Addr) (ys : List V) (p : Pa), vs = [.ref q] ∧ H q = some (.tup ys) ∧ RepP H ys p ∧ p.dep < d ∧ Q (.bl true) H
set_option maxHeartbeats 2000000 in
theorem ok_l_right_parts (d : Nat) (B : ∀ x ∈ blts, mg x = none) (g_l_whole : Has P w K mg base "_law_whole" ["_law_found"] 1 spWhole) (g_l_right_parts : Has P w K mg base "_law_right_parts" ["_law_found"] (d + 1) (spRP d)) (F : Fun K "_law_right_parts" "_law_right_parts" s_l_right_parts f fd) : FnOk P w K mg base CX0 (d + 2) f fd ["_law_found"] (spRP (d + 1)) := by
  refine F.ok sc_l_right_parts (fun vs H Q E h => ?_) (fun cdv A outer s H vs Q E hr h => ?_)
  · obtain ⟨q, ys, p, rfl, _⟩ := h
    rfl
  obtain ⟨q, ys, p, rfl, hq, hp, hd, qq⟩ := h
  refine hideI ((defBody s_l_right_parts).drop 2) (pss_one (ps_ret pe_bl)) (fun u2 h2 e2 => ?_)
  refine hideI ((sBody ((defBody s_l_right_parts).getD 1 (.Pass ⟨0, 0, 0, 0⟩))).drop 3) (pss_one (ps_if (PW.pt (pw_or (pt_cmpR op_ne (pe_callB call_len_seq rfl (B "len" (by decide)) PySem.boot_len (pa_cons (pv 1) pa_nil)) pe_int (nomark _)) (pw_or (pt_not (pt_truth (pe_callB call_isinst rfl (B "isinstance" (by decide)) bt_isinstance (pa_cons (pe_ix ix_tup (pv 1) pe_int (fun _ _ => rfl)) (pa_cons (pe_ty rfl (B "str" (by decide)) bt_str) pa_nil))) (fun _ => rfl))) (pw_or1 (pt_not (pt_truth (pe_has g_l_right_parts hr rfl (pa_cons (pe_ix ix_tup (pv 1) pe_int (fun _ _ => rfl)) pa_nil) (by (first | lia | omega))) (fun _ => rfl)))))))
      (pss_one (ps_ret pe_bl))
      pss_nil)) (fun u1_3 h1_3 e1_3 => ?_)
  refine hideI ((sBody ((defBody s_l_right_parts).getD 1 (.Pass ⟨0, 0, 0, 0⟩))).drop 2) (pss_cons (ps_if (pt_cmpR op_eq (pe_ix ix_tup (pv 1) pe_int (fun _ _ => rfl)) pe_str (nomark _))
      (pss_one ps_continue)
      pss_nil) h1_3) (fun u1_2 h1_2 e1_2 => ?_)
  refine hideI ((sBody ((defBody s_l_right_parts).getD 1 (.Pass ⟨0, 0, 0, 0⟩))).drop 1) (pss_cons (ps_if (PW.pt (pw_and (pt_cmpR op_eq (pe_ix ix_tup (pv 1) pe_int (fun _ _ => rfl)) pe_str (nomark _)) (pw_and1 (PW.pt (pw_or (pt_cmpR op_ne (pe_callB call_len_seq rfl (B "len" (by decide)) PySem.boot_len (pa_cons (pv 1) pa_nil)) pe_int (nomark _)) (pw_or1 (pt_not (pt_truth (pe_has g_l_whole hr rfl (pa_cons (pe_ix ix_tup (pv 1) pe_int (fun _ _ => rfl)) pa_nil) (by (first | lia | omega))) (fun _ => rfl)))))))))
      (pss_one (ps_ret pe_bl))
      pss_nil) h1_2) (fun u1_1 h1_1 e1_1 => ?_)
  refine hideI ((sBody ((defBody s_l_right_parts).getD 1 (.Pass ⟨0, 0, 0, 0⟩))).drop 0) (pss_cons (ps_if (PW.pt (pw_or (pt_not (pt_truth (pe_callB call_isinst rfl (B "isinstance" (by decide)) bt_isinstance (pa_cons (pv 1) (pa_cons (pe_ty rfl (B "tuple" (by decide)) bt_tuple) pa_nil))) (fun _ => rfl))) (pw_or (pt_cmpR op_lt (pe_callB call_len_seq rfl (B "len" (by decide)) PySem.boot_len (pa_cons (pv 1) pa_nil)) pe_int (nomark _)) (pw_or1 (pt_not (pt_truth (pe_callB call_isinst rfl (B "isinstance" (by decide)) bt_isinstance (pa_cons (pe_ix ix_tup (pv 1) pe_int (fun _ _ => rfl)) (pa_cons (pe_ty rfl (B "str" (by decide)) bt_str) pa_nil))) (fun _ => rfl)))))))
      (pss_one (ps_ret pe_bl))
      pss_nil) h1_1) (fun u1_0 h1_0 e1_0 => ?_)
  refine hideI ((defBody s_l_right_parts).drop 1) (pss_cons (ps_for PassesOwn.never rfl (pi_tup (pv 0)) (pg_name (i := 1) sc_l_right_parts.nd rfl (Or.inl rfl))
      h1_0) h2) (fun u1 h1 e1 => ?_)
  refine hideI ((defBody s_l_right_parts).drop 0) (pss_cons (ps_if (pt_not (pt_truth (pe_callB call_isinst rfl (B "isinstance" (by decide)) bt_isinstance (pa_cons (pv 0) (pa_cons (pe_ty rfl (B "tuple" (by decide)) bt_tuple) pa_nil))) (fun _ => rfl)))
      (pss_one (ps_ret pe_bl))
      pss_nil) h1) (fun u0 h0 e0 => ?_)
  refine ⟨u0, h0, ?_⟩
  refine by_eq e0 ?_
  refine ⟨_, rfl, .ref q, "tuple", .type "tuple", true, rfl, .tup hq, rfl, true, rfl, iteF ?_⟩
  show u1 _ _ _
  refine by_eq e1 ?_
  refine ⟨_, rfl, q, rfl, ⟨_, SqT.of hq⟩, for_tup (K := K) (a := q) (xs := ys) (fun i σ H1 => ∃ v1 : Option V, σ = [some (.ref q), v1] ∧ H1 = H)
    ⟨none, rfl, rfl⟩ ?_ ?_ ?_⟩
  · rintro i σ H1 _ ⟨_, _, rfl⟩
    exact SqT.of hq
  · rintro i x σ H1 hx ⟨v1, rfl, rfl⟩
    obtain ⟨a, rfl, ha⟩ := hp.at i x hx
    refine by_eq e1_0 ?_
    rcases ha with ⟨m, h1, h2⟩ | ⟨t, q', ys', w', h1, h2, h3, h4, h5, h6⟩
    · refine ⟨_, rfl, .ref a, "tuple", .type "tuple", true, rfl, .tup h1, rfl, true, rfl, iteF ?_⟩
      refine ⟨_, rfl, a, _, rfl, .inr (SqT.of h1), _, _, rfl, rfl, _, rfl, iteF ?_⟩
      refine ⟨_, rfl, a, _, 0, _, rfl, rfl, SqT.of h1, rfl, .str "kids", "str", .type "str", true, rfl, .str "kids", rfl, true, rfl, iteF ?_⟩
      show u1_1 _ _ _
      refine by_eq e1_1 ?_
      refine ⟨_, rfl, a, _, 0, _, rfl, rfl, SqT.of h1, rfl, rfl, _, rfl, ite2 (fun _ => ?_) (fun z => absurd (decide_eq_true rfl) z)⟩
      refine ⟨_, rfl, a, _, rfl, .inr (SqT.of h1), rfl, _, rfl, iteF ?_⟩
      refine ⟨_, rfl, a, _, 1, _, rfl, rfl, SqT.of h1, rfl, m, rfl, true, rfl, iteF ?_⟩
      show u1_2 _ _ _
      refine by_eq e1_2 ?_
      exact ⟨_, rfl, a, _, 0, _, rfl, rfl, SqT.of h1, rfl, rfl, _, rfl, ite2 (fun _ => ⟨_, rfl, rfl⟩) (fun z => absurd (decide_eq_true rfl) z)⟩
    · refine ⟨_, rfl, .ref a, "tuple", .type "tuple", true, rfl, .tup h1, rfl, true, rfl, iteF ?_⟩
      refine ⟨_, rfl, a, _, rfl, .inr (SqT.of h1), _, _, rfl, rfl, _, rfl, iteF ?_⟩
      refine ⟨_, rfl, a, _, 0, _, rfl, rfl, SqT.of h1, rfl, .str "tag", "str", .type "str", true, rfl, .str "tag", rfl, true, rfl, iteF ?_⟩
      show u1_1 _ _ _
      refine by_eq e1_1 ?_
      refine ⟨_, rfl, a, _, 0, _, rfl, rfl, SqT.of h1, rfl, rfl, _, rfl, ite2 (fun z => absurd (of_decide_eq_true z) (by decide)) (fun _ => iteF ?_)⟩
      show u1_2 _ _ _
      refine by_eq e1_2 ?_
      refine ⟨_, rfl, a, _, 0, _, rfl, rfl, SqT.of h1, rfl, rfl, _, rfl, ite2 (fun z => absurd (of_decide_eq_true z) (by decide)) (fun _ => ?_)⟩
      show u1_3 _ _ _
      refine by_eq e1_3 ?_
      refine ⟨_, rfl, a, _, rfl, .inr (SqT.of h1), rfl, _, rfl, iteF ?_⟩
      refine ⟨_, rfl, a, _, 1, _, rfl, rfl, SqT.of h1, rfl, .str t, "str", .type "str", true, rfl, .str t, rfl, true, rfl, iteF ?_⟩
      exact ⟨_, rfl, a, _, 2, _, rfl, rfl, SqT.of h1, rfl, q', ys', w', rfl, h2, h3, by (first | lia | omega), true, rfl, iteF ⟨_, rfl, rfl⟩⟩
  · rintro σ H1 ⟨v1, rfl, rfl⟩
    show u2 _ _ _
    refine by_eq e2 ?_
    exact qq
def dPa : Pa → List PyData
  | .nil => []
  | .kids m o => .tuple [.str "kids", .int m] :: dPa o
  | .tag t w o => .tuple [.str "tag", .str t, .tuple (dPa w)] :: dPa o
def dRu (r : Int × Str × Pa) : PyData := .tuple [.int r.1, .str r.2.1, .tuple (dPa r.2.2)]
theorem dp_pa {K : PySem.W.Frag} {H : Hp} : ∀ {ys : List V} {p : Pa}, RepP H ys p → DpAll K H ys (dPa p)
  | _, _, .nil => .nil
  | _, _, .kids h1 h2 => .cons (.tup (SqT.of h1) (.cons (.str _) (.cons (.int _) .nil))) (dp_pa h2)
  | _, _, .tag h1 h2 h3 h4 => .cons (.tup (SqT.of h1) (.cons (.str _) (.cons (.str _) (.cons (.tup (SqT.of h2) (dp_pa h3)) .nil)))) (dp_pa h4)
theorem dp_ru {K : PySem.W.Frag} {H : Hp} : ∀ {zs : List V} {rs : List (Int × Str × Pa)}, RuL H zs rs → DpAll K H zs (rs.map dRu)
  | _, _, .nil => .nil
  | _, _, .cons ⟨a, q, ys, e, h1, h2, h3⟩ t => by
    subst e
    exact .cons (.tup (SqT.of h1) (.cons (.int _) (.cons (.str _) (.cons (.tup (SqT.of h2) (dp_pa h3)) .nil)))) (dp_ru t)
theorem tag_strOk {n : Int} {t : Str} (h : okX n (.inr t)) : PyData.strOk t = true := by
  have h : tagB t = true := h
  unfold tagB at h
  simp only [Bool.and_eq_true, decide_eq_true_eq, List.all_eq_true] at h
  refine Let0.ok fun c hc => ?_
  have := h.2 c hc
  unfold azB at this
  simp only [Bool.and_eq_true, decide_eq_true_eq] at this
  exact this
theorem kids_ok : PyData.strOk "kids" = true := by decide +kernel
theorem tag_ok : PyData.strOk "tag" = true := by decide +kernel
theorem lay_pa {md : Int} : ∀ p : Pa, (∀ x ∈ allP p, okX md x) → PyData.canLayAll0 (dPa p) = true
  | .nil, _ => rfl
  | .kids m o, h => by
    show ((PyData.strOk "kids" && (PyData.canLay0 (.int m) && true)) && PyData.canLayAll0 (dPa o)) = true
    rw [lay_pa o fun x hx => h x (by simp [allP, hx]), kids_ok]
    rfl
  | .tag t w o, h => by
    have ht := tag_strOk (h (.inr t) (by simp [allP]))
    show ((PyData.strOk "tag" && (PyData.strOk t && (PyData.canLayAll0 (dPa w) && true))) && PyData.canLayAll0 (dPa o)) = true
    rw [lay_pa o fun x hx => h x (by simp [allP, hx]), lay_pa w fun x hx => h x (by simp [allP, hx]), ht, tag_ok]
    rfl
theorem depth_pa : ∀ p : Pa, PyData.depthAll (dPa p) ≤ 2 * p.sz
  | .nil => Nat.zero_le _
  | .kids m o => by
    show max (PyData.depth (.tuple [.str "kids", .int m])) (PyData.depthAll (dPa o)) ≤ 2 * (Pa.kids m o).sz
    have h1 := depth_pa o
    have h2 : PyData.depth (.tuple [.str "kids", .int m]) = 1 := rfl
    simp only [Pa.sz]
    (first | lia | omega)
  | .tag t w o => by
    show max (PyData.depth (.tuple [.str "tag", .str t, .tuple (dPa w)])) (PyData.depthAll (dPa o)) ≤ 2 * (Pa.tag t w o).sz
    have h1 := depth_pa o
    have h3 := depth_pa w
    have h2 : PyData.depth (.tuple [.str "tag", .str t, .tuple (dPa w)]) = max 0 (max 0 (max (PyData.depthAll (dPa w) + 1) 0)) + 1 := rfl
    simp only [Pa.sz]
    (first | lia | omega)
theorem lay_ru {md : Int} : ∀ {rs : List (Int × Str × Pa)}, (∀ r ∈ rs, okR md r ∧ r.2.2.sz ≤ 6) → PyData.canLayAll0 (rs.map dRu) = true ∧ PyData.depthAll (rs.map dRu) ≤ 14
  | [], _ => ⟨rfl, Nat.zero_le _⟩
  | r :: rs, h => by
    obtain ⟨h1, h2⟩ := lay_ru (rs := rs) fun x hx => h x (List.mem_cons_of_mem _ hx)
    obtain ⟨h3, h4⟩ := h r (List.mem_cons_self ..)
    constructor
    · show ((PyData.canLay0 (.int r.1) && (PyData.strOk r.2.1 && (PyData.canLayAll0 (dPa r.2.2) && true))) && PyData.canLayAll0 (rs.map dRu)) = true
      rw [h1, tag_strOk h3.t, lay_pa _ h3.p]
      rfl
    · show max (PyData.depth (dRu r)) (PyData.depthAll (rs.map dRu)) ≤ 14
      have h5 := depth_pa r.2.2
      have h6 : PyData.depth (dRu r) = max 0 (max 0 (max (PyData.depthAll (dPa r.2.2) + 1) 0)) + 1 := rfl
      (first | lia | omega)
theorem eq_same {K : PySem.W.Frag} {H : Hp} {a b : V} {d : PyData} {neg : Bool} {Q : VK} (ha : Dp K H a d) (hb : Dp K H b d) (hl : d.canLay0 = true) (hd : d.depth ≤ 200) (q : Q (.bl (!neg)) H) : rEqD K neg a b H Q := by
  refine ⟨d, d, ha, hb, hl, hl, by (first | lia | omega), ?_⟩
  rw [PySem.SeqAt.eqv_refl _ hl]
  cases neg <;> exact q
theorem eq_rules {K : PySem.W.Frag} {H : Hp} {md : Int} {a b : Addr} {xs ys : List V} {rs : List (Int × Str × Pa)} {neg : Bool} {Q : VK} (hg : ∀ r ∈ rs, okR md r ∧ r.2.2.sz ≤ 6) (ha : SqT K H a xs) (hb : SqT K H b ys) (ra : RuL H xs rs) (rb : RuL H ys rs) (q : Q (.bl (!neg)) H) : rEqD K neg (.ref a) (.ref b) H Q := by
  obtain ⟨h1, h2⟩ := lay_ru hg
  refine eq_same (d := .tuple (rs.map dRu)) (.tup ha (dp_ru ra)) (.tup hb (dp_ru rb)) h1 ?_ q
  show PyData.depthAll (rs.map dRu) + 1 ≤ 200
  (first | lia | omega)
theorem eq_rulesL {K : PySem.W.Frag} {H : Hp} {md : Int} {a b : Addr} {xs ys : List V} {rs : List (Int × Str × Pa)} {neg : Bool} {Q : VK} (hg : ∀ r ∈ rs, okR md r ∧ r.2.2.sz ≤ 6) (ha : SqL K H a xs) (hb : SqL K H b ys) (ra : RuL H xs rs) (rb : RuL H ys rs) (q : Q (.bl (!neg)) H) : rEqD K neg (.ref a) (.ref b) H Q := by
  obtain ⟨h1, h2⟩ := lay_ru hg
  refine eq_same (d := .list (rs.map dRu)) (.lst ha (dp_ru ra)) (.lst hb (dp_ru rb)) h1 ?_ q
  show PyData.depthAll (rs.map dRu) + 1 ≤ 200
  (first | lia | omega)
theorem kl_ps {H : Hp} : ∀ {ys : List V} {ps : List Srd.Ps}, KL H ys (ps.map psK) → PsL H ys ps
  | [], [], _ => .nil
  | _ :: _, _ :: _, .cons ⟨b, e1, e2⟩ t => .cons ⟨b, e1, e2⟩ (kl_ps t)
def spRight71 : Sp := fun vs H Q _ => ∃ (c T L : Addr) (md : Int) (ws zs : List V) (ms rs : List (Int × Str × Pa)), vs = [.ref c, .int md, .ref L] ∧ H c = some (.tup [.int md, .ref T]) ∧ H T = some (.tup ws) ∧ RuL H ws ms ∧ H L = some (.lst zs) ∧ RuL H zs rs ∧ GoodR md rs ∧ rs.length ≤ 8 ∧ Srt rs ms ∧ ∀ H', Same H H' → Q (.bl true) H'
set_option maxHeartbeats 4000000 in
theorem ok_l_right (B : ∀ x ∈ blts, mg x = none) (g_l_whole : Has P w K mg base "_law_whole" ["_law_found"] 1 spWhole) (g_l_right_parts : Has P w K mg base "_law_right_parts" ["_law_found"] 13 (spRP 12)) (F : Fun K "_law_right" "_law_right" s_l_right f fd) : FnOk P w K mg base CX0 14 f fd ["_law_found", "_law_modes", "_law_rules_here"] spRight71 := by
  refine F.ok sc_l_right (fun vs H Q E h => ?_) (fun cdv A outer s H vs Q E hr h => ?_)
  · obtain ⟨c, T, L, md, ws, zs, ms, rs, rfl, _⟩ := h
    rfl
  obtain ⟨c, T, L, md, ws, zs, ms, rs, rfl, hc, hT, hws, hL, hzs, hg, hrl, hso, q⟩ := h
  have hu1 : (A.deeper (PyProof.Rows.envOfC (Str.ofString "_law_right") (defScope s_l_right) s.heap.objs.size f cdv)).units + 1 < cLine := by have := hr.un; (first | lia | omega)
  have hu : (A.deeper (PyProof.Rows.envOfC (Str.ofString "_law_right") (defScope s_l_right) s.heap.objs.size f cdv)).units + 200 < cLine := by have := hr.un; (first | lia | omega)
  have hwl : ws.length = ms.length := Paired.length hws
  have hzl : zs.length = rs.length := Paired.length hzs
  have hml : ms.length = rs.length := by
    have := hso.perm.length_eq
    rwa [List.length_map, List.length_map] at this
  refine hideI ((defBody s_l_right).drop 5) (pss_one (ps_ret (pe_cmpR (op_eqD hu) (pe_ix ix_tup (pv 0) pe_int (fun _ _ => rfl)) (pe_callTy call_tuple_of rfl (B "tuple" (by decide)) bt_tuple (pa_cons (pe_comp (cl := _) ["_law_mode", "_law_tag_here"] [("_law_pairs", 4)] (pi_list (pe_callB (call_sorted_lPs rfl) rfl (B "sorted" (by decide)) bt_sorted (pa_cons (pe_callTy (call_list_dTk rfl) rfl (B "list" (by decide)) bt_list (pa_cons (pv 4) pa_nil)) pa_nil))) (fun _ _ _ _ => (pg_tupK (K := K) (n := 2) rfl rfl (pgs_cons (pg_name (i := 0) (show List.Nodup (["_law_mode", "_law_tag_here", "_law_pairs"] : List Str) by decide) rfl (Or.inl rfl)) (pgs_cons (pg_name (i := 1) (show List.Nodup (["_law_mode", "_law_tag_here", "_law_pairs"] : List Str) by decide) rfl (Or.inl rfl)) pgs_nil)))) (fun _ _ _ _ => (pe_tup (pa_cons (pv 0) (pa_cons (pv 1) (pa_cons (pe_dget hu1 (pv 2) (pe_tup (pa_cons (pv 0) (pa_cons (pv 1) pa_nil))) (fun _ _ => rfl)) pa_nil))))) rfl rfl (by decide) rfl (by decide) (cap_cl (by (repeat' first | exact List.forall_mem_nil _ | refine List.forall_mem_cons.mpr ⟨?_, ?_⟩) <;> rfl)) (cap_has (by (repeat' first | exact List.forall_mem_nil _ | refine List.forall_mem_cons.mpr ⟨?_, ?_⟩) <;> first | (intro h; exact ⟨_, rfl⟩) | (intro h; exact absurd h (by decide)))) (fun _ => by (repeat' first | exact List.forall_mem_nil _ | refine List.forall_mem_cons.mpr ⟨?_, ?_⟩) <;> exact ⟨rfl, rfl, Or.inl rfl⟩) (fun _ => rfl)) pa_nil)) (nomark _)))) (fun u5 h5 e5 => ?_)
  refine hideI ((sBody ((defBody s_l_right).getD 4 (.Pass ⟨0, 0, 0, 0⟩))).drop 0) (pss_one (ps_dput hu1 (pv 4) (pe_tup (pa_cons (pv 5) (pa_cons (pv 6) pa_nil))) (pv 7) rfl)) (fun u4_0 h4_0 e4_0 => ?_)
  refine hideI ((defBody s_l_right).drop 4) (pss_cons (ps_for PassesOwn.never rfl (pi_list (pv 2)) (pg_tup rfl (pgs_cons (pg_name (i := 5) sc_l_right.nd rfl (Or.inl rfl)) (pgs_cons (pg_name (i := 6) sc_l_right.nd rfl (Or.inl rfl)) (pgs_cons (pg_name (i := 7) sc_l_right.nd rfl (Or.inl rfl)) pgs_nil))))
      h4_0) h5) (fun u4 h4 e4 => ?_)
  refine hideI ((defBody s_l_right).drop 3) (pss_cons (ps_set (i := 4) sc_l_right.nd rfl (Or.inr rfl) pe_dnewT) h4) (fun u3 h3 e3 => ?_)
  refine hideI ((sBody ((defBody s_l_right).getD 2 (.Pass ⟨0, 0, 0, 0⟩))).drop 1) (pss_one (ps_if (PW.pt (pw_or (pt_not (pt_truth (pe_callB call_isinst rfl (B "isinstance" (by decide)) bt_isinstance (pa_cons (pe_ix ix_tup (pv 3) pe_int (fun _ _ => rfl)) (pa_cons (pe_ty rfl (B "str" (by decide)) bt_str) pa_nil))) (fun _ => rfl))) (pw_or1 (pt_not (pt_truth (pe_has g_l_right_parts hr rfl (pa_cons (pe_ix ix_tup (pv 3) pe_int (fun _ _ => rfl)) pa_nil)) (fun _ => rfl))))))
      (pss_one (ps_ret pe_bl))
      pss_nil)) (fun u2_1 h2_1 e2_1 => ?_)
  refine hideI ((sBody ((defBody s_l_right).getD 2 (.Pass ⟨0, 0, 0, 0⟩))).drop 0) (pss_cons (ps_if (PW.pt (pw_or (pt_not (pt_truth (pe_callB call_isinst rfl (B "isinstance" (by decide)) bt_isinstance (pa_cons (pv 3) (pa_cons (pe_ty rfl (B "tuple" (by decide)) bt_tuple) pa_nil))) (fun _ => rfl))) (pw_or (pt_cmpR op_ne (pe_callB call_len_seq rfl (B "len" (by decide)) PySem.boot_len (pa_cons (pv 3) pa_nil)) pe_int (nomark _)) (pw_or1 (pt_not (pt_truth (pe_has g_l_whole hr rfl (pa_cons (pe_ix ix_tup (pv 3) pe_int (fun _ _ => rfl)) pa_nil)) (fun _ => rfl)))))))
      (pss_one (ps_ret pe_bl))
      pss_nil) h2_1) (fun u2_0 h2_0 e2_0 => ?_)
  refine hideI ((defBody s_l_right).drop 2) (pss_cons (ps_for PassesOwn.never rfl (pi_tup (pe_ix ix_tup (pv 0) pe_int (fun _ _ => rfl))) (pg_name (i := 3) sc_l_right.nd rfl (Or.inl rfl))
      h2_0) h3) (fun u2 h2 e2 => ?_)
  refine hideI ((defBody s_l_right).drop 1) (pss_cons (ps_if (PW.pt (pw_or (pt_not (pt_truth (pe_has g_l_whole hr rfl (pa_cons (pe_ix ix_tup (pv 0) pe_int (fun _ _ => rfl)) pa_nil)) (fun _ => rfl))) (pw_or (pt_cmpR op_ne (pe_ix ix_tup (pv 0) pe_int (fun _ _ => rfl)) (pv 1) (nomark _)) (pw_or1 (pt_cmpR op_ne (pe_callB call_len_seq rfl (B "len" (by decide)) PySem.boot_len (pa_cons (pe_ix ix_tup (pv 0) pe_int (fun _ _ => rfl)) pa_nil)) (pe_callB call_len_seq rfl (B "len" (by decide)) PySem.boot_len (pa_cons (pv 2) pa_nil)) (nomark _))))))
      (pss_one (ps_ret pe_bl))
      pss_nil) h2) (fun u1 h1 e1 => ?_)
  refine hideI ((defBody s_l_right).drop 0) (pss_cons (ps_if (PW.pt (pw_or (pt_not (pt_truth (pe_callB call_isinst rfl (B "isinstance" (by decide)) bt_isinstance (pa_cons (pv 0) (pa_cons (pe_ty rfl (B "tuple" (by decide)) bt_tuple) pa_nil))) (fun _ => rfl))) (pw_or (pt_cmpR op_ne (pe_callB call_len_seq rfl (B "len" (by decide)) PySem.boot_len (pa_cons (pv 0) pa_nil)) pe_int (nomark _)) (pw_or1 (pt_not (pt_truth (pe_callB call_isinst rfl (B "isinstance" (by decide)) bt_isinstance (pa_cons (pe_ix ix_tup (pv 0) pe_int (fun _ _ => rfl)) (pa_cons (pe_ty rfl (B "tuple" (by decide)) bt_tuple) pa_nil))) (fun _ => rfl)))))))
      (pss_one (ps_ret pe_bl))
      pss_nil) h1) (fun u0 h0 e0 => ?_)
  refine ⟨u0, h0, ?_⟩
  refine by_eq e0 ?_
  refine ⟨_, rfl, .ref c, "tuple", .type "tuple", true, rfl, .tup hc, rfl, true, rfl, iteF ?_⟩
  refine ⟨_, rfl, c, _, rfl, .inr (SqT.of hc), rfl, _, rfl, iteF ?_⟩
  refine ⟨_, rfl, c, _, 1, _, rfl, rfl, SqT.of hc, rfl, .ref T, "tuple", .type "tuple", true, rfl, .tup hT, rfl, true, rfl, iteF ?_⟩
  show u1 _ _ _
  refine by_eq e1 ?_
  refine ⟨_, rfl, c, _, 0, _, rfl, rfl, SqT.of hc, rfl, md, rfl, true, rfl, iteF ?_⟩
  refine ⟨_, rfl, c, _, 0, _, rfl, rfl, SqT.of hc, rfl, _, rfl, rfl, _, rfl, ite2 (fun z => absurd z (by simp)) (fun _ => ?_)⟩
  refine ⟨_, rfl, c, _, 1, _, rfl, rfl, SqT.of hc, rfl, T, _, rfl, .inr (SqT.of hT), _, rfl, L, _, rfl, .inl (SqL.of hL), rfl, _, rfl, ite2 (fun z => absurd z (by rw [show ws.length = zs.length by (first | lia | omega)]; simp)) (fun _ => ?_)⟩
  show u2 _ _ _
  refine by_eq e2 ?_
  refine ⟨_, rfl, c, _, 1, _, rfl, rfl, SqT.of hc, rfl, T, rfl, ⟨_, SqT.of hT⟩, for_tup (K := K) (a := T) (xs := ws) (fun i σ H1 => ∃ v3 : Option V, σ = [some (.ref c), some (.int md), some (.ref L), v3, none, none, none, none] ∧ H1 = H)
    ⟨none, rfl, rfl⟩ ?_ ?_ ?_⟩
  · rintro i σ H1 _ ⟨_, _, rfl⟩
    exact SqT.of hT
  · rintro i x σ H1 hx ⟨v3, rfl, rfl⟩
    obtain ⟨r, hri, a, pq, ys, rfl, ha, hq, hp⟩ := hws.get i x hx
    have hrm := hso.mem r (List.mem_of_getElem? hri)
    have hgr := hg.ok r hrm
    have hdp := r.2.2.dep_le
    show u2_0 _ [some (.ref c), some (.int md), some (.ref L), some (.ref a), none, none, none, none] H1
    refine by_eq e2_0 ?_
    refine ⟨_, rfl, .ref a, "tuple", .type "tuple", true, rfl, .tup ha, rfl, true, rfl, iteF ?_⟩
    refine ⟨_, rfl, a, _, rfl, .inr (SqT.of ha), rfl, _, rfl, iteF ?_⟩
    refine ⟨_, rfl, a, _, 0, _, rfl, rfl, SqT.of ha, rfl, r.1, rfl, true, rfl, iteF ?_⟩
    show u2_1 _ _ _
    refine by_eq e2_1 ?_
    refine ⟨_, rfl, a, _, 1, _, rfl, rfl, SqT.of ha, rfl, .str r.2.1, "str", .type "str", true, rfl, .str r.2.1, rfl, true, rfl, iteF ?_⟩
    exact ⟨_, rfl, a, _, 2, _, rfl, rfl, SqT.of ha, rfl, pq, ys, r.2.2, rfl, hq, hp, by (first | lia | omega), true, rfl, iteF ⟨_, rfl, rfl⟩⟩
  rintro σ H1 ⟨v3, rfl, rfl⟩
  show u3 _ _ _
  refine by_eq e3 ?_
  refine fun d hd => ?_
  have s0 : Same H1 (upd H1 d (.dT [])) := Same.new hd
  have hd0 : (upd H1 d (.dT [])) d = some (.dT []) := upd_same
  show u4 _ _ _
  refine by_eq e4 ?_
  generalize upd H1 d (.dT []) = H0 at s0 hd0 ⊢
  refine ⟨_, rfl, L, rfl, ⟨_, SqL.of (s0 _ _ hL)⟩, for_list (K := K) (a := L) (xs := zs) (fun i σ H2 => ∃ (v5 v6 v7 : Option V) (m : List (List Key × V)), σ = [some (.ref c), some (.int md), some (.ref L), v3, some (.ref d), v5, v6, v7] ∧ Same H1 H2 ∧ H2 d = some (.dT m) ∧ RkL H2 m (rs.take i))
    ⟨none, none, none, [], rfl, s0, hd0, .nil⟩ ?_ ?_ ?_⟩
  · rintro i σ H2 _ ⟨_, _, _, _, _, s1, _⟩
    exact SqL.of (s1 _ _ hL)
  · rintro i x σ H2 hx ⟨v5, v6, v7, m, rfl, s1, hd1, hm⟩
    obtain ⟨r, hri, a, pq, ys, rfl, ha, hq, hp⟩ := (hzs.tk s1.tk).get i x hx
    have hil : i < rs.length := (List.getElem?_eq_some_iff.mp hri).1
    have hno : rkP r ∉ (rs.take i).map rkP := fun z => by
      have nd := hg.nd
      rw [← List.take_append_drop i rs, List.map_append] at nd
      have hd0 : r ∈ rs.drop i := by
        refine List.mem_of_getElem? (i := 0) ?_
        rw [List.getElem?_drop]
        exact hri
      exact (List.nodup_append.mp nd).2.2 _ z _ (List.mem_map_of_mem hd0) rfl
    refine ⟨a, _, rfl, SqT.of ha, rfl, _, _, rfl, _, _, rfl, _, _, rfl, rfl, ?_⟩
    show u4_0 _ [some (.ref c), some (.int md), some (.ref L), v3, some (.ref d), some (.int r.1), some (.str r.2.1), some (.ref pq)] H2
    refine by_eq e4_0 ?_
    refine ⟨_, rfl, _, rfl, _, rfl, _, rfl, (by show 2 ≤ sizeLine; decide), fun k2t hk2 => ?_⟩
    have s8 := Same.new (o := .tup [.int r.1, .str r.2.1]) hk2
    have hml : m.length = (rs.take i).length := Paired.length hm
    rw [List.length_take] at hml
    refine ⟨d, _, rfl, DPut.t (k := rkey r.1 r.2.1) (s8 _ _ hd1) upd_same (len1000' (by (first | lia | omega))), ?_⟩
    have tkd : TK (upd H2 k2t (.tup [.int r.1, .str r.2.1])) (upd (upd H2 k2t (.tup [.int r.1, .str r.2.1])) d (.dT (putK m (rkey r.1 r.2.1) (.ref pq)))) := fun b ys e => by
      rw [upd_ne (ne_of e (s8 _ _ hd1) (fun z => nomatch z))]
      exact e
    have tk := s8.tk.trans tkd
    refine ⟨_, _, _, _, rfl, (s1.trans s8).upd_new hd, upd_same, ?_⟩
    rw [take_succ' hri]
    exact (hm.tk tk).put hno (tk _ _ hq) (hp.mono tk)
  rintro σ H2 ⟨v5, v6, v7, m, rfl, s1, hd1, hm⟩
  rw [hzl, List.take_length] at hm
  have hml2 : m.length = rs.length := Paired.length hm
  show u5 _ _ _
  refine by_eq e5 ?_
  refine ⟨_, rfl, c, _, 1, _, rfl, rfl, SqT.of (s1 _ _ hc), rfl, ?_⟩
  refine ⟨_, rfl, d, m, rfl, hd1, fun l ys hl0 hkl => ?_⟩
  rw [hm.keys] at hkl
  have hps := kl_ps hkl
  have z1 := Same.new (o := .lst ys) hl0
  have hyl : ys.length = rs.length := by rw [hps.length, List.length_map]
  refine ⟨l, ys, rs.map rkP, rfl, SqL.of upd_same, by (first | lia | omega), hps.keep z1.tk, fun ks zk kl hk0 hperm hup hks => ?_⟩
  have z2 := Same.new (o := .lst zk) hk0
  have hkl2 : kl.length = rs.length := by rw [hperm.length_eq, List.length_map]
  have hzk : zk.length = kl.length := hks.length
  have hk2 : (upd (upd H2 l (.lst ys)) ks (.lst zk)) ks = some (.lst zk) := upd_same
  have hks2 := hks.keep z2.tk
  have hd2 := (z1.trans z2) _ _ hd1
  have hm2 := hm.tk (z1.trans z2).tk
  have sH2 := s1.trans (z1.trans z2)
  generalize upd (upd H2 l (.lst ys)) ks (.lst zk) = H3 at hk2 hks2 hd2 hm2 sH2 ⊢
  refine ⟨ks, rfl, ⟨_, SqL.of hk2⟩, fun pc hpc => ?_⟩
  refine comp_list (K := K) (a := ks) (p := pc) (xs := zk) (fun i us σ H6 => ∃ (w0 w1 : Option V) (ms : List (Int × Str × Pa)), σ = [w0, w1, some (.ref d)] ∧ Same H3 H6 ∧ H6 pc = some (.lst us) ∧ us.length = i ∧ RuL H6 us ms ∧ (∀ r ∈ ms, r ∈ rs) ∧ ms.map rkP = kl.take i)
    ⟨none, none, [], rfl, Same.new hpc, upd_same, rfl, .nil, fun _ h => (nomatch h), rfl⟩ ?_ ?_ ?_
  · rintro i us σ H6 _ ⟨_, _, _, _, s6, h, _⟩
    exact ⟨SqL.of (s6 _ _ hk2), h⟩
  · rintro i us x σ H6 hi hx ⟨w0, w1, ms, rfl, s6, hp6, hul, hrl6, hmem, hkey⟩
    obtain ⟨pk, kk, e1, rfl, e3⟩ := hks2.get i x hx
    have hkm : kk ∈ rs.map rkP := hperm.mem_iff.mp (List.mem_of_getElem? e1)
    rcases hm2.val kk with ⟨no, _⟩ | ⟨r, qp, yp, hr, hrk, hv, x2, x3⟩
    · exact absurd hkm no
    subst hrk
    refine ⟨pk, _, rfl, SqT.of (s6 _ _ e3), rfl, _, _, rfl, _, _, rfl, rfl, ?_⟩
    refine ⟨_, rfl, _, rfl, _, rfl, _, rfl, _, rfl, (by show 2 ≤ sizeLine; decide), fun kt hkt => ?_⟩
    have s7 := Same.new (o := .tup [.int r.1, .str r.2.1]) hkt
    have hgt : DGet (upd H6 kt (.tup [.int r.1, .str r.2.1])) d (.ref kt) (some (.ref qp)) := by
      have := DGet.t (k := psK (rkP r)) ((s6.trans s7) _ _ hd2) (show (upd H6 kt (.tup [.int r.1, .str r.2.1])) kt = some (.tup ((psK (rkP r)).map kV)) from upd_same)
      rw [hv] at this
      exact this
    refine ⟨d, _, rfl, hgt, (by show 3 ≤ sizeLine; decide), fun t3 ht3 => ?_⟩
    have s8 := Same.new (o := .tup [.int r.1, .str r.2.1, .ref qp]) ht3
    have s78 := s7.trans s8
    have hp8 := s78 _ _ hp6
    have tk := s78.tk.trans (TK.lst (o := .lst (us ++ [.ref t3])) hp8)
    have nt : t3 ≠ pc := fun z => nomatch ((z ▸ ht3 : _ = none).symm.trans (s7 _ _ hp6))
    refine ⟨hp8, len1000' (by (first | lia | omega)), CW.next hi ⟨_, _, ms ++ [r], rfl, (s6.trans s78).upd_new hpc, upd_same, by rw [List.length_append, List.length_singleton, hul], Paired.app (hrl6.tk tk) (.cons ⟨t3, qp, yp, rfl, ?_, tk _ _ (s6 _ _ x2), (x3.mono s6.tk).mono tk⟩ .nil), fun r' hr' => ?_, ?_⟩⟩
    · rw [upd_ne nt]
      exact upd_same
    · rcases List.mem_append.mp hr' with hr' | hr'
      · exact hmem r' hr'
      · rw [List.mem_singleton.mp hr']
        exact hr
    · rw [take_succ' e1, List.map_append, hkey]
      rfl
  rintro us σ H6 ⟨w0, w1, ms2, rfl, s6, hp6, hul, hrl6, hmem, hkey⟩
  rw [hzk, List.take_length] at hkey
  refine ⟨pc, us, rfl, .inl ⟨SqL.of hp6, fun T2 hT2 => ?_⟩⟩
  have s7 := Same.new (o := .tup us) hT2
  have so2 : Srt rs ms2 := ⟨hmem, by rw [hkey]; exact hperm, by rw [hkey]; exact hup⟩
  have em : ms2 = ms := so2.uniq hg.nd hso
  subst em
  have sF := sH2.trans (s6.trans s7)
  exact eq_rules (md := md) (fun r hr => hg.ok r (hso.mem r hr)) (SqT.of (sF _ _ hT)) (SqT.of upd_same) (hws.tk sF.tk) (hrl6.tk s7.tk) (q _ sF)
theorem bt_ValueError : bootBuiltins "ValueError" = some (.type "ValueError") := by decide +kernel
theorem fm_nil {α : Type} {p : α → Prop} : ∀ x ∈ ([] : List α), p x := fun _ h => absurd h (List.not_mem_nil)
theorem fm_cons {α : Type} {p : α → Prop} {a : α} {l : List α} (h : p a) (t : ∀ x ∈ l, p x) : ∀ x ∈ a :: l, p x := fun x hx => (List.mem_cons.mp hx).elim (fun e => e ▸ h) (t x)
/-- all is kept but errors -/
def Kp (H H' : Hp) : Prop := ∀ b o, H b = some o → (∀ x, o ≠ .ext x) → H' b = some o
theorem Kp.same {H H' : Hp} (s : Same H H') : Kp H H' := fun b o h _ => s b o h
theorem Kp.trans {H H1 H2 : Hp} (a : Kp H H1) (b : Kp H1 H2) : Kp H H2 := fun c o h n => b c o (a c o h n) n
theorem Kp.ext {H H1 : Hp} {e : Addr} {x : Heap → Prop} {o : HO} (a : Kp H H1) (h : H1 e = some (.ext x)) : Kp H (upd H1 e o) := fun b u q n => by
  have q1 := a b u q n
  have : b ≠ e := fun z => by
    rw [z, h] at q1
    exact n x (Option.some.inj q1).symm
  rw [upd_ne this]
  exact q1
theorem Kp.tk {H H' : Hp} (k : Kp H H') : TK H H' := fun b xs e => k b _ e fun _ z => nomatch z
def spRefd71 : Sp := fun vs H Q _ => ∃ (n : Int) (L : Addr) (zs : List V) (rs : List (Int × Str × Pa)), vs = [.int n, .ref L] ∧ n.natAbs.log2 < 1900 ∧ H L = some (.lst zs) ∧ RuL H zs rs ∧ rs.length ≤ 60 ∧ (∀ r ∈ rs, RB r) ∧ ¬ okC n rs ∧ ∀ H', Kp H H' → Q (.bl true) H'
set_option maxHeartbeats 1000000 in
theorem ok_l_refused (B : ∀ x ∈ blts, mg x = none) (xc : XC K mg X_GroveError X_NoGrove X_BadForm X_TooMany X_TooBig X_NoneFits X_NoBook X_TwiceNamed X_NoName X_Ring X_BadChanger X_NoRecipe X_NotStraight X_NoChange X_NoRow) (g_changer : HasX P w K mg base "changer" ["modes", "rules"] 23 (spChanger X_BadChanger)) (F : Fun K "_law_refused" "_law_refused" s_l_refused f fd) : FnOk P w K mg base CX0 24 f fd ["_law_modes", "_law_rules_here"] spRefd71 := by
  refine F.ok sc_l_refused (fun vs H Q E h => ?_) (fun cdv A outer s H vs Q E hr h => ?_)
  · obtain ⟨n, L, zs, rs, rfl, _⟩ := h
    rfl
  obtain ⟨n, L, zs, rs, rfl, hn, hL, hrs, hrl, hrb, nok, q⟩ := h
  refine ⟨_, (pss_cons (ps_set (i := 2) sc_l_refused.nd rfl (Or.inl rfl) pe_non)
    (pss_cons (ps_try rfl rfl (fun E pins E₁ hT hp => (pss_one (ps_expr (pe_hasX g_changer hT hr rfl (pa_cons (pv 0) (pa_cons (pv 1) pa_nil))))))
      (ph_skip (fun e => (pe_tup (pa_cons (pe_glob (v := .ref X_BadForm) rfl xc.n_BadForm rfl) (pa_cons (pe_glob (v := .ref X_NoBook) rfl xc.n_NoBook rfl) (pa_cons (pe_glob (v := .ref X_NoChange) rfl xc.n_NoChange rfl) (pa_cons (pe_glob (v := .ref X_NoGrove) rfl xc.n_NoGrove rfl) (pa_cons (pe_glob (v := .ref X_NoName) rfl xc.n_NoName rfl) (pa_cons (pe_glob (v := .ref X_NoneFits) rfl xc.n_NoneFits rfl) (pa_cons (pe_glob (v := .ref X_NoRecipe) rfl xc.n_NoRecipe rfl) (pa_cons (pe_glob (v := .ref X_NoRow) rfl xc.n_NoRow rfl) pa_nil))))))))))
      (ph_skip (fun e => (pe_tup (pa_cons (pe_glob (v := .ref X_NotStraight) rfl xc.n_NotStraight rfl) (pa_cons (pe_glob (v := .ref X_Ring) rfl xc.n_Ring rfl) (pa_cons (pe_glob (v := .ref X_TooBig) rfl xc.n_TooBig rfl) (pa_cons (pe_glob (v := .ref X_TooMany) rfl xc.n_TooMany rfl) (pa_cons (pe_glob (v := .ref X_TwiceNamed) rfl xc.n_TwiceNamed rfl) pa_nil)))))))
      (ph_as (i := 3) (rest := []) (fun e => (pe_glob (v := .ref X_BadChanger) rfl xc.n_BadChanger rfl)) sc_l_refused.nd rfl rfl (fun e => (pss_one (ps_set (i := 2) sc_l_refused.nd rfl (Or.inl rfl) (pe_and (pe_callB (call_xisRK (K := K) rfl) rfl (B "isinstance" (by decide)) bt_isinstance (pa_cons (pv 3) (pa_cons (pe_glob (v := .ref X_GroveError) rfl xc.n_GroveError rfl) pa_nil))) (pe_one (pe_callB (call_xisTK (K := K) rfl) rfl (B "isinstance" (by decide)) bt_isinstance (pa_cons (pv 3) (pa_cons (pe_ty rfl (B "ValueError" (by decide)) bt_ValueError) pa_nil))))))))))))
    (pss_one (ps_ret (pe_cmpR op_isB (pv 2) pe_bl (nomark _)))))), ?_⟩
  refine ⟨fun σ' C d H' => σ' = [some (.int n), some (.ref L), some .non, none] ∧ C = .ref X_BadChanger ∧ d = none ∧ Same H H', ?_, ?_⟩
  · exact ⟨_, rfl, _, rfl, n, L, zs, rs, rfl, hn, hL, hrs, hrl, hrb, fun ok => absurd ok nok, fun _ H' s4 => ⟨rfl, rfl, rfl, s4⟩⟩
  · rintro σ' C d H' e oe ⟨rfl, rfl, rfl, sm⟩ he hc hd hf
    have k0 : Kp H (upd H' e (Known e oe)) := (Kp.same sm).ext he
    have e3 : (upd H' e (Known e oe)) e = some (Known e oe) := upd_same
    generalize upd H' e (Known e oe) = H1 at k0 e3
    refine ⟨(by show 8 ≤ sizeLine; decide), fun t1 h1 => ?_⟩
    have s1 := Same.new (o := .tup [.ref X_BadForm, .ref X_NoBook, .ref X_NoChange, .ref X_NoGrove, .ref X_NoName, .ref X_NoneFits, .ref X_NoRecipe, .ref X_NoRow]) h1
    refine ⟨[X_BadForm, X_NoBook, X_NoChange, X_NoGrove, X_NoName, X_NoneFits, X_NoRecipe, X_NoRow], X_BadChanger, .many (SqT.of upd_same) ?_, hc, ?_, s1 _ _ e3, ?_⟩
    · exact fm_cons xc.c_BadForm (fm_cons xc.c_NoBook (fm_cons xc.c_NoChange (fm_cons xc.c_NoGrove (fm_cons xc.c_NoName (fm_cons xc.c_NoneFits (fm_cons xc.c_NoRecipe (fm_cons xc.c_NoRow fm_nil)))))))
    · exact fm_cons xc.m_BadChanger_BadForm (fm_cons xc.m_BadChanger_NoBook (fm_cons xc.m_BadChanger_NoChange (fm_cons xc.m_BadChanger_NoGrove (fm_cons xc.m_BadChanger_NoName (fm_cons xc.m_BadChanger_NoneFits (fm_cons xc.m_BadChanger_NoRecipe (fm_cons xc.m_BadChanger_NoRow fm_nil)))))))
    refine ⟨(by show 5 ≤ sizeLine; decide), fun t2 h2 => ?_⟩
    have s2 := s1.trans (Same.new (o := .tup [.ref X_NotStraight, .ref X_Ring, .ref X_TooBig, .ref X_TooMany, .ref X_TwiceNamed]) h2)
    refine ⟨[X_NotStraight, X_Ring, X_TooBig, X_TooMany, X_TwiceNamed], X_BadChanger, .many (SqT.of upd_same) ?_, hc, ?_, s2 _ _ e3, ?_⟩
    · exact fm_cons xc.c_NotStraight (fm_cons xc.c_Ring (fm_cons xc.c_TooBig (fm_cons xc.c_TooMany (fm_cons xc.c_TwiceNamed fm_nil))))
    · exact fm_cons xc.m_BadChanger_NotStraight (fm_cons xc.m_BadChanger_Ring (fm_cons xc.m_BadChanger_TooBig (fm_cons xc.m_BadChanger_TooMany (fm_cons xc.m_BadChanger_TwiceNamed fm_nil))))
    refine ⟨[X_BadChanger], X_BadChanger, fun _ => true, .one xc.c_BadChanger, hc, ?_, rfl, s2 _ _ e3, ?_⟩
    · intro D hD
      obtain rfl := List.mem_singleton.mp hD
      exact xc.m_BadChanger_BadChanger
    refine ⟨_, rfl, e, oe, X_BadChanger, X_GroveError, rfl, s2 _ _ e3, hc, xc.ne_BadChanger, xc.isG, xc.tyG, xc.m_BadChanger_GroveError, true, rfl, iteT ?_⟩
    refine ⟨_, rfl, e, oe, X_BadChanger, "ValueError", rfl, s2 _ _ e3, hc, rfl, xc.mV_BadChanger, ?_⟩
    exact ⟨_, rfl, true, true, rfl, rfl, q _ (k0.trans (Kp.same s2))⟩
set_option maxHeartbeats 2000000 in
theorem ok_law (B : ∀ x ∈ blts, mg x = none) (g_l_cell_at : Has P w K mg base "_law_cell_at" ["_law_script", "_law_k"] 1 (spCell K)) (g_l_rules : Has P w K mg base "_law_rules" ["_law_numbers_here", "_law_modes"] 3 spRules71) (g_l_numbers : Has P w K mg base "_law_numbers" ["_law_script", "_law_first", "_law_many"] 2 (spNums72 K)) (g_l_spoiled : Has P w K mg base "_law_spoiled" ["_law_modes", "_law_rules_here", "_law_cell"] 2 spSpoil71) (g_l_refused : Has P w K mg base "_law_refused" ["_law_modes", "_law_rules_here"] 24 spRefd71) (g_changer : HasX P w K mg base "changer" ["modes", "rules"] 23 (spChanger X_BadChanger)) (g_l_right : Has P w K mg base "_law_right" ["_law_found", "_law_modes", "_law_rules_here"] 14 spRight71) (F : Fun K "law" "law" s_law f fd) : FnOk P w K mg base CX0 25 f fd ["_law_script"] (spLaw K) := by
  refine F.ok sc_law (fun vs H Q E h => ?_) (fun cdv A outer s H vs Q E hr h => ?_)
  · obtain ⟨a, ns, rfl, _⟩ := h
    rfl
  obtain ⟨a, ns, rfl, hS, h63, q⟩ := h
  have hu : (A.deeper (PyProof.Rows.envOfC (Str.ofString "law") (defScope s_law) s.heap.objs.size f cdv)).units + 200 < cLine := by have := hr.un; (first | lia | omega)
  refine hideI ((defBody s_law).drop 9) (pss_one (ps_ret (pe_has g_l_right hr rfl (pa_cons (pv 7) (pa_cons (pv 2) (pa_cons (pv 3) pa_nil)))))) (fun u9 h9 e9 => ?_)
  refine hideI ((defBody s_law).drop 8) (pss_cons (ps_if (pt_not (pt_truth (pe_has g_l_right hr rfl (pa_cons (pe_hasX g_changer takes_no hr rfl (pa_cons (pv 2) (pa_cons (pe_lst pa_nil) pa_nil))) (pa_cons (pv 2) (pa_cons (pe_lst pa_nil) pa_nil)))) (fun _ => rfl)))
      (pss_one (ps_ret pe_bl))
      pss_nil) h9) (fun u8 h8 e8 => ?_)
  refine hideI ((defBody s_law).drop 7) (pss_cons (ps_expr (pe_bm0 PySem.F.plainAttrs_list PySem.F.slot_list_clear PySem.F.type_list_clear mt_clear (pv 6))) h8) (fun u7 h7 e7 => ?_)
  refine hideI ((defBody s_law).drop 6) (pss_cons (ps_if (pt_cmpR (op_neD hu) (pv 6) (pv 3) (nomark _))
      (pss_one (ps_ret pe_bl))
      pss_nil) h7) (fun u6 h6 e6 => ?_)
  refine hideI ((defBody s_law).drop 5) (pss_cons (ps_set (i := 7) sc_law.nd rfl (Or.inl rfl) (pe_hasX g_changer takes_no hr rfl (pa_cons (pv 2) (pa_cons (pv 6) pa_nil)))) h6) (fun u5 h5 e5 => ?_)
  refine hideI ((defBody s_law).drop 4) (pss_cons (ps_set (i := 6) sc_law.nd rfl (Or.inl rfl) (pe_callTy call_list_of rfl (B "list" (by decide)) bt_list (pa_cons (pv 3) pa_nil))) h5) (fun u4 h4 e4 => ?_)
  refine hideI ((sBody ((defBody s_law).getD 3 (.Pass ⟨0, 0, 0, 0⟩))).drop 1) (pss_one (ps_if (pt_not (pt_truth (pe_has g_l_refused hr rfl (pa_cons (pv 4) (pa_cons (pv 5) pa_nil))) (fun _ => rfl)))
      (pss_one (ps_ret pe_bl))
      pss_nil)) (fun u3t1 h3t1 e3t1 => ?_)
  refine hideI ((sBody ((defBody s_law).getD 3 (.Pass ⟨0, 0, 0, 0⟩))).drop 0) (pss_cons (ps_asg (pe_has g_l_spoiled hr rfl (pa_cons (pv 2) (pa_cons (pv 3) (pa_cons (pe_has g_l_cell_at hr rfl (pa_cons (pv 0) (pa_cons pe_int pa_nil))) pa_nil)))) (pg_tup rfl (pgs_cons (pg_name (i := 4) sc_law.nd rfl (Or.inl rfl)) (pgs_cons (pg_name (i := 5) sc_law.nd rfl (Or.inl rfl)) pgs_nil)))) h3t1) (fun u3t0 h3t0 e3t0 => ?_)
  refine hideI ((defBody s_law).drop 3) (pss_cons (ps_if (pt_cmpR op_eq (pe_op op_mod (pe_op op_fdiv (pv 1) pe_int) pe_int) pe_int (nomark _))
      h3t0
      pss_nil) h4) (fun u3 h3 e3 => ?_)
  refine hideI ((defBody s_law).drop 2) (pss_cons (ps_set (i := 3) sc_law.nd rfl (Or.inl rfl) (pe_has g_l_rules hr rfl (pa_cons (pe_has g_l_numbers hr rfl (pa_cons (pv 0) (pa_cons pe_int (pa_cons (pe_op op_mul pe_int (pe_op op_add pe_int (pe_op op_mod (pe_op op_fdiv (pv 1) pe_int) pe_int))) pa_nil)))) (pa_cons (pv 2) pa_nil)))) h3) (fun u2 h2 e2 => ?_)
  refine hideI ((defBody s_law).drop 1) (pss_cons (ps_set (i := 2) sc_law.nd rfl (Or.inl rfl) (pe_op op_add pe_int (pe_op op_mod (pv 1) pe_int))) h2) (fun u1 h1 e1 => ?_)
  refine hideI ((defBody s_law).drop 0) (pss_cons (ps_set (i := 1) sc_law.nd rfl (Or.inl rfl) (pe_has g_l_cell_at hr rfl (pa_cons (pv 0) (pa_cons pe_int pa_nil)))) h1) (fun u0 h0 e0 => ?_)
  refine ⟨u0, h0, ?_⟩
  refine by_eq e0 ?_
  refine ⟨_, rfl, a, ns, 0, rfl, hS, h63, by decide, fun v0 => ?_⟩
  show u1 _ _ _
  refine by_eq e1 ?_
  refine ⟨_, rfl, _, _, rfl, rfl, (by show (0 : Int) < 4; decide), _, _, rfl, rfl, ?_⟩
  have m0 := Int.emod_nonneg v0 (by decide : (4 : Int) ≠ 0)
  have m1 := Int.emod_lt_of_pos v0 (by decide : (0 : Int) < 4)
  show u2 _ [some (.ref a), some (.int v0), some (.int (1 + v0 % 4)), none, none, none, none, none] H
  generalize hmd : 1 + v0 % 4 = md
  have d1 : 1 ≤ md := by (first | lia | omega)
  have d4 : md ≤ 4 := by (first | lia | omega)
  clear m0 m1 hmd
  refine by_eq e2 ?_
  have k0 := Int.emod_nonneg (v0 / 4) (by decide : (8 : Int) ≠ 0)
  have k1 := Int.emod_lt_of_pos (v0 / 4) (by decide : (0 : Int) < 8)
  obtain ⟨k, hk, kk1, kk8⟩ : ∃ k : Nat, 6 * (1 + v0 / 4 % 8) = ((6 * k : Nat) : Int) ∧ 1 ≤ k ∧ k ≤ 8 := ⟨(1 + v0 / 4 % 8).toNat, by (first | lia | omega), by (first | lia | omega), by (first | lia | omega)⟩
  refine ⟨_, rfl, _, rfl, _, _, rfl, rfl, ⟨by decide, by decide⟩, _, _, rfl, rfl, (by show (0 : Int) < 8; decide), _, _, rfl, rfl, _, _, rfl, rfl, .inl ⟨by decide, by decide⟩, a, ns, 0, _, rfl, hS, h63, by (first | lia | omega), by (first | lia | omega), fun na xs H1 s1 hna0 hna hxl hx0 => ?_⟩
  refine ⟨_, rfl, na, xs, md, k, rfl, hna, by rw [hxl]; (first | lia | omega), kk1, kk8, fun x hx => (hx0 x hx).1, d1, d4, fun L zs rs H2 s2 hL0 hL hrs hg hne hrl => ?_⟩
  have s12 := s1.trans s2
  have hS2 := s12.seq hS
  show u3 _ [some (.ref a), some (.int v0), some (.int md), some (.ref L), none, none, none, none] H2
  have mlog : md.natAbs.log2 < 1900 := log_small (Nat.lt_of_lt_of_le (show md.natAbs < 8 by (first | lia | omega)) (Nat.pow_le_pow_right (n := 2) (by decide) (show 3 ≤ 1900 by decide)))
  have okc : okC md rs := ⟨d1, d4, fun r hr => (hg.ok r hr).1, hg.nd⟩
  have okc0 : okC md [] := ⟨d1, d4, fun r hr => (nomatch hr), List.nodup_nil⟩
  -- behind the refusal
  have tail : ∀ (H3 : Hp) (v4 v5 : Option V), Kp H2 H3 → u4 { nx := fun _ H' => Q .non H', rt := Q } [some (.ref a), some (.int v0), some (.int md), some (.ref L), v4, v5, none, none] H3 := fun H3 v4 v5 kp => by
    have hL3 : H3 L = some (.lst zs) := kp _ _ hL fun _ z => nomatch z
    have hrs3 := hrs.tk kp.tk
    refine by_eq e4 ?_
    refine ⟨_, rfl, L, zs, rfl, .inl (SqL.of hL3), fun hn hhn => ?_⟩
    have z1 := Same.new (o := .lst zs) hhn
    have hn1 : (upd H3 hn (.lst zs)) hn = some (.lst zs) := upd_same
    show u5 _ _ _
    generalize upd H3 hn (.lst zs) = H4 at z1 hn1 ⊢
    refine by_eq e5 ?_
    have nLh : L ≠ hn := fun z => by
      rw [z] at hL3
      rw [hL3] at hhn
      cases hhn
    refine ⟨_, rfl, _, rfl, md, hn, zs, rs, rfl, mlog, hn1, hrs3.tk z1.tk, by (first | lia | omega), fun r hr => RB_good d4 (hg.ok r hr), fun _ c T ws ms H5 z2 hc hT hws hso => ?_, fun nok => absurd okc nok⟩
    show u6 _ _ _
    refine by_eq e6 ?_
    have z12 := z1.trans z2
    refine ⟨_, rfl, _, rfl, eq_rulesL (md := md) hg.ok (SqL.of (z2 _ _ hn1)) (SqL.of (z12 _ _ hL3)) (hrs3.tk z12.tk) (hrs3.tk z12.tk) ⟨_, rfl, iteF ?_⟩⟩
    show u7 _ _ _
    refine by_eq e7 ?_
    have hn5 := z2 _ _ hn1
    refine ⟨_, rfl, .inl ⟨rfl, _, SqL.of hn5⟩, hn, zs, rfl, rfl, hn5, ?_⟩
    have tk5 : TK H5 (upd H5 hn (.lst [])) := TK.lst hn5
    have hL6 : (upd H5 hn (.lst [])) L = some (.lst zs) := by
      rw [upd_ne nLh]
      exact z12 _ _ hL3
    have hc6 := tk5 _ _ hc
    have hT6 := tk5 _ _ hT
    have hws6 := hws.tk tk5
    have hrs6 := (hrs3.tk z12.tk).tk tk5
    show u8 _ _ _
    generalize upd H5 hn (.lst []) = H6 at hL6 hc6 hT6 hws6 hrs6 ⊢
    refine by_eq e8 ?_
    refine ⟨_, rfl, by decide, fun e1 he1 => ?_⟩
    have z3 := Same.new (o := .lst []) he1
    refine ⟨md, e1, [], [], rfl, mlog, upd_same, .nil, by decide, fun r hr => (nomatch hr), fun _ c0 T0 ws0 ms0 H7 z4 hc0 hT0 hws0 hso0 => ?_, fun nok => absurd okc0 nok⟩
    refine ⟨_, rfl, by decide, fun e2 he2 => ?_⟩
    have z5 := Same.new (o := .lst []) he2
    refine ⟨c0, T0, e2, md, ws0, [], ms0, [], rfl, z5 _ _ hc0, z5 _ _ hT0, hws0.tk z5.tk, upd_same, .nil, ⟨fun r hr => (nomatch hr), List.nodup_nil⟩, by decide, hso0, fun H8 z6 => ⟨true, rfl, iteF ?_⟩⟩
    show u9 _ _ _
    refine by_eq e9 ?_
    have z36 := z3.trans (z4.trans (z5.trans z6))
    exact ⟨_, rfl, _, rfl, _, rfl, c, T, L, md, ws, zs, ms, rs, rfl, z36 _ _ hc6, z36 _ _ hT6, hws6.tk z36.tk, z36 _ _ hL6, hrs6.tk z36.tk, hg, hrl, hso, fun H9 _ => q _⟩
  refine by_eq e3 ?_
  refine ⟨_, rfl, _, _, rfl, rfl, ⟨by decide, by decide⟩, _, _, rfl, rfl, (by show (0 : Int) < 2; decide), rfl, _, rfl, ite2 (fun c => ?_) (fun c => tail _ _ _ (Kp.same (Same.refl _)))⟩
  show u3t0 _ _ _
  refine by_eq e3t0 ?_
  refine ⟨_, rfl, _, rfl, _, rfl, a, ns, 1, rfl, hS2, h63, by decide, fun v1 => ⟨md, v1, L, zs, rs, rfl, d1, d4, hL, hrs, hg, hne, hrl, fun r L' n zs' rs' H3 s3 hr3 hL3 hrs3 hn3 hrl3 hrb3 nok => ?_⟩⟩
  refine ⟨r, _, rfl, SqT.of hr3, rfl, _, _, rfl, _, _, rfl, rfl, ?_⟩
  show u3t1 _ _ _
  refine by_eq e3t1 ?_
  exact ⟨_, rfl, _, rfl, n, L', zs', rs', rfl, hn3, hL3, hrs3, hrl3, hrb3, nok, fun H4 kp => ⟨true, rfl, iteF (tail _ _ _ ((Kp.same s3).trans kp))⟩⟩
end
theorem all_mk {l : PySem.W.OpenLaw} {w : World} {K : PySem.W.Frag} {h : Heap} {mg : Str → Option Value} {fa f1 f2 f3 f4 f5 f6 f7 f8 f9 f10 f11 f12 f13 f14 f15 f16 : Addr} (X : K.In h) (G : h.Ns mainGlobals mg) (hfa : mg "law" = some (.ref fa))
    {od1 an1 od2 an2 od3 an3 od4 an4 od5 an5 od6 an6 od7 an7 od8 an8 od9 an9 od10 an10 od11 an11 od12 an12 od13 an13 od14 an14 od15 an15 od16 an16 : Option Addr} {sl1 sl2 sl3 sl4 sl5 sl6 sl7 sl8 sl9 sl10 sl11 sl12 sl13 sl14 sl15 sl16 : Array (Option Value)} {oc1 kV1 dc1 pm1 cd1 ct1 oc2 kV2 dc2 pm2 cd2 ct2 oc3 kV3 dc3 pm3 cd3 ct3 oc4 kV4 dc4 pm4 cd4 ct4 oc5 kV5 dc5 pm5 cd5 ct5 oc6 kV6 dc6 pm6 cd6 ct6 oc7 kV7 dc7 pm7 cd7 ct7 oc8 kV8 dc8 pm8 cd8 ct8 oc9 kV9 dc9 pm9 cd9 ct9 oc10 kV10 dc10 pm10 cd10 ct10 oc11 kV11 dc11 pm11 cd11 ct11 oc12 kV12 dc12 pm12 cd12 ct12 oc13 kV13 dc13 pm13 cd13 ct13 oc14 kV14 dc14 pm14 cd14 ct14 oc15 kV15 dc15 pm15 cd15 ct15 oc16 kV16 dc16 pm16 cd16 ct16 : Value}
    {X_GroveError X_NoGrove X_BadForm X_TooMany X_TooBig X_NoneFits X_NoBook X_TwiceNamed X_NoName X_Ring X_BadChanger X_NoRecipe X_NotStraight X_NoChange X_NoRow : Addr}
    (xn_GroveError : PySem.W.nsIn K mainGlobals "GroveError" = some (some (.ref X_GroveError)))
    (xn_NoGrove : PySem.W.nsIn K mainGlobals "NoGrove" = some (some (.ref X_NoGrove)))
    (xn_BadForm : PySem.W.nsIn K mainGlobals "BadForm" = some (some (.ref X_BadForm)))
    (xn_TooMany : PySem.W.nsIn K mainGlobals "TooMany" = some (some (.ref X_TooMany)))
    (xn_TooBig : PySem.W.nsIn K mainGlobals "TooBig" = some (some (.ref X_TooBig)))
    (xn_NoneFits : PySem.W.nsIn K mainGlobals "NoneFits" = some (some (.ref X_NoneFits)))
    (xn_NoBook : PySem.W.nsIn K mainGlobals "NoBook" = some (some (.ref X_NoBook)))
    (xn_TwiceNamed : PySem.W.nsIn K mainGlobals "TwiceNamed" = some (some (.ref X_TwiceNamed)))
    (xn_NoName : PySem.W.nsIn K mainGlobals "NoName" = some (some (.ref X_NoName)))
    (xn_Ring : PySem.W.nsIn K mainGlobals "Ring" = some (some (.ref X_Ring)))
    (xn_BadChanger : PySem.W.nsIn K mainGlobals "BadChanger" = some (some (.ref X_BadChanger)))
    (xn_NoRecipe : PySem.W.nsIn K mainGlobals "NoRecipe" = some (some (.ref X_NoRecipe)))
    (xn_NotStraight : PySem.W.nsIn K mainGlobals "NotStraight" = some (some (.ref X_NotStraight)))
    (xn_NoChange : PySem.W.nsIn K mainGlobals "NoChange" = some (some (.ref X_NoChange)))
    (xn_NoRow : PySem.W.nsIn K mainGlobals "NoRow" = some (some (.ref X_NoRow)))
    {g0 goc : Value} {gdd god : Option Addr} {gcd : ClassData} {gsl gsl' : Array (Option Value)} {ges : Array DictEntry} {gep : Nat} (xg1 : K.lookup X_GroveError = some ⟨g0, gdd, .cls gcd, gsl⟩) (xg2 : K.lookup gcd.ns = some ⟨goc, god, .dict ges gep, gsl'⟩) (xg3 : keysOk ges = true) (xg4 : PySem.W.nsIn K gcd.ns "__init__" = some none)
    (xb1 : PySem.W.specialIn K (.ref X_GroveError) "__getattribute__" = some (some (.builtin "type.__getattribute__"))) (xb2 : PySem.W.readsIn K X_GroveError (.type "type") = true) (xb3 : PySem.W.findCls K (.ref X_GroveError) (.type "type") "__init__" = some (.val (.builtin "ValueError.__init__"))) (xb4 : PySem.W.isClsIn K X_GroveError = true) (xb5 : PySem.W.typeIn K (.ref X_GroveError) = some (.type "type"))
    (d1_GroveError : PySem.W.isClsIn K X_GroveError = true) (d2_GroveError : PySem.W.mroIn K X_GroveError (.type "BaseException") = some true) (d3_GroveError : PySem.W.instIn K (.ref X_GroveError) (.type "tuple") = some false)
    (d1_NoGrove : PySem.W.isClsIn K X_NoGrove = true) (d2_NoGrove : PySem.W.mroIn K X_NoGrove (.type "BaseException") = some true) (d3_NoGrove : PySem.W.instIn K (.ref X_NoGrove) (.type "tuple") = some false)
    (d1_BadForm : PySem.W.isClsIn K X_BadForm = true) (d2_BadForm : PySem.W.mroIn K X_BadForm (.type "BaseException") = some true) (d3_BadForm : PySem.W.instIn K (.ref X_BadForm) (.type "tuple") = some false)
    (d1_TooMany : PySem.W.isClsIn K X_TooMany = true) (d2_TooMany : PySem.W.mroIn K X_TooMany (.type "BaseException") = some true) (d3_TooMany : PySem.W.instIn K (.ref X_TooMany) (.type "tuple") = some false)
    (d1_TooBig : PySem.W.isClsIn K X_TooBig = true) (d2_TooBig : PySem.W.mroIn K X_TooBig (.type "BaseException") = some true) (d3_TooBig : PySem.W.instIn K (.ref X_TooBig) (.type "tuple") = some false)
    (d1_NoneFits : PySem.W.isClsIn K X_NoneFits = true) (d2_NoneFits : PySem.W.mroIn K X_NoneFits (.type "BaseException") = some true) (d3_NoneFits : PySem.W.instIn K (.ref X_NoneFits) (.type "tuple") = some false)
    (d1_NoBook : PySem.W.isClsIn K X_NoBook = true) (d2_NoBook : PySem.W.mroIn K X_NoBook (.type "BaseException") = some true) (d3_NoBook : PySem.W.instIn K (.ref X_NoBook) (.type "tuple") = some false)
    (d1_TwiceNamed : PySem.W.isClsIn K X_TwiceNamed = true) (d2_TwiceNamed : PySem.W.mroIn K X_TwiceNamed (.type "BaseException") = some true) (d3_TwiceNamed : PySem.W.instIn K (.ref X_TwiceNamed) (.type "tuple") = some false)
    (d1_NoName : PySem.W.isClsIn K X_NoName = true) (d2_NoName : PySem.W.mroIn K X_NoName (.type "BaseException") = some true) (d3_NoName : PySem.W.instIn K (.ref X_NoName) (.type "tuple") = some false)
    (d1_Ring : PySem.W.isClsIn K X_Ring = true) (d2_Ring : PySem.W.mroIn K X_Ring (.type "BaseException") = some true) (d3_Ring : PySem.W.instIn K (.ref X_Ring) (.type "tuple") = some false)
    (d1_BadChanger : PySem.W.isClsIn K X_BadChanger = true) (d2_BadChanger : PySem.W.mroIn K X_BadChanger (.type "BaseException") = some true) (d3_BadChanger : PySem.W.instIn K (.ref X_BadChanger) (.type "tuple") = some false)
    (d1_NoRecipe : PySem.W.isClsIn K X_NoRecipe = true) (d2_NoRecipe : PySem.W.mroIn K X_NoRecipe (.type "BaseException") = some true) (d3_NoRecipe : PySem.W.instIn K (.ref X_NoRecipe) (.type "tuple") = some false)
    (d1_NotStraight : PySem.W.isClsIn K X_NotStraight = true) (d2_NotStraight : PySem.W.mroIn K X_NotStraight (.type "BaseException") = some true) (d3_NotStraight : PySem.W.instIn K (.ref X_NotStraight) (.type "tuple") = some false)
    (d1_NoChange : PySem.W.isClsIn K X_NoChange = true) (d2_NoChange : PySem.W.mroIn K X_NoChange (.type "BaseException") = some true) (d3_NoChange : PySem.W.instIn K (.ref X_NoChange) (.type "tuple") = some false)
    (d1_NoRow : PySem.W.isClsIn K X_NoRow = true) (d2_NoRow : PySem.W.mroIn K X_NoRow (.type "BaseException") = some true) (d3_NoRow : PySem.W.instIn K (.ref X_NoRow) (.type "tuple") = some false)
    {nm_BadChanger q_BadChanger : Str} {N_BadChanger : Addr} {bs_BadChanger : List Value} {hdct_BadChanger : Bool} {sn_BadChanger : List Str} {sub_BadChanger : List Value} {ab_BadChanger : Bool} {col_BadChanger : Option Bool} {dd_BadChanger : Option Addr} {k0_BadChanger k1_BadChanger k2_BadChanger k3_BadChanger k5_BadChanger : Option Value}
    (xl_BadChanger : K.lookup X_BadChanger = some (excClassObj nm_BadChanger q_BadChanger X_BadChanger N_BadChanger bs_BadChanger (.ref X_GroveError :: bmV) hdct_BadChanger sn_BadChanger sub_BadChanger ab_BadChanger col_BadChanger dd_BadChanger k0_BadChanger k1_BadChanger k2_BadChanger k3_BadChanger k5_BadChanger "ValueError.__new__"))
    (xc_BadChanger : PySem.W.specialIn K (.ref X_BadChanger) "__call__" = some (some (.builtin "type.__call__"))) (xt_BadChanger : PySem.W.instIn K (.ref X_BadChanger) (.type "type") = some true) (xk_BadChanger : PySem.W.keepIn K (.ref X_BadChanger) = true) (xv_BadChanger : PySem.W.mroIn K X_BadChanger (.type "ValueError") = some true)
    (xe_BadChanger : X_BadChanger ≠ X_GroveError)
    (xi_BadChanger : PySem.W.findIn K (.ref X_BadChanger) "__init__" = some (some (.builtin "ValueError.__init__")))
    (m_BadChanger_GroveError : PySem.W.mroIn K X_BadChanger (.ref X_GroveError) = some true)
    (m_BadChanger_NoGrove : PySem.W.mroIn K X_BadChanger (.ref X_NoGrove) = some false)
    (m_BadChanger_BadForm : PySem.W.mroIn K X_BadChanger (.ref X_BadForm) = some false)
    (m_BadChanger_TooMany : PySem.W.mroIn K X_BadChanger (.ref X_TooMany) = some false)
    (m_BadChanger_TooBig : PySem.W.mroIn K X_BadChanger (.ref X_TooBig) = some false)
    (m_BadChanger_NoneFits : PySem.W.mroIn K X_BadChanger (.ref X_NoneFits) = some false)
    (m_BadChanger_NoBook : PySem.W.mroIn K X_BadChanger (.ref X_NoBook) = some false)
    (m_BadChanger_TwiceNamed : PySem.W.mroIn K X_BadChanger (.ref X_TwiceNamed) = some false)
    (m_BadChanger_NoName : PySem.W.mroIn K X_BadChanger (.ref X_NoName) = some false)
    (m_BadChanger_Ring : PySem.W.mroIn K X_BadChanger (.ref X_Ring) = some false)
    (m_BadChanger_BadChanger : PySem.W.mroIn K X_BadChanger (.ref X_BadChanger) = some true)
    (m_BadChanger_NoRecipe : PySem.W.mroIn K X_BadChanger (.ref X_NoRecipe) = some false)
    (m_BadChanger_NotStraight : PySem.W.mroIn K X_BadChanger (.ref X_NotStraight) = some false)
    (m_BadChanger_NoChange : PySem.W.mroIn K X_BadChanger (.ref X_NoChange) = some false)
    (m_BadChanger_NoRow : PySem.W.mroIn K X_BadChanger (.ref X_NoRow) = some false)
    (a1 : PySem.W.nsIn K mainGlobals "_law_cell_at" = some (some (.ref f1))) (l1 : K.lookup f1 = some ⟨oc1, od1, .func (PySem.W.fnOf "_law_cell_at" "_law_cell_at" (defArgs s_l_cell_at) (defBody s_l_cell_at) (defScope s_l_cell_at) .none kV1 dc1 pm1 an1 cd1 ct1), sl1⟩) (c1 : PySem.W.codeIn K cd1 "_law_cell_at" = true) (k1 : PySem.W.keepIn K (.ref f1) = true)
    (a2 : PySem.W.nsIn K mainGlobals "_law_tag" = some (some (.ref f2))) (l2 : K.lookup f2 = some ⟨oc2, od2, .func (PySem.W.fnOf "_law_tag" "_law_tag" (defArgs s_l_tag) (defBody s_l_tag) (defScope s_l_tag) .none kV2 dc2 pm2 an2 cd2 ct2), sl2⟩) (c2 : PySem.W.codeIn K cd2 "_law_tag" = true) (k2 : PySem.W.keepIn K (.ref f2) = true)
    (a3 : PySem.W.nsIn K mainGlobals "_law_parts" = some (some (.ref f3))) (l3 : K.lookup f3 = some ⟨oc3, od3, .func (PySem.W.fnOf "_law_parts" "_law_parts" (defArgs s_l_parts) (defBody s_l_parts) (defScope s_l_parts) .none kV3 dc3 pm3 an3 cd3 ct3), sl3⟩) (c3 : PySem.W.codeIn K cd3 "_law_parts" = true) (k3 : PySem.W.keepIn K (.ref f3) = true)
    (a4 : PySem.W.nsIn K mainGlobals "_law_rules" = some (some (.ref f4))) (l4 : K.lookup f4 = some ⟨oc4, od4, .func (PySem.W.fnOf "_law_rules" "_law_rules" (defArgs s_l_rules) (defBody s_l_rules) (defScope s_l_rules) .none kV4 dc4 pm4 an4 cd4 ct4), sl4⟩) (c4 : PySem.W.codeIn K cd4 "_law_rules" = true) (k4 : PySem.W.keepIn K (.ref f4) = true)
    (a5 : PySem.W.nsIn K mainGlobals "_law_numbers" = some (some (.ref f5))) (l5 : K.lookup f5 = some ⟨oc5, od5, .func (PySem.W.fnOf "_law_numbers" "_law_numbers" (defArgs s_l_numbers) (defBody s_l_numbers) (defScope s_l_numbers) .none kV5 dc5 pm5 an5 cd5 ct5), sl5⟩) (c5 : PySem.W.codeIn K cd5 "_law_numbers" = true) (k5 : PySem.W.keepIn K (.ref f5) = true)
    (a6 : PySem.W.nsIn K mainGlobals "_law_bad_part" = some (some (.ref f6))) (l6 : K.lookup f6 = some ⟨oc6, od6, .func (PySem.W.fnOf "_law_bad_part" "_law_bad_part" (defArgs s_l_bad_part) (defBody s_l_bad_part) (defScope s_l_bad_part) .none kV6 dc6 pm6 an6 cd6 ct6), sl6⟩) (c6 : PySem.W.codeIn K cd6 "_law_bad_part" = true) (k6 : PySem.W.keepIn K (.ref f6) = true)
    (a7 : PySem.W.nsIn K mainGlobals "_law_spoiled" = some (some (.ref f7))) (l7 : K.lookup f7 = some ⟨oc7, od7, .func (PySem.W.fnOf "_law_spoiled" "_law_spoiled" (defArgs s_l_spoiled) (defBody s_l_spoiled) (defScope s_l_spoiled) .none kV7 dc7 pm7 an7 cd7 ct7), sl7⟩) (c7 : PySem.W.codeIn K cd7 "_law_spoiled" = true) (k7 : PySem.W.keepIn K (.ref f7) = true)
    (a8 : PySem.W.nsIn K mainGlobals "is_tag" = some (some (.ref f8))) (l8 : K.lookup f8 = some ⟨oc8, od8, .func (PySem.W.fnOf "is_tag" "is_tag" (defArgs s_is_tag) (defBody s_is_tag) (defScope s_is_tag) .none kV8 dc8 pm8 an8 cd8 ct8), sl8⟩) (c8 : PySem.W.codeIn K cd8 "is_tag" = true) (k8 : PySem.W.keepIn K (.ref f8) = true)
    (a9 : PySem.W.nsIn K mainGlobals "refuse_bad_part" = some (some (.ref f9))) (l9 : K.lookup f9 = some ⟨oc9, od9, .func (PySem.W.fnOf "refuse_bad_part" "refuse_bad_part" (defArgs s_refuse_bad_part) (defBody s_refuse_bad_part) (defScope s_refuse_bad_part) .none kV9 dc9 pm9 an9 cd9 ct9), sl9⟩) (c9 : PySem.W.codeIn K cd9 "refuse_bad_part" = true) (k9 : PySem.W.keepIn K (.ref f9) = true)
    (a10 : PySem.W.nsIn K mainGlobals "all_parts" = some (some (.ref f10))) (l10 : K.lookup f10 = some ⟨oc10, od10, .func (PySem.W.fnOf "all_parts" "all_parts" (defArgs s_all_parts) (defBody s_all_parts) (defScope s_all_parts) .none kV10 dc10 pm10 an10 cd10 ct10), sl10⟩) (c10 : PySem.W.codeIn K cd10 "all_parts" = true) (k10 : PySem.W.keepIn K (.ref f10) = true)
    (a11 : PySem.W.nsIn K mainGlobals "changer" = some (some (.ref f11))) (l11 : K.lookup f11 = some ⟨oc11, od11, .func (PySem.W.fnOf "changer" "changer" (defArgs s_changer) (defBody s_changer) (defScope s_changer) .none kV11 dc11 pm11 an11 cd11 ct11), sl11⟩) (c11 : PySem.W.codeIn K cd11 "changer" = true) (k11 : PySem.W.keepIn K (.ref f11) = true)
    (a12 : PySem.W.nsIn K mainGlobals "_law_refused" = some (some (.ref f12))) (l12 : K.lookup f12 = some ⟨oc12, od12, .func (PySem.W.fnOf "_law_refused" "_law_refused" (defArgs s_l_refused) (defBody s_l_refused) (defScope s_l_refused) .none kV12 dc12 pm12 an12 cd12 ct12), sl12⟩) (c12 : PySem.W.codeIn K cd12 "_law_refused" = true) (k12 : PySem.W.keepIn K (.ref f12) = true)
    (a13 : PySem.W.nsIn K mainGlobals "_law_whole" = some (some (.ref f13))) (l13 : K.lookup f13 = some ⟨oc13, od13, .func (PySem.W.fnOf "_law_whole" "_law_whole" (defArgs s_l_whole) (defBody s_l_whole) (defScope s_l_whole) .none kV13 dc13 pm13 an13 cd13 ct13), sl13⟩) (c13 : PySem.W.codeIn K cd13 "_law_whole" = true) (k13 : PySem.W.keepIn K (.ref f13) = true)
    (a14 : PySem.W.nsIn K mainGlobals "_law_right_parts" = some (some (.ref f14))) (l14 : K.lookup f14 = some ⟨oc14, od14, .func (PySem.W.fnOf "_law_right_parts" "_law_right_parts" (defArgs s_l_right_parts) (defBody s_l_right_parts) (defScope s_l_right_parts) .none kV14 dc14 pm14 an14 cd14 ct14), sl14⟩) (c14 : PySem.W.codeIn K cd14 "_law_right_parts" = true) (k14 : PySem.W.keepIn K (.ref f14) = true)
    (a15 : PySem.W.nsIn K mainGlobals "_law_right" = some (some (.ref f15))) (l15 : K.lookup f15 = some ⟨oc15, od15, .func (PySem.W.fnOf "_law_right" "_law_right" (defArgs s_l_right) (defBody s_l_right) (defScope s_l_right) .none kV15 dc15 pm15 an15 cd15 ct15), sl15⟩) (c15 : PySem.W.codeIn K cd15 "_law_right" = true) (k15 : PySem.W.keepIn K (.ref f15) = true)
    (a16 : PySem.W.nsIn K mainGlobals "law" = some (some (.ref f16))) (l16 : K.lookup f16 = some ⟨oc16, od16, .func (PySem.W.fnOf "law" "law" (defArgs s_law) (defBody s_law) (defScope s_law) .none kV16 dc16 pm16 an16 cd16 ct16), sl16⟩) (c16 : PySem.W.codeIn K cd16 "law" = true) (k16 : PySem.W.keepIn K (.ref f16) = true)
    {tk0 tk1 : Tok} (y0 : PySem.W.nsIn K mainGlobals "LONGEST_TAG" = some (some (.int 8 tk0))) (y1 : PySem.W.nsIn K mainGlobals "MOST_MODES" = some (some (.int 4 tk1)))
    (z0 : PySem.W.nsIn K mainGlobals "ValueError" = some none) (z1 : PySem.W.nsIn K mainGlobals "all" = some none) (z2 : PySem.W.nsIn K mainGlobals "bool" = some none) (z3 : PySem.W.nsIn K mainGlobals "int" = some none) (z4 : PySem.W.nsIn K mainGlobals "isinstance" = some none) (z5 : PySem.W.nsIn K mainGlobals "len" = some none) (z6 : PySem.W.nsIn K mainGlobals "list" = some none) (z7 : PySem.W.nsIn K mainGlobals "max" = some none) (z8 : PySem.W.nsIn K mainGlobals "min" = some none) (z9 : PySem.W.nsIn K mainGlobals "range" = some none) (z10 : PySem.W.nsIn K mainGlobals "reversed" = some none) (z11 : PySem.W.nsIn K mainGlobals "sorted" = some none) (z12 : PySem.W.nsIn K mainGlobals "str" = some none) (z13 : PySem.W.nsIn K mainGlobals "tuple" = some none) :
    ∃ fd : FuncData, (∀ (s : Shared) (v : Value), BindsTo s fd ⟨[v], []⟩ [("_law_script", v)]) ∧ ∀ base : Heap, K.In base → base.Ns mainGlobals mg → FnOk l.prog w K mg base CX0 25 fa fd ["_law_script"] (Fg.spLaw K) := by
  have e := hfa.symm.trans (PySem.W.mg_of X G a16)
  cases e
  have B : ∀ x ∈ blts, mg x = none := List.forall_mem_cons.mpr ⟨PySem.W.mg_none_of X G z0, List.forall_mem_cons.mpr ⟨PySem.W.mg_none_of X G z1, List.forall_mem_cons.mpr ⟨PySem.W.mg_none_of X G z2, List.forall_mem_cons.mpr ⟨PySem.W.mg_none_of X G z3, List.forall_mem_cons.mpr ⟨PySem.W.mg_none_of X G z4, List.forall_mem_cons.mpr ⟨PySem.W.mg_none_of X G z5, List.forall_mem_cons.mpr ⟨PySem.W.mg_none_of X G z6, List.forall_mem_cons.mpr ⟨PySem.W.mg_none_of X G z7, List.forall_mem_cons.mpr ⟨PySem.W.mg_none_of X G z8, List.forall_mem_cons.mpr ⟨PySem.W.mg_none_of X G z9, List.forall_mem_cons.mpr ⟨PySem.W.mg_none_of X G z10, List.forall_mem_cons.mpr ⟨PySem.W.mg_none_of X G z11, List.forall_mem_cons.mpr ⟨PySem.W.mg_none_of X G z12, List.forall_mem_cons.mpr ⟨PySem.W.mg_none_of X G z13, List.forall_mem_nil _⟩⟩⟩⟩⟩⟩⟩⟩⟩⟩⟩⟩⟩⟩
  have Cc_LONGEST_TAG : ∃ t : Tok, mg "LONGEST_TAG" = some (.int 8 t) := ⟨_, PySem.W.mg_of X G y0⟩
  have Cc_MOST_MODES : ∃ t : Tok, mg "MOST_MODES" = some (.int 4 t) := ⟨_, PySem.W.mg_of X G y1⟩
  have F1 := fun_mk (st := s_l_cell_at) l1 c1 k1
  have b1 := F1.binds (ps := ["_law_script", "_law_k"]) fun _ _ _ _ _ _ us hl => by obtain ⟨_, _, rfl⟩ := len2 hl; rfl
  have F2 := fun_mk (st := s_l_tag) l2 c2 k2
  have b2 := F2.binds (ps := ["_law_number"]) fun _ _ _ _ _ _ us hl => by obtain ⟨_, rfl⟩ := len1 hl; rfl
  have F3 := fun_mk (st := s_l_parts) l3 c3 k3
  have b3 := F3.binds (ps := ["_law_numbers_here", "_law_modes"]) fun _ _ _ _ _ _ us hl => by obtain ⟨_, _, rfl⟩ := len2 hl; rfl
  have F4 := fun_mk (st := s_l_rules) l4 c4 k4
  have b4 := F4.binds (ps := ["_law_numbers_here", "_law_modes"]) fun _ _ _ _ _ _ us hl => by obtain ⟨_, _, rfl⟩ := len2 hl; rfl
  have F5 := fun_mk (st := s_l_numbers) l5 c5 k5
  have b5 := F5.binds (ps := ["_law_script", "_law_first", "_law_many"]) fun _ _ _ _ _ _ us hl => by obtain ⟨_, _, _, rfl⟩ := len3 hl; rfl
  have F6 := fun_mk (st := s_l_bad_part) l6 c6 k6
  have b6 := F6.binds (ps := ["_law_modes", "_law_cell"]) fun _ _ _ _ _ _ us hl => by obtain ⟨_, _, rfl⟩ := len2 hl; rfl
  have F7 := fun_mk (st := s_l_spoiled) l7 c7 k7
  have b7 := F7.binds (ps := ["_law_modes", "_law_rules_here", "_law_cell"]) fun _ _ _ _ _ _ us hl => by obtain ⟨_, _, _, rfl⟩ := len3 hl; rfl
  have F8 := fun_mk (st := s_is_tag) l8 c8 k8
  have b8 := F8.binds (ps := ["text"]) fun _ _ _ _ _ _ us hl => by obtain ⟨_, rfl⟩ := len1 hl; rfl
  have F9 := fun_mk (st := s_refuse_bad_part) l9 c9 k9
  have b9 := F9.binds (ps := ["modes", "part"]) fun _ _ _ _ _ _ us hl => by obtain ⟨_, _, rfl⟩ := len2 hl; rfl
  have F10 := fun_mk (st := s_all_parts) l10 c10 k10
  have b10 := F10.binds (ps := ["parts"]) fun _ _ _ _ _ _ us hl => by obtain ⟨_, rfl⟩ := len1 hl; rfl
  have F11 := fun_mk (st := s_changer) l11 c11 k11
  have b11 := F11.binds (ps := ["modes", "rules"]) fun _ _ _ _ _ _ us hl => by obtain ⟨_, _, rfl⟩ := len2 hl; rfl
  have F12 := fun_mk (st := s_l_refused) l12 c12 k12
  have b12 := F12.binds (ps := ["_law_modes", "_law_rules_here"]) fun _ _ _ _ _ _ us hl => by obtain ⟨_, _, rfl⟩ := len2 hl; rfl
  have F13 := fun_mk (st := s_l_whole) l13 c13 k13
  have b13 := F13.binds (ps := ["_law_found"]) fun _ _ _ _ _ _ us hl => by obtain ⟨_, rfl⟩ := len1 hl; rfl
  have F14 := fun_mk (st := s_l_right_parts) l14 c14 k14
  have b14 := F14.binds (ps := ["_law_found"]) fun _ _ _ _ _ _ us hl => by obtain ⟨_, rfl⟩ := len1 hl; rfl
  have F15 := fun_mk (st := s_l_right) l15 c15 k15
  have b15 := F15.binds (ps := ["_law_found", "_law_modes", "_law_rules_here"]) fun _ _ _ _ _ _ us hl => by obtain ⟨_, _, _, rfl⟩ := len3 hl; rfl
  have F16 := fun_mk (st := s_law) l16 c16 k16
  refine ⟨PySem.W.fnOf "law" "law" (defArgs s_law) (defBody s_law) (defScope s_law) .none kV16 dc16 pm16 an16 cd16 ct16, fun s v => .of_eq rfl, fun base _ _ => ?_⟩
  have xc : XC K mg X_GroveError X_NoGrove X_BadForm X_TooMany X_TooBig X_NoneFits X_NoBook X_TwiceNamed X_NoName X_Ring X_BadChanger X_NoRecipe X_NotStraight X_NoChange X_NoRow := ⟨PySem.W.mg_of X G xn_GroveError, PySem.W.mg_of X G xn_NoGrove, PySem.W.mg_of X G xn_BadForm, PySem.W.mg_of X G xn_TooMany, PySem.W.mg_of X G xn_TooBig, PySem.W.mg_of X G xn_NoneFits, PySem.W.mg_of X G xn_NoBook, PySem.W.mg_of X G xn_TwiceNamed, PySem.W.mg_of X G xn_NoName, PySem.W.mg_of X G xn_Ring, PySem.W.mg_of X G xn_BadChanger, PySem.W.mg_of X G xn_NoRecipe, PySem.W.mg_of X G xn_NotStraight, PySem.W.mg_of X G xn_NoChange, PySem.W.mg_of X G xn_NoRow, ⟨xb1, xb2, xb3⟩, xb4, xb5, ⟨d1_GroveError, d2_GroveError, d3_GroveError⟩, ⟨d1_NoGrove, d2_NoGrove, d3_NoGrove⟩, ⟨d1_BadForm, d2_BadForm, d3_BadForm⟩, ⟨d1_TooMany, d2_TooMany, d3_TooMany⟩, ⟨d1_TooBig, d2_TooBig, d3_TooBig⟩, ⟨d1_NoneFits, d2_NoneFits, d3_NoneFits⟩, ⟨d1_NoBook, d2_NoBook, d3_NoBook⟩, ⟨d1_TwiceNamed, d2_TwiceNamed, d3_TwiceNamed⟩, ⟨d1_NoName, d2_NoName, d3_NoName⟩, ⟨d1_Ring, d2_Ring, d3_Ring⟩, ⟨d1_BadChanger, d2_BadChanger, d3_BadChanger⟩, ⟨d1_NoRecipe, d2_NoRecipe, d3_NoRecipe⟩, ⟨d1_NotStraight, d2_NotStraight, d3_NotStraight⟩, ⟨d1_NoChange, d2_NoChange, d3_NoChange⟩, ⟨d1_NoRow, d2_NoRow, d3_NoRow⟩, ⟨⟨_, _, _, _, _, _, _, _, _, _, _, _, _, _, _, xl_BadChanger⟩, ⟨⟨_, _, _, _, _, _, _, _, _, xg1, xg2, xg3, xg4⟩⟩, xc_BadChanger, xt_BadChanger, xk_BadChanger⟩, xi_BadChanger, xv_BadChanger, xe_BadChanger, m_BadChanger_GroveError, m_BadChanger_NoGrove, m_BadChanger_BadForm, m_BadChanger_TooMany, m_BadChanger_TooBig, m_BadChanger_NoneFits, m_BadChanger_NoBook, m_BadChanger_TwiceNamed, m_BadChanger_NoName, m_BadChanger_Ring, m_BadChanger_BadChanger, m_BadChanger_NoRecipe, m_BadChanger_NotStraight, m_BadChanger_NoChange, m_BadChanger_NoRow⟩
  have g_l_cell_at : Has l.prog w K mg base "_law_cell_at" ["_law_script", "_law_k"] 1 (Fg.spCell K) := ⟨⟨f1, _, ok_l_cell_at B  F1, b1, k1, PySem.W.mg_of X G a1⟩⟩
  have g_l_tag : Has l.prog w K mg base "_law_tag" ["_law_number"] 1 (K71.spTag71) := ⟨⟨f2, _, ok_l_tag B  F2, b2, k2, PySem.W.mg_of X G a2⟩⟩
  have g_l_parts : Has l.prog w K mg base "_law_parts" ["_law_numbers_here", "_law_modes"] 2 (K71.spParts71) := ⟨⟨f3, _, ok_l_parts B g_l_tag F3, b3, k3, PySem.W.mg_of X G a3⟩⟩
  have g_l_rules : Has l.prog w K mg base "_law_rules" ["_law_numbers_here", "_law_modes"] 3 (K71.spRules71) := ⟨⟨f4, _, ok_l_rules B g_l_tag g_l_parts F4, b4, k4, PySem.W.mg_of X G a4⟩⟩
  have g_l_numbers : Has l.prog w K mg base "_law_numbers" ["_law_script", "_law_first", "_law_many"] 2 (K71.spNums72 K) := ⟨⟨f5, _, ok_l_numbers B g_l_cell_at F5, b5, k5, PySem.W.mg_of X G a5⟩⟩
  have g_l_bad_part : Has l.prog w K mg base "_law_bad_part" ["_law_modes", "_law_cell"] 1 (K71.spBad71) := ⟨⟨f6, _, ok_l_bad_part B  F6, b6, k6, PySem.W.mg_of X G a6⟩⟩
  have g_l_spoiled : Has l.prog w K mg base "_law_spoiled" ["_law_modes", "_law_rules_here", "_law_cell"] 2 (K71.spSpoil71) := ⟨⟨f7, _, ok_l_spoiled B g_l_bad_part F7, b7, k7, PySem.W.mg_of X G a7⟩⟩
  have g_is_tag : Has l.prog w K mg base "is_tag" ["text"] 1 (Fg.spIsTag) := ⟨⟨f8, _, ok_is_tag B Cc_LONGEST_TAG  F8, b8, k8, PySem.W.mg_of X G a8⟩⟩
  have g_refuse_bad_part : HasX l.prog w K mg base "refuse_bad_part" ["modes", "part"] 2 (K71.spBadP X_BadChanger) := ⟨⟨f9, _, ok_refuse_bad_part B xc g_is_tag F9, b9, k9, PySem.W.mg_of X G a9⟩⟩
  have r_all_parts : ∀ d : Nat, Has l.prog w K mg base "all_parts" ["parts"] d (K71.spAllP d) := by
    intro d
    induction d with
    | zero => exact ⟨⟨f10, _, FnOk.none (fun vs H Q E z => by obtain ⟨_, _, _, _, _, _, hd, _⟩ := z; exact absurd hd (Nat.not_lt_zero _)), b10, k10, PySem.W.mg_of X G a10⟩⟩
    | succ d ih => exact ⟨⟨f10, _, ok_all_parts d B ih F10, b10, k10, PySem.W.mg_of X G a10⟩⟩
  have g_all_parts := r_all_parts 22
  have g_changer : HasX l.prog w K mg base "changer" ["modes", "rules"] 23 (K71.spChanger X_BadChanger) := ⟨⟨f11, _, ok_changer B Cc_MOST_MODES xc g_refuse_bad_part g_all_parts F11, b11, k11, PySem.W.mg_of X G a11⟩⟩
  have g_l_refused : Has l.prog w K mg base "_law_refused" ["_law_modes", "_law_rules_here"] 24 (K71.spRefd71) := ⟨⟨f12, _, ok_l_refused B xc g_changer F12, b12, k12, PySem.W.mg_of X G a12⟩⟩
  have g_l_whole : Has l.prog w K mg base "_law_whole" ["_law_found"] 1 (Fg.spWhole) := ⟨⟨f13, _, ok_l_whole B  F13, b13, k13, PySem.W.mg_of X G a13⟩⟩
  have r_lrp : ∀ d : Nat, Has l.prog w K mg base "_law_right_parts" ["_law_found"] (d + 1) (K71.spRP d) := by
    intro d
    induction d with
    | zero => exact ⟨⟨f14, _, FnOk.none (fun vs H Q E z => by obtain ⟨_, _, _, _, _, _, hd, _⟩ := z; exact absurd hd (Nat.not_lt_zero _)), b14, k14, PySem.W.mg_of X G a14⟩⟩
    | succ d ih => exact ⟨⟨f14, _, ok_l_right_parts d B g_l_whole ih F14, b14, k14, PySem.W.mg_of X G a14⟩⟩
  have g_l_right_parts := r_lrp 12
  have g_l_right : Has l.prog w K mg base "_law_right" ["_law_found", "_law_modes", "_law_rules_here"] 14 (K71.spRight71) := ⟨⟨f15, _, ok_l_right B g_l_whole g_l_right_parts F15, b15, k15, PySem.W.mg_of X G a15⟩⟩
  exact ok_law B g_l_cell_at g_l_rules g_l_numbers g_l_spoiled g_l_refused g_changer g_l_right F16
theorem walk {l : PySem.W.OpenLaw} {q : Program} {loose : List Str} {XP : (Str → Option Value) → Heap → Prop} {YP : World → Heap → Prop} {d : DefRec} {K : Params → PySem.W.Frag} (hn : l.most = some 63) (hdf : d.params.defaults = [])
    (hY : ∀ (w : World) (h : Heap), YP w h → (K w.params).In h)
    (F : ∀ (w : World) (mg : Str → Option Value) (fa : Addr) (h : Heap), (K w.params).In h → h.Ns mainGlobals mg → mg d.name = some (.ref fa) →
      ∃ fd : FuncData, (∀ (s : Shared) (u : Value), BindsTo s fd ⟨[u], []⟩ [("_law_script", u)]) ∧ ∀ base : Heap, (K w.params).In base → base.Ns mainGlobals mg → FnOk l.prog w (K w.params) mg base CX0 25 fa fd ["_law_script"] (Fg.spLaw (K w.params))) :
    PySem.W.WalkO q loose XP YP l.row.toRowW d [] (fun f vs => PySem.call f vs) :=
  L2.walk_of (n := 63) (k := 25) (x := "_law_script") (CX := fun _ => CX0) (sp := fun w => Fg.spLaw (K w.params)) hn (by decide) hdf ⟨rfl, by decide, by decide⟩ hY F (fun _ _ a ns hl _ hS => ⟨a, ns, rfl, hS, hl, fun _ => rfl⟩) fun _ _ _ _ _ z => z
end K71
def PySem.W.Fast.tw1204740940936796574 := 0
def PySem.W.Fast.tw16865111750363278079 := 0
def PySem.W.Fast.tw6367907665108543927 := 0
def PySem.W.Fast.tw11862680637607559457 := 0
def PySem.W.Fast.tw10298093349500016684 := 0
def PySem.W.Fast.tw10940615848725739515 := 0
def PySem.W.Fast.tw477360238028727640 := 0
def PySem.W.Fast.tw4381115342203046143 := 0
def PySem.W.Fast.tw10873455320434613283 := 0
def PySem.W.Fast.tw9980951785943329465 := 0
def PySem.W.Fast.tw17693069031477765191 := 0
def PySem.W.Fast.tw7736862192643999034 := 0
def PySem.W.Fast.tw1020474414184248531 := 0
def PySem.W.Fast.tw7218189457628206116 := 0
def PySem.W.Fast.tw4364348914850776423 := 0
def PySem.W.Fast.tw2731984525777916248 := 0
def PySem.W.Fast.tw16800746103275521186 := 0
def PySem.W.Fast.tw13600588228607491199 := 0
def PySem.W.Fast.tw13486142044344122450 := 0
def PySem.W.Fast.tw712026269838389332 := 0
def PySem.W.Fast.tw1082567889642551103 := 0
def PySem.W.Fast.tw17381054533668827613 := 0
def PySem.W.Fast.tw5028414388087159909 := 0
def PySem.W.Fast.tw15888462483835549220 := 0
def PySem.W.Fast.tw13432092486735927030 := 0
def PySem.W.Fast.tw14142536099302337210 := 0
def PySem.W.Fast.tw15529169151611929651 := 0
def PySem.W.Fast.tw4757815668634614097 := 0
def PySem.W.Fast.tw17580262127073461729 := 0
def PySem.W.Fast.tw17305164926073785547 := 0
def PySem.W.Fast.tw7763743268741142634 := 0
def PySem.W.Fast.tw13495587776448927944 := 0
def PySem.W.Fast.tw846841426076283453 := 0
def PySem.W.Fast.tw2388488445357598658 := 0
def PySem.W.Fast.tw14067779645632081828 := 0
def PySem.W.Fast.tw14704943736785875470 := 0
def PySem.W.Fast.tw4659922446287169881 := 0
def PySem.W.Fast.tw1499757928213426047 := 0
def PySem.W.Fast.tw6440136998399023780 := 0
def PySem.W.Fast.tw8877857503678535739 := 0
def PySem.W.Fast.tw2833807704958467446 := 0
def PySem.W.Fast.tw10725226546656752692 := 0
def PySem.W.Fast.tw13638756667859702873 := 0
def PySem.W.Fast.tw18337116328752959463 := 0
def PySem.W.Fast.tw13086855689830547214 := 0
def PySem.W.Fast.tw9866065166266741907 := 0
def PySem.W.Fast.tw17475314920358035842 := 0
def PySem.W.Fast.tw17755831393731854634 := 0
def PySem.W.Fast.tw10519762715048686692 := 0
def PySem.W.Fast.tw17105041363146006139 := 0
def PySem.W.Fast.tw12752789480549979451 := 0
def PySem.W.Fast.tw8710286295169141513 := 0
def PySem.W.Fast.tw2685622660860670131 := 0
def PySem.W.Fast.tw15873308220156958610 := 0
def PySem.W.Fast.tw10369226866672664036 := 0
def PySem.W.Fast.tw7170105911183127270 := 0
def PySem.W.Fast.tw15318902235701091362 := 0
def PySem.W.Fast.tw11226629474964713395 := 0
def PySem.W.Fast.tw2747045363146917039 := 0
def PySem.W.Fast.tw16443671084656890014 := 0
def PySem.W.Fast.tw6668734271103098769 := 0
def PySem.W.Fast.tw15592096736321739547 := 0
def PySem.W.Fast.tw15138293187143365772 := 0
def PySem.W.Fast.tw11023323511291883885 := 0
def PySem.W.Fast.tw16558210620454482276 := 0
def PySem.W.Fast.tw10301758080232900047 := 0
def PySem.W.Fast.tw134634638348693099 := 0
def PySem.W.Fast.tw3192235658058680458 := 0
def PySem.W.Fast.tw17962002029761819960 := 0
def PySem.W.Fast.tw4551159285408416523 := 0
def PySem.W.Fast.tw5540462285183237449 := 0
def PySem.W.Fast.tw5038260936120411004 := 0
def PySem.W.Fast.tw783702974061711187 := 0
def PySem.W.Fast.tw6248248604283333443 := 0
def PySem.W.Fast.tw10391284934571085167 := 0
def PySem.W.Fast.tw774773737216144664 := 0
def PySem.W.Fast.tw6177655123162559921 := 0
def PySem.W.Fast.tw1001321452830234471 := 0
def PySem.W.Fast.tw8603733474564054962 := 0
def PySem.W.Fast.tw3983166773343047483 := 0
def PySem.W.Fast.tw8538120096442228234 := 0
def PySem.W.Fast.tw3541521245572951618 := 0
def PySem.W.Fast.tw1214613623851408116 := 0
def PySem.W.Fast.tw14909194767242535010 := 0
def PySem.W.Fast.tw4699443407059040535 := 0
def PySem.W.Fast.tw17873235379646983332 := 0
def PySem.W.Fast.tw12518398093461116882 := 0
def PySem.W.Fast.tw9092973051915823325 := 0
def PySem.W.Fast.tw6302992278299237225 := 0
def PySem.W.Fast.tw1401204584138149194 := 0
def PySem.W.Fast.tw5742870648313984328 := 0
def PySem.W.Fast.tw711884248760815951 := 0
def PySem.W.Fast.tw8774730044579873745 := 0
def PySem.W.Fast.tw2307976757287949202 := 0
def PySem.W.Fast.tw2073938895825752559 := 0
def PySem.W.Fast.tw14286149195460828106 := 0
def PySem.W.Fast.tw14829876877892197609 := 0
def PySem.W.Fast.tw6035733515199440877 := 0
def PySem.W.Fast.tw12496511010316464605 := 0
def PySem.W.Fast.tw6654606448458282994 := 0
def PySem.W.Fast.tw6685834072515549328 := 0
def PySem.W.Fast.tw14416655779133410471 := 0
def PySem.W.Fast.tw6092885371318200176 := 0
def PySem.W.Fast.tw14181789735512605592 := 0
def PySem.W.Fast.tw17754397579316075887 := 0
def PySem.W.Fast.tw16902185888901733959 := 0
def PySem.W.Fast.tw3523535234863261719 := 0
def PySem.W.Fast.tw6925451804071215435 := 0
def PySem.W.Fast.tw7010853782452285751 := 0
def PySem.W.Fast.tw9959443382739915978 := 0
def PySem.W.Fast.tw6033604959664149082 := 0
def PySem.W.Fast.tw10505547056824956727 := 0
def PySem.W.Fast.tw3251744320224635986 := 0
def PySem.W.Fast.tw12409739674767765565 := 0
def PySem.W.Fast.tw5700418190371638185 := 0
def PySem.W.Fast.tw12959174081165156866 := 0
def PySem.W.Fast.tw6088573488979908454 := 0
def PySem.W.Fast.tw2072305224305014521 := 0
def PySem.W.Fast.tw5569193089097182786 := 0
def PySem.W.Fast.tw12475287176124046023 := 0
def PySem.W.Fast.tw5837310718291747387 := 0
def PySem.W.Fast.tw8742330565811236916 := 0
def PySem.W.Fast.tw13912624089076529593 := 0
def PySem.W.Fast.tw14445949068990527398 := 0
def PySem.W.Fast.tw7150958833385206213 := 0
def PySem.W.Fast.tw15342578621500557978 := 0
def PySem.W.Fast.tw1613181969586000124 := 0
def PySem.W.Fast.tw10508345402963743158 := 0
def PySem.W.Fast.tw10230339103735141560 := 0
def PySem.W.Fast.tw6471892465282125421 := 0
def PySem.W.Fast.tw6728263073470296852 := 0
def PySem.W.Fast.tw5848394786217847249 := 0
def PySem.W.Fast.tw11815934586138168972 := 0
def PySem.W.Fast.tw18335627631859067856 := 0
def PySem.W.Fast.tw17430441067575239364 := 0
def PySem.W.Fast.tw1304441518411954382 := 0
def PySem.W.Fast.tw10917943286563689327 := 0
def PySem.W.Fast.tw12714512047850870188 := 0
def PySem.W.Fast.tw17277117502370842974 := 0
def PySem.W.Fast.tw10385364803994100653 := 0
def PySem.W.Fast.tw920824871563233425 := 0
def PySem.W.Fast.tw7280271553946398349 := 0
def PySem.W.Fast.tw11324879954888397230 := 0
def PySem.W.Fast.tw12872466041025418302 := 0
def PySem.W.Fast.tw529843937156635627 := 0
def PySem.W.Fast.tw10804428928125749269 := 0
def PySem.W.Fast.tw9489971933373022078 := 0
def PySem.W.Fast.tw11668239251640987291 := 0
def PySem.W.Fast.tw9872959763770152372 := 0
def PySem.W.Fast.tw13058117809567008320 := 0
def PySem.W.Fast.tw118274415986968553 := 0
def PySem.W.Fast.tw16032763910441841001 := 0
def PySem.W.Fast.tw9294914629914391036 := 0
def PySem.W.Fast.tw16990220865839127199 := 0
def PySem.W.Fast.tw11038621000981680048 := 0
def PySem.W.Fast.tw5144299135521682740 := 0
def PySem.W.Fast.tw17089403536219911799 := 0
def PySem.W.Fast.tw16621852042519494284 := 0
def PySem.W.Fast.tw1619401078656929287 := 0
def PySem.W.Fast.tw3409161200555295390 := 0
def PySem.W.Fast.tw13234959870191111010 := 0
def PySem.W.Fast.tw1325437889041286558 := 0
def PySem.W.Fast.tw3596463591951157920 := 0
def PySem.W.Fast.tw6287261440332337896 := 0
def PySem.W.Fast.tw2147950781976968329 := 0
def PySem.W.Fast.tw5436092677089038609 := 0
def PySem.W.Fast.tw12671279931395728969 := 0
def PySem.W.Fast.tw433626128117567004 := 0
def PySem.W.Fast.tw16104539382697553699 := 0
def PySem.W.Fast.tw7441091508631048050 := 0
def PySem.W.Fast.tw3567216912053787039 := 0
def PySem.W.Fast.tw15923024387176574006 := 0
def PySem.W.Fast.tw11813806927859705480 := 0
def PySem.W.Fast.tw8809136660592969716 := 0
def PySem.W.Fast.tw6391415101331457357 := 0
def PySem.W.Fast.tw15088200253367925525 := 0
def PySem.W.Fast.tw7175334241004397372 := 0
def PySem.W.Fast.tw3567799802418635162 := 0
def PySem.W.Fast.tw1030782770813697044 := 0
def PySem.W.Fast.tw428016853977318904 := 0
def PySem.W.Fast.tw10703885201791479621 := 0
def PySem.W.Fast.tw2147458586159053554 := 0
def PySem.W.Fast.tw13775411359705331493 := 0
def PySem.W.Fast.tw11518835187403164467 := 0
def PySem.W.Fast.tw1096268171047463157 := 0
def PySem.W.Fast.tw5893951155243125630 := 0
def PySem.W.Fast.tw17936344788591040976 := 0
def PySem.W.Fast.tw12653448207121315320 := 0
def PySem.W.Fast.tw4203290393724566799 := 0
def PySem.W.Fast.tw6287237016963389807 := 0
def PySem.W.Fast.tw5549927857377367689 := 0
def PySem.W.Fast.tw7339545490434134563 := 0
def PySem.W.Fast.tw16126476523471698896 := 0
def PySem.W.Fast.tw576025895286470961 := 0
def PySem.W.Fast.tw2191145894157456496 := 0
def PySem.W.Fast.tw10128749174308450345 := 0
def PySem.W.Fast.tw9440458752165070606 := 0
def PySem.W.Fast.tw5059096613628104682 := 0
def PySem.W.Fast.tw8999871807445624522 := 0
def PySem.W.Fast.tw11069750512296727405 := 0
def PySem.W.Fast.tw15866972893019470955 := 0
def PySem.W.Fast.tw7901155912367830392 := 0
def PySem.W.Fast.tw8608765938770153576 := 0
def PySem.W.Fast.tw1361317321865893491 := 0
def PySem.W.Fast.tw12634198234628873995 := 0
def PySem.W.Fast.tw9368201087289754843 := 0
def PySem.W.Fast.tw8562157068960796077 := 0
def PySem.W.Fast.tw17737827077993328746 := 0
def PySem.W.Fast.tw10494808350531639557 := 0
def PySem.W.Fast.tw12873395378906712513 := 0
def PySem.W.Fast.tw17169470642816489579 := 0
def PySem.W.Fast.tw4120763147918965793 := 0
def PySem.W.Fast.tw7288990044577524073 := 0
def PySem.W.Fast.tw15223733099072750663 := 0
def PySem.W.Fast.tw3097206853044157962 := 0
def PySem.W.Fast.tw10769500119864116164 := 0
def PySem.W.Fast.tw4284007738130505566 := 0
def PySem.W.Fast.tw14474919712357389162 := 0
def PySem.W.Fast.tw15777720512781042525 := 0
def PySem.W.Fast.tw11986266743720260329 := 0
def PySem.W.Fast.tw144207514468992650 := 0
def PySem.W.Fast.tw554918521694775937 := 0
def PySem.W.Fast.tw5310549347644712949 := 0
def PySem.W.Fast.tw11175839822159249893 := 0
def PySem.W.Fast.tw65583880071635946 := 0
def PySem.W.Fast.tw15901746706703038609 := 0
def PySem.W.Fast.tw17899160177185948056 := 0
def PySem.W.Fast.tw6036012364208940453 := 0
def PySem.W.Fast.tw3900574071004350347 := 0
def PySem.W.Fast.tw16610643433108422771 := 0
def PySem.W.Fast.tw15673724159511588895 := 0
def PySem.W.Fast.tw16703020484503467413 := 0
def PySem.W.Fast.tw2222333775869580763 := 0
def PySem.W.Fast.tw9314091403015508600 := 0
def PySem.W.Fast.tw17471915480040804891 := 0
def PySem.W.Fast.tw17968722805255085896 := 0
def PySem.W.Fast.tw13782446624457519370 := 0
def PySem.W.Fast.tw1675907440207611552 := 0
def PySem.W.Fast.tw17262171899948344388 := 0
def PySem.W.Fast.tw12945542727092988283 := 0
def PySem.W.Fast.tw16713300926554462927 := 0
def PySem.W.Fast.tw5967972899030283774 := 0
def PySem.W.Fast.tw5086351120563466980 := 0
def PySem.W.Fast.tw9722139100500071523 := 0
def PySem.W.Fast.tw14980044785992054084 := 0
def PySem.W.Fast.tw13026133940829710824 := 0
def PySem.W.Fast.tw3057513870052712126 := 0
def PySem.W.Fast.tw9025433343809277267 := 0
def PySem.W.Fast.tw11865716907491206879 := 0
def PySem.W.Fast.tw5240906379161034137 := 0
def PySem.W.Fast.tw833057030355513078 := 0
def PySem.W.Fast.tw17319077172837528844 := 0
def PySem.W.Fast.tw14554257389413972987 := 0
def PySem.W.Fast.tw6441328063723834570 := 0
def PySem.W.Fast.tw1627134564914658240 := 0
def PySem.W.Fast.tw10001453720764744364 := 0
def PySem.W.Fast.tw2743687600539895725 := 0
def PySem.W.Fast.tw17615163575479541909 := 0
def PySem.W.Fast.tw13918413766593573315 := 0
def PySem.W.Fast.tw13212404982319996933 := 0
def PySem.W.Fast.tw11457101246943496432 := 0
def PySem.W.Fast.tw9179989322218717999 := 0
def PySem.W.Fast.tw12520557899865662078 := 0
def PySem.W.Fast.tw10702943957878373361 := 0
def PySem.W.Fast.tw2338116851725733817 := 0
def PySem.W.Fast.tw1628385400694442871 := 0
def PySem.W.Fast.tw15857757331328431723 := 0
def PySem.W.Fast.tw170412023897003474 := 0
def PySem.W.Fast.tw6338070348762645098 := 0
def PySem.W.Fast.tw17207368757153455978 := 0
def PySem.W.Fast.tw2378817354041793360 := 0
def PySem.W.Fast.tw12197484753478012748 := 0
def PySem.W.Fast.tw17843083110360708876 := 0
def PySem.W.Fast.tw647504997091975370 := 0
def PySem.W.Fast.tw10434428357005869494 := 0
def PySem.W.Fast.tw6917900402421304732 := 0
def PySem.W.Fast.tw8315228781550194751 := 0
def PySem.W.Fast.tw12930264337807521225 := 0
def PySem.W.Fast.tw15112101965269989611 := 0
def PySem.W.Fast.tw3078784386979540851 := 0
def PySem.W.Fast.tw4419460505719018451 := 0
def PySem.W.Fast.tw3131119668723354276 := 0
def PySem.W.Fast.tw7586161064504858563 := 0
def PySem.W.Fast.tw16455303329695531620 := 0
def PySem.W.Fast.tw8150854036779988064 := 0
def PySem.W.Fast.tw16089145850240954627 := 0
def PySem.W.Fast.tw5324533278511267181 := 0
def PySem.W.Fast.tw8236418691207331842 := 0
def PySem.W.Fast.tw15546391803536957857 := 0
def PySem.W.Fast.tw5516254233123531279 := 0
def PySem.W.Fast.tw1005737655491810174 := 0
def PySem.W.Fast.tw3929566760500809192 := 0
def PySem.W.Fast.tw15563916309635197491 := 0
def PySem.W.Fast.tw13785657722855336489 := 0
def PySem.W.Fast.tw6787170653378321790 := 0
def PySem.W.Fast.tw5355736785519023304 := 0
def PySem.W.Fast.tw16874872357690112854 := 0
def PySem.W.Fast.tw5253058201188827839 := 0
def PySem.W.Fast.tw414955097840886143 := 0
def PySem.W.Fast.tw13762411251932195770 := 0
def PySem.W.Fast.tw18436382635140917995 := 0
def PySem.W.Fast.tw16155949148274721560 := 0
def PySem.W.Fast.tw15166621318083718969 := 0
def PySem.W.Fast.tw11694663121155604708 := 0
def PySem.W.Fast.tw14465983751473894139 := 0
def PySem.W.Fast.tw14535265065590241635 := 0
def PySem.W.Fast.tw15805374194188063230 := 0
def PySem.W.Fast.tw47716263875059960 := 0
def PySem.W.Fast.tw8099347627810908131 := 0
def PySem.W.Fast.tw4683111354141637411 := 0
def PySem.W.Fast.tw9570862174767270180 := 0
def PySem.W.Fast.tw14486044670376335345 := 0
def PySem.W.Fast.tw13304114870781381808 := 0
def PySem.W.Fast.tw11534277710201313768 := 0
def PySem.W.Fast.tw11129181060113301778 := 0
def PySem.W.Fast.tw13590291830470417498 := 0
def PySem.W.Fast.tw4023769369551955899 := 0
def PySem.W.Fast.tw13542294491533626506 := 0
def PySem.W.Fast.tw7395961973801346017 := 0
def PySem.W.Fast.tw2797212491941739427 := 0
def PySem.W.Fast.tw12940602593121685390 := 0
def PySem.W.Fast.tw6505175336896490828 := 0
def PySem.W.Fast.tw11017964656427209779 := 0
def PySem.W.Fast.tw4731689039729107591 := 0
def PySem.W.Fast.tw18429953722350075137 := 0
def PySem.W.Fast.tw8009031945066467476 := 0
def PySem.W.Fast.tw5191988100026726906 := 0
def PySem.W.Fast.tw6574090154857285897 := 0
def PySem.W.Fast.tw10581050383599089730 := 0
def PySem.W.Fast.tw7012396514438112172 := 0
def PySem.W.Fast.tw3918970604667943979 := 0
def PySem.W.Fast.tw1273560157750324587 := 0
def PySem.W.Fast.tw17385350751714302578 := 0
def PySem.W.Fast.tw6829395717703137235 := 0
def PySem.W.Fast.tw17806492738544620837 := 0
def PySem.W.Fast.tw8072430325327565662 := 0
def PySem.W.Fast.tw12356760099735998232 := 0
def PySem.W.Fast.tw18388911052609642309 := 0
def PySem.W.Fast.tw11095833387040987083 := 0
def PySem.W.Fast.tw14799884470933272022 := 0
def PySem.W.Fast.tw4719098748992511232 := 0
def PySem.W.Fast.tw7734651473963090252 := 0
def PySem.W.Fast.tw16968999800712549351 := 0
def PySem.W.Fast.tw7993183654787457623 := 0
def PySem.W.Fast.tw4188565722543946586 := 0
def PySem.W.Fast.tw3131828623408403694 := 0
def PySem.W.Fast.tw9945299814616584150 := 0
def PySem.W.Fast.tw9390277490584795028 := 0
def PySem.W.Fast.tw13752886687919499177 := 0
def PySem.W.Fast.tw2175424837770256164 := 0
def PySem.W.Fast.tw2585893387474256151 := 0
def PySem.W.Fast.tw12580381218246414214 := 0
def PySem.W.Fast.tw12254379297229013253 := 0
def PySem.W.Fast.tw10692736930976590131 := 0
def PySem.W.Fast.tw774276124930335230 := 0
def PySem.W.Fast.tw1983903668253713244 := 0
def PySem.W.Fast.tw7996170169105681636 := 0
def PySem.W.Fast.tw3065338226471919974 := 0
def PySem.W.Fast.tw3478017009438659715 := 0
def PySem.W.Fast.tw3826144973094256575 := 0
def PySem.W.Fast.tw11513866030442933773 := 0
def PySem.W.Fast.tw13248651138925291421 := 0
def PySem.W.Fast.tw3651369894109203160 := 0
def PySem.W.Fast.tw248222637805920738 := 0
def PySem.W.Fast.tw661989260407217748 := 0
def PySem.W.Fast.tw10663666542225641758 := 0
def PySem.W.Fast.tw10062691725112570975 := 0
def PySem.W.Fast.tw12345208971507967678 := 0
def PySem.W.Fast.tw9145147812071914287 := 0
def PySem.W.Fast.tw9738834700466632067 := 0
def PySem.W.Fast.tw14991612114520832258 := 0
def PySem.W.Fast.tw11055273778506735660 := 0
def PySem.W.Fast.tw2306332194578677071 := 0
def PySem.W.Fast.tw15725153069562193003 := 0
def PySem.W.Fast.tw15616759160804394826 := 0
def PySem.W.Fast.tw1436438851918393304 := 0
def PySem.W.Fast.tw4113057281331491973 := 0
def PySem.W.Fast.tw8563608804270986801 := 0
def PySem.W.Fast.tw15761694940055098169 := 0
def PySem.W.Fast.tw10775470210077398767 := 0
def PySem.W.Fast.tw5837136189812913059 := 0
def PySem.W.Fast.tw10428819733733190049 := 0
def PySem.W.Fast.tw11306197498548925391 := 0
def PySem.W.Fast.tw18192312813264587701 := 0
def PySem.W.Fast.tw2457964412098171776 := 0
def PySem.W.Fast.tw16141601455270902654 := 0
def PySem.W.Fast.tw9938506283241980389 := 0
def PySem.W.Fast.tw14552859893174185206 := 0
def PySem.W.Fast.tw229611619103675407 := 0
def PySem.W.Fast.tw7302098640897105450 := 0
def PySem.W.Fast.tw1907140437014497550 := 0
def PySem.W.Fast.tw14932530602196495210 := 0
def PySem.W.Fast.tw886510933772641666 := 0
def PySem.W.Fast.tw1199017556690509992 := 0
def PySem.W.Fast.tw6865197568173074448 := 0
def PySem.W.Fast.tw10685247083015481173 := 0
def PySem.W.Fast.tw12584482564588079945 := 0
def PySem.W.Fast.tw5975455928750828358 := 0
def PySem.W.Fast.tw7392519898420279472 := 0
def PySem.W.Fast.tw15787183769339768250 := 0
def PySem.W.Fast.tw8826614852040093274 := 0
open PySem PySem.W PyProof.Rows
set_option maxRecDepth 100000 in
set_option maxHeartbeats 0 in
theorem PySem.Challenge.cw_formgrove_k71_a_changer_made_holds : PySem.Challenge.rw_formgrove_k71_a_changer_made.Holds := by
  w_on; o_law; k_head; (case hw => w_witness2)
  k_fill
  refine K71.walk (l := PySem.Challenge.rw_formgrove_k71_a_changer_made) rfl rfl (fun w h Y => PySem.W.kIn_of Y) ?F
  case F =>
    intro w mg fa h KX G hmg
    refine' K71.all_mk KX G hmg ?xn_GroveError ?xn_NoGrove ?xn_BadForm ?xn_TooMany ?xn_TooBig ?xn_NoneFits ?xn_NoBook ?xn_TwiceNamed ?xn_NoName ?xn_Ring ?xn_BadChanger ?xn_NoRecipe ?xn_NotStraight ?xn_NoChange ?xn_NoRow ?xg1 ?xg2 ?xg3 ?xg4 ?xb1 ?xb2 ?xb3 ?xb4 ?xb5 ?d1_GroveError ?d2_GroveError ?d3_GroveError ?d1_NoGrove ?d2_NoGrove ?d3_NoGrove ?d1_BadForm ?d2_BadForm ?d3_BadForm ?d1_TooMany ?d2_TooMany ?d3_TooMany ?d1_TooBig ?d2_TooBig ?d3_TooBig ?d1_NoneFits ?d2_NoneFits ?d3_NoneFits ?d1_NoBook ?d2_NoBook ?d3_NoBook ?d1_TwiceNamed ?d2_TwiceNamed ?d3_TwiceNamed ?d1_NoName ?d2_NoName ?d3_NoName ?d1_Ring ?d2_Ring ?d3_Ring ?d1_BadChanger ?d2_BadChanger ?d3_BadChanger ?d1_NoRecipe ?d2_NoRecipe ?d3_NoRecipe ?d1_NotStraight ?d2_NotStraight ?d3_NotStraight ?d1_NoChange ?d2_NoChange ?d3_NoChange ?d1_NoRow ?d2_NoRow ?d3_NoRow ?xl_BadChanger ?xc_BadChanger ?xt_BadChanger ?xk_BadChanger ?xv_BadChanger ?xe_BadChanger ?xi_BadChanger ?m_BadChanger_GroveError ?m_BadChanger_NoGrove ?m_BadChanger_BadForm ?m_BadChanger_TooMany ?m_BadChanger_TooBig ?m_BadChanger_NoneFits ?m_BadChanger_NoBook ?m_BadChanger_TwiceNamed ?m_BadChanger_NoName ?m_BadChanger_Ring ?m_BadChanger_BadChanger ?m_BadChanger_NoRecipe ?m_BadChanger_NotStraight ?m_BadChanger_NoChange ?m_BadChanger_NoRow ?a1 ?l1 ?c1 ?k1 ?a2 ?l2 ?c2 ?k2 ?a3 ?l3 ?c3 ?k3 ?a4 ?l4 ?c4 ?k4 ?a5 ?l5 ?c5 ?k5 ?a6 ?l6 ?c6 ?k6 ?a7 ?l7 ?c7 ?k7 ?a8 ?l8 ?c8 ?k8 ?a9 ?l9 ?c9 ?k9 ?a10 ?l10 ?c10 ?k10 ?a11 ?l11 ?c11 ?k11 ?a12 ?l12 ?c12 ?k12 ?a13 ?l13 ?c13 ?k13 ?a14 ?l14 ?c14 ?k14 ?a15 ?l15 ?c15 ?k15 ?a16 ?l16 ?c16 ?k16 ?y0 ?y1 ?z0 ?z1 ?z2 ?z3 ?z4 ?z5 ?z6 ?z7 ?z8 ?z9 ?z10 ?z11 ?z12 ?z13
    (case xn_GroveError => k_is)
    (case xn_NoGrove => k_is)
    (case xn_BadForm => k_is)
    (case xn_TooMany => k_is)
    (case xn_TooBig => k_is)
    (case xn_NoneFits => k_is)
    (case xn_NoBook => k_is)
    (case xn_TwiceNamed => k_is)
    (case xn_NoName => k_is)
    (case xn_Ring => k_is)
    (case xn_BadChanger => k_is)
    (case xn_NoRecipe => k_is)
    (case xn_NotStraight => k_is)
    (case xn_NoChange => k_is)
    (case xn_NoRow => k_is)
    (case xg1 => k_is)
    (case xg2 => k_is)
    (case xg3 => rfl)
    (case xg4 => k_is)
    (case xb1 => k_is)
    (case xb2 => k_is)
    (case xb3 => k_is)
    (case xb4 => k_is)
    (case xb5 => k_is)
    (case d1_GroveError => k_is)
    (case d2_GroveError => k_is)
    (case d3_GroveError => k_is)
    (case d1_NoGrove => k_is)
    (case d2_NoGrove => k_is)
    (case d3_NoGrove => k_is)
    (case d1_BadForm => k_is)
    (case d2_BadForm => k_is)
    (case d3_BadForm => k_is)
    (case d1_TooMany => k_is)
    (case d2_TooMany => k_is)
    (case d3_TooMany => k_is)
    (case d1_TooBig => k_is)
    (case d2_TooBig => k_is)
    (case d3_TooBig => k_is)
    (case d1_NoneFits => k_is)
    (case d2_NoneFits => k_is)
    (case d3_NoneFits => k_is)
    (case d1_NoBook => k_is)
    (case d2_NoBook => k_is)
    (case d3_NoBook => k_is)
    (case d1_TwiceNamed => k_is)
    (case d2_TwiceNamed => k_is)
    (case d3_TwiceNamed => k_is)
    (case d1_NoName => k_is)
    (case d2_NoName => k_is)
    (case d3_NoName => k_is)
    (case d1_Ring => k_is)
    (case d2_Ring => k_is)
    (case d3_Ring => k_is)
    (case d1_BadChanger => k_is)
    (case d2_BadChanger => k_is)
    (case d3_BadChanger => k_is)
    (case d1_NoRecipe => k_is)
    (case d2_NoRecipe => k_is)
    (case d3_NoRecipe => k_is)
    (case d1_NotStraight => k_is)
    (case d2_NotStraight => k_is)
    (case d3_NotStraight => k_is)
    (case d1_NoChange => k_is)
    (case d2_NoChange => k_is)
    (case d3_NoChange => k_is)
    (case d1_NoRow => k_is)
    (case d2_NoRow => k_is)
    (case d3_NoRow => k_is)
    (case xl_BadChanger => k_is)
    (case xc_BadChanger => k_is)
    (case xt_BadChanger => k_is)
    (case xk_BadChanger => k_is)
    (case xv_BadChanger => k_is)
    (case xe_BadChanger => decide)
    (case xi_BadChanger => k_is)
    (case m_BadChanger_GroveError => k_is)
    (case m_BadChanger_NoGrove => k_is)
    (case m_BadChanger_BadForm => k_is)
    (case m_BadChanger_TooMany => k_is)
    (case m_BadChanger_TooBig => k_is)
    (case m_BadChanger_NoneFits => k_is)
    (case m_BadChanger_NoBook => k_is)
    (case m_BadChanger_TwiceNamed => k_is)
    (case m_BadChanger_NoName => k_is)
    (case m_BadChanger_Ring => k_is)
    (case m_BadChanger_BadChanger => k_is)
    (case m_BadChanger_NoRecipe => k_is)
    (case m_BadChanger_NotStraight => k_is)
    (case m_BadChanger_NoChange => k_is)
    (case m_BadChanger_NoRow => k_is)
    (case a1 => k_is)
    (case l1 => k_is)
    (case c1 => k_is)
    (case k1 => k_is)
    (case a2 => k_is)
    (case l2 => k_is)
    (case c2 => k_is)
    (case k2 => k_is)
    (case a3 => k_is)
    (case l3 => k_is)
    (case c3 => k_is)
    (case k3 => k_is)
    (case a4 => k_is)
    (case l4 => k_is)
    (case c4 => k_is)
    (case k4 => k_is)
    (case a5 => k_is)
    (case l5 => k_is)
    (case c5 => k_is)
    (case k5 => k_is)
    (case a6 => k_is)
    (case l6 => k_is)
    (case c6 => k_is)
    (case k6 => k_is)
    (case a7 => k_is)
    (case l7 => k_is)
    (case c7 => k_is)
    (case k7 => k_is)
    (case a8 => k_is)
    (case l8 => k_is)
    (case c8 => k_is)
    (case k8 => k_is)
    (case a9 => k_is)
    (case l9 => k_is)
    (case c9 => k_is)
    (case k9 => k_is)
    (case a10 => k_is)
    (case l10 => k_is)
    (case c10 => k_is)
    (case k10 => k_is)
    (case a11 => k_is)
    (case l11 => k_is)
    (case c11 => k_is)
    (case k11 => k_is)
    (case a12 => k_is)
    (case l12 => k_is)
    (case c12 => k_is)
    (case k12 => k_is)
    (case a13 => k_is)
    (case l13 => k_is)
    (case c13 => k_is)
    (case k13 => k_is)
    (case a14 => k_is)
    (case l14 => k_is)
    (case c14 => k_is)
    (case k14 => k_is)
    (case a15 => k_is)
    (case l15 => k_is)
    (case c15 => k_is)
    (case k15 => k_is)
    (case a16 => k_is)
    (case l16 => k_is)
    (case c16 => k_is)
    (case k16 => k_is)
    (case y0 => k_is)
    (case y1 => k_is)
    (case z0 => k_is)
    (case z1 => k_is)
    (case z2 => k_is)
    (case z3 => k_is)
    (case z4 => k_is)
    (case z5 => k_is)
    (case z6 => k_is)
    (case z7 => k_is)
    (case z8 => k_is)
    (case z9 => k_is)
    (case z10 => k_is)
    (case z11 => k_is)
    (case z12 => k_is)
    (case z13 => k_is)
