import PyProof.Rows.All
import Wide.All
import OpenK.AllK
import Wide.FinOn
import Lean
import PyProof.EqAt
import PyProof.EqKinds
import PyProof.TupleCall
import PySem.Challenge.RW_formgrove_k83_distance_by_rests
set_option Elab.async false
set_option linter.all false
set_option maxRecDepth 100000
/-! THE HAND LAYER, for ints, bools, texts, own classes, LISTS and tuples (index, slices, in, append, pop ..), calls, loops. Paste it whole ahead of your own text; what your proof does not reach may be deleted. -/
namespace L2
open PySem PySem.Spec PyProof.Rows

/-- a key: an int or a str -/
abbrev Key := Sum Int Str
def keyIs : Key → Value → Bool
  | .inl k, v => Value.isInt k v
  | .inr x, v => Value.isStrOf x v
def keyH (w : World) : Key → Int
  | .inl k => hashInt k
  | .inr x => hashStr w x
theorem keyIs_shape : ∀ {k : Key} {v : Value}, keyIs k v = true → (∃ i t, k = Sum.inl i ∧ v = Value.int i t) ∨ (∃ x t, k = Sum.inr x ∧ v = Value.str x t)
  | .inl i, v, h => by
    obtain ⟨t, e⟩ := Value.isInt_shape (k := i) (v := v) h
    exact .inl ⟨i, t, rfl, e⟩
  | .inr x, v, h => by
    obtain ⟨t, e⟩ := Value.isStrOf_shape (x := x) (v := v) h
    exact .inr ⟨x, t, rfl, e⟩
theorem keyIs_int (i : Int) (t : Tok) : keyIs (.inl i) (.int i t) = true := by simp [keyIs, Value.isInt]
theorem keyIs_str (x : Str) (t : Tok) : keyIs (.inr x) (.str x t) = true := by simp [keyIs, Value.isStrOf]
theorem key_ll (a b : Int) : decide ((Sum.inl a : Key) = Sum.inl b) = (a == b) := by
  by_cases e : a = b
  · subst e; simp
  · have h : ¬ (Sum.inl a : Key) = Sum.inl b := fun q => e (Sum.inl.inj q)
    rw [decide_eq_false h]
    exact (beq_eq_false_iff_ne.mpr e).symm
theorem key_rr (a b : Str) : decide ((Sum.inr a : Key) = Sum.inr b) = decide (a = b) := by
  by_cases e : a = b
  · subst e; simp
  · have h : ¬ (Sum.inr a : Key) = Sum.inr b := fun q => e (Sum.inr.inj q)
    rw [decide_eq_false h, decide_eq_false e]
theorem key_lr (a : Int) (b : Str) : decide ((Sum.inl a : Key) = Sum.inr b) = false := decide_eq_false (fun q => nomatch q)
theorem key_rl (a : Str) (b : Int) : decide ((Sum.inr a : Key) = Sum.inl b) = false := decide_eq_false (fun q => nomatch q)

def mixKind (prog : Program) (w : World) : PySem.KeyKind prog w Key where
  is := keyIs
  hash := keyH w
  inj := fun v a b ha hb => by
    rcases keyIs_shape ha with ⟨i, t, rfl, rfl⟩ | ⟨x, t, rfl, rfl⟩
    · rcases keyIs_shape hb with ⟨j, u, rfl, e⟩ | ⟨y, u, rfl, e⟩
      · injection e with e1 _; rw [e1]
      · exact nomatch e
    · rcases keyIs_shape hb with ⟨j, u, rfl, e⟩ | ⟨y, u, rfl, e⟩
      · exact nomatch e
      · injection e with e1 _; rw [e1]
  byValue := fun k v h => by
    rcases keyIs_shape h with ⟨i, t, rfl, rfl⟩ | ⟨x, t, rfl, rfl⟩ <;> rfl
  pyHash := fun hv h => by
    rcases keyIs_shape hv with ⟨i, t, rfl, rfl⟩ | ⟨x, t, rfl, rfl⟩
    · exact wpAny_pyHash_int h
    · exact wpAny_pyHash_str h
  eqBool := fun hu hv h => by
    rcases keyIs_shape hu with ⟨i, t, rfl, rfl⟩ | ⟨x, t, rfl, rfl⟩
    · rcases keyIs_shape hv with ⟨j, u, rfl, rfl⟩ | ⟨y, u, rfl, rfl⟩
      · rw [key_ll] at h; exact wpAny_eqBool_int h
      · rw [key_lr] at h; exact SeqAt.EqAt.int_str i t y u _ _ _ _ h
    · rcases keyIs_shape hv with ⟨j, u, rfl, rfl⟩ | ⟨y, u, rfl, rfl⟩
      · rw [key_rl] at h; exact SeqAt.EqAt.str_int x t j u _ _ _ _ h
      · rw [key_rr] at h; exact wpAny_eqBool_str h
  «strs» := fun k x t v h => by
    rcases keyIs_shape h with ⟨i, u, rfl, e⟩ | ⟨y, u, rfl, e⟩
    · exact nomatch e
    · injection e with e1 _
      subst e1
      cases v <;> rfl

theorem mixKind_int (prog : Program) (w : World) (i : Int) (t : Tok) : (mixKind prog w).is (.inl i) (.int i t) = true := keyIs_int i t
theorem mixKind_str (prog : Program) (w : World) (x : Str) (t : Tok) : (mixKind prog w).is (.inr x) (.str x t) = true := keyIs_str x t
end L2

namespace L2
open PySem PySem.Spec PyProof.Rows

/-- a value, without the heap -/
inductive V where
  | non | bl (b : Bool) | int (i : Int) | str (x : Str) | byt (b : Array UInt8) | flt (b : UInt64) | ref (a : Addr) | ty (n : String)
  deriving DecidableEq

def RelV : V → Value → Prop
  | .non, u => u = Value.none
  | .bl b, u => u = Value.bool b
  | .int i, u => ∃ t, u = Value.int i t
  | .str x, u => ∃ t, u = Value.str x t
  | .byt b, u => ∃ t, u = Value.bytes b t
  | .flt b, u => ∃ t, u = Value.float b t
  | .ref a, u => u = Value.ref a
  | .ty n, u => u = Value.type n

abbrev Vals : List V → List Value → Prop := Paired RelV
theorem Vals.length {xs : List V} {us : List Value} (r : Vals xs us) : xs.length = us.length := Paired.length r
theorem Vals.get : ∀ {xs : List V} {us : List Value} {i : Nat} {x : V}, Vals xs us → xs[i]? = some x → ∃ u, us[i]? = some u ∧ RelV x u
  | _, _, _, _, .nil, e => by simp at e
  | _, _, 0, _, .cons r _, e => by simp at e; subst e; exact ⟨_, rfl, r⟩
  | _, _, i + 1, x, .cons _ t, e => by
    obtain ⟨u, h1, h2⟩ := Vals.get (i := i) (x := x) t (by simpa using e)
    exact ⟨u, by simpa using h1, h2⟩
theorem Vals.set {x : V} {u : Value} (r : RelV x u) : ∀ {xs : List V} {us : List Value} (i : Nat), Vals xs us → Vals (xs.set i x) (us.set i u)
  | _, _, _, .nil => .nil
  | _, _, 0, .cons _ t => .cons r t
  | _, _, i + 1, .cons q t => .cons q (Vals.set r i t)
theorem Vals.append : ∀ {xs ys : List V} {us ws : List Value}, Vals xs us → Vals ys ws → Vals (xs ++ ys) (us ++ ws)
  | _, _, _, _, .nil, s => s
  | _, _, _, _, .cons r t, s => .cons r (Vals.append t s)
theorem Vals.take : ∀ {xs : List V} {us : List Value} (n : Nat), Vals xs us → Vals (xs.take n) (us.take n)
  | _, _, 0, _ => .nil
  | _, _, _ + 1, .nil => .nil
  | _, _, n + 1, .cons r t => .cons r (Vals.take n t)
theorem Vals.drop : ∀ {xs : List V} {us : List Value} (n : Nat), Vals xs us → Vals (xs.drop n) (us.drop n)
  | _, _, 0, r => r
  | _, _, _ + 1, .nil => .nil
  | _, _, n + 1, .cons _ t => Vals.drop n t
def RelO : Option V → Option Value → Prop
  | some v, some u => RelV v u
  | none, none => True
  | _, _ => False
def KV {κ : Type} : List (κ × V) → List (κ × Value) → Prop := Paired fun (p : κ × V) (q : κ × Value) => p.1 = q.1 ∧ RelV p.2 q.2

/-- a key of a dict (00_mix): an int or a text -/
def kV : Key → V
  | .inl i => .int i
  | .inr x => .str x

/-- what stands at a tracked address -/
inductive HO where
  /-- a list -/
  | lst (xs : List V)
  /-- a tuple (never changes) -/
  | tup (xs : List V)
  /-- a dict whose keys are ints and texts; one whose keys are tuples of ints and texts (the empty one is both) -/
  | dK (kvs : List (Key × V)) | dT (kvs : List (List Key × V))
  /-- a set of ints: its members, its size -/
  | set (S : Int → Bool) (n : Nat)
  /-- an instance of the class at C, its dict at dx, its attributes -/
  | ins (C dx : Addr) (fs : List (Str × V))
  /-- the dict of the instance at x -/
  | own (x : Addr)
  /-- the dict of an exception -/
  | xd (fs : List (Str × V))
  /-- a bound method, f of x -/
  | met (f x : Addr)
  /-- a range object lo, lo + 1, .. below hi -/
  | rng (lo hi : Int)
  /-- a thing that is known to the object (the script; a dict while a loop walks it): read, never written while it is so -/
  | frz (o : Obj) (u : HO)
  /-- a code object's table -/
  | tbl (ps : Array Value)
  /-- any other thing, by what is true of its one object (a def of one's own: SetO a S n := HO.ext fun h => ..) -/
  | ext (φ : Heap → Prop)

abbrev Hp := Addr → Option HO
def upd (H : Hp) (a : Addr) (o : HO) : Hp := fun b => if b = a then some o else H b
theorem upd_same {H : Hp} {a : Addr} {o : HO} : upd H a o a = some o := by unfold upd; rw [if_pos rfl]
theorem upd_ne {H : Hp} {a b : Addr} {o : HO} (h : b ≠ a) : upd H a o b = H b := by unfold upd; rw [if_neg h]
theorem upd_upd {H : Hp} {a : Addr} {o u : HO} : upd (upd H a o) a u = upd H a u := by
  funext b; unfold upd; split <;> rfl
/-- two objects of different content stand apart -/
theorem ne_of {H : Hp} {a b : Addr} {o u : HO} (h : H a = some o) (h' : H b = some u) (d : o ≠ u) : a ≠ b := by
  intro e; subst e; rw [h] at h'; exact d (Option.some.inj h')
theorem ne_of_none {H : Hp} {a b : Addr} {o : HO} (h : H a = some o) (h' : H b = none) : a ≠ b := by
  intro e; subst e; rw [h] at h'; cases h'

section
variable (P : Program) (w : World)
def ObjOk (H : Hp) (h : Heap) (a : Addr) : HO → Prop
  | .lst xs => xs.length ≤ sizeLine ∧ ∃ (its : List Value) (n : Nat), Vals xs its ∧ h.get? a = some { cls := .type "list", data := .seq its.toArray n }
  | .tup xs => xs.length ≤ sizeLine ∧ ∃ its : List Value, Vals xs its ∧ IsTup h a its.toArray
  | .dK kvs => kvs.length ≤ sizeLine ∧ (a == sysModules) = false ∧ ∃ vs, KV kvs vs ∧ h.DictOf (mixKind P w) a vs
  | .dT kvs => kvs.length ≤ sizeLine ∧ (a == sysModules) = false ∧ ∃ xs : List (List Key × Addr × Value),
      Paired (fun (p : List Key × V) (q : List Key × Addr × Value) => p.1 = q.1 ∧ H q.2.1 = some (.tup (p.1.map kV)) ∧ RelV p.2 q.2.2) kvs xs ∧
      ∃ o es ep, h.get? a = some o ∧ o.ExactDict ∧ o.data = .dict es ep ∧ es.toList = xs.map (entryOfKey (tupleKind (mixKind P w))) ∧ (xs.map (·.1)).Nodup
  | .set S n => h.SetOf (intKind P w) a S n
  | .ins C dx fs => H dx = some (.own a) ∧ fs.length ≤ 1000 ∧ dx ≠ a ∧ h.get? a = some (PySem.W.instObj C dx) ∧
      ∃ mA, h.Ns1 dx mA ∧ (∀ f, RelO (fs.lookup f) (mA f)) ∧ PySem.Within mA (fs.map (·.1))
  | .own _ => ∃ o, h.get? a = some o
  | .xd fs => ∃ mA, h.Ns1 a mA ∧ ∀ f, RelO (fs.lookup f) (mA f)
  | .rng lo hi => ∃ t u v, h.get? a = some { cls := .type "range", data := .fields #[.int lo t, .int hi u, .int 1 v] }
  | .frz o u => h.get? a = some o ∧ ObjOk H h a u
  | .tbl ps => h.get? a = some { cls := .none, data := .fields ps }
  | .met f x => h.get? a = some (PySem.W.methodObj (.ref f) (.ref x))
  | .ext φ => φ h ∧ (∃ o, h.get? a = some o) ∧ ∀ h1 h2 : Heap, φ h1 → (∀ o, h1.get? a = some o → h2.get? a = some o) → φ h2
/-- the abstract heap is held -/
def HOk (H : Hp) (h : Heap) : Prop := ∀ a o, H a = some o → ObjOk P w H h a o
end

section
variable {P : Program} {w : World} {H H' : Hp} {h h' : Heap} {a : Addr} {o : HO}
theorem ObjOk.lt (x : ObjOk P w H h a o) : a < h.objs.size := by
  cases o with
  | lst xs => obtain ⟨_, _, _, _, e⟩ := x; exact Heap.lt_size e
  | tup xs => obtain ⟨_, _, _, p⟩ := x; exact p.lt
  | dK kvs => obtain ⟨_, _, _, _, o, _, _, e, _⟩ := x; exact Heap.lt_size e
  | dT kvs => obtain ⟨_, _, _, _, o, _, _, e, _⟩ := x; exact Heap.lt_size e
  | set S n => obtain ⟨o, _, _, _, e, _⟩ := x; exact Heap.lt_size e
  | ins C dx fs => obtain ⟨_, _, _, e, _⟩ := x; exact Heap.lt_size e
  | own y => obtain ⟨_, e⟩ := x; exact Heap.lt_size e
  | xd fs => obtain ⟨_, ⟨_, _, _, e, _⟩, _⟩ := x; exact Heap.lt_size e
  | rng lo hi => obtain ⟨_, _, _, e⟩ := x; exact Heap.lt_size e
  | frz ob u => obtain ⟨e, _⟩ := x; exact Heap.lt_size e
  | tbl ps => exact Heap.lt_size (show h.get? a = some _ from x)
  | met f y => exact Heap.lt_size (show h.get? a = some _ from x)
  | ext φ => obtain ⟨_, ⟨_, e⟩, _⟩ := x; exact Heap.lt_size e
theorem Paired.mapP {α β : Type} {F G : α → β → Prop} : ∀ {l₁ : List α} {l₂ : List β}, Paired F l₁ l₂ → (∀ a b, F a b → G a b) → Paired G l₁ l₂
  | _, _, .nil, _ => .nil
  | _, _, .cons r t, f => .cons (f _ _ r) (Paired.mapP t f)
/-- what an object's description leans on: its own object, its own dict, the tuples -/
theorem ObjOk.stay (x : ObjOk P w H h a o) (k : ∀ b u, (b = a ∨ H b = some (.own a)) → h.get? b = some u → h'.get? b = some u)
    (ho : ∀ b, H b = some (.own a) → H' b = some (.own a)) (ht : ∀ b xs, H b = some (.tup xs) → H' b = some (.tup xs)) : ObjOk P w H' h' a o := by
  induction o with
  | lst xs => obtain ⟨z, its, n, r, e⟩ := x; exact ⟨z, its, n, r, k _ _ (.inl rfl) e⟩
  | tup xs => obtain ⟨z, its, r, ob, e, c⟩ := x; exact ⟨z, its, r, ob, k _ _ (.inl rfl) e, c⟩
  | dK kvs => obtain ⟨z, y, vs, r, ob, es, ep, e, c⟩ := x; exact ⟨z, y, vs, r, ob, es, ep, k _ _ (.inl rfl) e, c⟩
  | dT kvs =>
    obtain ⟨z, y, xs, r, ob, es, ep, e, c⟩ := x
    exact ⟨z, y, xs, Paired.mapP r fun p q z => ⟨z.1, ht _ _ z.2.1, z.2.2⟩, ob, es, ep, k _ _ (.inl rfl) e, c⟩
  | set S n => obtain ⟨ob, es, ep, t, e, c⟩ := x; exact ⟨ob, es, ep, t, k _ _ (.inl rfl) e, c⟩
  | ins C dx fs =>
    obtain ⟨d, z, ne, e, mA, ⟨od, es, ep, e2, c⟩, r⟩ := x
    exact ⟨ho _ d, z, ne, k _ _ (.inl rfl) e, mA, ⟨od, es, ep, k _ _ (.inr d) e2, c⟩, r⟩
  | own y => obtain ⟨ob, e⟩ := x; exact ⟨ob, k _ _ (.inl rfl) e⟩
  | xd fs => obtain ⟨mA, ⟨od, es, ep, e, c⟩, r⟩ := x; exact ⟨mA, ⟨od, es, ep, k _ _ (.inl rfl) e, c⟩, r⟩
  | rng lo hi => obtain ⟨t, u, v, e⟩ := x; exact ⟨t, u, v, k _ _ (.inl rfl) e⟩
  | frz ob u ih => obtain ⟨e, q⟩ := x; exact ⟨k _ _ (.inl rfl) e, ih q⟩
  | tbl ps =>
    have e : h.get? a = some { cls := .none, data := .fields ps } := x
    show h'.get? a = some { cls := .none, data := .fields ps }
    exact k a _ (.inl rfl) e
  | met f y =>
    have e : h.get? a = some (PySem.W.methodObj (.ref f) (.ref y)) := x
    show h'.get? a = some (PySem.W.methodObj (.ref f) (.ref y))
    exact k a _ (.inl rfl) e
  | ext φ => obtain ⟨p, ⟨o, e⟩, st⟩ := x; exact ⟨st _ _ p fun o q => k _ _ (.inl rfl) q, ⟨o, k _ _ (.inl rfl) e⟩, st⟩
theorem HOk.lt (x : HOk P w H h) (e : H a = some o) : a < h.objs.size := (x a o e).lt
theorem HOk.fresh (x : HOk P w H h) (e : h.objs.size ≤ a) : H a = none := by
  cases q : H a with
  | none => rfl
  | some u => exact absurd (Nat.lt_of_lt_of_le (x.lt q) e) (Nat.lt_irrefl _)
/-- every object of the heap is kept -/
theorem HOk.kept (x : HOk P w H h) (k : ∀ b u, h.get? b = some u → h'.get? b = some u) : HOk P w H h' := fun a o e =>
  (x a o e).stay (fun b u _ q => k b u q) (fun _ q => q) fun _ _ q => q
/-- a new object is laid and tracked -/
theorem HOk.laid (x : HOk P w H h) (k : ∀ b u, h.get? b = some u → h'.get? b = some u) (hp : h.objs.size ≤ a) (new : ObjOk P w (upd H a o) h' a o) : HOk P w (upd H a o) h' := fun b u e => by
  have hn := x.fresh hp
  by_cases hb : b = a
  · subst hb; rw [upd_same] at e; cases e; exact new
  · rw [upd_ne hb] at e
    exact (x b u e).stay (fun c v _ q => k c v q) (fun c q => by rw [upd_ne (ne_of_none q hn)]; exact q) fun c xs q => by rw [upd_ne (ne_of_none q hn)]; exact q
end

/-- what may be read as u: it is u, or a known u -/
def Rd (H : Hp) (a : Addr) (u : HO) : Prop := H a = some u ∨ ∃ o, H a = some (.frz o u)
theorem Rd.ok {P : Program} {w : World} {H : Hp} {h : Heap} {a : Addr} {u : HO} (r : Rd H a u) (x : HOk P w H h) : ObjOk P w H h a u := by
  rcases r with r | ⟨o, r⟩
  · exact x a u r
  · obtain ⟨_, q⟩ := x a _ r
    exact q
/-- what may be written -/
def Mut : Option HO → Prop
  | some (.lst _) => True
  | some (.dK _) => True
  | some (.dT _) => True
  | some (.set _ _) => True
  | some (.ins _ _ _) => True
  | some (.ext _) => True
  | _ => False
section
variable {P : Program} {w : World} {H : Hp} {h h' : Heap} {x e : Addr} {o' : HO}
/-- the object at e is changed: x itself, or the dict of the instance x -/
theorem HOk.write (ok : HOk P w H h) (mu : Mut (H x)) (he : e = x ∨ H e = some (.own x)) (k : ∀ b u, b ≠ e → h.get? b = some u → h'.get? b = some u) (heo : ∃ u, h'.get? e = some u)
    (new : ObjOk P w (upd H x o') h' x o') : HOk P w (upd H x o') h' := fun b u q => by
  have nown : ∀ c y, H c = some (.own y) → c ≠ x := fun c y r z => by subst z; rw [r] at mu; exact mu
  have ntup : ∀ c xs, H c = some (.tup xs) → c ≠ x := fun c xs r z => by subst z; rw [r] at mu; exact mu
  by_cases hb : b = x
  · subst hb; rw [upd_same] at q; cases q; exact new
  · rw [upd_ne hb] at q
    by_cases hbe : b = e
    · have q' : H b = some (.own x) := by
        rcases he with z | z
        · exact absurd (hbe.trans z) hb
        · rw [hbe]; exact z
      rw [q] at q'; cases q'
      obtain ⟨v, hv⟩ := heo
      exact ⟨v, by rw [hbe]; exact hv⟩
    · refine (ok b u q).stay (fun c v hc r => k c v ?_ r) (fun c r => by rw [upd_ne (nown c b r)]; exact r) fun c xs r => by rw [upd_ne (ntup c xs r)]; exact r
      rcases hc with rfl | hc
      · exact hbe
      · rintro rfl
        rcases he with z | z
        · exact nown c b hc z
        · rw [hc] at z; cases z; exact hb rfl
end

/-! ### kept unless tracked; of the frames at fs (the callers') the slots may change (an exception that passes writes there); of the records at ex (iterators) nothing is said -/
structure Un (fs ex : List Addr) (H H' : Hp) (h h' : Heap) : Prop where
  keep : ∀ b o, h.get? b = some o → H b = none → b ∉ fs → b ∉ ex → h'.get? b = some o
  slot : ∀ b o, h.get? b = some o → H b = none → b ∈ fs → b ∉ ex → ∃ sl, h'.get? b = some { o with slots := sl }
  free : ∀ b o, h.get? b = some o → H b = none → b ∉ ex → H' b = none
  there : ∀ b o, h.get? b = some o → b ∉ ex → ∃ o', h'.get? b = some o'
  tups : ∀ b xs, H b = some (.tup xs) → H' b = some (.tup xs)
  frzs : ∀ b o u, H b = some (.frz o u) → H' b = some (.frz o u)
  tbls : ∀ b ps, H b = some (.tbl ps) → ∃ more, H' b = some (.tbl (ps ++ more))
section
variable {fs fs' ex ex' : List Addr} {H H1 H2 : Hp} {h h1 h2 h' : Heap} {a x e : Addr} {o : HO}
theorem Un.any (u : Un fs ex H H1 h h1) {b : Addr} {ob : Obj} (q : h.get? b = some ob) (n : H b = none) (hx : b ∉ ex) : ∃ sl, h1.get? b = some { ob with slots := sl } := by
  by_cases hb : b ∈ fs
  · exact u.slot b ob q n hb hx
  · exact ⟨ob.slots, u.keep b ob q n hb hx⟩
theorem Un.kept (k : ∀ b u, h.get? b = some u → h'.get? b = some u) : Un fs ex H H h h' :=
  ⟨fun b ob q _ _ _ => k b ob q, fun b ob q _ _ _ => ⟨ob.slots, k b ob q⟩, fun _ _ _ n _ => n, fun b ob q _ => ⟨ob, k b ob q⟩, fun _ _ q => q, fun _ _ _ q => q, fun _ ps q => ⟨#[], by rw [q]; simp⟩⟩
theorem Un.refl : Un fs ex H H h h := Un.kept fun _ _ q => q
theorem Un.laid (k : ∀ b u, h.get? b = some u → h'.get? b = some u) (hp : h.objs.size ≤ a) (hn : H a = none) : Un fs ex H (upd H a o) h h' where
  keep := fun b u q _ _ _ => k b u q
  slot := fun b u q _ _ _ => ⟨u.slots, k b u q⟩
  free := fun b u q n _ => by rw [upd_ne (Nat.ne_of_lt (Nat.lt_of_lt_of_le (Heap.lt_size q) hp))]; exact n
  there := fun b u q _ => ⟨u, k b u q⟩
  tups := fun b xs q => by rw [upd_ne (ne_of_none q hn)]; exact q
  frzs := fun b u xs q => by rw [upd_ne (ne_of_none q hn)]; exact q
  tbls := fun b ps q => ⟨#[], by rw [upd_ne (ne_of_none q hn), q]; simp⟩
theorem Un.write (mu : Mut (H x)) (he : e = x ∨ H e = some (.own x)) (k : ∀ b u, b ≠ e → h.get? b = some u → h'.get? b = some u) (heo : ∃ u, h'.get? e = some u) : Un fs ex H (upd H x o) h h' := by
  have hx : ∀ b, H b = none → b ≠ x := fun b n z => by subst z; rw [n] at mu; exact mu
  have hb : ∀ b, H b = none → b ≠ e := fun b n z => by
    subst z
    rcases he with r | r
    · exact hx b n r
    · rw [n] at r; cases r
  have hm : ∀ b u, H b = some u → ¬ Mut (some u) → b ≠ x := fun b u q nm z => by subst z; rw [q] at mu; exact nm mu
  refine ⟨fun b u q n _ _ => k b u (hb b n) q, fun b u q n _ _ => ⟨u.slots, k b u (hb b n) q⟩, fun b u q n _ => by rw [upd_ne (hx b n)]; exact n, fun b u q _ => ?_,
    fun b xs q => by rw [upd_ne (hm b _ q fun z => z)]; exact q, fun b u xs q => by rw [upd_ne (hm b _ q fun z => z)]; exact q, fun b ps q => ⟨#[], by rw [upd_ne (hm b _ q fun z => z), q]; simp⟩⟩
  by_cases hbe : b = e
  · subst hbe; exact heo
  · exact ⟨u, k b u hbe q⟩
end

/-! ### the heap without what is tracked -/
def trk (h : Heap) (H : Hp) : List Addr := (List.range h.objs.size).filter fun a => (H a).isSome
def hidT (h : Heap) (H : Hp) : Heap := PySem.W.hideAll h (trk h H)
theorem hidT_size (h : Heap) (H : Hp) : (hidT h H).objs.size = h.objs.size := PySem.W.hideAll_size _ _
theorem hidT_get {h : Heap} {H : Hp} {b : Addr} {o : Obj} (e : h.get? b = some o) (n : H b = none) : (hidT h H).get? b = some o :=
  PySem.W.hideAll_get _ e fun hm => by
    have q : (H b).isSome = true := (List.mem_filter.mp hm).2
    rw [n] at q; simp at q
theorem of_hidT {h : Heap} {H : Hp} {b : Addr} {o : Obj} (e : (hidT h H).get? b = some o) : h.get? b = some o ∧ H b = none := by
  have e' : h.get? b = some o := PySem.W.of_hideAll (trk h H) e
  refine ⟨e', ?_⟩
  cases q : H b with
  | none => rfl
  | some x =>
    have hm : b ∈ trk h H := List.mem_filter.mpr ⟨List.mem_range.mpr (Heap.lt_size e'), by simp [q]⟩
    have z : (hidT h H).get? b = none := PySem.W.hideAll_none (trk h H) hm
    rw [z] at e; cases e

/-! ### OpenK's ledger, filled with every new object but one -/
end L2

namespace L2
open PySem PySem.Spec PyProof.Rows

/-- the module's facts, over the base: the heap at the law's entry without what is tracked there -/
structure Mod (K : PySem.W.Frag) (mg : Str → Option Value) (base : Heap) : Prop where
  kin : K.In base
  glob : base.Ns mainGlobals mg
  blt : ∃ mb, base.Ns builtinsNs mb ∧ ∀ x : Str, x ≠ "__name__" → mb x = bootBuiltins x
  nolimit : base.NoLimit

/-- the context: a def's body (or a comprehension's block) running. base: fixed through the whole law; s₀, H₀: the entry; outer: the frames whose slots others may change (a def's callers); stack: all frames that run;
   ex: iterators that were made ahead of the entry and are walked here (a comprehension's); fn: the names whose cells were made at the entry (a def: all; a comprehension's block: its own); calm: not within an except suite; pn: pins that every state bears; xe: what is wanted of an exception that leaves the code -/
structure Cx where
  prog : Program
  w : World
  K : PySem.W.Frag
  mg : Str → Option Value
  base : Heap
  A : Around
  N : List Str
  s₀ : Shared
  H₀ : Hp
  env : Env
  outer : List Env
  stack : List Env
  ex : List Addr
  fn : Str → Bool
  calm : Bool
  pn : List (Addr × Obj)
  xe : Value → Shared → Prop
/-- the callers' frames -/
def frs (l : List Env) : List Addr := l.filterMap (·.frame)
abbrev Cx.fs (X : Cx) : List Addr := frs X.outer

def Vis (sc : Scope) (x : Str) : Prop := sc.names.lookup x = some .local ∨ sc.names.lookup x = some .cell ∨ sc.names.lookup x = some .free
def Loc (sc : Scope) (x : Str) : Prop := sc.names.lookup x = some .local ∨ sc.names.lookup x = some .cell
def Look (env : Env) (h : Heap) (m : Str → Option Value) (x : Str) (u : Value) : Prop :=
  (env.kindOf x = some .local ∧ m x = some u) ∨ ((env.kindOf x = some .cell ∨ env.kindOf x = some .free) ∧ ∃ c, env.cells.lookup x = some c ∧ h.IsCell c (some u))

structure Cx.Ok (X : Cx) : Prop where
  mod : Mod X.K X.mg X.base
  kind : X.env.scope.kind = .function
  glob : X.env.globals = mainGlobals
  blt : X.env.builtins = builtinsNs
  above : X.s₀.heap.objs.size ≤ X.env.locals
  inj : ∀ x y c, X.env.cells.lookup x = some c → X.env.cells.lookup y = some c → x = y
  has : ∀ x, (X.env.kindOf x = some .cell ∨ X.env.kindOf x = some .free) → ∃ c, X.env.cells.lookup x = some c
  cab : ∀ x c, X.fn x = true → X.env.cells.lookup x = some c → X.s₀.heap.objs.size ≤ c
  hd : X.calm = true → X.A.handled = none
  frames : X.A.frames = some X.stack
  stk : X.stack = X.outer ∨ (X.stack = X.env :: X.outer ∧ X.env.frame = some X.env.locals)
  exf : ∀ b ∈ X.ex, b ≠ X.env.locals ∧ ∀ x c, X.env.cells.lookup x = some c → c ≠ b
  bs : ∀ b o, X.base.get? b = some o → X.s₀.heap.get? b = some o ∧ X.H₀ b = none
  bsz : X.base.objs.size ≤ X.s₀.heap.objs.size
  noex : ∀ b o, X.base.get? b = some o → b ∉ X.ex
  exfs : ∀ b ∈ X.ex, b ∉ X.fs
  funs : X.s₀.heap.FunFrames X.base X.outer
  frf : ∀ b ∈ X.fs, X.H₀ b = none

structure Inv (X : Cx) (pins : List (Addr × Obj)) (σ : List (Option V)) (H : Hp) (s : Shared) : Prop where
  ok : X.Ok
  os : s.os = X.s₀.os
  bare : AllBare s.gens
  base : Un X.fs X.ex X.H₀ H X.s₀.heap s.heap
  loc : ∃ m, s.heap.Ns X.env.locals m ∧ ∀ (i : Nat) (x : Str) (v : V), X.N[i]? = some x → σ[i]? = some (some v) → Vis X.env.scope x → ∃ u, RelV v u ∧ Look X.env s.heap m x u
  cell : ∀ x c, X.env.cells.lookup x = some c → ∃ v, s.heap.IsCell c v
  free : H X.env.locals = none
  freeC : ∀ x c, X.env.cells.lookup x = some c → H c = none
  pin : ∀ p ∈ X.pn ++ pins, s.heap.get? p.1 = some p.2 ∧ H p.1 = none ∧ p.1 ≠ X.env.locals ∧ p.1 ∉ X.fs ∧ ∀ v, p.2.data ≠ .cell v
  hok : HOk X.prog X.w H s.heap
  len : σ.length = X.N.length

section
variable {X : Cx} {pins : List (Addr × Obj)} {σ : List (Option V)} {H H' : Hp} {s : Shared} {h' : Heap}

theorem Cx.Ok.nofr (ok : X.Ok) {b : Addr} {o : Obj} (e : X.base.get? b = some o) : b ∉ X.fs := fun hb => by
  have := (ok.funs.mem hb).1
  rw [e] at this; cases this
theorem Inv.bs (I : Inv X pins σ H s) : ∀ b o, X.base.get? b = some o → s.heap.get? b = some o ∧ H b = none := fun b o e =>
  ⟨I.base.keep b o (I.ok.bs b o e).1 (I.ok.bs b o e).2 (I.ok.nofr e) (I.ok.noex b o e), I.base.free b o (I.ok.bs b o e).1 (I.ok.bs b o e).2 (I.ok.noex b o e)⟩
theorem Inv.bk (I : Inv X pins σ H s) : ∀ b o, X.base.get? b = some o → s.heap.get? b = some o := fun b o e => (I.bs b o e).1
theorem Inv.mod (I : Inv X pins σ H s) : Mod X.K X.mg X.base := I.ok.mod
theorem Inv.kIn (I : Inv X pins σ H s) : X.K.In s.heap := I.ok.mod.kin.keeps I.bk
theorem Inv.lt (I : Inv X pins σ H s) : X.env.locals < s.heap.objs.size := let ⟨_, hn, _⟩ := I.loc; hn.lt
theorem Inv.sz (I : Inv X pins σ H s) : X.s₀.heap.objs.size ≤ s.heap.objs.size := Nat.le_trans I.ok.above (Nat.le_of_lt I.lt)
theorem Inv.nofs (I : Inv X pins σ H s) {a : Addr} (h : s.heap.objs.size ≤ a) : a ∉ X.fs := fun hb => by
  obtain ⟨_, o, ho, _⟩ := I.ok.funs.mem hb
  exact absurd (Nat.lt_of_lt_of_le (Heap.lt_size ho) (Nat.le_trans I.sz h)) (Nat.lt_irrefl _)
theorem Inv.cne (I : Inv X pins σ H s) : ∀ x c, X.env.cells.lookup x = some c → c ≠ X.env.locals := fun x c e z => by
  obtain ⟨v, o, ho, hd⟩ := I.cell x c e
  obtain ⟨m, ⟨o', es, ep, ho', hd', _⟩, _⟩ := I.loc
  rw [z, ho'] at ho; cases ho; rw [hd'] at hd; cases hd
theorem Inv.funs (I : Inv X pins σ H s) : s.heap.FunFrames X.base X.outer := by
  have all : ∀ (l : List Env), (∀ b ∈ frs l, b ∈ X.fs) → X.s₀.heap.FunFrames X.base l → s.heap.FunFrames X.base l := by
    intro l
    induction l with
    | nil => intro _ _; trivial
    | cons env r ih =>
      intro hs hl
      obtain ⟨hk, ⟨L, o, hf, hn, ho, hd⟩, hr⟩ := hl
      have hL : L ∈ X.fs := hs L (by unfold frs; rw [List.filterMap_cons, hf]; exact List.mem_cons_self)
      obtain ⟨sl, e⟩ := I.base.slot L o ho (I.ok.frf L hL) hL fun z => I.ok.exfs L z hL
      exact ⟨hk, ⟨L, _, hf, hn, e, hd⟩, ih (fun b hb => hs b (by unfold frs; rw [List.filterMap_cons, hf]; exact List.mem_cons_of_mem _ hb)) hr⟩
  exact all X.outer (fun _ hb => hb) I.ok.funs

/-- the frames that run, for a call -/
theorem Inv.stack (I : Inv X pins σ H s) : s.heap.FunFrames X.base X.stack := by
  rcases I.ok.stk with e | ⟨e, hf⟩
  · rw [e]; exact I.funs
  · rw [e]
    obtain ⟨m, hn, _⟩ := I.loc
    refine .cons (by rw [I.ok.kind]; decide) hf hn ?_ I.funs
    exact Heap.get?_none_of_le (Nat.le_trans I.ok.bsz I.ok.above)
theorem Inv.stkSub (I : Inv X pins σ H s) : ∀ b ∈ frs X.stack, b ∈ X.env.locals :: X.fs := fun b hb => by
  rcases I.ok.stk with e | ⟨e, hf⟩
  · rw [e] at hb; exact List.mem_cons_of_mem _ hb
  · rw [e] at hb
    unfold frs at hb
    rw [List.filterMap_cons, hf] at hb
    exact hb
theorem Inv.stkFree (I : Inv X pins σ H s) : ∀ b ∈ frs X.stack, H b = none := fun b hb => by
  rcases List.mem_cons.mp (I.stkSub b hb) with e | hb
  · rw [e]; exact I.free
  · obtain ⟨_, o, ho, _⟩ := I.ok.funs.mem hb
    exact I.base.free b o ho (I.ok.frf b hb) fun z => I.ok.exfs b z hb

/-- THE STEP: the untracked objects but the frame and the records at ch are kept (the callers' frames up to slots), the frame's map is kept, the new abstract heap is held -/
theorem Inv.step {g' : Array GenState} {t' : Nat} {d' : Drawn} {ch : List Addr} (I : Inv X pins σ H s)
    (hch : ∀ b ∈ ch, (b ∈ X.ex ∨ X.s₀.heap.objs.size ≤ b) ∧ b ≠ X.env.locals ∧ (∀ x c, X.env.cells.lookup x = some c → c ≠ b) ∧ ∀ p ∈ X.pn ++ pins, p.1 ≠ b)
    (keep : ∀ b o, b ≠ X.env.locals → b ∉ X.fs → b ∉ ch → s.heap.get? b = some o → H b = none → h'.get? b = some o)
    (slot : ∀ b o, b ≠ X.env.locals → b ∈ X.fs → b ∉ ch → s.heap.get? b = some o → H b = none → ∃ sl, h'.get? b = some { o with slots := sl }) (free : ∀ b o, b ∉ ch → s.heap.get? b = some o → H b = none → H' b = none)
    (there : ∀ b o, b ∉ ch → s.heap.get? b = some o → ∃ o', h'.get? b = some o')
    (tups : ∀ b xs, H b = some (.tup xs) → H' b = some (.tup xs)) (frzs : ∀ b o u, H b = some (.frz o u) → H' b = some (.frz o u)) (tbls : ∀ b ps, H b = some (.tbl ps) → ∃ more, H' b = some (.tbl (ps ++ more)))
    (ns : ∀ m, s.heap.Ns X.env.locals m → h'.Ns X.env.locals m) (hok : HOk X.prog X.w H' h') (hg : AllBare g') :
    Inv X pins σ H' { s with heap := h', gens := g', drawn := d', toks := t' } := by
  have neL : ∀ b o, X.s₀.heap.get? b = some o → b ≠ X.env.locals := fun b o e => Nat.ne_of_lt (Nat.lt_of_lt_of_le (Heap.lt_size e) I.ok.above)
  have neC : ∀ b o, X.s₀.heap.get? b = some o → b ∉ X.ex → b ∉ ch := fun b o e hx hb => by
    rcases (hch b hb).1 with z | z
    · exact hx z
    · exact absurd (Nat.lt_of_lt_of_le (Heap.lt_size e) z) (Nat.lt_irrefl _)
  have cellK : ∀ x c, X.env.cells.lookup x = some c → ∀ v, s.heap.IsCell c v → h'.IsCell c v := fun x c e v ⟨o, ho, hd⟩ => by
    have nch : c ∉ ch := fun z => (hch c z).2.2.1 x c e rfl
    by_cases hc : c ∈ X.fs
    · obtain ⟨sl, q⟩ := slot c o (I.cne x c e) hc nch ho (I.freeC x c e)
      exact ⟨_, q, hd⟩
    · exact ⟨o, keep c o (I.cne x c e) hc nch ho (I.freeC x c e), hd⟩
  refine ⟨I.ok, I.os, hg, ⟨fun b o e n hb hx => ?_, fun b o e n hb hx => ?_, fun b o e n hx => ?_, fun b o e hx => ?_, fun b xs e => tups b xs (I.base.tups b xs e), fun b o xs e => frzs b o xs (I.base.frzs b o xs e), fun b ps e => ?_⟩, ?_, fun x c e => ?_, ?_, fun x c e => ?_, fun p hp => ?_, hok, I.len⟩
  · exact keep b o (neL b o e) hb (neC b o e hx) (I.base.keep b o e n hb hx) (I.base.free b o e n hx)
  · obtain ⟨sl, e1⟩ := I.base.slot b o e n hb hx
    obtain ⟨sl', e2⟩ := slot b _ (neL b o e) hb (neC b o e hx) e1 (I.base.free b o e n hx)
    exact ⟨sl', e2⟩
  · obtain ⟨o', e1⟩ := I.base.there b o e hx
    exact free b o' (neC b o e hx) e1 (I.base.free b o e n hx)
  · obtain ⟨o', e1⟩ := I.base.there b o e hx
    exact there b o' (neC b o e hx) e1
  · obtain ⟨m1, e1⟩ := I.base.tbls b ps e
    obtain ⟨m2, e2⟩ := tbls b _ e1
    exact ⟨m1 ++ m2, by rw [e2, Array.append_assoc]⟩
  · obtain ⟨m, hn, hl⟩ := I.loc
    refine ⟨m, ns m hn, fun i x v e1 e2 e3 => ?_⟩
    obtain ⟨u, r, l⟩ := hl i x v e1 e2 e3
    refine ⟨u, r, ?_⟩
    rcases l with l | ⟨k, c, e, z⟩
    · exact .inl l
    · exact .inr ⟨k, c, e, cellK x c e _ z⟩
  · obtain ⟨v, z⟩ := I.cell x c e
    exact ⟨v, cellK x c e v z⟩
  · obtain ⟨m, ⟨o, _, _, ho, _⟩, _⟩ := I.loc
    exact free _ o (fun z => (hch _ z).2.1 rfl) ho I.free
  · obtain ⟨v, o, ho, hd⟩ := I.cell x c e
    exact free c o (fun z => (hch c z).2.2.1 x c e rfl) ho (I.freeC x c e)
  · obtain ⟨e, n, ne, nf, d⟩ := I.pin p hp
    have nch : p.1 ∉ ch := fun z => (hch p.1 z).2.2.2 p hp rfl
    exact ⟨keep p.1 p.2 ne nf nch e n, free p.1 p.2 nch e n, ne, nf, d⟩
/-- .. where the frame's own object is kept too -/
theorem Inv.un {t' : Nat} (I : Inv X pins σ H s) (u : Un X.fs [] H H' s.heap h') (hok : HOk X.prog X.w H' h') : Inv X pins σ H' { s with heap := h', toks := t' } := by
  obtain ⟨m, ⟨o, es, ep, ho, r⟩, _⟩ := id I.loc
  obtain ⟨sl, hL⟩ := u.any ho I.free (by simp)
  exact I.step (g' := s.gens) (d' := s.drawn) (ch := []) (fun _ z => nomatch z) (fun b o _ hb _ e n => u.keep b o e n hb (by simp)) (fun b o _ hb _ e n => u.slot b o e n hb (by simp)) (fun b o _ e n => u.free b o e n (by simp)) (fun b o _ e => u.there b o e (by simp)) u.tups u.frzs u.tbls (fun m' hm => by
    obtain ⟨o', es', ep', ho', r'⟩ := hm
    rw [ho] at ho'; cases ho'
    exact ⟨_, es', ep', hL, r'⟩) hok I.bare
/-- behind a call (or a comprehension's block): the slots of this frame may have changed too, the records at ch may have turned -/
theorem Inv.call {g' : Array GenState} {t' : Nat} {d' : Drawn} {ch : List Addr} (I : Inv X pins σ H s) (u : Un (frs X.stack) ch H H' s.heap h') (hok : HOk X.prog X.w H' h') (hg : AllBare g')
    (hch : ∀ b ∈ ch, (b ∈ X.ex ∨ X.s₀.heap.objs.size ≤ b) ∧ b ≠ X.env.locals ∧ (∀ x c, X.env.cells.lookup x = some c → c ≠ b) ∧ ∀ p ∈ X.pn ++ pins, p.1 ≠ b) :
    Inv X pins σ H' { s with heap := h', gens := g', drawn := d', toks := t' } := by
  obtain ⟨m, ⟨o, es, ep, ho, r⟩, _⟩ := id I.loc
  obtain ⟨sl, hL⟩ := u.any ho I.free fun z => (hch _ z).2.1 rfl
  exact I.step (ch := ch) hch (fun b o hL hb hc e n => u.keep b o e n (fun z => (List.mem_cons.mp (I.stkSub b z)).elim hL hb) hc) (fun b o _ _ hc e n => u.any e n hc) (fun b o hc e n => u.free b o e n hc) (fun b o hc e => u.there b o e hc) u.tups u.frzs u.tbls (fun m' hm => by
    obtain ⟨o', es', ep', ho', r'⟩ := hm
    rw [ho] at ho'; cases ho'
    exact ⟨_, es', ep', hL, r'⟩) hok hg
/-- an untracked record of ours (an iterator) has turned -/
theorem Inv.turned {t' : Nat} {it : Addr} (I : Inv X pins σ H s) (k : ∀ b o, b ≠ it → s.heap.get? b = some o → h'.get? b = some o) (hn : H it = none) (hL : it ≠ X.env.locals)
    (h1 : it ∈ X.ex ∨ X.s₀.heap.objs.size ≤ it) (h2 : ∀ x c, X.env.cells.lookup x = some c → c ≠ it) (h3 : ∀ p ∈ X.pn ++ pins, p.1 ≠ it) : Inv X pins σ H { s with heap := h', toks := t' } := by
  have nit : ∀ b u, H b = some u → b ≠ it := fun b u e z => by rw [z, hn] at e; cases e
  refine I.step (g' := s.gens) (d' := s.drawn) (ch := [it]) (fun b hb => ?_) (fun b o _ _ hc e _ => k b o (fun z => hc (by simp [z])) e) (fun b o _ _ hc e _ => ⟨o.slots, k b o (fun z => hc (by simp [z])) e⟩) (fun _ _ _ _ n => n)
    (fun b o hc e => ⟨o, k b o (fun z => hc (by simp [z])) e⟩) (fun _ _ e => e) (fun _ _ _ e => e) (fun b ps e => ⟨#[], by rw [e]; simp⟩) (fun m hm => ?_) (fun b u e => ?_) I.bare
  · have e : b = it := by simpa using hb
    subst e
    exact ⟨h1, hL, h2, h3⟩
  · obtain ⟨o, es, ep, ho, r⟩ := hm
    exact ⟨o, es, ep, k _ o (Ne.symm hL) ho, r⟩
  · refine (I.hok b u e).stay (fun c v hc q => k c v ?_ q) (fun _ q => q) fun _ _ q => q
    rcases hc with z | z
    · rw [z]; exact nit b u e
    · exact nit c _ z
theorem Inv.tok (I : Inv X pins σ H s) (t : Nat) : Inv X pins σ H { s with toks := t } := I.un (h' := s.heap) (t' := t) Un.refl I.hok
/-- all objects kept -/
theorem Inv.kept {t' : Nat} (I : Inv X pins σ H s) (k : ∀ b u, s.heap.get? b = some u → h'.get? b = some u) : Inv X pins σ H { s with heap := h', toks := t' } := I.un (Un.kept k) (I.hok.kept k)
/-- a new object laid and tracked -/
theorem Inv.laid {a : Addr} {o : HO} {t' : Nat} (I : Inv X pins σ H s) (k : ∀ b u, s.heap.get? b = some u → h'.get? b = some u) (hp : s.heap.objs.size ≤ a) (new : ObjOk X.prog X.w (upd H a o) h' a o) :
    Inv X pins σ (upd H a o) { s with heap := h', toks := t' } := I.un (Un.laid k hp (I.hok.fresh hp)) (I.hok.laid k hp new)
/-- an object written -/
theorem Inv.write {x e : Addr} {o : HO} {t' : Nat} (I : Inv X pins σ H s) (mu : Mut (H x)) (he : e = x ∨ H e = some (.own x)) (k : ∀ b u, b ≠ e → s.heap.get? b = some u → h'.get? b = some u) (heo : ∃ u, h'.get? e = some u)
    (new : ObjOk X.prog X.w (upd H x o) h' x o) : Inv X pins σ (upd H x o) { s with heap := h', toks := t' } := I.un (Un.write mu he k heo) (I.hok.write mu he k heo new)
theorem Inv.pins_of {pins' : List (Addr × Obj)} (I : Inv X pins σ H s) (h : ∀ p ∈ pins', s.heap.get? p.1 = some p.2 ∧ H p.1 = none ∧ p.1 ≠ X.env.locals ∧ p.1 ∉ X.fs ∧ ∀ v, p.2.data ≠ .cell v) : Inv X pins' σ H s :=
  ⟨I.ok, I.os, I.bare, I.base, I.loc, I.cell, I.free, I.freeC, fun p hp => (List.mem_append.mp hp).elim (fun z => I.pin p (List.mem_append_left _ z)) (h p), I.hok, I.len⟩

theorem nodup_ix {N : List Str} (hN : N.Nodup) {i j : Nat} {x : Str} (a : N[i]? = some x) (b : N[j]? = some x) : i = j := by
  obtain ⟨h1, e1⟩ := List.getElem?_eq_some_iff.mp a
  obtain ⟨h2, e2⟩ := List.getElem?_eq_some_iff.mp b
  exact (List.getElem_inj hN).mp (e1.trans e2.symm)

/-- a name is stored; what changed -/
theorem store_ok2 {M : Model} {A : Around} {E : Value → Shared → Prop} {i : Nat} {x : Str} {v : V} {u : Value} {Q : Unit → Shared → Prop} (I : Inv X pins σ H s) (hN : X.N.Nodup) (hi : X.N[i]? = some x) (hx : Loc X.env.scope x) (r : RelV v u)
    (h : ∀ s', Inv X pins (σ.set i (some v)) H s' → (∃ a, Heap.SameBut a s.heap s'.heap ∧ (a = X.env.locals ∨ X.env.cells.lookup x = some a)) → Q () s') (hf : X.fn x = true ∨ X.env.scope.names.lookup x = some .local := by first | exact .inl rfl | exact .inr rfl | assumption) : wpAny M A (storeName X.env x u) Q E s := by
  obtain ⟨m, hn, hl⟩ := id I.loc
  have hcls : (X.env.scope.kind == .class || (X.env.scope.kind == .module && X.env.locals != X.env.globals)) = false := by rw [I.ok.kind]; rfl
  have hiσ : i < σ.length := by rw [I.len]; exact (List.getElem?_eq_some_iff.mp hi).1
  have cne := I.cne
  have tracked : ∀ {a : Addr} {h' : Heap}, (∃ o, s.heap.get? a = some o ∧ H a = none) → Heap.SameBut a s.heap h' → HOk X.prog X.w H h' := fun {a h'} ha hs b ob e => by
    obtain ⟨_, _, hfree⟩ := ha
    refine (I.hok b ob e).stay (fun c w' hc q => (hs.2 c ?_).trans q) (fun _ q => q) fun _ _ q => q
    rintro rfl
    rcases hc with rfl | hc
    · rw [hfree] at e; cases e
    · rw [hfree] at hc; cases hc
  rcases hx with hk | hk
  · refine wpAny_storeName_local hk hn (fun h' hn' hs => ?_) hcls
    obtain ⟨oL, _, _, hoL, _⟩ := id hn
    refine h _ ⟨I.ok, I.os, I.bare, ⟨fun b o e n hb hx => ?_, fun b o e n hb hx => ?_, I.base.free, fun b o e hx => ?_, I.base.tups, I.base.frzs, I.base.tbls⟩, ⟨_, hn', fun j y v' e1 e2 e3 => ?_⟩, fun y c e => ?_, I.free, I.freeC, fun p hp => ?_, tracked ⟨oL, hoL, I.free⟩ hs, by simpa using I.len⟩ ⟨_, hs, .inl rfl⟩
    · exact (hs.2 b (Nat.ne_of_lt (Nat.lt_of_lt_of_le (Heap.lt_size e) I.ok.above))).trans (I.base.keep b o e n hb hx)
    · obtain ⟨sl, e1⟩ := I.base.slot b o e n hb hx
      exact ⟨sl, (hs.2 b (Nat.ne_of_lt (Nat.lt_of_lt_of_le (Heap.lt_size e) I.ok.above))).trans e1⟩
    · obtain ⟨o', e1⟩ := I.base.there b o e hx
      exact ⟨o', (hs.2 b (Nat.ne_of_lt (Nat.lt_of_lt_of_le (Heap.lt_size e) I.ok.above))).trans e1⟩
    · by_cases hj : j = i
      · subst hj
        rw [hi] at e1; cases e1
        rw [List.getElem?_set_self hiσ] at e2
        cases e2
        exact ⟨u, r, .inl ⟨hk, by simp⟩⟩
      · rw [List.getElem?_set_ne (Ne.symm hj)] at e2
        obtain ⟨u', r', q⟩ := hl j y v' e1 e2 e3
        refine ⟨u', r', ?_⟩
        rcases q with ⟨k, e⟩ | ⟨k, c, e, z⟩
        · refine .inl ⟨k, ?_⟩
          have : y ≠ x := fun e => hj (nodup_ix hN e1 (e ▸ hi))
          simp [this, e]
        · exact .inr ⟨k, c, e, z.sameBut hs (cne y c e)⟩
    · obtain ⟨w', z⟩ := I.cell y c e
      exact ⟨w', z.sameBut hs (cne y c e)⟩
    · obtain ⟨e, n, ne, nf, d⟩ := I.pin p hp
      exact ⟨(hs.2 p.1 ne).trans e, n, ne, nf, d⟩
  · have hfn : X.fn x = true := by
      rcases hf with z | z
      · exact z
      · rw [z] at hk; cases hk
    obtain ⟨c, hc⟩ := I.ok.has x (.inl hk)
    obtain ⟨w', z⟩ := I.cell x c hc
    refine wpAny_storeName_cell I.ok.kind hk hc z (fun h' hc' hs => ?_)
    obtain ⟨oc, hoc, hocd⟩ := id z
    refine h { s with heap := h' } ⟨I.ok, I.os, I.bare, ⟨fun b o e n hb hx => ?_, fun b o e n hb hx => ?_, I.base.free, fun b o e hx => ?_, I.base.tups, I.base.frzs, I.base.tbls⟩, ⟨m, hn.sameBut hs (Ne.symm (cne x c hc)), fun j y v' e1 e2 e3 => ?_⟩, fun y c' e => ?_, I.free, I.freeC, fun p hp => ?_, tracked ⟨oc, hoc, I.freeC x c hc⟩ hs, by simpa using I.len⟩ ⟨c, hs, .inr hc⟩
    · exact (hs.2 b (Nat.ne_of_lt (Nat.lt_of_lt_of_le (Heap.lt_size e) (I.ok.cab x c hfn hc)))).trans (I.base.keep b o e n hb hx)
    · obtain ⟨sl, e1⟩ := I.base.slot b o e n hb hx
      exact ⟨sl, (hs.2 b (Nat.ne_of_lt (Nat.lt_of_lt_of_le (Heap.lt_size e) (I.ok.cab x c hfn hc)))).trans e1⟩
    · obtain ⟨o', e1⟩ := I.base.there b o e hx
      exact ⟨o', (hs.2 b (Nat.ne_of_lt (Nat.lt_of_lt_of_le (Heap.lt_size e) (I.ok.cab x c hfn hc)))).trans e1⟩
    · by_cases hj : j = i
      · subst hj
        rw [hi] at e1; cases e1
        rw [List.getElem?_set_self hiσ] at e2
        cases e2
        exact ⟨u, r, .inr ⟨.inl hk, c, hc, hc'⟩⟩
      · rw [List.getElem?_set_ne (Ne.symm hj)] at e2
        obtain ⟨u', r', q⟩ := hl j y v' e1 e2 e3
        refine ⟨u', r', ?_⟩
        rcases q with q | ⟨k, c', e, z'⟩
        · exact .inl q
        · refine .inr ⟨k, c', e, z'.sameBut hs ?_⟩
          rintro rfl
          exact hj (nodup_ix hN e1 (I.ok.inj _ _ _ e hc ▸ hi))
    · by_cases hcc : c' = c
      · subst hcc; exact ⟨_, hc'⟩
      · obtain ⟨w2, z2⟩ := I.cell y c' e
        exact ⟨w2, z2.sameBut hs hcc⟩
    · obtain ⟨e, n, ne, nf, d⟩ := I.pin p hp
      refine ⟨(hs.2 p.1 ?_).trans e, n, ne, nf, d⟩
      intro q
      rw [q, hoc] at e
      have q' : oc = p.2 := Option.some.inj e
      exact d w' (by rw [← q']; exact hocd)
theorem store_ok {M : Model} {A : Around} {E : Value → Shared → Prop} {i : Nat} {x : Str} {v : V} {u : Value} {Q : Unit → Shared → Prop} (I : Inv X pins σ H s) (hN : X.N.Nodup) (hi : X.N[i]? = some x) (hx : Loc X.env.scope x) (r : RelV v u)
    (h : ∀ s', Inv X pins (σ.set i (some v)) H s' → Q () s') (hf : X.fn x = true ∨ X.env.scope.names.lookup x = some .local := by first | exact .inl rfl | exact .inr rfl | assumption) : wpAny M A (storeName X.env x u) Q E s :=
  store_ok2 I hN hi hx r (fun s' I' _ => h s' I') hf
/-- behind a call or a block, the state as it is -/
theorem Inv.call' {s' : Shared} {ch : List Addr} (I : Inv X pins σ H s) (ho : s'.os = s.os) (u : Un (frs X.stack) ch H H' s.heap s'.heap) (hok : HOk X.prog X.w H' s'.heap) (hg : AllBare s'.gens)
    (hch : ∀ b ∈ ch, (b ∈ X.ex ∨ X.s₀.heap.objs.size ≤ b) ∧ b ≠ X.env.locals ∧ (∀ x c, X.env.cells.lookup x = some c → c ≠ b) ∧ ∀ p ∈ X.pn ++ pins, p.1 ≠ b) : Inv X pins σ H' s' := by
  obtain ⟨h', g', d', t', o'⟩ := s'
  have e : o' = s.os := ho
  subst e
  exact I.call (g' := g') (t' := t') (d' := d') u hok hg hch
end

/-! ### the judgements -/
/-- an exception: its class, its own dict's address (where it has one), the abstract heap behind it -/
abbrev XK := Value → Option Addr → Hp → Prop
abbrev St := List (Option V)
abbrev VK := V → Hp → Prop
/-- an expression's reading; a test's; an argument list's -/
abbrev TE := St → Hp → VK → Prop
abbrev TT := St → Hp → (Bool → Hp → Prop) → Prop
abbrev TA := St → Hp → (List V → Hp → Prop) → Prop
/-- what is wanted behind a statement -/
structure Ends where
  nx : St → Hp → Prop
  rt : VK
  bk : St → Hp → Prop := fun _ _ => False
  ct : St → Hp → Prop := fun _ _ => False
abbrev TS := Ends → St → Hp → Prop

def EP (X : Cx) (pins : List (Addr × Obj)) (σ : St) (Q : VK) (u : Value) (s' : Shared) : Prop := ∃ v H', Inv X pins σ H' s' ∧ RelV v u ∧ Q v H'
def TP (X : Cx) (pins : List (Addr × Obj)) (σ : St) (Q : Bool → Hp → Prop) (b : Bool) (s' : Shared) : Prop := ∃ H', Inv X pins σ H' s' ∧ Q b H'
def AP (X : Cx) (pins : List (Addr × Obj)) (σ : St) (Q : List V → Hp → Prop) (us : List Value) (s' : Shared) : Prop := ∃ vs H', Inv X pins σ H' s' ∧ Vals vs us ∧ Q vs H'
def SP (X : Cx) (pins : List (Addr × Obj)) (D : Ends) (f : Flow) (s' : Shared) : Prop :=
  match f with
  | .next => ∃ σ' H', Inv X pins σ' H' s' ∧ D.nx σ' H'
  | .brk => ∃ σ' H', Inv X pins σ' H' s' ∧ D.bk σ' H'
  | .cont => ∃ σ' H', Inv X pins σ' H' s' ∧ D.ct σ' H'
  | .ret u => ∃ v σ' H', Inv X pins σ' H' s' ∧ RelV v u ∧ D.rt v H'

def PE (X : Cx) (e : Expr) (t : TE) : Prop :=
  ∀ (pins : List (Addr × Obj)) (s : Shared) (σ : St) (H : Hp) (Q : VK), Inv X pins σ H s → t σ H Q → wpAny (model X.prog X.w) X.A (eval e X.env) (EP X pins σ Q) X.xe s
def PT (X : Cx) (e : Expr) (t : TT) : Prop :=
  ∀ (pins : List (Addr × Obj)) (s : Shared) (σ : St) (H : Hp) (Q : Bool → Hp → Prop), Inv X pins σ H s → t σ H Q → wpAny (model X.prog X.w) X.A (isTrue e X.env (eval e X.env)) (TP X pins σ Q) X.xe s
/-- a test whatever its 'whole' is (and, or) -/
def PW (X : Cx) (e : Expr) (t : TT) : Prop :=
  ∀ (whole : Sem Value) (pins : List (Addr × Obj)) (s : Shared) (σ : St) (H : Hp) (Q : Bool → Hp → Prop), Inv X pins σ H s → t σ H Q → wpAny (model X.prog X.w) X.A (isTrue e X.env whole) (TP X pins σ Q) X.xe s
theorem PW.pt {X : Cx} {e : Expr} {t : TT} (h : PW X e t) : PT X e t := h _
/-- an argument list (no star), from the left -/
def PA (X : Cx) (es : List Expr) (t : TA) : Prop :=
  ∀ (pos : Pos) (pins : List (Addr × Obj)) (s : Shared) (σ : St) (H : Hp) (Q : List V → Hp → Prop), Inv X pins σ H s → t σ H Q → wpAny (model X.prog X.w) X.A (spliced (backTo pos (starEach es X.env))) (AP X pins σ Q) X.xe s
def PS (X : Cx) (st : Stmt) (t : TS) : Prop :=
  ∀ (pins : List (Addr × Obj)) (s : Shared) (σ : St) (H : Hp) (D : Ends), Inv X pins σ H s → t D σ H → wpAny (model X.prog X.w) X.A (exec st X.env) (SP X pins D) X.xe s
def PSs (X : Cx) (st : List Stmt) (t : TS) : Prop :=
  ∀ (pins : List (Addr × Obj)) (s : Shared) (σ : St) (H : Hp) (D : Ends), Inv X pins σ H s → t D σ H → wpAny (model X.prog X.w) X.A (execs st X.env) (SP X pins D) X.xe s
/-- weaken the end -/
theorem thn {α : Type} {t : Sem α} {Q Q' : α → Shared → Prop} {M : Model} {A : Around} {E : Value → Shared → Prop} {s : Shared} (h : wpAny M A t Q E s) (hQ : ∀ a s, Q a s → Q' a s) : wpAny M A t Q' E s := wpAny_mono h hQ fun _ _ x => x
end L2

namespace L2
open PySem PySem.Spec PyProof.Rows
section
variable {X : Cx}

/-! ### names and constants -/
def tVar (i : Nat) : TE := fun σ H Q => ∃ v, σ[i]? = some (some v) ∧ Q v H
def tC (v : V) : TE := fun _ H Q => Q v H
theorem pe_var {i : Nat} {x : Str} {pos : Pos} (hN : X.N[i]? = some x) (hv : Vis X.env.scope x) (hd : (x == ("__debug__" : Str)) = false := by decide) (hcd : (x == ("__classdict__" : Str)) = false := by decide) : PE X (.Name x pos) (tVar i) := by
  intro pins s σ H Q I h
  obtain ⟨v, e, h⟩ := h
  obtain ⟨m, hn, hl⟩ := I.loc
  obtain ⟨u, r, l⟩ := hl i x v hN e hv
  have fin : EP X pins σ Q u s := ⟨v, H, I, r, h⟩
  rcases l with ⟨hk, hm⟩ | ⟨hk, c, hc, hcell⟩
  · exact wpAny_Name (wpAny_loadName_local I.ok.kind hk hn hm fin) hd
  · rcases hk with hk | hk
    · exact wpAny_Name (wpAny_loadName_cell I.ok.kind hk hc hcell fin) hd
    · exact wpAny_Name (wpAny_loadName_free I.ok.kind hk hc hcell fin hcd) hd
theorem pe_int {i j pos} : PE X (.Constant (.int i) j pos) (tC (.int i)) := fun _ _ _ H _ I h => wpAny_Constant_int ⟨.int i, H, I.tok _, ⟨_, rfl⟩, h⟩
theorem pe_bl {b j pos} : PE X (.Constant (.bool b) j pos) (tC (.bl b)) := fun _ _ _ H _ I h => Constant_bool ⟨.bl b, H, I, rfl, h⟩
theorem pe_str {x j pos} : PE X (.Constant (.str x) j pos) (tC (.str x)) := fun _ _ _ H _ I h => Calls.Constant_str ⟨.str x, H, I.tok _, ⟨_, rfl⟩, h⟩

/-- a global name of the def -/
def Gl (X : Cx) (x : Str) : Prop := X.env.kindOf x = some .globalImplicit
theorem ld_glob {E : Value → Shared → Prop} {pins : List (Addr × Obj)} {s : Shared} {σ : St} {H : Hp} {x : Str} {u : Value} {pos : Pos} {Q : Value → Shared → Prop} (I : Inv X pins σ H s) (hg : Gl X x) (hm : X.mg x = some u) (h : Q u s)
    (hd : (x == ("__debug__" : Str)) = false := by decide) : wpAny (model X.prog X.w) X.A (eval (.Name x pos) X.env) Q E s :=
  Calls.Name_function_global I.ok.kind hg (Calls.loadGlobal_global (by rw [I.ok.glob]; exact I.mod.glob.keeps I.bk) hm h) hd
theorem ld_blt {E : Value → Shared → Prop} {pins : List (Addr × Obj)} {s : Shared} {σ : St} {H : Hp} {x : Str} {u : Value} {pos : Pos} {Q : Value → Shared → Prop} (I : Inv X pins σ H s) (hg : Gl X x) (hm : X.mg x = none) (hv : bootBuiltins x = some u) (h : Q u s)
    (hn : x ≠ "__name__" := by decide) (hd : (x == ("__debug__" : Str)) = false := by decide) : wpAny (model X.prog X.w) X.A (eval (.Name x pos) X.env) Q E s := by
  obtain ⟨mb, h1, h2⟩ := I.mod.blt
  exact Calls.Name_function_global I.ok.kind hg (Calls.loadGlobal_builtin (by rw [I.ok.glob]; exact I.mod.glob.keeps I.bk) hm (by rw [I.ok.blt]; exact h1.keeps I.bk) ((h2 x hn).trans hv) h) hd
theorem pe_bltn {x : Str} {v : V} {u : Value} {pos : Pos} (hg : Gl X x) (hm : X.mg x = none) (hv : bootBuiltins x = some u) (r : RelV v u) (hn : x ≠ "__name__" := by decide) (hd : (x == ("__debug__" : Str)) = false := by decide) : PE X (.Name x pos) (tC v) :=
  fun _ _ _ H _ I h => ld_blt I hg hm hv ⟨v, H, I, r, h⟩ hn hd

/-! ### arithmetic -/
variable {a b : Expr} {ta tb : TE} {pos : Pos}
/-! ### comparisons -/
def PC (X : Cx) (op : CmpOp) (a b : Expr) (t : TE) : Prop :=
  ∀ (pins : List (Addr × Obj)) (s : Shared) (σ : St) (H : Hp) (Q : VK), Inv X pins σ H s → t σ H Q →
    wpAny (model X.prog X.w) X.A (eval a X.env) (fun v s₁ => wpAny (model X.prog X.w) X.A (eval b X.env) (fun u s₂ => wpAny (model X.prog X.w) X.A (compareOp op v u) (EP X pins σ Q) X.xe s₂) X.xe s₁) X.xe s
/-- a comparison as a value, as a test -/
def tB (t : TE) : TT := fun σ H Q => t σ H fun x H1 => ∃ c, x = .bl c ∧ Q c H1
theorem pt_cmp {op : CmpOp} {t : TE} (h : PC X op a b t) (h1 : behindInMarks op b = false := by first | exact nobehind _ (by decide) (by decide) | rfl) : PT X (.Compare a [op] [b] pos) (tB t) := by
  intro pins s σ H Q I hw
  refine wpAny_isTrue_Compare1 (thn (h pins s σ H _ I hw) fun v s1 h1 => thn h1 fun u s2 h2 => thn h2 fun c s3 ⟨x, H1, I1, r1, q1⟩ => ?_) h1
  obtain ⟨d, rfl, q⟩ := q1
  cases r1
  exact wpAny_truthy_bool ⟨H1, I1, q⟩
/-! ### and, or, not -/
variable {tA tB' : TT} {rest : List Expr}
def tAnd (t u : TT) : TT := fun σ H Q => t σ H fun c H1 => if c = true then u σ H1 Q else Q false H1
def tOr (t u : TT) : TT := fun σ H Q => t σ H fun c H1 => if c = true then Q true H1 else u σ H1 Q
def tNot (t : TT) : TT := fun σ H Q => t σ H fun c H1 => Q (!c) H1
theorem pw_and1 (ha : PT X a tA) : PW X (.BoolOp .And [a] pos) tA := by
  intro wh pins s σ H Q I h
  refine isTrue_and (thn (ha pins s σ H Q I h) fun c s1 e => ?_)
  cases c with
  | true => exact isTrue_and_nil e
  | false => exact e
theorem pw_or1 (ha : PT X a tA) : PW X (.BoolOp .Or [a] pos) tA := by
  intro wh pins s σ H Q I h
  refine isTrue_or (thn (ha pins s σ H Q I h) fun c s1 e => ?_)
  cases c with
  | false => exact isTrue_or_nil e
  | true => exact e
theorem pw_and (ha : PT X a tA) (hb : PW X (.BoolOp .And (b :: rest) pos) tB') : PW X (.BoolOp .And (a :: b :: rest) pos) (tAnd tA tB') := by
  intro wh pins s σ H Q I h
  refine isTrue_and (thn (ha pins s σ H _ I h) fun c s1 ⟨H1, I1, q1⟩ => ?_)
  cases c with
  | true => exact hb wh pins s1 σ H1 Q I1 q1
  | false => exact ⟨H1, I1, q1⟩
theorem pw_or (ha : PT X a tA) (hb : PW X (.BoolOp .Or (b :: rest) pos) tB') : PW X (.BoolOp .Or (a :: b :: rest) pos) (tOr tA tB') := by
  intro wh pins s σ H Q I h
  refine isTrue_or (thn (ha pins s σ H _ I h) fun c s1 ⟨H1, I1, q1⟩ => ?_)
  cases c with
  | true => exact ⟨H1, I1, q1⟩
  | false => exact hb wh pins s1 σ H1 Q I1 q1
theorem pt_not (ha : PT X a tA) : PT X (.UnaryOp .Not a pos) (tNot tA) := by
  intro pins s σ H Q I h
  exact isTrue_not (ha pins s σ H (fun c H1 => Q (!c) H1) I h)
/-- .. as values (bools) -/
def tAndV (ta tb : TE) : TE := fun σ H Q => ta σ H fun x H1 => ∃ c, x = .bl c ∧ if c = true then tb σ H1 Q else Q (.bl false) H1
def tNotV (ta : TE) : TE := fun σ H Q => ta σ H fun x H1 => ∃ c, x = .bl c ∧ Q (.bl (!c)) H1
theorem pe_one {op} {t : TE} (h : PE X a t) : PE X (.BoolOp op [a] pos) t := fun pins s σ H Q I hw => BoolOp_one (h pins s σ H Q I hw)
theorem pe_and (ha : PE X a ta) (hb : PE X (.BoolOp .And (b :: rest) pos) tb) : PE X (.BoolOp .And (a :: b :: rest) pos) (tAndV ta tb) := by
  intro pins s σ H Q I h
  refine BoolOp_and (thn (ha pins s σ H _ I h) fun v s1 ⟨x, H1, I1, r1, q1⟩ => ?_)
  obtain ⟨c, rfl, q1⟩ := q1
  cases r1
  refine wpAny_truthy_bool ?_
  cases c with
  | true => exact hb pins s1 σ H1 Q I1 q1
  | false => exact ⟨.bl false, H1, I1, rfl, q1⟩
theorem pe_not (ha : PE X a ta) : PE X (.UnaryOp .Not a pos) (tNotV ta) := by
  intro pins s σ H Q I h
  refine UnaryOp_ (thn (ha pins s σ H _ I h) fun v s1 ⟨x, H1, I1, r1, q1⟩ => ?_)
  obtain ⟨c, rfl, q1⟩ := q1
  cases r1
  exact not_of (wpAny_truthy_bool ⟨.bl (!c), H1, I1, rfl, q1⟩)
/-- a if t else b -/
def tIf (t : TT) (ta tb : TE) : TE := fun σ H Q => t σ H fun c H1 => if c = true then ta σ H1 Q else tb σ H1 Q
theorem pe_ifExp {c : Expr} (hc : PT X c tA) (ha : PE X a ta) (hb : PE X b tb) : PE X (.IfExp c a b pos) (tIf tA ta tb) := by
  intro pins s σ H Q I h
  refine wpAny_IfExp (thn (hc pins s σ H _ I h) fun d s1 ⟨H1, I1, q1⟩ => ?_)
  cases d with
  | true => exact ha pins s1 σ H1 Q I1 q1
  | false => exact hb pins s1 σ H1 Q I1 q1
end
end L2

namespace L2
open PySem PySem.Spec PyProof.Rows

/-! ### a list, a tuple that is read: tracked, frozen, or an object of the module -/
def SqL (K : PySem.W.Frag) (H : Hp) (a : Addr) (xs : List V) : Prop :=
  Rd H a (.lst xs) ∨
    ∃ (o : Obj) (its : Array Value) (n : Nat), K.lookup a = some o ∧ o.cls = .type "list" ∧ o.dict = none ∧ o.data = .seq its n ∧ its.size ≤ sizeLine ∧ Vals xs its.toList
def SqT (K : PySem.W.Frag) (H : Hp) (a : Addr) (xs : List V) : Prop :=
  Rd H a (.tup xs) ∨
    ∃ (o : Obj) (its : Array Value) (n : Nat), K.lookup a = some o ∧ o.cls = .type "tuple" ∧ o.data = .seq its n ∧ its.size ≤ sizeLine ∧ Vals xs its.toList
def absV : Value → Option V
  | .none => some .non
  | .bool b => some (.bl b)
  | .int i _ => some (.int i)
  | .str x _ => some (.str x)
  | .bytes b _ => some (.byt b)
  | .float b _ => some (.flt b)
  | .ref a => some (.ref a)
  | .type n => some (.ty n)
  | _ => none
theorem RelV.abs {x : V} {u : Value} (r : RelV x u) : absV u = some x := by
  cases x with
  | non => cases r; rfl
  | bl _ => cases r; rfl
  | int _ => obtain ⟨t, rfl⟩ := r; rfl
  | str _ => obtain ⟨t, rfl⟩ := r; rfl
  | byt _ => obtain ⟨t, rfl⟩ := r; rfl
  | flt _ => obtain ⟨t, rfl⟩ := r; rfl
  | ref _ => cases r; rfl
  | ty _ => cases r; rfl
theorem RelV.inj {x y : V} {u : Value} (r : RelV x u) (q : RelV y u) : x = y := Option.some.inj (r.abs.symm.trans q.abs)
theorem Vals.inj : ∀ {xs ys : List V} {us : List Value}, Vals xs us → Vals ys us → xs = ys
  | _, _, _, .nil, .nil => rfl
  | _, _, _, .cons r t, .cons r' t' => by rw [r.inj r', Vals.inj t t']
section
variable {X : Cx} {pins : List (Addr × Obj)} {σ : St} {H : Hp} {s : Shared} {a : Addr} {xs ys : List V}
theorem SqL.of {K : PySem.W.Frag} (h : H a = some (.lst xs)) : SqL K H a xs := .inl (.inl h)
theorem SqT.of {K : PySem.W.Frag} (h : H a = some (.tup xs)) : SqT K H a xs := .inl (.inl h)
theorem Inv.list (I : Inv X pins σ H s) (h : SqL X.K H a xs) : ∃ its : List Value, Vals xs its ∧ PlainL s.heap a its.toArray ∧ xs.length ≤ sizeLine := by
  rcases h with h | ⟨o, its, n, hk, hc, hd, hs, hz, r⟩
  · obtain ⟨z, its, n, r, e⟩ := h.ok I.hok
    exact ⟨its, r, ⟨_, n, e, rfl, rfl, rfl⟩, z⟩
  · refine ⟨its.toList, r, ⟨o, n, I.kIn a o hk, hc, hd, by simpa using hs⟩, ?_⟩
    have e := r.length
    simp only [Array.length_toList] at e
    (first | lia | omega)
theorem Inv.tuple (I : Inv X pins σ H s) (h : SqT X.K H a xs) : ∃ its : List Value, Vals xs its ∧ IsTup s.heap a its.toArray ∧ xs.length ≤ sizeLine := by
  rcases h with h | ⟨o, its, n, hk, hc, hs, hz, r⟩
  · obtain ⟨z, its, r, p⟩ := h.ok I.hok
    exact ⟨its, r, p, z⟩
  · refine ⟨its.toList, r, ⟨o, I.kIn a o hk, hc, n, by simpa using hs⟩, ?_⟩
    have e := r.length
    simp only [Array.length_toList] at e
    (first | lia | omega)
theorem Inv.list_inj (I : Inv X pins σ H s) (h : SqL X.K H a xs) (h' : SqL X.K H a ys) : xs = ys := by
  obtain ⟨its, r, ⟨o, n, e, _, _, d⟩, _⟩ := I.list h
  obtain ⟨its', r', ⟨o', n', e', _, _, d'⟩, _⟩ := I.list h'
  rw [e] at e'; cases e'
  rw [d] at d'
  injection d' with d1 _
  have : its = its' := by simpa using congrArg Array.toList d1
  subst this
  exact r.inj r'
theorem Inv.tuple_inj (I : Inv X pins σ H s) (h : SqT X.K H a xs) (h' : SqT X.K H a ys) : xs = ys := by
  obtain ⟨its, r, ⟨o, e, _, n, d⟩, _⟩ := I.tuple h
  obtain ⟨its', r', ⟨o', e', _, n', d'⟩, _⟩ := I.tuple h'
  rw [e] at e'; cases e'
  rw [d] at d'
  injection d' with d1 _
  have : its = its' := by simpa using congrArg Array.toList d1
  subst this
  exact r.inj r'
end

/-! ### another wish about exceptions -/
abbrev Cx.wish (X : Cx) (E : Value → Shared → Prop) : Cx := { X with xe := E }
/-- no exception leaves -/
abbrev Cx.nox (X : Cx) : Cx := X.wish fun _ _ => False
theorem Cx.Ok.wish {X : Cx} (ok : X.Ok) (E : Value → Shared → Prop) : (X.wish E).Ok :=
  ⟨ok.mod, ok.kind, ok.glob, ok.blt, ok.above, ok.inj, ok.has, ok.cab, ok.hd, ok.frames, ok.stk, ok.exf, ok.bs, ok.bsz, ok.noex, ok.exfs, ok.funs, ok.frf⟩
theorem Cx.Ok.unwish {X : Cx} {E : Value → Shared → Prop} (ok : (X.wish E).Ok) : X.Ok :=
  ⟨ok.mod, ok.kind, ok.glob, ok.blt, ok.above, ok.inj, ok.has, ok.cab, ok.hd, ok.frames, ok.stk, ok.exf, ok.bs, ok.bsz, ok.noex, ok.exfs, ok.funs, ok.frf⟩
section
variable {X : Cx} {pins : List (Addr × Obj)} {σ : St} {H : Hp} {s : Shared} {E : Value → Shared → Prop}
theorem Inv.wish (I : Inv X pins σ H s) (E : Value → Shared → Prop) : Inv (X.wish E) pins σ H s := ⟨I.ok.wish E, I.os, I.bare, I.base, I.loc, I.cell, I.free, I.freeC, I.pin, I.hok, I.len⟩
theorem Inv.unwish (I : Inv (X.wish E) pins σ H s) : Inv X pins σ H s := ⟨I.ok.unwish, I.os, I.bare, I.base, I.loc, I.cell, I.free, I.freeC, I.pin, I.hok, I.len⟩
theorem SP.unwish {D : Ends} {f : Flow} {s' : Shared} (h : SP (X.wish E) pins D f s') : SP X pins D f s' := by
  cases f with
  | next => obtain ⟨σ', H', I, q⟩ := h; exact ⟨σ', H', I.unwish, q⟩
  | brk => obtain ⟨σ', H', I, q⟩ := h; exact ⟨σ', H', I.unwish, q⟩
  | cont => obtain ⟨σ', H', I, q⟩ := h; exact ⟨σ', H', I.unwish, q⟩
  | ret u => obtain ⟨v, σ', H', I, r, q⟩ := h; exact ⟨v, σ', H', I.unwish, r, q⟩
theorem PSs.nox {st : List Stmt} {t : TS} (h : PSs X.nox st t) : PSs X st t := fun pins s σ H D I hw =>
  wpAny_mono (h pins s σ H D (I.wish _) hw) (fun _ _ q => q.unwish) fun _ _ z => False.elim z
end

/-! ### blocks and small statements -/
section
variable {X : Cx} {st : Stmt} {rest : List Stmt} {t u : TS} {e : Expr} {te : TE} {pos : Pos}
def tNext : TS := fun D σ H => D.nx σ H
def tSeq (t u : TS) : TS := fun D σ H => t { D with nx := u D } σ H
theorem pss_nil : PSs X [] tNext := fun _ _ σ H _ I h => wpAny_execs_nil ⟨σ, H, I, h⟩
theorem pss_cons (h1 : PS X st t) (h2 : PSs X rest u) : PSs X (st :: rest) (tSeq t u) := by
  intro pins s σ H D I h
  refine wpAny_execs_cons (thn (h1 pins s σ H { D with nx := u D } I h) fun f s1 q => ?_)
  cases f with
  | next =>
    obtain ⟨σ', H', I', q⟩ := q
    exact h2 pins s1 σ' H' D I' q
  | ret v => exact q
  | brk => exact q
  | cont => exact q
theorem pss_one (h1 : PS X st t) : PSs X [st] t := by
  intro pins s σ H D I h
  refine wpAny_execs_cons (thn (h1 pins s σ H D I h) fun f s1 q => ?_)
  cases f with
  | next => exact wpAny_execs_nil q
  | ret v => exact q
  | brk => exact q
  | cont => exact q
/-- in a def's body nothing is shown -/
theorem Inv.quiet {pins : List (Addr × Obj)} {σ : St} {H : Hp} {s : Shared} (I : Inv X pins σ H s) : interactive X.env = false := by simp [interactive, I.ok.kind]
/-- an expression whose value is dropped -/
def tDrop (te : TE) : TS := fun D σ H => te σ H fun _ H1 => D.nx σ H1
theorem ps_expr (he : PE X e te) (hs : swapsWith e none pos.line X.env = pure false := by rfl) : PS X (.Expr e pos) (tDrop te) := by
  intro pins s σ H D I h
  exact wpAny_Expr_any (thn (he pins s σ H _ I h) fun v s1 ⟨x, H1, I1, r1, q1⟩ => ⟨σ, H1, I1, q1⟩) I.quiet hs
def tRet (te : TE) : TS := fun D σ H => te σ H D.rt
theorem ps_ret (he : PE X e te) : PS X (.Return (some e) pos) (tRet te) := by
  intro pins s σ H D I h
  exact wpAny_Return_some (thn (he pins s σ H _ I h) fun v s1 ⟨x, H1, I1, r1, q1⟩ => ⟨x, σ, H1, I1, r1, q1⟩)
def tIfS (c : TT) (t u : TS) : TS := fun D σ H => c σ H fun b H1 => if b = true then t D σ H1 else u D σ H1
theorem ps_if {c : Expr} {a b : List Stmt} {tc : TT} (hc : PT X c tc) (ha : PSs X a t) (hb : PSs X b u) : PS X (.If c a b pos) (tIfS tc t u) := by
  intro pins s σ H D I h
  refine wpAny_If (thn (hc pins s σ H _ I h) fun d s1 ⟨H1, I1, q1⟩ => ?_)
  cases d with
  | true => exact ha pins s1 σ H1 D I1 q1
  | false => exact hb pins s1 σ H1 D I1 q1
end

/-! ### targets -/
abbrev TG := V → St → Hp → (St → Hp → Prop) → Prop
abbrev TGs := List V → St → Hp → (St → Hp → Prop) → Prop
def PG (X : Cx) (target : Expr) (t : TG) : Prop :=
  ∀ (pins : List (Addr × Obj)) (s : Shared) (σ : St) (H : Hp) (v : V) (u : Value) (Q : St → Hp → Prop), Inv X pins σ H s → RelV v u → t v σ H Q →
    wpAny (model X.prog X.w) X.A (assign target X.env u) (fun _ s' => ∃ σ' H', Inv X pins σ' H' s' ∧ Q σ' H') X.xe s
/-- several targets, one after another -/
def PGs (X : Cx) (ts : List Expr) (t : TGs) : Prop :=
  ∀ (pins : List (Addr × Obj)) (s : Shared) (σ : St) (H : Hp) (vs : List V) (us : List Value) (Q : St → Hp → Prop), Inv X pins σ H s → Vals vs us → t vs σ H Q →
    wpAny (model X.prog X.w) X.A (assignInOrder ((assignEach ts X.env).map (·.2)) us) (fun _ s' => ∃ σ' H', Inv X pins σ' H' s' ∧ Q σ' H') X.xe s
/-- o[i] = v, by values -/
abbrev TSet := V → V → V → Hp → (Hp → Prop) → Prop
def PSet (X : Cx) (t : TSet) : Prop :=
  ∀ (pins : List (Addr × Obj)) (s : Shared) (σ : St) (H : Hp) (o i v : V) (ov iv u : Value) (Q : Hp → Prop), Inv X pins σ H s → RelV o ov → RelV i iv → RelV v u → t o i v H Q →
    wpAny (model X.prog X.w) X.A (setItem ov iv u) (fun _ s' => ∃ H', Inv X pins σ H' s' ∧ Q H') X.xe s
section
variable {X : Cx} {pos : Pos}
def gName (i : Nat) : TG := fun v σ H Q => Q (σ.set i (some v)) H
theorem pg_name {i : Nat} {x : Str} (hN : X.N.Nodup) (hi : X.N[i]? = some x) (hx : Loc X.env.scope x) (hf : X.fn x = true ∨ X.env.scope.names.lookup x = some .local := by first | exact .inl rfl | exact .inr rfl | assumption) : PG X (.Name x pos) (gName i) := by
  intro pins s σ H v u Q I r h
  exact wpAny_assign_Name (store_ok I hN hi hx r (fun s' I' => ⟨_, H, I', h⟩) hf)
def gNil : TGs := fun vs σ H Q => vs = [] ∧ Q σ H
def gCons (t : TG) (u : TGs) : TGs := fun vs σ H Q => ∃ v r, vs = v :: r ∧ t v σ H fun σ' H' => u r σ' H' Q
theorem pgs_nil : PGs X [] gNil := by
  intro pins s σ H vs us Q I r h
  obtain ⟨e, h⟩ := h
  subst e
  cases r
  exact assignInOrder_nil ⟨σ, H, I, h⟩
theorem pgs_cons {e : Expr} {es : List Expr} {t : TG} {u : TGs} (h1 : PG X e t) (h2 : PGs X es u)
    (hs : (assignEach (e :: es) X.env).map (·.2) = assign e X.env :: (assignEach es X.env).map (·.2) := by rfl) : PGs X (e :: es) (gCons t u) := by
  intro pins s σ H vs us Q I r h
  obtain ⟨v, vr, e1, h⟩ := h
  subst e1
  cases r with
  | cons r rr =>
    rw [hs]
    refine assignInOrder_cons (thn (h1 pins s σ H _ _ _ I r h) fun _ s1 ⟨σ1, H1, I1, q1⟩ => ?_)
    exact h2 pins s1 σ1 H1 _ _ Q I1 rr q1
/-- (a, b, ..) = a tuple of that length -/
def gTup (K : PySem.W.Frag) (n : Nat) (t : TGs) : TG := fun v σ H Q => ∃ a xs, v = .ref a ∧ SqT K H a xs ∧ xs.length = n ∧ t xs σ H Q
theorem pg_tup {es : List Expr} {k : Nat} {t : TGs} {n : Nat} (hc : X.calm = true) (h : PGs X es t)
    (hn : (assignEach es X.env).length = n := by rfl) (hst : (assignEach es X.env).findIdx? (·.1) = none := by rfl) : PG X (.Tuple es k pos) (gTup X.K n t) := by
  intro pins s σ H v u Q I r hw
  obtain ⟨a, xs, e1, hq, hl, hw⟩ := hw
  subst e1
  cases r
  obtain ⟨its, rv, ht, hz⟩ := I.tuple hq
  refine assign_Tuple_tuple (I.ok.hd hc) ht (by simp [hn, ← hl, rv.length]) hst fun h' hx => ?_
  have I1 : Inv X pins σ H { s with heap := h' } := I.kept (t' := s.toks) fun b o e => hx b o (Nat.ne_of_lt (Heap.lt_size e)) e
  exact h pins _ σ H xs _ Q I1 (by simpa using rv) hw
/-- o[i] = .. -/
def gSub (to ti : TE) (t : TSet) : TG := fun v σ H Q => to σ H fun o H1 => ti σ H1 fun i H2 => t o i v H2 fun H3 => Q σ H3
theorem pg_sub {o i : Expr} {to ti : TE} {t : TSet} (ho : PE X o to) (hi : PE X i ti) (hs : PSet X t)
    (ha : ∀ v, assign (.Subscript o i pos) X.env v = (do
      let ov ← holding [v] (eval o X.env)
      let iv ← holding [v, ov] (eval i X.env)
      standAt pos
      holding [v, ov, iv] (setItem ov iv v)
      release [v, ov, iv] []) := by intro _; rfl) : PG X (.Subscript o i pos) (gSub to ti t) := by
  intro pins s σ H v u Q I r h
  rw [ha]
  refine wpAny_bind (wpAny_holding (thn (ho pins s σ H _ I h) fun ov s1 ⟨x, H1, I1, r1, q1⟩ => ?_))
  refine wpAny_bind (wpAny_holding (thn (hi pins s1 σ H1 _ I1 q1) fun iv s2 ⟨y, H2, I2, r2, q2⟩ => ?_))
  refine wpAny_bind (wpAny_standAt (wpAny_bind (wpAny_holding (thn (hs pins s2 σ H2 x y v ov iv u _ I2 r1 r2 r q2) fun _ s3 ⟨H3, I3, q3⟩ => ?_))))
  exact wpAny_release ⟨σ, H3, I3, q3⟩
/-- target = value -/
def tAsg (te : TE) (g : TG) : TS := fun D σ H => te σ H fun x H1 => g x σ H1 D.nx
theorem ps_asg {tg e : Expr} {te : TE} {g : TG} (he : PE X e te) (hg : PG X tg g) (hs : swapsWithSole [tg] e pos.line X.env = pure false := by rfl) (hw : swappedStores [tg] e X.env = pure none := by rfl)
    (h1 : (assignEach [tg] X.env).map (·.2) = [assign tg X.env] := by rfl) : PS X (.Assign [tg] e pos) (tAsg te g) := by
  intro pins s σ H D I h
  refine wpAny_Assign_stores (thn (he pins s σ H _ I h) fun v s1 ⟨x, H1, I1, r1, q1⟩ => ?_) hs hw
  rw [h1]
  exact thn (hg pins s1 σ H1 x v _ I1 r1 q1) fun _ s2 q => q
/-- name = value -/
theorem ps_set {i : Nat} {x : Str} {e : Expr} {te : TE} {pos' : Pos} (hN : X.N.Nodup) (hi : X.N[i]? = some x) (hx : Loc X.env.scope x) (he : PE X e te) (hs : swapsWith e (some (.Name x pos')) pos.line X.env = pure false := by rfl) (hf : X.fn x = true ∨ X.env.scope.names.lookup x = some .local := by first | exact .inl rfl | exact .inr rfl | assumption) :
    PS X (.Assign [.Name x pos'] e pos) (tAsg te (gName i)) := by
  intro pins s σ H D I h
  refine wpAny_Assign_Name (thn (he pins s σ H _ I h) fun v s1 ⟨y, H1, I1, r1, q1⟩ => ?_) hs
  exact store_ok I1 hN hi hx r1 (fun s2 I2 => ⟨_, H1, I2, q1⟩) hf
end

/-! ### while -/
section
variable {X : Cx} {pos : Pos}
/-- the invariant W with its measure -/
def tWhile (c : TT) (tb : TS) : TS := fun D σ H => ∃ W : Nat → St → Hp → Prop, (∃ m, W m σ H) ∧ ∀ m σ H, W m σ H →
  c σ H fun b H1 => if b = true then ∃ N : St → Hp → Prop, (∀ σ' H', N σ' H' → ∃ m', m' < m ∧ W m' σ' H') ∧ tb { D with nx := N, ct := N, bk := D.nx } σ H1 else D.nx σ H1
theorem ps_while {c : Expr} {body : List Stmt} {tc : TT} {tb : TS} (hp : PassesOwn (model X.prog X.w) X.A X.env X.xe) (hc : PT X c tc) (hb : PSs X body tb) : PS X (.While c body [] pos) (tWhile tc tb) := by
  intro pins s σ H D I h
  obtain ⟨W, ⟨m0, w0⟩, turn⟩ := h
  refine wpAny_While (codeAny_whileLoop (fun n s' => ∃ σ' H', Inv X pins σ' H' s' ∧ W n σ' H') ?_ m0 ⟨σ, H, I, w0⟩)
  rintro n s1 ⟨σ1, H1, I1, w1⟩
  refine wpAny_passesOwn hp (thn (hc pins s1 σ1 H1 _ I1 (turn n σ1 H1 w1)) fun b s2 ⟨H2, I2, q2⟩ => ?_)
  cases b with
  | true =>
    obtain ⟨N, hN, q2⟩ := q2
    rw [if_pos rfl]
    refine wpAny_passesOwn hp (thn (hb pins s2 σ1 H2 _ I2 q2) fun f s3 q3 => ?_)
    cases f with
    | next =>
      obtain ⟨σ3, H3, I3, n3⟩ := q3
      obtain ⟨m', hm, w3⟩ := hN σ3 H3 n3
      exact ⟨m', hm, σ3, H3, I3, w3⟩
    | cont =>
      obtain ⟨σ3, H3, I3, n3⟩ := q3
      obtain ⟨m', hm, w3⟩ := hN σ3 H3 n3
      exact ⟨m', hm, σ3, H3, I3, w3⟩
    | brk => exact q3
    | ret v => exact q3
  | false =>
    rw [if_neg Bool.false_ne_true]
    exact wpAny_execs_nil ⟨σ1, H2, I2, q2⟩
end

/-! ### what a loop or a comprehension walks -/
/-- at turn i: it yields x (the heap may grow), or it stops -/
structure It where
  go : Nat → Hp → Prop
  yld : Nat → Hp → V → Hp → Prop
  stop : Nat → Hp → Prop
/-- the iterator's own objects may turn: they are not the frame's, not pinned, younger than the entry (or a comprehension's own) -/
def FpOk (X : Cx) (pins : List (Addr × Obj)) (H : Hp) (b : Addr) : Prop :=
  H b = none ∧ b ≠ X.env.locals ∧ b ∉ X.fs ∧ (b ∈ X.ex ∨ X.s₀.heap.objs.size ≤ b) ∧ (∀ x c, X.env.cells.lookup x = some c → c ≠ b) ∧ ∀ p ∈ X.pn ++ pins, p.1 ≠ b
theorem Inv.fpOk {X : Cx} {pins : List (Addr × Obj)} {σ : St} {H H' : Hp} {s : Shared} {b : Addr} (I : Inv X pins σ H s) (hb : s.heap.objs.size ≤ b) (hn : H' b = none) : FpOk X pins H' b := by
  refine ⟨hn, Nat.ne_of_gt (Nat.lt_of_lt_of_le I.lt hb), I.nofs hb, .inr (Nat.le_trans I.sz hb), fun x c e z => ?_, fun p hp z => ?_⟩
  · obtain ⟨v, q⟩ := I.cell x c e
    exact absurd (Nat.lt_of_lt_of_le q.lt (by rw [z]; exact hb)) (Nat.lt_irrefl _)
  · exact absurd (Nat.lt_of_lt_of_le (Heap.lt_size (I.pin p hp).1) (by rw [z]; exact hb)) (Nat.lt_irrefl _)
structure Turn (P : Program) (w : World) (K : PySem.W.Frag) (tg : Expr) (J : It) (fp : List Addr) (it : Addr) (tn : Nat → Heap → Prop) : Prop where
  mem : it ∈ fp
  obj : ∀ i h, tn i h → ∀ b ∈ fp, ∃ o, h.get? b = some o ∧ ∀ v, o.data ≠ .cell v
  keep : ∀ i h h', tn i h → (∀ b ∈ fp, ∀ o, h.get? b = some o → h'.get? b = some o) → tn i h'
  item : ∀ (X : Cx), X.prog = P → X.w = w → X.K = K → X.calm = true → ∀ (i : Nat) (pins : List (Addr × Obj)) (s : Shared) (σ : St) (H : Hp) (E : Value → Shared → Prop), Inv X pins σ H s → (∀ b ∈ fp, FpOk X pins H b) → tn i s.heap → J.go i H →
    wpAny (model P w) X.A (pyNext (.ref it)) (fun r s1 => ∃ u, r = some u ∧
      wpAny (model P w) X.A (letOwnedTupleGo tg (.ref it) u) (fun _ s2 => ∃ x H', Inv X pins σ H' s2 ∧ RelV x u ∧ J.yld i H x H' ∧ tn (i + 1) s2.heap ∧ ∀ b ∈ fp, H' b = none) E s1) E s
  done : ∀ (X : Cx), X.prog = P → X.w = w → X.K = K → X.calm = true → ∀ (i : Nat) (pins : List (Addr × Obj)) (s : Shared) (σ : St) (H : Hp) (E : Value → Shared → Prop), Inv X pins σ H s → (∀ b ∈ fp, FpOk X pins H b) → tn i s.heap → J.stop i H →
    wpAny (model P w) X.A (pyNext (.ref it)) (fun r s1 => r = none ∧ Inv X pins σ H s1) E s
  self : ∀ (A : Around) (i : Nat) (s : Shared) (Q : Value → Shared → Prop) (E : Value → Shared → Prop), tn i s.heap → Q (.ref it) s → wpAny (model P w) A (pyIter (.ref it)) Q E s
abbrev TI := St → Hp → (It → Hp → Prop) → Prop
/-- an iterator has come -/
def PIE (X : Cx) (pins : List (Addr × Obj)) (σ : St) (tg : Expr) (R : It → Hp → Prop) (itv : Value) (s2 : Shared) : Prop :=
  ∃ (it : Addr) (fp : List Addr) (tn : Nat → Heap → Prop) (J : It) (H' : Hp), itv = .ref it ∧ Inv X pins σ H' s2 ∧ Turn X.prog X.w X.K tg J fp it tn ∧ tn 0 s2.heap ∧ (∀ b ∈ fp, FpOk X pins H' b) ∧ R J H'
def PI (X : Cx) (tg iter : Expr) (wi : TI) : Prop :=
  ∀ (pins : List (Addr × Obj)) (s : Shared) (σ : St) (H : Hp) (R : It → Hp → Prop), Inv X pins σ H s → wi σ H R →
    wpAny (model X.prog X.w) X.A (eval iter X.env) (fun v s1 => wpAny (model X.prog X.w) X.A (pyIter v) (PIE X pins σ tg R) X.xe s1) X.xe s

/-- the step ahead of the store is nothing for an iterator that keeps no tuple -/
theorem go_of {M : Model} {A : Around} {E : Value → Shared → Prop} {s : Shared} {tg : Expr} {it : Addr} {u : Value} {o : Obj} {n : String} {vs : Array Value} {Q : Unit → Shared → Prop} (ho : s.heap.get? it = some o) (hc : o.cls = .type n) (hd : o.data = .fields vs)
    (hn : ["enumerate", "zip", "dict_itemiterator", "dict_reverseitemiterator", "odict_iterator", "itertools.zip_longest", "itertools.pairwise"].contains n = false) (hQ : Q () s) : wpAny M A (letOwnedTupleGo tg (.ref it) u) Q E s := by
  unfold letOwnedTupleGo
  cases tg <;> first
    | exact wpAny_pure hQ
    | (cases u <;> first
        | exact wpAny_pure hQ
        | (refine wpAny_bind (wpAny_load ho ?_)
           rw [hc, hd]
           show wpAny M A (if (["enumerate", "zip", "dict_itemiterator", "dict_reverseitemiterator", "odict_iterator", "itertools.zip_longest", "itertools.pairwise"].contains n && vs[0]? == some (rawInt _)) = true then _ else _) Q E s
           rw [if_neg (by intro h; rw [hn, Bool.false_and] at h; cases h)]
           exact wpAny_pure hQ))

def Itt (K : PySem.W.Frag) (a : Addr) : It :=
  ⟨fun i H => ∃ xs x, SqT K H a xs ∧ xs[i]? = some x, fun i H x H' => H' = H ∧ ∀ xs, SqT K H a xs → xs[i]? = some x, fun i H => ∃ xs, SqT K H a xs ∧ xs.length ≤ i⟩
/-- lo, lo + 1, .. (n of them) -/
def Itr (lo : Int) (n : Nat) : It := ⟨fun i _ => i < n, fun i H x H' => H' = H ∧ x = .int (lo + i), fun i _ => n ≤ i⟩
theorem turn_tuple {P : Program} {w : World} {K : PySem.W.Frag} {tg : Expr} (a it : Addr) : Turn P w K tg (Itt K a) [it] it (fun i h => h.IsTupleIter it a i) where
  mem := by simp
  obj := fun i h st b hb => by
    have e : b = it := by simpa using hb
    subst e
    obtain ⟨o, e, c, d⟩ := st
    exact ⟨o, e, fun v z => by rw [d] at z; cases z⟩
  keep := fun i h h' st k => st.at fun o e => k it (by simp) o e
  item := by
    intro X hP hw hK hc i pins s σ H E I hf st hg
    subst hP hw hK
    obtain ⟨xs, x, hq, hx⟩ := hg
    obtain ⟨its, rv, p, hz⟩ := I.tuple hq
    obtain ⟨u, hu, ru⟩ := rv.get hx
    obtain ⟨f0, f1, f2, f3, f4, f5⟩ := hf it (by simp)
    refine wpAny_pyNext_tuple_item st (show s.heap.IsTuple a its.toArray from p) (x := u) (by simpa using hu) fun h' st' sb => ?_
    have I1 : Inv X pins σ H { s with heap := h' } := I.turned (t' := s.toks) (fun b o hb e => (sb.2 b hb).trans e) f0 f1 f3 f4 f5
    obtain ⟨o, e, c, d⟩ := id st'
    exact ⟨u, rfl, go_of (s := { s with heap := h' }) e c d (by decide) ⟨x, H, I1, ru, ⟨rfl, fun ys hy => by rw [I.tuple_inj hy hq]; exact hx⟩, st', fun b hb => (hf b hb).1⟩⟩
  done := by
    intro X hP hw hK hc i pins s σ H E I hf st hg
    subst hP hw hK
    obtain ⟨xs, hq, hx⟩ := hg
    obtain ⟨its, rv, p, hz⟩ := I.tuple hq
    obtain ⟨f0, f1, f2, f3, f4, f5⟩ := hf it (by simp)
    have hl := rv.length
    exact wpAny_pyNext_tuple_end (I.ok.hd hc) st (show s.heap.IsTuple a its.toArray from p) (by simp; (first | lia | omega)) fun h' eb => ⟨rfl, I.turned (t' := s.toks) (fun b o hb e => eb b o hb e) f0 f1 f3 f4 f5⟩
  self := fun _ _ _ _ _ st h => wpAny_pyIter_tupleiter st h
theorem turn_range {P : Program} {w : World} {K : PySem.W.Frag} {tg : Expr} (it : Addr) (lo : Int) (n : Nat) : Turn P w K tg (Itr lo n) [it] it (fun i h => IsRangeIter h it (lo + (i : Nat) * 1) ((n : Int) - (i : Nat)) 1) where
  mem := by simp
  obj := fun i h st b hb => by
    have e : b = it := by simpa using hb
    subst e
    exact ⟨_, st, fun v z => by
      have z' : Data.fields _ = Data.cell v := z
      cases z'⟩
  keep := fun i h h' st k => k it (by simp) _ st
  item := by
    intro X hP hw hK hc i pins s σ H E I hf st hg
    subst hP hw hK
    obtain ⟨f0, f1, f2, f3, f4, f5⟩ := hf it (by simp)
    have W := Walks.range (prog := X.prog) (w := X.w) (I.ok.hd hc) it lo 1 n
    refine W.item i s _ _ hg st fun v h' tk hv st' kk => ?_
    obtain ⟨t, rfl⟩ := hv
    have I1 : Inv X pins σ H { s with heap := h', toks := tk } := I.turned (fun b o hb e => kk b o (by simpa using hb) e) f0 f1 f3 f4 f5
    refine ⟨_, rfl, go_of (s := { s with heap := h', toks := tk }) (n := "range_iterator") st' rfl rfl (by decide) ⟨.int (lo + i), H, I1, ⟨t, ?_⟩, ⟨rfl, rfl⟩, st', fun b hb => (hf b hb).1⟩⟩
    rw [Int.mul_one]
  done := by
    intro X hP hw hK hc i pins s σ H E I hf st hg
    subst hP hw hK
    obtain ⟨f0, f1, f2, f3, f4, f5⟩ := hf it (by simp)
    exact wpAny_pyNext_range_end (I.ok.hd hc) st (by have : n ≤ i := hg; (first | lia | omega)) fun h' eb => ⟨rfl, I.turned (t' := s.toks) (fun b o hb e => eb b o hb e) f0 f1 f3 f4 f5⟩
  self := fun _ _ _ _ _ st h => wpAny_pyIter_rangeiter st h
end L2

namespace L2
open PySem PySem.Spec PyProof.Rows
section
variable {X : Cx} {tg : Expr}
def iTup (K : PySem.W.Frag) (tl : TE) : TI := fun σ H R => tl σ H fun x H1 => ∃ a, x = .ref a ∧ (∃ xs, SqT K H1 a xs) ∧ R (Itt K a) H1
theorem pi_tup {l : Expr} {tl : TE} (hl : PE X l tl) : PI X tg l (iTup X.K tl) := by
  intro pins s σ H R I h
  refine thn (hl pins s σ H _ I h) fun v s1 ⟨x, H1, I1, r1, q1⟩ => ?_
  obtain ⟨a, e, ⟨xs, hq⟩, q⟩ := q1
  subst e
  cases r1
  obtain ⟨its, rv, p, hz⟩ := I1.tuple hq
  refine wpAny_pyIter_tuple (show s1.heap.IsTuple a its.toArray from p) ?_
  refine ⟨s1.heap.objs.size, [s1.heap.objs.size], _, _, H1, rfl, I1.kept (t' := s1.toks) fun b o e => Heap.get?_push_of_some _ e, turn_tuple a _, ⟨_, Heap.get?_push_size _ rfl, rfl, rfl⟩, fun b hb => ?_, q⟩
  have e : b = s1.heap.objs.size := by simpa using hb
  subst e
  exact I1.fpOk (Nat.le_refl _) (I1.hok.fresh (Nat.le_refl _))
/-- a range object just made, walked -/
theorem range_it {pins : List (Addr × Obj)} {σ : St} {H : Hp} {s : Shared} {R : It → Hp → Prop} {E : Value → Shared → Prop} {lo hi : Int} {t u v : Tok} {tk : Nat} (I : Inv X pins σ H s) (h1 : -(2 ^ 62) ≤ lo) (h2 : lo < 2 ^ 62) (h3 : -(2 ^ 62) ≤ hi) (h4 : hi < 2 ^ 62)
    (q : R (Itr lo (hi - lo).toNat) H) : wpAny (model X.prog X.w) X.A (pyIter (.ref s.heap.objs.size)) (PIE X pins σ tg R) E { s with heap := s.heap.push { cls := .type "range", data := .fields #[.int lo t, .int hi u, .int 1 v] }, toks := tk } := by
  refine wpAny_pyIter_range (IsRange.new ..) (small_one h1 h2 h3 h4) ?_
  have I1 : Inv X pins σ H { s with heap := s.heap.push { cls := .type "range", data := .fields #[.int lo t, .int hi u, .int 1 v] }, toks := tk } := I.kept fun b o e => Heap.get?_push_of_some _ e
  refine ⟨(s.heap.push { cls := .type "range", data := .fields #[.int lo t, .int hi u, .int 1 v] }).objs.size, [(s.heap.push { cls := .type "range", data := .fields #[.int lo t, .int hi u, .int 1 v] }).objs.size], _, _, H, rfl,
    I1.kept (t' := tk) fun b o e => Heap.get?_push_of_some _ e, turn_range _ lo (hi - lo).toNat, ?_, fun b hb => ?_, q⟩
  · have e1 : lo + ((0 : Nat) : Int) * 1 = lo := by simp
    have e2 : (((hi - lo).toNat : Nat) : Int) - ((0 : Nat) : Int) = Builtin.Range.rangeSize lo hi 1 := by rw [rangeSize_one]; split <;> (first | lia | omega)
    show IsRangeIter _ _ (lo + ((0 : Nat) : Int) * 1) ((((hi - lo).toNat : Nat) : Int) - ((0 : Nat) : Int)) 1
    rw [e1, e2]
    exact Heap.get?_push_size _ rfl
  · have e : b = (s.heap.push { cls := .type "range", data := .fields #[.int lo t, .int hi u, .int 1 v] }).objs.size := by simpa using hb
    subst e
    exact I1.fpOk (Nat.le_refl _) (I1.hok.fresh (Nat.le_refl _))
def iRng1 (ta : TA) : TI := fun σ H R => ta σ H fun vs H1 => ∃ j : Int, vs = [.int j] ∧ -(2 ^ 62) ≤ j ∧ j < 2 ^ 62 ∧ R (Itr 0 j.toNat) H1
theorem pi_range1 {a : Expr} {ta : TA} {p pos : Pos} (hg : Gl X "range") (hm : X.mg "range" = none) (ha : PA X [a] ta) (hs : starEach [a] X.env = [(false, eval a X.env)] := by rfl) : PI X tg (.Call (.Name "range" p) [a] [] pos) (iRng1 ta) := by
  intro pins s σ H R I h
  refine Call_ (ld_blt I hg hm boot_range (PyProof.Rows.callWith_type1 (thn (ha pos pins s σ H _ I h) fun us s1 ⟨vs, H1, I1, r1, q1⟩ => ?_) hs rfl))
  obtain ⟨j, e, q1, q2, q⟩ := q1
  subst e
  cases r1 with
  | cons r rr =>
    cases rr
    obtain ⟨t, rfl⟩ := r
    exact call_range_1 (range_it I1 (by (first | lia | omega)) (by (first | lia | omega)) q1 q2 (by simpa using q))
/-! ### for -/
/-- W: the invariant by the turn and a measure; N: what the body is to reach -/
def tFor (wi : TI) (g : TG) (tb : TS) : TS := fun D σ H => wi σ H fun J H1 => ∃ W : Nat → Nat → St → Hp → Prop, (∃ m, W 0 m σ H1) ∧ ∀ i m σ H, W i m σ H →
  (J.stop i H ∧ D.nx σ H) ∨ (J.go i H ∧ ∃ N : St → Hp → Prop, (∀ σ' H', N σ' H' → ∃ m', m' < m ∧ W (i + 1) m' σ' H') ∧ ∀ x H', J.yld i H x H' → g x σ H' fun σ2 H2 => tb { D with nx := N, ct := N, bk := D.nx } σ2 H2)
/-- the records at fp as they stand -/
def pinsAt (fp : List Addr) (h : Heap) : List (Addr × Obj) := fp.filterMap fun b => (h.get? b).map fun o => (b, o)
theorem mem_pinsAt {fp : List Addr} {h : Heap} {b : Addr} {o : Obj} (hb : b ∈ fp) (e : h.get? b = some o) : (b, o) ∈ pinsAt fp h := List.mem_filterMap.mpr ⟨b, hb, by rw [e]; rfl⟩
theorem of_pinsAt {fp : List Addr} {h : Heap} {p : Addr × Obj} (hp : p ∈ pinsAt fp h) : p.1 ∈ fp ∧ h.get? p.1 = some p.2 := by
  obtain ⟨b, hb, e⟩ := List.mem_filterMap.mp hp
  cases q : h.get? b with
  | none => rw [q] at e; cases e
  | some o =>
    rw [q] at e
    have e' : (b, o) = p := Option.some.inj e
    subst e'
    exact ⟨hb, q⟩
theorem Inv.pinned {pins : List (Addr × Obj)} {σ : St} {H : Hp} {s : Shared} {fp : List Addr} (I : Inv X pins σ H s) (hf : ∀ b ∈ fp, FpOk X pins H b) (ho : ∀ b ∈ fp, ∃ o, s.heap.get? b = some o ∧ ∀ v, o.data ≠ .cell v) : Inv X (pins ++ pinsAt fp s.heap) σ H s :=
  I.pins_of fun p hp => (List.mem_append.mp hp).elim (fun z => I.pin p (List.mem_append_right _ z)) fun z => by
    obtain ⟨hb, e⟩ := of_pinsAt z
    obtain ⟨f0, f1, f2, _⟩ := hf p.1 hb
    obtain ⟨o, e', d⟩ := ho p.1 hb
    rw [e] at e'; cases e'
    exact ⟨e, f0, f1, f2, d⟩
theorem Inv.unpinned {pins pl : List (Addr × Obj)} {σ : St} {H : Hp} {s : Shared} (I : Inv X (pins ++ pl) σ H s) : Inv X pins σ H s := I.pins_of fun p hp => I.pin p (List.mem_append_right _ (List.mem_append_left _ hp))
theorem ps_for {iter : Expr} {body : List Stmt} {wi : TI} {g : TG} {tb : TS} {pos : Pos} (hp : PassesOwn (model X.prog X.w) X.A X.env X.xe) (hc : X.calm = true) (hi : PI X tg iter wi) (hg : PG X tg g) (hb : PSs X body tb)
    (hs : ∀ x, foldedSetIterable iter X.env x = pure x := by intro _; rfl) : PS X (.For tg iter body [] pos) (tFor wi g tb) := by
  intro pins s σ H D I h
  refine wpAny_For (thn (hi pins s σ H _ I h) fun v s1 h1 => thn h1 fun itv s2 h2 => ?_) hs
  obtain ⟨it, fp, tn, J, H2, e, I2, T, st2, f2, W, ⟨m0, w0⟩, turn⟩ := h2
  subst e
  -- what stays true of the iterator's objects through the loop
  have stat : ∀ {H' : Hp}, (∀ b ∈ fp, H' b = none) → ∀ b ∈ fp, FpOk X pins H' b := fun hn b hb => ⟨hn b hb, (f2 b hb).2⟩
  refine codeAny_forLoop_any (fun n s' => ∃ i σ' H', Inv X pins σ' H' s' ∧ tn i s'.heap ∧ (∀ b ∈ fp, H' b = none) ∧ W i n σ' H') ?_ m0 ⟨0, σ, H2, I2, st2, fun b hb => (f2 b hb).1, w0⟩
  rintro n s3 ⟨i, σ3, H3, I3, st3, fr3, w3⟩
  rcases turn i n σ3 H3 w3 with ⟨stop, qn⟩ | ⟨go, N, hN, step⟩
  · refine wpAny_passesOwn hp (thn (T.done X rfl rfl rfl hc i pins s3 σ3 H3 X.xe I3 (stat fr3) st3 stop) fun r s4 ⟨hr, I4⟩ => ?_)
    subst hr
    exact wpAny_execs_nil ⟨σ3, H3, I4, qn⟩
  · refine wpAny_passesOwn hp (thn (T.item X rfl rfl rfl hc i pins s3 σ3 H3 X.xe I3 (stat fr3) st3 go) fun r s4 ⟨u, hr, h4⟩ => ?_)
    subst hr
    refine wpAny_passesOwn hp (thn h4 fun _ s5 ⟨x, H5, I5, r5, y5, st5, fr5⟩ => ?_)
    have I5' := I5.pinned (stat fr5) (T.obj _ _ st5)
    refine wpAny_passesOwn hp (thn (hg _ s5 σ3 H5 x u _ I5' r5 (step x H5 y5)) fun _ s6 ⟨σ6, H6, I6, q6⟩ => ?_)
    refine wpAny_passesOwn hp (thn (hb _ s6 σ6 H6 _ I6 q6) fun f s7 q7 => ?_)
    have again : ∀ {σ7 : St} {H7 : Hp}, Inv X (pins ++ pinsAt fp s5.heap) σ7 H7 s7 → N σ7 H7 → ∃ m, m < n ∧ ∃ i σ' H', Inv X pins σ' H' s7 ∧ tn i s7.heap ∧ (∀ b ∈ fp, H' b = none) ∧ W i m σ' H' := fun {σ7 H7} I7 n7 => by
      obtain ⟨m', hm, w7⟩ := hN σ7 H7 n7
      refine ⟨m', hm, i + 1, σ7, H7, I7.unpinned, T.keep _ _ _ st5 fun b hb o e => (I7.pin (b, o) (List.mem_append_right _ (List.mem_append_right _ (mem_pinsAt hb e)))).1, fun b hb => ?_, w7⟩
      obtain ⟨o, e, d⟩ := T.obj _ _ st5 b hb
      exact (I7.pin (b, o) (List.mem_append_right _ (List.mem_append_right _ (mem_pinsAt hb e)))).2.1
    cases f with
    | next => obtain ⟨σ7, H7, I7, n7⟩ := q7; exact again I7 n7
    | cont => obtain ⟨σ7, H7, I7, n7⟩ := q7; exact again I7 n7
    | brk => obtain ⟨σ7, H7, I7, q7⟩ := q7; exact ⟨σ7, H7, I7.unpinned, q7⟩
    | ret v => obtain ⟨x7, σ7, H7, I7, r7, q7⟩ := q7; exact ⟨x7, σ7, H7, I7.unpinned, r7, q7⟩
end

/-! ### the forms one uses -/
theorem for_range {lo : Int} {n : Nat} {g : TG} {tb : TS} {D : Ends} {σ : St} {H : Hp} (Pv : Nat → St → Hp → Prop) (h0 : Pv 0 σ H)
    (hs : ∀ i σ H, i < n → Pv i σ H → g (.int (lo + i)) σ H fun σ2 H2 => tb { D with nx := Pv (i + 1), ct := Pv (i + 1), bk := D.nx } σ2 H2) (hd : ∀ σ H, Pv n σ H → D.nx σ H) :
    ∃ W : Nat → Nat → St → Hp → Prop, (∃ m, W 0 m σ H) ∧ ∀ i m σ H, W i m σ H →
      ((Itr lo n).stop i H ∧ D.nx σ H) ∨ ((Itr lo n).go i H ∧ ∃ N : St → Hp → Prop, (∀ σ' H', N σ' H' → ∃ m', m' < m ∧ W (i + 1) m' σ' H') ∧ ∀ x H', (Itr lo n).yld i H x H' → g x σ H' fun σ2 H2 => tb { D with nx := N, ct := N, bk := D.nx } σ2 H2) := by
  refine ⟨fun i m σ H => m = n - i ∧ i ≤ n ∧ Pv i σ H, ⟨n, by simp, Nat.zero_le _, h0⟩, ?_⟩
  rintro i m σ H ⟨rfl, hi, p⟩
  by_cases hlt : i < n
  · refine .inr ⟨hlt, Pv (i + 1), fun σ' H' p' => ⟨n - (i + 1), by (first | lia | omega), rfl, hlt, p'⟩, fun x H' y => ?_⟩
    obtain ⟨e, y⟩ := y
    subst e y
    exact hs i σ _ hlt p
  · have e : i = n := by (first | lia | omega)
    subst e
    exact .inl ⟨Nat.le_refl _, hd σ H p⟩
end L2

namespace L2
open PySem PySem.Spec PyProof.Rows

abbrev R2 := V → V → Hp → VK → Prop
/-- a two-place operation on values: f is binaryOp op, inplaceOp op or compareOp op -/
def OpR (X : Cx) (f : Value → Value → Sem Value) (r : R2) : Prop :=
  ∀ (pins : List (Addr × Obj)) (s : Shared) (σ : St) (H : Hp) (x y : V) (v u : Value) (Q : VK), Inv X pins σ H s → RelV x v → RelV y u → r x y H Q →
    wpAny (model X.prog X.w) X.A (f v u) (EP X pins σ Q) X.xe s
/-- a one-place operation -/
def UnR (X : Cx) (f : Value → Sem Value) (r : V → Hp → VK → Prop) : Prop :=
  ∀ (pins : List (Addr × Obj)) (s : Shared) (σ : St) (H : Hp) (x : V) (v : Value) (Q : VK), Inv X pins σ H s → RelV x v → r x H Q →
    wpAny (model X.prog X.w) X.A (f v) (EP X pins σ Q) X.xe s
/-- a call of a value that is known (a builtin, a type) with values -/
def CallR (X : Cx) (f : Value) (r : List V → Hp → VK → Prop) : Prop :=
  ∀ (pins : List (Addr × Obj)) (s : Shared) (σ : St) (H : Hp) (xs : List V) (us : List Value) (Q : VK), Inv X pins σ H s → Vals xs us → r xs H Q →
    wpAny (model X.prog X.w) X.A (call f us) (EP X pins σ Q) X.xe s
/-- a value's truth -/
def TruR (X : Cx) (r : V → Hp → (Bool → Hp → Prop) → Prop) : Prop :=
  ∀ (pins : List (Addr × Obj)) (s : Shared) (σ : St) (H : Hp) (x : V) (v : Value) (Q : Bool → Hp → Prop), Inv X pins σ H s → RelV x v → r x H Q →
    wpAny (model X.prog X.w) X.A (truthy v) (TP X pins σ Q) X.xe s

def tOp (r : R2) (ta tb : TE) : TE := fun σ H Q => ta σ H fun x H1 => tb σ H1 fun y H2 => r x y H2 Q
def tUn (r : V → Hp → VK → Prop) (ta : TE) : TE := fun σ H Q => ta σ H fun x H1 => r x H1 Q
/-- ints in, under C, and a value out -/
def rI (C : Int → Int → Prop) (g : Int → Int → V) : R2 := fun x y H Q => ∃ i j, x = .int i ∧ y = .int j ∧ C i j ∧ Q (g i j) H
def rI0 (g : Int → Int → V) : R2 := fun x y H Q => ∃ i j, x = .int i ∧ y = .int j ∧ Q (g i j) H
def rU (g : Int → V) : V → Hp → VK → Prop := fun x H Q => ∃ i, x = .int i ∧ Q (g i) H

section
variable {X : Cx} {a b c : Expr} {ta tb tc : TE} {pos : Pos}

theorem binT (ha : PE X a ta) (hb : PE X b tb) {pins : List (Addr × Obj)} {s : Shared} {σ : St} {H : Hp} {R : V → V → Hp → Prop} (I : Inv X pins σ H s)
    (h : ta σ H fun x H1 => tb σ H1 fun y H2 => R x y H2) {Q : Value → Shared → Prop} {f : Value → Value → Sem Value}
    (hf : ∀ v u s2 x y H2, Inv X pins σ H2 s2 → RelV x v → RelV y u → R x y H2 → wpAny (model X.prog X.w) X.A (f v u) Q X.xe s2) :
    wpAny (model X.prog X.w) X.A (eval a X.env) (fun v s₁ => wpAny (model X.prog X.w) X.A (eval b X.env) (fun u s₂ => wpAny (model X.prog X.w) X.A (f v u) Q X.xe s₂) X.xe s₁) X.xe s := by
  refine thn (ha pins s σ H _ I h) fun v s1 ⟨x, H1, I1, r1, q1⟩ => ?_
  refine thn (hb pins s1 σ H1 _ I1 q1) fun u s2 ⟨y, H2, I2, r2, q2⟩ => ?_
  exact hf v u s2 x y H2 I2 r1 r2 q2

theorem pe_op {op : Operator} {r : R2} (ho : OpR X (binaryOp op) r) (ha : PE X a ta) (hb : PE X b tb) : PE X (.BinOp a op b pos) (tOp r ta tb) := by
  intro pins s σ H Q I h
  exact wpAny_BinOp (binT ha hb I h fun v u s2 x y H2 I2 rx ry q => ho pins s2 σ H2 x y v u Q I2 rx ry q)
theorem pe_un {op : UnaryOp} {r : V → Hp → VK → Prop} (ho : UnR X (unaryOp op) r) (ha : PE X a ta) : PE X (.UnaryOp op a pos) (tUn r ta) := by
  intro pins s σ H Q I h
  exact UnaryOp_ (thn (ha pins s σ H _ I h) fun v s1 ⟨x, H1, I1, r1, q1⟩ => ho pins s1 σ H1 x v Q I1 r1 q1)
/-! ### ints -/
theorem opI {f : Value → Value → Sem Value} {C : Int → Int → Prop} {g : Int → Int → Int}
    (rule : ∀ (i j : Int) (t u : Tok) (s : Shared) (Q : Value → Shared → Prop) (E : Value → Shared → Prop), C i j → Q (.int (g i j) s.toks) { s with toks := s.toks + 1 } → wpAny (model X.prog X.w) X.A (f (.int i t) (.int j u)) Q E s) :
    OpR X f (rI C fun i j => .int (g i j)) := by
  intro pins s σ H x y v u Q I rx ry h
  obtain ⟨i, j, rfl, rfl, hc, q⟩ := h
  obtain ⟨t, rfl⟩ := rx
  obtain ⟨t', rfl⟩ := ry
  exact rule i j t t' s _ _ hc ⟨.int (g i j), H, I.tok _, ⟨_, rfl⟩, q⟩
theorem opI0 {f : Value → Value → Sem Value} {g : Int → Int → Int}
    (rule : ∀ (i j : Int) (t u : Tok) (s : Shared) (Q : Value → Shared → Prop) (E : Value → Shared → Prop), Q (.int (g i j) s.toks) { s with toks := s.toks + 1 } → wpAny (model X.prog X.w) X.A (f (.int i t) (.int j u)) Q E s) :
    OpR X f (rI0 fun i j => .int (g i j)) := by
  intro pins s σ H x y v u Q I rx ry h
  obtain ⟨i, j, rfl, rfl, q⟩ := h
  obtain ⟨t, rfl⟩ := rx
  obtain ⟨t', rfl⟩ := ry
  exact rule i j t t' s _ _ ⟨.int (g i j), H, I.tok _, ⟨_, rfl⟩, q⟩
theorem opB0 {f : Value → Value → Sem Value} {g : Int → Int → Bool}
    (rule : ∀ (i j : Int) (t u : Tok) (s : Shared) (Q : Value → Shared → Prop) (E : Value → Shared → Prop), Q (.bool (g i j)) s → wpAny (model X.prog X.w) X.A (f (.int i t) (.int j u)) Q E s) :
    OpR X f (rI0 fun i j => .bl (g i j)) := by
  intro pins s σ H x y v u Q I rx ry h
  obtain ⟨i, j, rfl, rfl, q⟩ := h
  obtain ⟨t, rfl⟩ := rx
  obtain ⟨t', rfl⟩ := ry
  exact rule i j t t' s _ _ ⟨.bl (g i j), H, I, rfl, q⟩

def CDiv (i j : Int) : Prop := 0 < j ∧ j < 1073741824
def CMul (i j : Int) : Prop := (-(2 ^ 64) < i ∧ i < 2 ^ 64) ∨ (-(2 ^ 64) < j ∧ j < 2 ^ 64)
theorem CMul.ok {i j : Int} (h : CMul i j) : IntMulOk i j := by
  rcases h with ⟨h1, h2⟩ | ⟨h1, h2⟩
  · exact .of_left (intBits_le_64 h1 h2)
  · exact .of_right (intBits_le_64 h1 h2)
theorem op_add : OpR X (binaryOp .Add) (rI0 fun i j => .int (i + j)) := opI0 fun _ _ _ _ _ _ _ q => add_int q
theorem op_sub : OpR X (binaryOp .Sub) (rI0 fun i j => .int (i - j)) := opI0 fun _ _ _ _ _ _ _ q => sub_int q
theorem op_mul : OpR X (binaryOp .Mult) (rI CMul fun i j => .int (i * j)) := opI fun _ _ _ _ _ _ _ hc q => mul_int q hc.ok
/-- // by a positive divisor -/
theorem op_fdiv : OpR X (binaryOp .FloorDiv) (rI CDiv fun i j => .int (i / j)) := opI fun i j _ _ _ _ _ hc q => by
  have h1 : (0 : Int) < j := hc.1
  have h2 : j < 1073741824 := hc.2
  exact floordiv_int (by (first | lia | omega)) (by rw [Int.fdiv_eq_ediv_of_nonneg i (by (first | lia | omega))]; exact q) (.inl (PyProof.noPylong_small (by (first | lia | omega))))
/-- % by a positive divisor of any size -/
theorem op_mod : OpR X (binaryOp .Mod) (rI (fun _ j => 0 < j) fun i j => .int (i % j)) := opI fun i j _ _ _ _ _ hc q => by
  have h1 : (0 : Int) < j := hc
  exact mod_int' (by (first | lia | omega)) (by rw [Int.fmod_eq_emod_of_nonneg i (by (first | lia | omega))]; exact q)
theorem unI {f : Value → Sem Value} {g : Int → Int}
    (rule : ∀ (i : Int) (t : Tok) (s : Shared) (Q : Value → Shared → Prop) (E : Value → Shared → Prop), Q (.int (g i) s.toks) { s with toks := s.toks + 1 } → wpAny (model X.prog X.w) X.A (f (.int i t)) Q E s) :
    UnR X f (rU fun i => .int (g i)) := by
  intro pins s σ H x v Q I rx h
  obtain ⟨i, rfl, q⟩ := h
  obtain ⟨t, rfl⟩ := rx
  exact rule i t s _ _ ⟨.int (g i), H, I.tok _, ⟨_, rfl⟩, q⟩
theorem un_neg : UnR X (unaryOp .USub) (rU fun i => .int (-i)) := unI fun _ _ _ _ _ q => neg_int q
/-! ### bools among ints: n += (a < b) -/
end

/-! ### comparisons -/
/-- the scalars that == tells apart as data does -/
def scal : V → V → Bool
  | .non, .non => true | .non, .int _ => true | .int _, .non => true | .non, .bl _ => true | .bl _, .non => true | .non, .str _ => true | .str _, .non => true
  | .int _, .int _ => true | .bl _, .bl _ => true | .str _, .str _ => true | .byt _, .byt _ => true
  | .int _, .str _ => true | .str _, .int _ => true | .bl _, .str _ => true | .str _, .bl _ => true
  | _, _ => false
def rEq : R2 := fun x y H Q => scal x y = true ∧ Q (.bl (decide (x = y))) H
def rNe : R2 := fun x y H Q => scal x y = true ∧ Q (.bl (!decide (x = y))) H

theorem dec_int {i j : Int} : decide (V.int i = V.int j) = (i == j) := by
  rw [Bool.eq_iff_iff]
  simp
theorem dec_bl {i j : Bool} : decide (V.bl i = V.bl j) = (i == j) := by
  rw [Bool.eq_iff_iff]
  simp
theorem dec_str {i j : Str} : decide (V.str i = V.str j) = (i == j) := by
  rw [Bool.eq_iff_iff]
  simp
theorem dec_byt {i j : Array UInt8} : decide (V.byt i = V.byt j) = (i.toList == j.toList) := by
  rw [Bool.eq_iff_iff]
  cases i
  cases j
  simp

section
variable {X : Cx} {a b c : Expr} {ta tb tc : TE} {pos : Pos}
theorem fin_bl {pins : List (Addr × Obj)} {σ : St} {H : Hp} {s : Shared} {Q : VK} {k k' : Bool} (I : Inv X pins σ H s) (q : Q (.bl k) H) (e : k = k') : EP X pins σ Q (.bool k') s := by
  subst e
  exact ⟨.bl k, H, I, rfl, q⟩
theorem op_eq : OpR X (compareOp .Eq) rEq := by
  intro pins s σ H x y v u Q I rx ry h
  obtain ⟨hs, q⟩ := h
  cases x with
  | non =>
    cases rx
    cases y with
    | non => cases ry; exact PySem.EqNone.eq_none_none (fin_bl I q (by simp))
    | bl j => cases ry; exact PySem.EqNone.eq_none_bool (fin_bl I q (by simp))
    | int j => obtain ⟨t', rfl⟩ := ry; exact PySem.EqNone.eq_none_int (fin_bl I q (by simp))
    | str j => obtain ⟨t', rfl⟩ := ry; exact PySem.EqNone.eq_none_str (fin_bl I q (by simp))
    | _ => exact absurd (show false = true from hs) Bool.false_ne_true
  | bl i =>
    cases rx
    cases y with
    | non => cases ry; exact PySem.EqNone.eq_bool_none (fin_bl I q (by simp))
    | bl j => cases ry; exact eq_bool (fin_bl I q dec_bl)
    | str j => obtain ⟨t', rfl⟩ := ry; exact PySem.EqMixed.eq_bool_str (fin_bl I q (by simp))
    | _ => exact absurd (show false = true from hs) Bool.false_ne_true
  | int i =>
    obtain ⟨t, rfl⟩ := rx
    cases y with
    | non => cases ry; exact PySem.EqNone.eq_int_none (fin_bl I q (by simp))
    | int j => obtain ⟨t', rfl⟩ := ry; exact eq_int (fin_bl I q dec_int)
    | str j => obtain ⟨t', rfl⟩ := ry; exact PySem.EqMixed.eq_int_str (fin_bl I q (by simp))
    | _ => exact absurd (show false = true from hs) Bool.false_ne_true
  | str i =>
    obtain ⟨t, rfl⟩ := rx
    cases y with
    | non => cases ry; exact PySem.EqNone.eq_str_none (fin_bl I q (by simp))
    | bl j => cases ry; exact PySem.EqMixed.eq_str_bool (fin_bl I q (by simp))
    | int j => obtain ⟨t', rfl⟩ := ry; exact PySem.EqMixed.eq_str_int (fin_bl I q (by simp))
    | str j => obtain ⟨t', rfl⟩ := ry; exact eq_str (fin_bl I q dec_str)
    | _ => exact absurd (show false = true from hs) Bool.false_ne_true
  | byt i =>
    obtain ⟨t, rfl⟩ := rx
    cases y with
    | byt j => obtain ⟨t', rfl⟩ := ry; exact PySem.W.eq_bytes (fin_bl I q dec_byt)
    | _ => exact absurd (show false = true from hs) Bool.false_ne_true
  | _ => cases y <;> exact absurd (show false = true from hs) Bool.false_ne_true
theorem op_ne : OpR X (compareOp .NotEq) rNe := by
  intro pins s σ H x y v u Q I rx ry h
  obtain ⟨hs, q⟩ := h
  cases x with
  | non =>
    cases rx
    cases y with
    | non => cases ry; exact PySem.EqNone.ne_none_none (fin_bl I q (by simp))
    | bl j => cases ry; exact PySem.EqNone.ne_none_bool (fin_bl I q (by simp))
    | int j => obtain ⟨t', rfl⟩ := ry; exact PySem.EqNone.ne_none_int (fin_bl I q (by simp))
    | str j => obtain ⟨t', rfl⟩ := ry; exact PySem.EqNone.ne_none_str (fin_bl I q (by simp))
    | _ => exact absurd (show false = true from hs) Bool.false_ne_true
  | bl i =>
    cases rx
    cases y with
    | non => cases ry; exact PySem.EqNone.ne_bool_none (fin_bl I q (by simp))
    | bl j => cases ry; exact ne_bool (fin_bl I q (congrArg not dec_bl))
    | str j => obtain ⟨t', rfl⟩ := ry; exact PySem.EqMixed.ne_bool_str (fin_bl I q (by simp))
    | _ => exact absurd (show false = true from hs) Bool.false_ne_true
  | int i =>
    obtain ⟨t, rfl⟩ := rx
    cases y with
    | non => cases ry; exact PySem.EqNone.ne_int_none (fin_bl I q (by simp))
    | int j => obtain ⟨t', rfl⟩ := ry; exact ne_int (fin_bl I q (congrArg not dec_int))
    | str j => obtain ⟨t', rfl⟩ := ry; exact PySem.EqMixed.ne_int_str (fin_bl I q (by simp))
    | _ => exact absurd (show false = true from hs) Bool.false_ne_true
  | str i =>
    obtain ⟨t, rfl⟩ := rx
    cases y with
    | non => cases ry; exact PySem.EqNone.ne_str_none (fin_bl I q (by simp))
    | bl j => cases ry; exact PySem.EqMixed.ne_str_bool (fin_bl I q (by simp))
    | int j => obtain ⟨t', rfl⟩ := ry; exact PySem.EqMixed.ne_str_int (fin_bl I q (by simp))
    | str j => obtain ⟨t', rfl⟩ := ry; exact ne_str (fin_bl I q (congrArg not dec_str))
    | _ => exact absurd (show false = true from hs) Bool.false_ne_true
  | byt i =>
    obtain ⟨t, rfl⟩ := rx
    cases y with
    | byt j => obtain ⟨t', rfl⟩ := ry; exact PySem.W.ne_bytes (fin_bl I q (congrArg not dec_byt))
    | _ => exact absurd (show false = true from hs) Bool.false_ne_true
  | _ => cases y <;> exact absurd (show false = true from hs) Bool.false_ne_true

theorem op_lt : OpR X (compareOp .Lt) (rI0 fun i j => .bl (decide (i < j))) := opB0 fun _ _ _ _ _ _ _ q => lt_int q
theorem op_gt : OpR X (compareOp .Gt) (rI0 fun i j => .bl (decide (j < i))) := opB0 fun _ _ _ _ _ _ _ q => gt_int q
/-- two rules for one operation: by cases -/
theorem OpR.or {f : Value → Value → Sem Value} {r r' : R2} (h : OpR X f r) (h' : OpR X f r') : OpR X f (fun x y H Q => r x y H Q ∨ r' x y H Q) := by
  intro pins s σ H x y v u Q I rx ry q
  rcases q with q | q
  · exact h pins s σ H x y v u Q I rx ry q
  · exact h' pins s σ H x y v u Q I rx ry q

theorem nomark (b : Expr) {op : CmpOp} (h : op ≠ .In := by decide) (h2 : op ≠ .NotIn := by decide) : behindInMarks op b = false := by
  have e1 : (op == CmpOp.In) = false := by cases op <;> first | rfl | exact absurd rfl h
  have e2 : (op == CmpOp.NotIn) = false := by cases op <;> first | rfl | exact absurd rfl h2
  cases b <;> simp [behindInMarks, e1, e2]
/-- a comparison as a value; hm: nomark b, or (for in, not in) by with_unfolding_all rfl -/
theorem pe_cmpR {op : CmpOp} {r : R2} (ho : OpR X (compareOp op) r) (ha : PE X a ta) (hb : PE X b tb) (hm : behindInMarks op b = false) : PE X (.Compare a [op] [b] pos) (tOp r ta tb) := by
  intro pins s σ H Q I h
  exact wpAny_Compare1 (binT ha hb I h fun v u s2 x y H2 I2 rx ry q => ho pins s2 σ H2 x y v u Q I2 rx ry q) hm
/-- a reading of a value as a test -/
def tTest (t : TE) : TT := fun σ H Q => t σ H fun x H' => ∃ k, x = .bl k ∧ Q k H'
theorem pt_cmpR {op : CmpOp} {r : R2} (ho : OpR X (compareOp op) r) (ha : PE X a ta) (hb : PE X b tb) (hm : behindInMarks op b = false) : PT X (.Compare a [op] [b] pos) (tTest (tOp r ta tb)) := by
  intro pins s σ H Q I h
  refine wpAny_isTrue_Compare1 (thn (ha pins s σ H _ I h) fun v s1 ⟨x, H1, I1, r1, q1⟩ => thn (hb pins s1 σ H1 _ I1 q1) fun u s2 ⟨y, H2, I2, r2, q2⟩ =>
    thn (ho pins s2 σ H2 x y v u _ I2 r1 r2 q2) fun c s3 ⟨z, H3, I3, r3, k, e, q3⟩ => ?_) hm
  subst e
  cases r3
  exact wpAny_truthy_bool ⟨H3, I3, q3⟩
/-! ### truth -/
/-- a value's truth by the abstract heap -/
def TruV (K : PySem.W.Frag) (x : V) (H : Hp) (k : Bool) : Prop :=
  match x with
  | .non => k = false
  | .bl b => k = b
  | .int i => k = (i != 0)
  | .str y => y.length ≤ sizeLine ∧ k = ((y.length : Int) != 0)
  | .byt y => y.size ≤ sizeLine ∧ k = ((y.size : Int) != 0)
  | .ref p => (∃ xs, SqL K H p xs ∧ k = !xs.isEmpty) ∨ (∃ xs, SqT K H p xs ∧ k = !xs.isEmpty) ∨ ∃ kvs, H p = some (.dK kvs) ∧ k = !kvs.isEmpty
  | _ => False
theorem isEmpty_kv {κ : Type} {kvs : List (κ × V)} {vs : List (κ × Value)} (r : KV kvs vs) : (!vs.isEmpty) = !kvs.isEmpty := by
  cases r <;> rfl
theorem isEmpty_of {xs : List V} {its : List Value} (r : Vals xs its) : (!its.toArray.isEmpty) = !xs.isEmpty := by
  cases r <;> simp
theorem line63 : (sizeLine : Nat) < 2 ^ 63 := by rw [sizeLine_eq]; decide
theorem tru_ok : TruR X (fun x H Q => ∃ k, TruV X.K x H k ∧ Q k H) := by
  intro pins s σ H x v Q I rx h
  obtain ⟨k, e, q⟩ := h
  have hl := line63
  have hs : sizeLine = 16777216 := sizeLine_eq
  cases x with
  | non =>
    cases rx
    have e' : k = false := e
    subst e'
    exact truthy_none ⟨H, I, q⟩
  | bl b =>
    cases rx
    have e' : k = b := e
    subst e'
    exact wpAny_truthy_bool ⟨H, I, q⟩
  | int i =>
    obtain ⟨t, rfl⟩ := rx
    have e' : k = (i != 0) := e
    subst e'
    exact PySem.P.truthy_int ⟨H, I, q⟩
  | str y =>
    obtain ⟨t, rfl⟩ := rx
    obtain ⟨hy, e'⟩ : y.length ≤ sizeLine ∧ k = ((y.length : Int) != 0) := e
    subst e'
    exact PySem.P.truthy_str (by (first | lia | omega)) ⟨H, I.tok _, q⟩
  | byt y =>
    obtain ⟨t, rfl⟩ := rx
    obtain ⟨hy, e'⟩ : y.size ≤ sizeLine ∧ k = ((y.size : Int) != 0) := e
    subst e'
    exact PySem.W.truthy_bytes (by (first | lia | omega)) ⟨H, I.tok _, q⟩
  | ref p =>
    cases rx
    have e' : (∃ xs, SqL X.K H p xs ∧ k = !xs.isEmpty) ∨ (∃ xs, SqT X.K H p xs ∧ k = !xs.isEmpty) ∨ ∃ kvs, H p = some (.dK kvs) ∧ k = !kvs.isEmpty := e
    rcases e' with ⟨xs, hx, e'⟩ | ⟨xs, hx, e'⟩ | ⟨kvs, hx, e'⟩
    · subst e'
      obtain ⟨its, r, pl, hz⟩ := I.list hx
      have hlen := r.length
      exact wpAny_truthy_list pl.isList (by simp only [List.size_toArray]; (first | lia | omega)) ⟨H, I.tok _, by rw [isEmpty_of r]; exact q⟩
    · subst e'
      obtain ⟨its, r, pl, hz⟩ := I.tuple hx
      have hlen := r.length
      exact truthy_tuple pl (by simp only [List.size_toArray]; (first | lia | omega)) ⟨H, I.tok _, by rw [isEmpty_of r]; exact q⟩
    · subst e'
      obtain ⟨hz, hS, vs, r, m⟩ : kvs.length ≤ sizeLine ∧ (p == sysModules) = false ∧ ∃ vs, KV kvs vs ∧ s.heap.DictOf (mixKind X.prog X.w) p vs := I.hok p _ hx
      have hlen : kvs.length = vs.length := Paired.length r
      exact wpAny_truthy_dict hS m (by (first | lia | omega)) ⟨H, I.tok _, by rw [isEmpty_kv r]; exact q⟩
  | _ => exact (show False from e).elim
/-- any expression whose test is its value's truth (a name, a call, a subscript, a field ..: he by fun _ => rfl) -/
theorem pt_truth (ha : PE X a ta) (he : ∀ whole, isTrue a X.env whole = (do let v ← whole; standAt a.pos; holding [v] (truthy v))) :
    PT X a (fun σ H Q => ta σ H fun x H' => ∃ k, TruV X.K x H' k ∧ Q k H') := by
  intro pins s σ H Q I h
  exact isTrue_plain (thn (ha pins s σ H _ I h) fun v s1 ⟨x, H1, I1, r1, q1⟩ => tru_ok pins s1 σ H1 x v Q I1 r1 q1) (he _)

/-! ### strs and bytes -/
theorem op_add_str : OpR X (binaryOp .Add) (fun x y H Q => ∃ i j, x = .str i ∧ y = .str j ∧ i.length + j.length ≤ sizeLine ∧ Q (.str (i ++ j)) H) := by
  intro pins s σ H x y v u Q I rx ry h
  obtain ⟨i, j, rfl, rfl, hz, q⟩ := h
  obtain ⟨t, rfl⟩ := rx
  obtain ⟨t', rfl⟩ := ry
  exact add_str (fun t' tk => ⟨.str (i ++ j), H, I.tok _, ⟨_, rfl⟩, q⟩) hz
/-! ### scalar builtins, by CallR -/
theorem vals1 {x : V} {us : List Value} (r : Vals [x] us) : ∃ u, us = [u] ∧ RelV x u := by
  cases r with
  | cons r1 r2 => cases r2; exact ⟨_, rfl, r1⟩
theorem vals2 {x y : V} {us : List Value} (r : Vals [x, y] us) : ∃ u w', us = [u, w'] ∧ RelV x u ∧ RelV y w' := by
  cases r with
  | cons r1 r2 =>
    cases r2 with
    | cons r3 r4 => cases r4; exact ⟨_, _, rfl, r1, r3⟩
theorem call_max2 (hc : X.calm = true) : CallR X (.builtin "max") (fun xs H Q => ∃ i j, xs = [.int i, .int j] ∧ Q (.int (if j > i then j else i)) H) := by
  intro pins s σ H xs us Q I r h
  obtain ⟨i, j, rfl, q⟩ := h
  obtain ⟨u, w', rfl, ⟨t, rfl⟩, ⟨t', rfl⟩⟩ := vals2 r
  refine max_two_ints (I.ok.hd hc) fun h' tk k => ⟨_, H, I.kept k, ?_, q⟩
  by_cases hj : j > i
  · rw [if_pos hj, if_pos hj]; exact ⟨_, rfl⟩
  · rw [if_neg hj, if_neg hj]; exact ⟨_, rfl⟩
theorem call_min2 (hc : X.calm = true) : CallR X (.builtin "min") (fun xs H Q => ∃ i j, xs = [.int i, .int j] ∧ Q (.int (if j < i then j else i)) H) := by
  intro pins s σ H xs us Q I r h
  obtain ⟨i, j, rfl, q⟩ := h
  obtain ⟨u, w', rfl, ⟨t, rfl⟩, ⟨t', rfl⟩⟩ := vals2 r
  refine min_two_ints (I.ok.hd hc) fun h' tk k => ⟨_, H, I.kept k, ?_, q⟩
  by_cases hj : j < i
  · rw [if_pos hj, if_pos hj]; exact ⟨_, rfl⟩
  · rw [if_neg hj, if_neg hj]; exact ⟨_, rfl⟩
end
end L2

namespace L2
open PySem PySem.Spec PyProof.Rows

/-! ### an instance, its attributes a map -/
structure ObjM (h : Heap) (x dx C : Addr) (mA : Str → Option Value) : Prop where
  obj : h.get? x = some (PySem.W.instObj C dx)
  ns : h.Ns1 dx mA
  ne : dx ≠ x

theorem lookIn_ns {h : Heap} {dx : Addr} {mA : Str → Option Value} (n : h.Ns1 dx mA) : ∃ od, h.get? dx = some od ∧ ∀ name, PySem.W.lookIn name od = some (mA name) := by
  obtain ⟨o, es, ep, ho, hd, hk, _, hm⟩ := n
  refine ⟨o, ho, fun name => ?_⟩
  have e := hm name
  unfold nsFind findBy at e
  rw [← Array.find?_toList] at e
  unfold PySem.W.lookIn
  rw [hd]
  dsimp only
  split
  · rename_i y q
    rw [q] at e
    exact congrArg some e
  · rename_i q
    rw [q] at e
    have a : es.toList.any (·.refKey) = false := by
      rw [List.any_eq_false]
      intro y hy
      obtain ⟨z, t, hkey⟩ := hk y (Array.mem_toList_iff.mp hy)
      simp [DictEntry.refKey, hkey]
    have a' : ¬ es.toList.any (·.refKey) = true := by rw [a]; exact Bool.false_ne_true
    rw [if_neg a']
    exact congrArg some e

theorem ObjM.look {h : Heap} {x dx C : Addr} {mA : Str → Option Value} (I : ObjM h x dx C mA) : ∃ od, PySem.W.InstAt h x (PySem.W.instObj C dx) C (some od) ∧ ∀ name, PySem.W.lookIn name od = some (mA name) :=
  let ⟨od, ho, hl⟩ := lookIn_ns I.ns
  ⟨od, ⟨I.obj, rfl, rfl, ho⟩, hl⟩


/-! ### the attributes as a list of pairs -/
theorem RelO.some_of {v : V} {o : Option Value} (r : RelO (some v) o) : ∃ u, o = some u ∧ RelV v u := by
  cases o with
  | none => exact (show False from r).elim
  | some u => exact ⟨u, rfl, r⟩
section
variable {P : Program} {w : World} {H H' : Hp} {h h' : Heap} {a C dx : Addr} {fs fs' : List (Str × V)}
theorem ins_get (hok : HOk P w H h) (e : H a = some (.ins C dx fs)) : ∃ mA, ObjM h a dx C mA ∧ (∀ f, RelO (fs.lookup f) (mA f)) ∧ PySem.Within mA (fs.map (·.1)) ∧ fs.length ≤ 1000 ∧ H dx = some (.own a) := by
  obtain ⟨d, z, ne, ob, mA, n, r, q⟩ := (show ObjOk P w H h a (.ins C dx fs) from hok a _ e)
  exact ⟨mA, ⟨ob, n, ne⟩, r, q, z, d⟩
end

/-! ### what of the text a class must have -/
structure Cls (K : PySem.W.Frag) (C : Addr) : Prop where
  pg : PySem.W.plainGet K C Str.empty = true
  hd : PySem.W.hasDictIn K C = true
  po : PySem.W.plainOver K C = true
  sa : PySem.W.findIn K (.ref C) "__setattr__" = some (some (.builtin "object.__setattr__"))
theorem Cls.get {K : PySem.W.Frag} {C : Addr} (c : Cls K C) (f : Str) : PySem.W.plainGet K C f = true := c.pg

/-! ### readings and rules -/

/-! ### isinstance -/
section
variable {X : Cx} {pins : List (Addr × Obj)} {σ : St} {H : Hp} {s : Shared} {A : Around} {E : Value → Shared → Prop} {Q : Value → Shared → Prop} {c : Value} {b : Bool}
/-- the type of a value, as the fragment's deciders take it; for an instance its class -/
inductive TyOf (K : PySem.W.Frag) (H : Hp) : V → Value → Prop where
  | non : TyOf K H .non (.type "NoneType")
  | bl (x : Bool) : TyOf K H (.bl x) (.type "bool")
  | int (i : Int) : TyOf K H (.int i) (.type "int")
  | str (x : Str) : TyOf K H (.str x) (.type "str")
  | flt (x : UInt64) : TyOf K H (.flt x) (.type "float")
  | lst {a : Addr} {xs : List V} (e : H a = some (.lst xs)) : TyOf K H (.ref a) (.type "list")
  | frz {a : Addr} {o : Obj} {xs : List V} (e : H a = some (.frz o (.lst xs))) : TyOf K H (.ref a) (.type "list")
  | tup {a : Addr} {xs : List V} (e : H a = some (.tup xs)) : TyOf K H (.ref a) (.type "tuple")
  | dK {a : Addr} {kvs : List (Key × V)} (e : H a = some (.dK kvs)) : TyOf K H (.ref a) (.type "dict")
  | dT {a : Addr} {kvs : List (List Key × V)} (e : H a = some (.dT kvs)) : TyOf K H (.ref a) (.type "dict")
  | ins {a C dx : Addr} {fs : List (Str × V)} (e : H a = some (.ins C dx fs)) (cl : Cls K C) (ha : PySem.W.findIn K (.ref C) "__class__" = some (some (.builtin "object.__class__")))
      (hn : PySem.W.specialIn K (.builtin "object.__class__") "__get__" = some (some (.builtin "getset_descriptor.__get__"))) (htk : PySem.W.takesIn K (.builtin "object.__class__") = some true)
      (hm : PySem.W.mroIn K C (.type "object") = some true) : TyOf K H (.ref a) (.ref C)
/-- isinstance(x, c) for one class c, a built-in or an own one: kitOne's answer -/
theorem isinst_ok {x : V} {u t : Value} (I : Inv X pins σ H s) (rx : RelV x u) (ty : TyOf X.K H x t) (e : PySem.W.kitOne X.K t c = some b) (h : ∀ tk, Q (.bool b) { s with toks := tk }) :
    wpAny (model X.prog X.w) A (call (.builtin "isinstance") [u, c]) Q E s := by
  cases ty with
  | non => cases (show u = Value.none from rx); exact PySem.W.kia_one PySem.W.kitx_none I.kIn True.intro e (fun z => nomatch z) h
  | bl y => cases (show u = Value.bool y from rx); exact PySem.W.kia_one PySem.W.kitx_bool I.kIn True.intro e (fun z => nomatch z) h
  | int i => obtain ⟨t, q⟩ := (show ∃ t, u = Value.int i t from rx); cases q; exact PySem.W.kia_one PySem.W.kitx_int I.kIn True.intro e (fun z => nomatch z) h
  | str y => obtain ⟨t, q⟩ := (show ∃ t, u = Value.str y t from rx); cases q; exact PySem.W.kia_one PySem.W.kitx_str I.kIn True.intro e (fun z => nomatch z) h
  | flt y => obtain ⟨t, q⟩ := (show ∃ t, u = Value.float y t from rx); cases q; exact PySem.W.kia_one PySem.W.kitx_float I.kIn True.intro e (fun z => nomatch z) h
  | @lst a xs ea =>
    cases (show u = Value.ref a from rx)
    obtain ⟨_, _, n, _, h1⟩ := (show ObjOk X.prog X.w H s.heap a (.lst xs) from I.hok a _ ea)
    exact PySem.W.kia_one PySem.W.kitx_list I.kIn ⟨_, h1, rfl⟩ e (fun z => nomatch z) h
  | @frz a ob xs ea =>
    cases (show u = Value.ref a from rx)
    obtain ⟨_, _, _, n, _, h1⟩ := (show ObjOk X.prog X.w H s.heap a (.frz ob (.lst xs)) from I.hok a _ ea)
    exact PySem.W.kia_one PySem.W.kitx_list I.kIn ⟨_, h1, rfl⟩ e (fun z => nomatch z) h
  | @tup a xs ea =>
    cases (show u = Value.ref a from rx)
    obtain ⟨_, _, _, p⟩ := (show ObjOk X.prog X.w H s.heap a (.tup xs) from I.hok a _ ea)
    obtain ⟨o, h1, h2, _⟩ := p
    exact PySem.W.kia_one PySem.W.kitx_tuple I.kIn ⟨o, h1, h2⟩ e (fun z => nomatch z) h
  | @dK a kvs ea =>
    cases (show u = Value.ref a from rx)
    obtain ⟨_, _, vs, _, p⟩ := (show ObjOk X.prog X.w H s.heap a (.dK kvs) from I.hok a _ ea)
    obtain ⟨o, es, ep, h1, h2, _⟩ := p
    exact PySem.W.kia_one PySem.W.kitx_dict I.kIn ⟨o, h1, h2.1⟩ e (fun z => nomatch z) h
  | @dT a kvs ea =>
    cases (show u = Value.ref a from rx)
    obtain ⟨_, _, xs, _, o, es, ep, h1, h2, _⟩ := (show ObjOk X.prog X.w H s.heap a (.dT kvs) from I.hok a _ ea)
    exact PySem.W.kia_one PySem.W.kitx_dict I.kIn ⟨o, h1, h2.1⟩ e (fun z => nomatch z) h
  | @ins a C dx fs ea cl ha hn htk hm =>
    cases (show u = Value.ref a from rx)
    obtain ⟨mA, O, _⟩ := ins_get I.hok ea
    obtain ⟨od, J, _⟩ := O.look
    exact PySem.W.kia_one (PySem.W.kitx_own (cl.get _) cl.hd ha hn htk hm) I.kIn J e (fun z => nomatch z) h
end
end L2

namespace L2
open PySem PySem.Spec PyProof.Rows

/-! ### room -/
structure Room (k : Nat) (A : Around) : Prop where
  hd : A.handled = none
  dp : A.depth + 2 * k + 5 < recursionLimit
  un : A.units + 16 * k + 200 < cLine
  gd : A.guards = some []
theorem Room.mono {j k : Nat} {A : Around} (r : Room k A) (h : j ≤ k) : Room j A := ⟨r.hd, by have := r.dp; (first | lia | omega), by have := r.un; (first | lia | omega), r.gd⟩
theorem Room.deeper {k : Nat} {A : Around} (r : Room (k + 1) A) (env : Env) : Room k (A.deeper env) :=
  ⟨r.hd, by have := r.dp; show A.depth + 1 + 2 * k + 5 < _; (first | lia | omega), by have := r.un; show A.units + 3 + 16 * k + 200 < _; (first | lia | omega), r.gd⟩
theorem Room.depth {k : Nat} {A : Around} (r : Room k A) : A.depth < recursionLimit := by have := r.dp; (first | lia | omega)
/-! ### argument lists and displays -/
def tNil : TA := fun _ H Q => Q [] H
def tCons (ta : TE) (tr : TA) : TA := fun σ H Q => ta σ H fun x H1 => tr σ H1 fun xs H2 => Q (x :: xs) H2
section
variable {X : Cx} {e : Expr} {es : List Expr} {te : TE} {t : TA} {pos : Pos}
theorem pa_nil : PA X [] tNil := fun _ _ _ _ H Q I h => Calls.spliced_nil ⟨[], H, I, .nil, h⟩
theorem pa_cons (ha : PE X e te) (hr : PA X es t) (hs : starEach (e :: es) X.env = (false, eval e X.env) :: starEach es X.env := by rfl) : PA X (e :: es) (tCons te t) := by
  intro pos pins s σ H Q I h
  rw [hs]
  show wpAny _ _ (spliced ((false, eval e X.env) :: backTo pos (starEach es X.env))) _ _ s
  refine Calls.spliced_cons (thn (ha pins s σ H _ I h) fun u s1 ⟨x, H1, I1, r1, q1⟩ => ?_)
  exact thn (hr pos pins s1 σ H1 _ I1 q1) fun us s2 ⟨xs, H2, I2, r2, q2⟩ => ⟨x :: xs, H2, I2, .cons r1 r2, q2⟩

/-- a tuple, a list of written items -/
def tTup (t : TA) : TE := fun σ H Q => t σ H fun xs H1 => xs.length ≤ sizeLine ∧ ∀ p, H1 p = none → Q (.ref p) (upd H1 p (.tup xs))
def tLst (t : TA) : TE := fun σ H Q => t σ H fun xs H1 => xs.length ≤ sizeLine ∧ ∀ p, H1 p = none → Q (.ref p) (upd H1 p (.lst xs))
theorem pe_tup {x1} (h : PA X es t) : PE X (.Tuple es x1 pos) (tTup t) := by
  intro pins s σ H Q I hq
  refine wpAny_Tuple_spliced (thn (h pos pins s σ H _ I hq) fun us s1 ⟨xs, H1, I1, r, z, q⟩ => ⟨by rw [← r.length]; exact z, ?_⟩)
  have hf : H1 s1.heap.objs.size = none := I1.hok.fresh (Nat.le_refl _)
  refine ⟨.ref s1.heap.objs.size, upd H1 s1.heap.objs.size (.tup xs), I1.laid (t' := s1.toks) (fun b u e => Heap.get?_push_of_some _ e) (Nat.le_refl _) ?_, rfl, q _ hf⟩
  exact ⟨z, us, r, ⟨_, Heap.get?_push_size _ rfl, rfl, _, rfl⟩⟩
theorem pe_lst (h : PA X es t) : PE X (.List es pos) (tLst t) := by
  intro pins s σ H Q I hq
  refine wpAny_List_spliced (thn (h pos pins s σ H _ I hq) fun us s1 ⟨xs, H1, I1, r, z, q⟩ => ⟨by rw [← r.length]; exact z, ?_⟩)
  have hf : H1 s1.heap.objs.size = none := I1.hok.fresh (Nat.le_refl _)
  refine ⟨.ref s1.heap.objs.size, upd H1 s1.heap.objs.size (.lst xs), I1.laid (t' := s1.toks) (fun b u e => Heap.get?_push_of_some _ e) (Nat.le_refl _) ?_, rfl, q _ hf⟩
  exact ⟨z, us, 0, r, Heap.get?_push_size _ rfl⟩
end

/-! ### what a def promises -/
/-- a def's promise: the bound arguments in the parameters' order, the heap, the wanted end, the wanted exception -/
abbrev Sp := List V → Hp → VK → XK → Prop
/-- how an exception lies behind a call (file 08 gives it): the callers' frames, abstract heap and state ahead of the call, the wish, the exception, the state -/
abbrev CXT := List Env → Hp → Shared → XK → Value → Shared → Prop

/-- the state at a call -/
structure Env0 (P : Program) (w : World) (K : PySem.W.Frag) (mg : Str → Option Value) (base : Heap) (A : Around) (outer : List Env) (s : Shared) (H : Hp) : Prop where
  frames : A.frames = some outer
  mod : Mod K mg base
  bs : ∀ b o, base.get? b = some o → s.heap.get? b = some o ∧ H b = none
  bsz : base.objs.size ≤ s.heap.objs.size
  funs : s.heap.FunFrames base outer
  frf : ∀ b ∈ frs outer, H b = none
  hok : HOk P w H s.heap
  bare : AllBare s.gens
/-- a call's end -/
def CE (outer : List Env) (P : Program) (w : World) (H : Hp) (s : Shared) (Q : VK) (u : Value) (s' : Shared) : Prop :=
  ∃ v H', s'.os = s.os ∧ AllBare s'.gens ∧ Un (frs outer) [] H H' s.heap s'.heap ∧ HOk P w H' s'.heap ∧ RelV v u ∧ Q v H'
def CR (CX : CXT) (outer : List Env) (P : Program) (w : World) (H : Hp) (s : Shared) (Q : VK) (E : XK) (r : Result) (s' : Shared) : Prop :=
  match r with
  | .ok (.ret u) => CE outer P w H s Q u s'
  | .ok _ => False
  | .error e => CX outer H s E e s'
structure FnOk (P : Program) (w : World) (K : PySem.W.Frag) (mg : Str → Option Value) (base : Heap) (CX : CXT) (k : Nat) (f : Addr) (fd : FuncData) (ps : List Str) (sp : Sp) : Prop where
  len : ∀ vs H Q E, sp vs H Q E → vs.length = ps.length
  run : ∀ (A : Around) (outer : List Env) (s : Shared) (H : Hp) (args : Args) (us : List Value) (vs : List V) (Q : VK) (E : XK), Room k A → Env0 P w K mg base A outer s H → BindsTo s fd args (ps.zip us) → Vals vs us → sp vs H Q E →
    codeAny (model P w) A (.call (.ref f) args) (CR CX outer P w H s Q E) s
section
variable {X : Cx} {pins : List (Addr × Obj)} {σ : St} {H : Hp} {s s' : Shared}
/-- from a body: what a callee wants -/
theorem Inv.env0 (I : Inv X pins σ H s) : Env0 X.prog X.w X.K X.mg X.base X.A X.stack s H :=
  ⟨I.ok.frames, I.ok.mod, I.bs, Nat.le_trans I.ok.bsz I.sz, I.stack, I.stkFree, I.hok, I.bare⟩
/-- behind a call -/
theorem Inv.after {Q : VK} {u : Value} (I : Inv X pins σ H s) (h : CE X.stack X.prog X.w H s Q u s') : EP X pins σ Q u s' := by
  obtain ⟨v, H', os, bare, un, hok, r, q⟩ := h
  obtain ⟨hh, g, d, t, os'⟩ := s'
  obtain rfl : os' = s.os := os
  exact ⟨v, H', I.call (h' := hh) (g' := g) (d' := d) (t' := t) (ch := []) un hok bare (fun b z => absurd z (by simp)), r, q⟩
end

/-! ### calls -/
/-- f(..): the written arguments, then the defaults dvs; E: what is wanted of an exception -/
def tCall (sp : Sp) (dvs : List V) (E : XK) (t : TA) : TE := fun σ H Q => t σ H fun vs H1 => sp (vs ++ dvs) H1 Q E
/-- how the parameters are bound: us the positional arguments, kw the keywords' values by name, ds the defaults that fill up -/
def Binds (K : PySem.W.Frag) (fd : FuncData) (ps : List Str) (ds : List Value) : Prop :=
  ∀ (s : Shared) (us : List Value), K.In s.heap → (us ++ ds).length = ps.length → BindsTo s fd ⟨us, []⟩ (ps.zip (us ++ ds))
/-- every parameter is given -/
theorem Binds.all {K : PySem.W.Frag} {fd : FuncData} {ps : List Str} (h : ∀ us : List Value, us.length = ps.length → bindArgs fd ⟨us, []⟩ = pure (ps.zip us)) : Binds K fd ps [] := fun s us _ hl => by
  rw [List.append_nil] at hl ⊢
  exact .of_eq (h us hl)

/-- an exception of a callee reaches what this body wants of exceptions -/
def Passes (CX : CXT) (X : Cx) (E : XK) : Prop := ∀ (pins : List (Addr × Obj)) (σ : St) (H : Hp) (s : Shared) (e : Value) (s' : Shared), Inv X pins σ H s → CX X.stack H s E e s' → X.xe e s'

section
variable {X : Cx} {CX : CXT} {k : Nat} {f C : Addr} {fd : FuncData} {ps : List Str} {sp : Sp} {dvs : List V} {ds : List Value} {E : XK} {x m : Str} {p pos apos : Pos} {e o : Expr} {es : List Expr} {ta : TE} {t : TA}

/-- the callee runs -/
theorem run_fn {pins : List (Addr × Obj)} {σ : St} {H : Hp} {s : Shared} {Q : VK} {us : List Value} {vs : List V} (F : FnOk X.prog X.w X.K X.mg X.base CX k f fd ps sp) (hr : Room k X.A) (hb : Binds X.K fd ps ds) (hd : Vals dvs ds) (hx : Passes CX X E)
    (I : Inv X pins σ H s) (r : Vals vs us) (h : sp (vs ++ dvs) H Q E) : wpAny (model X.prog X.w) X.A (call (.ref f) us) (EP X pins σ Q) X.xe s := by
  have r2 : Vals (vs ++ dvs) (us ++ ds) := r.append hd
  have hl : (us ++ ds).length = ps.length := by rw [← r2.length]; exact F.len _ _ _ _ h
  refine wpAny_call (codeAny_mono (F.run X.A X.stack s H ⟨us, []⟩ (us ++ ds) (vs ++ dvs) Q E hr I.env0 (hb s us I.kIn hl) r2 h) fun r s' hq => ?_)
  cases r with
  | error e => exact hx pins σ H s e s' I hq
  | ok fl =>
    cases fl with
    | ret u => exact I.after hq
    | next => exact False.elim hq
    | brk => exact False.elim hq
    | cont => exact False.elim hq

theorem pe_call (F : FnOk X.prog X.w X.K X.mg X.base CX k f fd ps sp) (hr : Room k X.A) (hg : Gl X x) (hm : X.mg x = some (.ref f)) (hk : PySem.W.keepIn X.K (.ref f) = true) (hb : Binds X.K fd ps ds) (hd : Vals dvs ds) (hx : Passes CX X E)
    (ha : PA X (e :: es) t) (hdb : (x == ("__debug__" : Str)) = false := by decide) (he : starEach (e :: es) X.env = (false, eval e X.env) :: starEach es X.env := by rfl) (hpl : (backTo pos (starEach es X.env)).any (·.1) = false := by rfl) :
    PE X (.Call (.Name x p) (e :: es) [] pos) (tCall sp dvs E t) := by
  intro pins s σ H Q I h
  refine wpAny_Call_Name_kw (ld_glob I hg hm ?_ hdb)
  refine PySem.W.callWith_K (h₀ := X.base) I.ok.mod.kin hk (thn (ha pos pins s σ H _ I h) fun us s1 ⟨vs, H1, I1, r, q⟩ => ⟨I1.kIn, ?_⟩) he hpl
  exact run_fn F hr hb hd hx I1 r q
end

/-! ### keywords -/
/-- the values of the keywords, from the left -/
def PK (X : Cx) (kws : List Keyword) (t : TA) : Prop :=
  ∀ (pos : Pos) (pins : List (Addr × Obj)) (s : Shared) (σ : St) (H : Hp) (Q : List V → Hp → Prop), Inv X pins σ H s → t σ H Q → wpAny (model X.prog X.w) X.A (evalAll ((backToKw pos (keywordEach kws X.env)).map (·.2))) (AP X pins σ Q) X.xe s
section
variable {X : Cx} {CX : CXT} {k : Nat} {f C : Addr} {fd : FuncData} {ps ks : List Str} {sp : Sp} {E : XK} {x m : Str} {p pos apos kpos : Pos} {e o : Expr} {es : List Expr} {kws : List Keyword} {te ta : TE} {t tk : TA} {nm : Option Str}
theorem pk_nil : PK X [] tNil := fun _ _ _ _ H Q I h => wpAny_evalAll_nil ⟨[], H, I, .nil, h⟩
theorem pk_cons (ha : PE X e te) (hr : PK X kws t) : PK X (⟨nm, e, kpos⟩ :: kws) (tCons te t) := by
  intro pos pins s σ H Q I h
  show wpAny _ _ (evalAll ((do let v ← eval e X.env; standAt pos; pure v) :: (backToKw pos (keywordEach kws X.env)).map (·.2))) _ _ s
  refine wpAny_evalAll_cons (wpAny_bind (thn (ha pins s σ H _ I h) fun u s1 ⟨x, H1, I1, r1, q1⟩ => wpAny_bind (wpAny_standAt (wpAny_pure ?_))))
  exact thn (hr pos pins s1 σ H1 _ I1 q1) fun us s2 ⟨xs, H2, I2, r2, q2⟩ => ⟨x :: xs, H2, I2, .cons r1 r2, q2⟩

variable {g : List Value → List Value → List Value} {gV : List V → List V → List V}
end

/-! ### a def's body keeps its promise -/
/-- names: the parameters first -/
structure FnScope (N P : List Str) (sc : Scope) : Prop where
  kind : sc.kind = .function
  co : sc.isCoroutine = false
  gen : sc.isGenerator = false
  nd : N.Nodup
  pre : N.take P.length = P
  par : ∀ x ∈ P, sc.names.lookup x = some .local ∨ sc.names.lookup x = some .cell
  nofree : ∀ y ∈ sc.names, y.2 ≠ .free

theorem bindL_out {kindOf : Str → Option NameKind} {x : Str} : ∀ {binds : List (Str × Value)} {m : Str → Option Value}, (∀ v, (x, v) ∉ binds) → bindL kindOf binds m x = m x
  | [], _, _ => rfl
  | (n, v) :: r, m, h => by
    unfold bindL
    rw [bindL_out fun w hw => h w (List.mem_cons_of_mem _ hw)]
    split
    · have : x ≠ n := by rintro rfl; exact h v List.mem_cons_self
      simp [this]
    · rfl
theorem bindC_out {kindOf : Str → Option NameKind} {x : Str} : ∀ {binds : List (Str × Value)} {m : Str → Option Value}, (∀ v, (x, v) ∉ binds) → bindC kindOf binds m x = m x
  | [], _, _ => rfl
  | (n, v) :: r, m, h => by
    unfold bindC
    rw [bindC_out fun w hw => h w (List.mem_cons_of_mem _ hw)]
    split
    · rfl
    · have : x ≠ n := by rintro rfl; exact h v List.mem_cons_self
      simp [this]
theorem bindL_get {kindOf : Str → Option NameKind} {x : Str} {v : Value} : ∀ {P : List Str} {vs : List Value} {i : Nat} {m : Str → Option Value}, P.Nodup → P[i]? = some x → vs[i]? = some v → kindOf x = some .local →
    bindL kindOf (P.zip vs) m x = some v
  | [], _, _, _, _, h, _, _ => by simp at h
  | _ :: _, [], _, _, _, _, h, _ => by simp at h
  | p :: P, w :: vs, 0, m, nd, h1, h2, hk => by
    simp at h1 h2; subst h1; subst h2
    show bindL kindOf ((p, w) :: P.zip vs) m p = _
    unfold bindL
    rw [bindL_out fun v hv => (List.nodup_cons.mp nd).1 (List.of_mem_zip hv).1, if_pos hk]
    simp
  | p :: P, w :: vs, i + 1, m, nd, h1, h2, hk => by
    show bindL kindOf ((p, w) :: P.zip vs) m x = _
    unfold bindL
    exact bindL_get (i := i) (List.nodup_cons.mp nd).2 (by simpa using h1) (by simpa using h2) hk
theorem bindC_get {kindOf : Str → Option NameKind} {x : Str} {v : Value} : ∀ {P : List Str} {vs : List Value} {i : Nat} {m : Str → Option Value}, P.Nodup → P[i]? = some x → vs[i]? = some v → kindOf x ≠ some .local →
    bindC kindOf (P.zip vs) m x = some v
  | [], _, _, _, _, h, _, _ => by simp at h
  | _ :: _, [], _, _, _, _, h, _ => by simp at h
  | p :: P, w :: vs, 0, m, nd, h1, h2, hk => by
    simp at h1 h2; subst h1; subst h2
    show bindC kindOf ((p, w) :: P.zip vs) m p = _
    unfold bindC
    rw [bindC_out fun v hv => (List.nodup_cons.mp nd).1 (List.of_mem_zip hv).1, if_neg hk]
    simp
  | p :: P, w :: vs, i + 1, m, nd, h1, h2, hk => by
    show bindC kindOf ((p, w) :: P.zip vs) m x = _
    unfold bindC
    exact bindC_get (i := i) (List.nodup_cons.mp nd).2 (by simpa using h1) (by simpa using h2) hk

/-- the names' values at the entry -/
def start (N : List Str) (vs : List V) : St := vs.map some ++ List.replicate (N.length - vs.length) none

/-- the context of a def's body, at its entry; an exception leaves the frame, then lies as CX says -/
def cxOf (CX : CXT) (P : Program) (w : World) (K : PySem.W.Frag) (mg : Str → Option Value) (base : Heap) (N : List Str) (qual : Str) (scope : Scope) (f : Addr) (cd : Value) (A : Around) (outer : List Env) (s : Shared) (H : Hp) (E : XK) : Cx where
  prog := P
  w := w
  K := K
  mg := mg
  base := base
  A := A.deeper (envOfC qual scope s.heap.objs.size f cd)
  N := N
  s₀ := s
  H₀ := H
  env := envOfC qual scope s.heap.objs.size f cd
  outer := outer
  stack := envOfC qual scope s.heap.objs.size f cd :: outer
  ex := []
  calm := true
  fn := fun _ => true
  pn := []
  xe := fun e s' => wpAny (model P w) (A.deeper (envOfC qual scope s.heap.objs.size f cd)) (leaving (envOfC qual scope s.heap.objs.size f cd) e) (fun _ s'' => CX outer H s E e s'') (fun e' s'' => CX outer H s E e' s'') s'

theorem cell_has {sc : Scope} {n : Nat} {x : Str} (h : sc.names.lookup x = some .cell) : ∃ c, (cellsFrom n sc.names []).lookup x = some c := by
  have q := PySem.W.cellsFrom_some sc.names n [] (.inl h)
  exact Option.isSome_iff_exists.mp q

theorem inv_start {CX : CXT} {P : Program} {w : World} {K : PySem.W.Frag} {mg : Str → Option Value} {base : Heap} {N ps : List Str} {qual : Str} {scope : Scope} {f : Addr} {cd : Value} {A : Around} {outer : List Env} {s s1 : Shared} {H : Hp} {E : XK} {us : List Value} {vs : List V}
    (S : FnScope N ps scope) (hd : A.handled = none) (e0 : Env0 P w K mg base A outer s H) (hl : vs.length = ps.length) (r : Vals vs us)
    (x : InCallC s s.heap.objs.size (bindL (envOfC qual scope s.heap.objs.size f cd).kindOf (ps.zip us) fun _ => none) (cellsFrom (s.heap.objs.size + 1) scope.names []) (bindC (envOfC qual scope s.heap.objs.size f cd).kindOf (ps.zip us) fun _ => none) s1) :
    Inv (cxOf CX P w K mg base N qual scope f cd A outer s H E) [] (start N vs) H s1 := by
  have hpl : ps.length ≤ N.length := by have := congrArg List.length S.pre; rw [List.length_take] at this; (first | lia | omega)
  obtain ⟨h1, tk, rfl, hk⟩ := x.done
  have noA : ∀ b : Addr, b ∉ (cxOf CX P w K mg base N qual scope f cd A outer s H E).ex := fun b z => absurd (show b ∈ ([] : List Addr) from z) (by simp)
  refine ⟨⟨e0.mod, S.kind, rfl, rfl, Nat.le_refl _, fun y z c h1 h2 => ?_, fun y hy => ?_, fun y c _ h => ?_, fun _ => hd, Around.frames_deeper e0.frames, .inr ⟨rfl, rfl⟩, fun b z => absurd z (noA b), e0.bs, e0.bsz, fun b _ _ => noA b, fun b z => absurd z (noA b), e0.funs, e0.frf⟩,
    rfl, e0.bare, Un.kept hk, ⟨_, x.toInCall.ns, fun i y v h1 h2 h3 => ?_⟩, fun y c h => ⟨_, x.cell y c h⟩, e0.hok.fresh (Nat.le_refl _), fun y c h => ?_, fun p hp => absurd (show p ∈ ([] : List (Addr × Obj)) from hp) (by simp), e0.hok.kept hk, ?_⟩
  · exact name_of_addr x.apart (PySem.mem_of_lookup h1) (PySem.mem_of_lookup h2)
  · have hy : scope.names.lookup y = some .cell ∨ scope.names.lookup y = some .free := hy
    rcases hy with hy | hy
    · exact cell_has hy
    · exact absurd rfl (S.nofree _ (PySem.mem_of_lookup hy))
  · exact Nat.le_of_lt (x.above y c (PySem.mem_of_lookup h))
  · have hi : i < vs.length := by
      unfold start at h2
      by_cases hi : i < vs.length
      · exact hi
      · rw [List.getElem?_append_right (by simpa using hi)] at h2
        rw [List.getElem?_replicate] at h2
        split at h2 <;> cases h2
    have ha : vs[i]? = some v := by
      unfold start at h2
      rw [List.getElem?_append_left (by simpa using hi), List.getElem?_map] at h2
      cases e : vs[i]? with
      | none => rw [e] at h2; cases h2
      | some a => rw [e] at h2; cases h2; rfl
    obtain ⟨u, hu, rv⟩ := r.get ha
    have hp : ps[i]? = some y := by
      rw [← S.pre, List.getElem?_take_of_lt (by (first | lia | omega))]; exact h1
    have ndP : ps.Nodup := by rw [← S.pre]; exact S.nd.sublist (List.take_sublist _ _)
    refine ⟨u, rv, ?_⟩
    rcases S.par y (List.mem_of_getElem? hp) with k | k
    · exact .inl ⟨k, bindL_get ndP hp hu k⟩
    · obtain ⟨c, e⟩ := cell_has (n := s.heap.objs.size + 1) k
      refine .inr ⟨.inl k, c, e, ?_⟩
      have q := x.cell y c e
      rw [bindC_get ndP hp hu (by show scope.names.lookup y ≠ _; rw [k]; decide)] at q
      exact q
  · exact e0.hok.fresh (Nat.le_of_lt (x.above y c (PySem.mem_of_lookup h)))
  · unfold start
    show _ = N.length
    rw [List.length_append, List.length_map, List.length_replicate]
    (first | lia | omega)

/-- THE RULE: a def (or a method) of the text, by its body. The body's reading t is chosen for each entry; it is run at the parameters' values -/
theorem fn_of {CX : CXT} {P : Program} {w : World} {K : PySem.W.Frag} {mg : Str → Option Value} {base : Heap} {k : Nat} {f : Addr} {name qual : Str} {params : Arguments} {body : List Stmt} {scope : Scope} {dV kV doc pm cdv ct oc : Value} {an od : Option Addr}
    {osl : Array (Option Value)} {N ps : List Str} {sp : Sp} (lk : K.lookup f = some ⟨oc, od, .func (PySem.W.fnOf name qual params body scope dV kV doc pm an cdv ct), osl⟩) (hcd : PySem.W.codeIn K cdv qual = true) (S : FnScope N ps scope)
    (len : ∀ vs H Q E, sp vs H Q E → vs.length = ps.length)
    (hbody : ∀ (A : Around) (outer : List Env) (s : Shared) (H : Hp) (vs : List V) (Q : VK) (E : XK), Room k (A.deeper (envOfC qual scope s.heap.objs.size f cdv)) → sp vs H Q E →
      ∃ t, PSs (cxOf CX P w K mg base N qual scope f cdv A outer s H E) body t ∧ t { nx := fun _ H' => Q .non H', rt := Q } (start N vs) H) :
    FnOk P w K mg base CX (k + 1) f (PySem.W.fnOf name qual params body scope dV kV doc pm an cdv ct) ps sp := by
  refine ⟨len, fun A outer s H args us vs Q E hr e0 hb r hsp => ?_⟩
  have hl := len _ _ _ _ hsp
  have KX : K.In s.heap := e0.mod.kin.keeps fun b o e => (e0.bs b o e).1
  have lim : s.heap.NoLimit := e0.mod.nolimit.keeps fun b o e => (e0.bs b o e).1
  have hkind : ∀ y ∈ ps.zip us, scope.names.lookup y.1 = some .local ∨ (scope.names.lookup y.1 = some .cell ∧ ((cellsFrom (s.heap.objs.size + 1) scope.names []).lookup y.1).isSome = true) := fun ⟨n, v⟩ hy => by
    rcases S.par n (List.of_mem_zip hy).1 with q | q
    · exact .inl q
    · exact .inr ⟨q, PySem.W.cellsFrom_some _ _ _ (.inl q)⟩
  refine codeAny_call_function hr.depth (KX _ _ lk) rfl S.co S.gen rfl (PySem.W.codeRec_of KX hcd) (hb _ _ _ _ ?_)
  refine wpAny_newFunctionEnv_cells S.kind hkind fun env he s1 x => ?_
  subst he
  refine ⟨lim.keeps x.toInCall.keep, codeAny_func ?_⟩
  obtain ⟨t, ht, hq⟩ := hbody A outer s H vs Q E (hr.deeper _) hsp
  have I : Inv (cxOf CX P w K mg base N qual scope f cdv A outer s H E) [] (start N vs) H s1 := inv_start S hr.hd e0 hl r x
  refine wpAny_mono (ht [] s1 (start N vs) H _ I hq) (fun fl s' hs => ?_) fun e s' hs => hs
  have fin : ∀ {σ' : St} {H' : Hp} {v : V} {u : Value}, Inv (cxOf CX P w K mg base N qual scope f cdv A outer s H E) [] σ' H' s' → RelV v u → Q v H' → CE outer P w H s Q u s' :=
    fun {σ' H' v u} J rv q => ⟨v, H', J.os, J.bare, J.base, J.hok, rv, q⟩
  cases fl with
  | ret u =>
    obtain ⟨v, σ', H', J, rv, q⟩ := hs
    exact fin J rv q
  | next =>
    obtain ⟨σ', H', J, q⟩ := hs
    exact fin (v := V.non) (u := Value.none) J rfl q
  | brk =>
    obtain ⟨_, _, _, q⟩ := hs
    exact False.elim q
  | cont =>
    obtain ⟨_, _, _, q⟩ := hs
    exact False.elim q
end L2

namespace L2
open PySem PySem.Spec PyProof.Rows
section
variable {X : Cx} {x : Str} {p pos : Pos} {e : Expr} {es : List Expr} {t : TA} {id T : String} {r : List V → Hp → VK → Prop}

def tCB (r : List V → Hp → VK → Prop) (t : TA) : TE := fun σ H Q => t σ H fun vs H1 => r vs H1 Q
/-- f(e, ..), f a built-in function -/
theorem pe_callB (hc : CallR X (.builtin id) r) (hg : Gl X x) (hm : X.mg x = none) (hv : bootBuiltins x = some (.builtin id)) (ha : PA X (e :: es) t) (hn : x ≠ "__name__" := by decide) (hdb : (x == ("__debug__" : Str)) = false := by decide)
    (he : starEach (e :: es) X.env = (false, eval e X.env) :: starEach es X.env := by rfl) (hpl : (backTo pos (starEach es X.env)).any (·.1) = false := by rfl) : PE X (.Call (.Name x p) (e :: es) [] pos) (tCB r t) := by
  intro pins s σ H Q I h
  refine wpAny_Call_Name_kw (ld_blt I hg hm hv ?_ hn hdb)
  exact PyProof.Rows.callWith_builtin1 (thn (ha pos pins s σ H _ I h) fun us s1 ⟨vs, H1, I1, r1, q1⟩ => hc pins s1 σ H1 vs us Q I1 r1 q1) he hpl
/-- T(e, ..), T a built-in type -/
theorem pe_callTy (hc : CallR X (.type T) r) (hg : Gl X x) (hm : X.mg x = none) (hv : bootBuiltins x = some (.type T)) (ha : PA X (e :: es) t) (hn : x ≠ "__name__" := by decide) (hdb : (x == ("__debug__" : Str)) = false := by decide)
    (he : starEach (e :: es) X.env = (false, eval e X.env) :: starEach es X.env := by rfl) (hpl : (backTo pos (starEach es X.env)).any (·.1) = false := by rfl) : PE X (.Call (.Name x p) (e :: es) [] pos) (tCB r t) := by
  intro pins s σ H Q I h
  refine wpAny_Call_Name_kw (ld_blt I hg hm hv ?_ hn hdb)
  exact PyProof.Rows.callWith_type1 (thn (ha pos pins s σ H _ I h) fun us s1 ⟨vs, H1, I1, r1, q1⟩ => hc pins s1 σ H1 vs us Q I1 r1 q1) he hpl
end
end L2

namespace HT
open PySem PyProof.Rows


section
variable {prog : Program} {w : World} {A : Around} {E : Value → Shared → Prop} {s : Shared}

/-! ### t[a:b], not the whole -/
/-- a slice's bound as a place among n (d where it is left out) -/
def sIx (n d : Nat) : Option Int → Nat
  | none => d
  | some v => if v < 0 then (v + (n : Int)).toNat else min v.toNat n
theorem sIx_none (n d : Nat) : sIx n d none = d := rfl
theorem sIx_nat (n d k : Nat) : sIx n d (some (k : Int)) = min k n := by
  show (if (k : Int) < 0 then ((k : Int) + (n : Int)).toNat else min (k : Int).toNat n) = min k n
  rw [if_neg (by (first | lia | omega)), Int.toNat_natCast]
theorem sIx_le (n d : Nat) (hd : d ≤ n) (o : Option Int) : sIx n d o ≤ n := by
  cases o with
  | none => exact hd
  | some v =>
    show (if v < 0 then (v + (n : Int)).toNat else min v.toNat n) ≤ n
    by_cases hv : v < 0
    · rw [if_pos hv]; (first | lia | omega)
    · rw [if_neg hv]; exact Nat.min_le_right _ _
theorem clip_eq (v : Int) (n d : Nat) : (if v < 0 then max (v + (n : Int)) 0 else min v (n : Int)) = ((sIx n d (some v) : Nat) : Int) := by
  show (if v < 0 then max (v + (n : Int)) 0 else min v (n : Int)) = (((if v < 0 then (v + (n : Int)).toNat else min v.toNat n) : Nat) : Int)
  by_cases hv : v < 0
  · simp only [if_pos hv]; (first | lia | omega)
  · simp only [if_neg hv]; (first | lia | omega)
theorem adjust_gen (lo hi : Option Int) (n : Nat) : Builtin.Slice.sliceAdjust lo hi 1 (n : Int) = (((sIx n 0 lo : Nat) : Int), ((sIx n n hi : Nat) : Int)) := by
  have h1 : ¬ ((1 : Int) < 0) := by (first | lia | omega)
  unfold Builtin.Slice.sliceAdjust
  simp only [h1, if_false]
  refine Prod.ext ?_ ?_
  · cases lo with
    | none => rfl
    | some v => exact clip_eq v n 0
  · cases hi with
    | none => rfl
    | some v => exact clip_eq v n n
theorem places_gen (i j : Nat) : Builtin.Slice.slicePlaces (i : Int) (j : Int) 1 = j - i := by
  unfold Builtin.Slice.slicePlaces
  have h1 : (1 : Int) > 0 := by (first | lia | omega)
  simp only [h1, if_true, Int.ediv_one]
  split <;> (first | lia | omega)
theorem slicePart_ {v : Value} {o : Option Int} {Q : Option Int → Shared → Prop} (p : IsPart v o) (h : Q o s) : wpAny (model prog w) A (Builtin.Slice.slicePartIndex v) Q E s := by
  cases p with
  | none => exact slicePart_none h
  | int i t => exact slicePart_int h
theorem sliceApplied_gen {sl : Addr} {vl vu : Value} {lo hi : Option Int} {n : Nat} {Q : Int × Int × Nat → Shared → Prop} (hs : s.heap.IsSliceOf sl vl vu .none) (pl : IsPart vl lo) (pu : IsPart vu hi)
    (h : Q (((sIx n 0 lo : Nat) : Int), 1, sIx n n hi - sIx n 0 lo) s) : wpAny (model prog w) A (Builtin.Slice.sliceApplied (.ref sl) (pure (n : Int))) Q E s := by
  obtain ⟨os, hos, hcs, hds⟩ := id hs
  unfold Builtin.Slice.sliceApplied Builtin.Slice.sliceFields
  refine wpAny_bind (wpAny_bind (wpAny_field hos hds (x := vl) rfl (wpAny_bind (wpAny_field hos hds (x := vu) rfl (wpAny_bind (wpAny_field hos hds (x := .none) rfl (wpAny_pure ?_)))))))
  refine wpAny_bind (slicePart_none ?_)
  show wpAny _ _ (if ((1 : Int) == 0) = true then _ else _) _ _ s
  rw [if_neg (by decide)]
  refine wpAny_bind (slicePart_ pl (wpAny_bind (slicePart_ pu (wpAny_bind (wpAny_pure ?_)))))
  show wpAny _ _ (match Builtin.Slice.sliceAdjust lo hi 1 (n : Int) with | (lo, hi) => pure (lo, (1 : Int), Builtin.Slice.slicePlaces lo hi 1)) _ _ s
  rw [adjust_gen lo hi n]
  show wpAny _ _ (pure (((sIx n 0 lo : Nat) : Int), (1 : Int), Builtin.Slice.slicePlaces ((sIx n 0 lo : Nat) : Int) ((sIx n n hi : Nat) : Int) 1)) _ _ s
  rw [places_gen]
  exact wpAny_pure h
theorem pick_gen (xs : Array Value) (i k : Nat) : ((List.range k).filterMap fun (m : Nat) => xs[((i : Int) + (m : Int) * 1).toNat]?).toArray = ((xs.toList.drop i).take k).toArray := by
  have e : (fun (m : Nat) => xs[((i : Int) + (m : Int) * 1).toNat]?) = fun m => xs[i + m]? := by
    funext m
    have : ((i : Int) + (m : Int) * 1).toNat = i + m := by (first | lia | omega)
    rw [this]
  rw [e]
  have := pick_run xs i k
  rw [List.filterMap_map] at this
  have e2 : ((fun x => xs[x]?) ∘ fun x => i + x) = fun m => xs[i + m]? := rfl
  rw [e2] at this
  rw [this]

theorem getItem_tuple_cut {t sl : Addr} {items : Array Value} {vl vu : Value} {lo hi : Option Int} {Q : Value → Shared → Prop} (ht : IsTup s.heap t items) (hs : s.heap.IsSliceOf sl vl vu .none) (pl : IsPart vl lo) (pu : IsPart vu hi)
    (hw : ¬ (sIx items.size 0 lo = 0 ∧ sIx items.size items.size hi = items.size))
    (h : Q (.ref s.heap.objs.size) { s with heap := s.heap.push { cls := .type "tuple", data := .seq ((items.toList.drop (sIx items.size 0 lo)).take (sIx items.size items.size hi - sIx items.size 0 lo)).toArray } })
    (hsz : items.size ≤ sizeLine) : wpAny (model prog w) A (getItem (.ref t) (.ref sl)) Q E s := by
  have htake : sizeOk (.seq ((items.toList.drop (sIx items.size 0 lo)).take (sIx items.size items.size hi - sIx items.size 0 lo)).toArray) := by
    show ((items.toList.drop (sIx items.size 0 lo)).take (sIx items.size items.size hi - sIx items.size 0 lo)).toArray.size ≤ sizeLine
    rw [List.size_toArray, List.length_take, List.length_drop, Array.length_toList]
    (first | lia | omega)
  have hj : sIx items.size items.size hi ≤ items.size := sIx_le _ _ (Nat.le_refl _) hi
  obtain ⟨os, hos, hcs, hds⟩ := id hs
  have hTs : s.TypeIs (.ref sl) "slice" := ⟨os, hos, hcs⟩
  unfold getItem
  try with_reducible refine wpAny_holding ?_
  first | refine wpAny_bind (wpAny_pure ?_) | skip
  refine wpAny_bind (wpAny_sequenceKey ht.typeIs (by decide) ?_)
  refine wpAny_bind (wpAny_callSpecial?_slot (name := Str.ofString "__getitem__") ht.typeIs PyProof.Rows.slot_tuple_getitem
    (wpAny_call_entry PyProof.Rows.slot_tuple_getitem ht.typeIs entry_tuple_getitem ?_ (args_tuple_getitem _ _)))
  show wpAny _ _ (Builtin.Tuple.tupleItemsOf (.ref t) >>= _) _ _ s
  refine wpAny_bind (tupleItemsOf_ ht ?_)
  refine wpAny_bind (wpAny_typeOf hTs ?_)
  rw [if_pos (by decide)]
  refine wpAny_bind (sliceApplied_gen hs pl pu ?_)
  have hno : ¬ ((((sIx items.size 0 lo : Nat) : Int) == 0 && (1 : Int) == 1 && (sIx items.size items.size hi - sIx items.size 0 lo) == items.size) = true) := by
    intro q
    rw [Bool.and_eq_true, Bool.and_eq_true] at q
    have q1 : ((sIx items.size 0 lo : Nat) : Int) = 0 := eq_of_beq q.1.1
    have q2 : sIx items.size items.size hi - sIx items.size 0 lo = items.size := eq_of_beq q.2
    exact hw ⟨by (first | lia | omega), by (first | lia | omega)⟩
  show wpAny _ _ (if (((sIx items.size 0 lo : Nat) : Int) == 0 && (1 : Int) == 1 && (sIx items.size items.size hi - sIx items.size 0 lo) == items.size) = true then _ else _) _ _ s
  rw [if_neg hno, pick_gen]
  first
    | exact wpAny_bind (m := Builtin.Tuple.tupleExact _) (wpAny_newObj_type (wpAny_pure ⟨_, rfl, wpAny_pure h⟩) htake)
    | exact wpAny_bind (m := Builtin.Tuple.tupleExact _) (wpAny_newObj_type (wpAny_bind (wpAny_pure (wpAny_pure ⟨_, rfl, wpAny_pure h⟩))) htake)
    | exact wpAny_bind (wpAny_bind (m := Builtin.Tuple.tupleExact _) (wpAny_newObj_type (wpAny_pure (wpAny_pure ⟨_, rfl, wpAny_pure h⟩)) htake))
    | exact wpAny_bind (wpAny_bind (m := Builtin.Tuple.tupleExact _) (wpAny_newObj_type (wpAny_pure ⟨_, rfl, wpAny_pure h⟩) htake))
end
end HT

namespace L2
open PySem PySem.Spec PyProof.Rows

/-! ### the parts of a slice -/
abbrev TO := St → Hp → (Option Int → Hp → Prop) → Prop
/-- a slice's part (left out, or an int) -/
def PO (X : Cx) (e : Option Expr) (t : TO) : Prop :=
  ∀ (pins : List (Addr × Obj)) (s : Shared) (σ : St) (H : Hp) (Q : Option Int → Hp → Prop), Inv X pins σ H s → t σ H Q →
    wpAny (model X.prog X.w) X.A (evalPart e X.env) (fun u s' => ∃ o H', Inv X pins σ H' s' ∧ IsPart u o ∧ Q o H') X.xe s
def tNoPart : TO := fun _ H Q => Q none H
def tPart (t : TE) : TO := fun σ H Q => t σ H fun x H1 => ∃ i, x = .int i ∧ Q (some i) H1

section
variable {X : Cx} {e : Expr} {te : TE} {lo hi : Option Expr} {tl th : TO} {pos p2 : Pos}

theorem po_none : PO X none tNoPart := by
  intro pins s σ H Q I h
  rw [evalPart_none]
  exact wpAny_pure ⟨none, H, I, .none, h⟩
theorem po_some (h : PE X e te) : PO X (some e) (tPart te) := by
  intro pins s σ H Q I hw
  rw [evalPart_some]
  refine thn (h pins s σ H _ I hw) fun u s1 ⟨x, H1, I1, r1, q1⟩ => ?_
  obtain ⟨i, rfl, q⟩ := q1
  obtain ⟨t, rfl⟩ := r1
  exact ⟨some i, H1, I1, .int i t, q⟩

/-- what a slice of a value is, by values: the slice object stands at sl -/
def SlR (X : Cx) (r : V → Option Int → Option Int → Hp → VK → Prop) : Prop :=
  ∀ (pins : List (Addr × Obj)) (s : Shared) (σ : St) (H : Hp) (x : V) (v vl vu : Value) (lo hi : Option Int) (sl : Addr) (Q : VK), Inv X pins σ H s → RelV x v → s.heap.IsSliceOf sl vl vu .none → IsPart vl lo → IsPart vu hi → r x lo hi H Q →
    ∃ T id, typeLookup (.type T) "__getitem__" = pure (some (.builtin id)) ∧ s.TypeIs v T ∧ wpAny (model X.prog X.w) X.A (getItem v (.ref sl)) (EP X pins σ Q) X.xe s
def tSl (r : V → Option Int → Option Int → Hp → VK → Prop) (te : TE) (tl th : TO) : TE := fun σ H Q => te σ H fun x H1 => tl σ H1 fun l H2 => th σ H2 fun u H3 => r x l u H3 Q
/-- a[lo:hi], any a -/
theorem pe_slice {r : V → Option Int → Option Int → Hp → VK → Prop} (hr : SlR X r) (he : PE X e te) (hl : PO X lo tl) (hu : PO X hi th) : PE X (.Subscript e (.Slice lo hi none p2) pos) (tSl r te tl th) := by
  intro pins s σ H Q I h
  refine Subscript_ (thn (he pins s σ H _ I h) fun v s1 ⟨x, H1, I1, r1, q1⟩ => ?_)
  refine wpAny_Slice (thn (hl pins s1 σ H1 _ I1 q1) fun vl s2 ⟨l, H2, I2, pl, q2⟩ => thn (hu pins s2 σ H2 _ I2 q2) fun vu s3 ⟨u, H3, I3, pu, q3⟩ => ?_)
  rw [evalPart_none]
  refine wpAny_pure ?_
  have I4 : Inv X pins σ H3 { s3 with heap := s3.heap.push { cls := .type "slice", data := .fields #[vl, vu, .none] } } := I3.kept (t' := s3.toks) fun b ob q => Heap.get?_push_of_some _ q
  obtain ⟨T, id, hT, ht, hg⟩ := hr pins { s3 with heap := s3.heap.push { cls := .type "slice", data := .fields #[vl, vu, .none] } } σ H3 x v vl vu l u s3.heap.objs.size Q I4 r1 (Heap.IsSliceOf.new ..) pl pu q3
  show wpAny (model X.prog X.w) X.A (subscriptTail e (.Slice lo hi none p2) v (.ref s3.heap.objs.size)) (EP X pins σ Q) X.xe { s3 with heap := s3.heap.push { cls := .type "slice", data := .fields #[vl, vu, .none] } }
  exact tail_any (ops := [.ref s3.heap.objs.size, v]) ht hT hg (by with_unfolding_all rfl)

/-- the items of xs[lo:hi] -/
def cutV (xs : List V) (lo hi : Option Int) : List V := (xs.drop (HT.sIx xs.length 0 lo)).take (HT.sIx xs.length xs.length hi - HT.sIx xs.length 0 lo)
theorem cutV_length (xs : List V) (lo hi : Option Int) : (cutV xs lo hi).length ≤ xs.length := by
  unfold cutV
  rw [List.length_take, List.length_drop]
  (first | lia | omega)
/-- t[lo:hi], not the whole of it (the whole would be t itself) -/
def rSlT (K : PySem.W.Frag) : V → Option Int → Option Int → Hp → VK → Prop := fun x lo hi H Q => ∃ a xs, x = .ref a ∧ SqT K H a xs ∧
  ¬ (HT.sIx xs.length 0 lo = 0 ∧ HT.sIx xs.length xs.length hi = xs.length) ∧ ∀ p, H p = none → Q (.ref p) (upd H p (.tup (cutV xs lo hi)))
theorem sl_tup : SlR X (rSlT X.K) := by
  intro pins s σ H x v vl vu lo hi sl Q I rx hs pl pu h
  obtain ⟨a, xs, rfl, hx, hw, q⟩ := h
  cases rx
  obtain ⟨its, r, ht, hz⟩ := I.tuple hx
  have hlen : its.toArray.size = xs.length := by rw [List.size_toArray]; exact r.length.symm
  refine ⟨"tuple", _, PyProof.Rows.slot_tuple_getitem.lookup, ht.typeIs, ?_⟩
  refine HT.getItem_tuple_cut ht hs pl pu (by rw [hlen]; exact hw) ?_ (by rw [hlen]; exact hz)
  rw [hlen]
  refine ⟨.ref s.heap.objs.size, _, I.laid (t' := s.toks) (o := .tup (cutV xs lo hi)) (fun b ob q => Heap.get?_push_of_some _ q) (Nat.le_refl _) ?_, rfl, q _ (I.hok.fresh (Nat.le_refl _))⟩
  exact ⟨Nat.le_trans (cutV_length xs lo hi) hz, _, (r.drop (HT.sIx xs.length 0 lo)).take (HT.sIx xs.length xs.length hi - HT.sIx xs.length 0 lo), IsTup.new _ _⟩

/-! ### t < u, t + u -/
end
end L2

namespace L2
open PySem PySem.Spec PyProof.Rows

/-! ### places -/
/-- the place that an index of any sign means -/
def ixN (n : Nat) (i : Int) : Option Nat := if 0 ≤ i then (if i < n then some i.toNat else none) else if -(n : Int) ≤ i then some (i + n).toNat else none
def atI {α : Type} (xs : List α) (i : Int) : Option α := (ixN xs.length i).bind fun j => xs[j]?
theorem ixN_seq {n : Nat} {i : Int} {j : Nat} (h : ixN n i = some j) : seqIndex? i n = some j ∧ j < n ∧ -(n : Int) ≤ i ∧ i < n := by
  unfold ixN at h
  by_cases h0 : 0 ≤ i
  · rw [if_pos h0] at h
    by_cases h1 : i < n
    · rw [if_pos h1] at h
      have e : i.toNat = j := Option.some.inj h
      exact ⟨by rw [seqIndex_of h0 h1, e], by (first | lia | omega), by (first | lia | omega), h1⟩
    · rw [if_neg h1] at h; cases h
  · rw [if_neg h0] at h
    by_cases h1 : -(n : Int) ≤ i
    · rw [if_pos h1] at h
      have e : (i + n).toNat = j := Option.some.inj h
      exact ⟨by rw [seqIndex_neg (by (first | lia | omega)) h1, e], by (first | lia | omega), h1, by (first | lia | omega)⟩
    · rw [if_neg h1] at h; cases h
theorem atI_get {α : Type} {xs : List α} {i : Int} {v : α} (h : atI xs i = some v) : ∃ j, seqIndex? i xs.length = some j ∧ xs[j]? = some v ∧ j < xs.length ∧ -(xs.length : Int) ≤ i ∧ i < xs.length := by
  unfold atI at h
  cases e : ixN xs.length i with
  | none => rw [e] at h; cases h
  | some j =>
    rw [e] at h
    obtain ⟨h1, h2, h3, h4⟩ := ixN_seq e
    exact ⟨j, h1, h, h2, h3, h4⟩
theorem atI_nat {α : Type} {xs : List α} {j : Nat} {v : α} (h : xs[j]? = some v) : atI xs (j : Int) = some v := by
  have hj : j < xs.length := (List.getElem?_eq_some_iff.mp h).1
  have e : ixN xs.length (j : Int) = some j := by
    unfold ixN
    rw [if_pos (by (first | lia | omega)), if_pos (by (first | lia | omega))]; simp
  unfold atI; rw [e]; exact h
theorem atI_last {α : Type} (xs : List α) (v : α) : atI (xs ++ [v]) (-1) = some v := by
  have hl : (xs ++ [v]).length = xs.length + 1 := by simp
  have e : ixN (xs ++ [v]).length (-1) = some xs.length := by
    unfold ixN
    rw [hl, if_neg (by decide), if_pos (by (first | lia | omega))]
    congr 1
    (first | lia | omega)
  unfold atI
  rw [e]
  show (xs ++ [v])[xs.length]? = some v
  simp

/-! ### what may be subscripted -/
/-- what stands as an index of a plain subscript -/
def PlainIx (b : Expr) : Prop := ∀ o i, subscripted b false o i = operate [o, i] (getItem o i)
/-- a subscript by values -/
def IxR (X : Cx) (r : R2) : Prop :=
  ∀ (value slice : Expr) (pins : List (Addr × Obj)) (s : Shared) (σ : St) (H : Hp) (x y : V) (v u : Value) (Q : VK), Inv X pins σ H s → RelV x v → RelV y u → r x y H Q →
    subscripted slice false v u = operate [v, u] (getItem v u) → wpAny (model X.prog X.w) X.A (subscriptTail value slice v u) (EP X pins σ Q) X.xe s
/-- a call of a builtin's method by values: the receiver, the arguments -/
def MtR (X : Cx) (id : String) (r : V → List V → Hp → VK → Prop) : Prop :=
  ∀ (pins : List (Addr × Obj)) (s : Shared) (σ : St) (H : Hp) (x : V) (xs : List V) (v : Value) (us : List Value) (Q : VK), Inv X pins σ H s → RelV x v → Vals xs us → r x xs H Q →
    wpAny (model X.prog X.w) X.A (call (.builtin id) (v :: us)) (EP X pins σ Q) X.xe s
section
variable {X : Cx} {a b : Expr} {ta tb : TE} {pos : Pos}
/-- a[b] -/
theorem pe_ix {r : R2} (hr : IxR X r) (ha : PE X a ta) (hb : PE X b tb) (hs : PlainIx b) : PE X (.Subscript a b pos) (tOp r ta tb) := by
  intro pins s σ H Q I h
  exact Subscript_ (binT ha hb I h fun v u s2 x y H2 I2 rx ry q => hr a b pins s2 σ H2 x y v u Q I2 rx ry q (hs _ _))

def rIxL (K : PySem.W.Frag) : R2 := fun x y H Q => ∃ p xs i v, x = .ref p ∧ y = .int i ∧ SqL K H p xs ∧ atI xs i = some v ∧ Q v H
def rIxT (K : PySem.W.Frag) : R2 := fun x y H Q => ∃ p xs i v, x = .ref p ∧ y = .int i ∧ SqT K H p xs ∧ atI xs i = some v ∧ Q v H
def rIxS : R2 := fun x y H Q => ∃ z i c, x = .str z ∧ y = .int i ∧ z.length ≤ sizeLine ∧ atI z.cps.toList i = some c ∧ Q (.str ⟨#[c]⟩) H
theorem ix_list : IxR X (rIxL X.K) := by
  intro value slice pins s σ H x y v u Q I rx ry h hs
  obtain ⟨p, xs, i, z, rfl, rfl, hq, he, q⟩ := h
  cases rx
  obtain ⟨t, rfl⟩ := ry
  obtain ⟨its, r, pl, hz⟩ := I.list hq
  obtain ⟨j, h1, h2, h3, h4, h5⟩ := atI_get he
  obtain ⟨w, ew, rw'⟩ := r.get h2
  have hl := r.length
  have hn := line63
  have fin : EP X pins σ Q w s := ⟨z, H, I, rw', q⟩
  by_cases h0 : 0 ≤ i
  · have hj : i.toNat = j := by
      rw [seqIndex_of h0 h5] at h1
      exact Option.some.inj h1
    exact item_listR pl.isList h0 (by (first | lia | omega)) (by rw [hj]; simpa using ew) fin hs
  · have hj : (i + (its.toArray.size : Int)).toNat = j := by
      rw [seqIndex_neg (by (first | lia | omega)) h4] at h1
      rw [List.size_toArray, ← hl]
      exact Option.some.inj h1
    exact subscriptTail_builtinR (x := w) pl.isList.typeIs slot_list_getitem.lookup
      (wpAny_getItem_list_neg (Q := fun r s' => r = w ∧ EP X pins σ Q r s') pl.isList (by (first | lia | omega)) (by rw [List.size_toArray] <;> (first | lia | omega)) (by (first | lia | omega)) (by rw [hj]; simpa using ew) ⟨rfl, fin⟩) hs
theorem ix_tup : IxR X (rIxT X.K) := by
  intro value slice pins s σ H x y v u Q I rx ry h hs
  obtain ⟨p, xs, i, z, rfl, rfl, hq, he, q⟩ := h
  cases rx
  obtain ⟨t, rfl⟩ := ry
  obtain ⟨its, r, pl, hz⟩ := I.tuple hq
  obtain ⟨j, h1, h2, h3, h4, h5⟩ := atI_get he
  obtain ⟨w, ew, rw'⟩ := r.get h2
  have hl := r.length
  have hn := line63
  have fin : EP X pins σ Q w s := ⟨z, H, I, rw', q⟩
  exact subscriptTail_builtinR (x := w) pl.typeIs slot_tuple_getitem.lookup
    (getItem_tuple (j := j) (Q := fun r s' => r = w ∧ EP X pins σ Q r s') pl (by (first | lia | omega)) (by (first | lia | omega)) (by rw [List.size_toArray, ← hl]; exact h1) (by simpa using ew) ⟨rfl, fin⟩) hs
theorem ix_str : IxR X rIxS := by
  intro value slice pins s σ H x y v u Q I rx ry h hs
  obtain ⟨z, i, c, rfl, rfl, hz, he, q⟩ := h
  obtain ⟨t, rfl⟩ := rx
  obtain ⟨t', rfl⟩ := ry
  obtain ⟨j, h1, h2, h3, h4, h5⟩ := atI_get he
  have hl : z.cps.toList.length = z.length := by simp [Str.length]
  rw [hl] at h1 h4 h5
  have hn := line63
  exact tail_any (typeIs_str s z t) slot_str_getitem.lookup (getItem_str (c := c) (by
    have e1 : decide (i < -(2 ^ 63 : Int)) = false := decide_eq_false (by (first | lia | omega))
    have e2 : decide (i ≥ 2 ^ 63) = false := decide_eq_false (by (first | lia | omega))
    rw [e1, e2, Bool.or_false]) (by rw [h1]; simpa using h2) ⟨.str ⟨#[c]⟩, H, I.tok _, ⟨_, rfl⟩, q⟩) hs
/-! ### xs[i] = v, any sign -/
/-- the list's object behind a store -/
theorem mapSeq_set (its : List Value) (n j : Nat) (u : Value) : Obj.mapSeq (·.setIfInBounds j u) { cls := .type "list", data := .seq its.toArray n } = { cls := .type "list", data := .seq (its.set j u).toArray n } := by
  simp [Obj.mapSeq]
theorem Inv.lst {pins : List (Addr × Obj)} {σ : St} {H : Hp} {s : Shared} {p : Addr} {xs : List V} (I : Inv X pins σ H s) (h : H p = some (.lst xs)) :
    ∃ (its : List Value) (n : Nat), Vals xs its ∧ s.heap.get? p = some { cls := .type "list", data := .seq its.toArray n } ∧ xs.length ≤ sizeLine := by
  obtain ⟨z, its, n, r, e⟩ := I.hok p _ h
  exact ⟨its, n, r, e, z⟩
/-- the list at p is written by an update of its object -/
theorem Inv.lstUpd {pins : List (Addr × Obj)} {σ : St} {H : Hp} {s : Shared} {p : Addr} {xs ys : List V} {its its' : List Value} {n n' : Nat} {f : Obj → Obj} (I : Inv X pins σ H s) (h : H p = some (.lst xs))
    (ho : s.heap.get? p = some { cls := .type "list", data := .seq its.toArray n }) (hf : f { cls := .type "list", data := .seq its.toArray n } = { cls := .type "list", data := .seq its'.toArray n' }) (r : Vals ys its') (hz : ys.length ≤ sizeLine) (t : Nat) :
    Inv X pins σ (upd H p (.lst ys)) { s with heap := s.heap.update p f, toks := t } := by
  have e : (s.heap.update p f).get? p = some { cls := .type "list", data := .seq its'.toArray n' } := by
    rw [Heap.get?_update_self f ho (by rw [hf] <;> rfl), hf]
  refine I.write (x := p) (e := p) (by rw [h]; trivial) (.inl rfl) (fun b u hb q => (Heap.get?_update_other _ _ (Ne.symm hb)).trans q) ⟨_, e⟩ ?_
  exact ⟨hz, its', n', r, e⟩
def rSetL : V → V → V → Hp → (Hp → Prop) → Prop := fun o i v H Q => ∃ p xs k j, o = .ref p ∧ i = .int k ∧ H p = some (.lst xs) ∧ ixN xs.length k = some j ∧ Q (upd H p (.lst (xs.set j v)))
theorem set_list : PSet X rSetL := by
  intro pins s σ H o i v ov iv u Q I ro ri rv h
  obtain ⟨p, xs, k, j, rfl, rfl, hp, hj, q⟩ := h
  cases ro
  obtain ⟨t, rfl⟩ := ri
  obtain ⟨its, n, r, ho, hz⟩ := I.lst hp
  obtain ⟨h1, h2, h3, h4⟩ := ixN_seq hj
  have hl := r.length
  have hn := line63
  have I' : Inv X pins σ (upd H p (.lst (xs.set j v))) { s with heap := s.heap.update p (Obj.mapSeq (·.setIfInBounds j u)) } :=
    I.lstUpd hp ho (mapSeq_set its n j u) (r.set rv j) (by rw [List.length_set]; exact hz) s.toks
  by_cases h0 : 0 ≤ k
  · have hk : k.toNat = j := by
      rw [seqIndex_of h0 h4] at h1
      exact Option.some.inj h1
    exact PySem.W.ki_setAt ho h0 (by (first | lia | omega)) (by rw [List.size_toArray, ← hl]; exact h4) (by rw [hk]; exact ⟨_, I', q⟩)
  · have hk : (k + (its.toArray.size : Int)).toNat = j := by
      rw [seqIndex_neg (by (first | lia | omega)) h3] at h1
      rw [List.size_toArray, ← hl]
      exact Option.some.inj h1
    exact PySem.W.ki_setBack ho (by (first | lia | omega)) (by rw [List.size_toArray, ← hl]; exact h3) (by (first | lia | omega)) (by rw [hk]; exact ⟨_, I', q⟩)

/-! ### slices -/
/-! ### in, not in: flat items -/
/-! ### len, list(x), tuple(x) of any list or tuple that is read -/
theorem call_len_seq : CallR X (.builtin "len") (fun xs H Q => ∃ p ys, xs = [.ref p] ∧ (SqL X.K H p ys ∨ SqT X.K H p ys) ∧ Q (.int ys.length) H) := by
  intro pins s σ H xs us Q I r h
  obtain ⟨p, ys, rfl, hq, q⟩ := h
  obtain ⟨u, rfl, rx⟩ := vals1 r
  cases rx
  have hn := line63
  rcases hq with hq | hq
  · obtain ⟨its, r', pl, hz⟩ := I.list hq
    have hlen := r'.length
    exact Calls.call_len_list pl.isList (by simp only [List.size_toArray] <;> (first | lia | omega)) ⟨.int ys.length, H, I.tok _, ⟨s.toks + 1, by rw [List.size_toArray, hlen]⟩, q⟩
  · obtain ⟨its, r', pl, hz⟩ := I.tuple hq
    have hlen := r'.length
    exact len_tuple pl (by simp only [List.size_toArray] <;> (first | lia | omega)) ⟨.int ys.length, H, I.tok _, ⟨s.toks + 1, by rw [List.size_toArray, hlen]⟩, q⟩
theorem call_len_str : CallR X (.builtin "len") (fun xs H Q => ∃ z, xs = [.str z] ∧ z.length ≤ sizeLine ∧ Q (.int z.length) H) := by
  intro pins s σ H xs us Q I r h
  obtain ⟨z, rfl, hz, q⟩ := h
  obtain ⟨u, rfl, t, rfl⟩ := vals1 r
  have hn := line63
  exact len_str (by (first | lia | omega)) ⟨.int z.length, H, I.tok _, ⟨_, rfl⟩, q⟩
theorem call_list_of : CallR X (.type "list") (fun xs H Q => ∃ p ys, xs = [.ref p] ∧ (SqL X.K H p ys ∨ SqT X.K H p ys) ∧ ∀ l, H l = none → Q (.ref l) (upd H l (.lst ys))) := by
  intro pins s σ H xs us Q I r h
  obtain ⟨p, ys, rfl, hq, q⟩ := h
  obtain ⟨u, rfl, rx⟩ := vals1 r
  cases rx
  have fin : ∀ (its : List Value), Vals ys its → ys.length ≤ sizeLine → ∀ (h' : Heap) (c' : Nat), (∀ b o', s.heap.get? b = some o' → h'.get? b = some o') →
      h'.get? s.heap.objs.size = some { cls := .type "list", dict := none, data := .seq its.toArray c', slots := #[] } → EP X pins σ Q (.ref s.heap.objs.size) { s with heap := h' } := fun its r' hz h' c' kp e =>
    ⟨.ref s.heap.objs.size, _, I.laid (t' := s.toks) kp (Nat.le_refl _) (show ObjOk X.prog X.w _ h' _ (.lst ys) from ⟨hz, its, c', r', e⟩), rfl, q _ (I.hok.fresh (Nat.le_refl _))⟩
  rcases hq with hq | hq
  · obtain ⟨its, r', pl, hz⟩ := I.list hq
    have hlen := r'.length
    obtain ⟨o, ho, hc, n, hd⟩ := pl.isList
    exact call_list_seq p (.inl rfl) ho hc hd (fun h' c' kp e => fin its r' hz h' c' kp e) (by simp only [List.size_toArray] <;> (first | lia | omega))
  · obtain ⟨its, r', pl, hz⟩ := I.tuple hq
    have hlen := r'.length
    obtain ⟨o, ho, hc, n, hd⟩ := pl
    exact call_list_seq p (.inr rfl) ho hc hd (fun h' c' kp e => fin its r' hz h' c' kp e) (by simp only [List.size_toArray] <;> (first | lia | omega))
theorem call_tuple_of : CallR X (.type "tuple") (fun xs H Q => ∃ p ys, xs = [.ref p] ∧ ((SqL X.K H p ys ∧ ∀ l, H l = none → Q (.ref l) (upd H l (.tup ys))) ∨ (SqT X.K H p ys ∧ Q (.ref p) H))) := by
  intro pins s σ H xs us Q I r h
  obtain ⟨p, ys, rfl, h⟩ := h
  obtain ⟨u, rfl, rx⟩ := vals1 r
  cases rx
  rcases h with ⟨hq, q⟩ | ⟨hq, q⟩
  · obtain ⟨its, r', pl, hz⟩ := I.list hq
    have hlen := r'.length
    refine call_tuple_list pl.isList (fun h' kp => ?_) (by simp only [List.size_toArray] <;> (first | lia | omega))
    have I1 : Inv X pins σ H { s with heap := h' } := I.kept (t' := s.toks) kp
    have I2 : Inv X pins σ (upd H h'.objs.size (.tup ys)) { s with heap := h'.push { cls := .type "tuple", data := .seq its.toArray } } :=
      I1.laid (t' := s.toks) (fun b o e => Heap.get?_push_of_some _ e) (Nat.le_refl _) (show ObjOk X.prog X.w _ _ _ (.tup ys) from ⟨hz, its, r', IsTup.new _ _⟩)
    exact ⟨.ref h'.objs.size, _, I2, rfl, q _ (I1.hok.fresh (Nat.le_refl _))⟩
  · obtain ⟨its, r', pl, hz⟩ := I.tuple hq
    exact call_tuple_same pl ⟨.ref p, H, I, rfl, q⟩

/-! ### the call of a builtin's method: o.m(..) -/
/-- the value is of that builtin type -/
def tyV (K : PySem.W.Frag) (T : String) (x : V) (H : Hp) : Prop := match x with
  | .str _ => T = "str"
  | .int _ => T = "int"
  | .ref p => (T = "list" ∧ ∃ xs, SqL K H p xs) ∨ (T = "tuple" ∧ ∃ o, K.lookup p = some o ∧ o.cls = .type "tuple" ∧ o.dict = none) ∨
      (T = "dict" ∧ ((∃ kvs, H p = some (.dK kvs)) ∨ ∃ kvs, H p = some (.dT kvs))) ∨ (T = "set" ∧ ∃ S n, H p = some (.set S n))
  | _ => False
theorem tyV_is {pins : List (Addr × Obj)} {σ : St} {H : Hp} {s : Shared} {T : String} {x : V} {v : Value} (I : Inv X pins σ H s) (r : RelV x v) (ty : tyV X.K T x H) :
    s.TypeIs v T ∧ ∀ a, v = .ref a → ∃ ob, s.heap.get? a = some ob ∧ ob.dict = none := by
  cases x with
  | str z =>
    obtain ⟨t, rfl⟩ := r
    cases (show T = "str" from ty)
    exact ⟨typeIs_str s z t, fun _ e => nomatch e⟩
  | int i =>
    obtain ⟨t, rfl⟩ := r
    cases (show T = "int" from ty)
    exact ⟨typeIs_int s i t, fun _ e => nomatch e⟩
  | ref p =>
    cases r
    rcases ty with ⟨rfl, xs, hq⟩ | ⟨rfl, o, hk, hc, hd⟩ | ⟨rfl, hk⟩ | ⟨rfl, S, n, hk⟩
    · obtain ⟨its, _, pl, _⟩ := I.list hq
      refine ⟨pl.isList.typeIs, fun a e => ?_⟩
      cases e
      obtain ⟨o, n, e, c, hd, _⟩ := pl
      exact ⟨o, e, hd⟩
    · refine ⟨⟨o, I.kIn p o hk, hc⟩, fun a e => ?_⟩
      cases e
      exact ⟨o, I.kIn _ o hk, hd⟩
    · have z : ∃ o, s.heap.get? p = some o ∧ o.ExactDict := by
        rcases hk with ⟨kvs, hk⟩ | ⟨kvs, hk⟩
        · obtain ⟨_, _, _, _, o, _, _, e, ex, _⟩ := I.hok p _ hk
          exact ⟨o, e, ex⟩
        · obtain ⟨_, _, _, _, o, _, _, e, ex, _⟩ := I.hok p _ hk
          exact ⟨o, e, ex⟩
      obtain ⟨o, e, ex⟩ := z
      refine ⟨⟨o, e, ex.1⟩, fun a e2 => ?_⟩
      cases e2
      exact ⟨o, e, ex.2.1⟩
    · obtain ⟨o, _, _, _, e, ex, _⟩ := I.hok p _ hk
      refine ⟨⟨o, e, ex.1⟩, fun a e2 => ?_⟩
      cases e2
      exact ⟨o, e, ex.2.1⟩
  | _ => exact False.elim ty
def tBM0 (K : PySem.W.Frag) (T : String) (r : V → List V → Hp → VK → Prop) (to : TE) : TE := fun σ H Q => to σ H fun x H1 => tyV K T x H1 ∧ r x [] H1 Q
def tBM (K : PySem.W.Frag) (T : String) (r : V → List V → Hp → VK → Prop) (to : TE) (t : TA) : TE := fun σ H Q => to σ H fun x H1 => tyV K T x H1 ∧ t σ H1 fun xs H2 => r x xs H2 Q
variable {o e : Expr} {es : List Expr} {to : TE} {t : TA} {name : Str} {apos cpos : Pos} {T id : String} {r : V → List V → Hp → VK → Prop}
theorem pe_bm0 (pa : PlainAttrs T) (slot : Slot T name id) (hty : typeOf (.builtin id) = pure (.type "method_descriptor")) (hm : MtR X id r) (ho : PE X o to)
    (hbase : attributeBase o name X.env (eval o X.env) = eval o X.env := by rfl) (hline : (apos.endLine == cpos.line) = true := by rfl) : PE X (.Call (.Attribute o name apos) [] [] cpos) (tBM0 X.K T r to) := by
  intro pins s σ H Q I h
  refine wpAny_Call_method0_late hbase hline (thn (ho pins s σ H _ I h) fun v s1 ⟨x, H1, I1, r1, ty, q1⟩ => ?_)
  obtain ⟨h1, h2⟩ := tyV_is I1 r1 ty
  exact ⟨T, id, pa, slot, hty, h1, h2, Calls.callWith_builtin rfl (PySem.evalArgs_none (hm pins s1 σ H1 x [] v [] Q I1 r1 .nil q1))⟩
theorem pe_bm (pa : PlainAttrs T) (slot : Slot T name id) (hty : typeOf (.builtin id) = pure (.type "method_descriptor")) (hm : MtR X id r) (ho : PE X o to) (ha : PA X (e :: es) t)
    (hbase : attributeBase o name X.env (eval o X.env) = eval o X.env := by rfl)
    (hfew : ((backTo cpos (starEach (e :: es) X.env)).all (fun x => !x.1) && (backToKw cpos (keywordEach [] X.env)).all (fun x => x.1.isSome)
      && decide ((e :: es).length + ([] : List Keyword).length + (if ([] : List Keyword).isEmpty then 0 else 1) < 30)) = true := by rfl)
    (hline : (apos.endLine == cpos.line) = true := by rfl) (hs : starEach (e :: es) X.env = (false, eval e X.env) :: starEach es X.env := by rfl) (hplain : (backTo cpos (starEach es X.env)).any (·.1) = false := by rfl) :
    PE X (.Call (.Attribute o name apos) (e :: es) [] cpos) (tBM X.K T r to t) := by
  intro pins s σ H Q I h
  refine wpAny_Call_method_late hbase hfew hline rfl (thn (ho pins s σ H _ I h) fun v s1 ⟨x, H1, I1, r1, ty, q1⟩ => ?_)
  obtain ⟨h1, h2⟩ := tyV_is I1 r1 ty
  refine ⟨T, id, pa, slot, hty, h1, h2, ?_⟩
  have hA := ha cpos pins s1 σ H1 _ I1 q1
  rw [hs] at hA ⊢
  refine Calls.callWith_builtin (by show (false || (backTo cpos (starEach es X.env)).any (·.1)) = false; rw [hplain] <;> rfl) (Calls.evalArgs_plain ?_)
  exact thn hA fun us s2 ⟨vs, H2, I2, r2, q2⟩ => hm pins s2 σ H2 x vs v us Q I2 r1 r2 q2
/- xs.append(e), list.index on a module's tuple .. are MtR facts of 06m -/
end
end L2

namespace L2
open PySem PySem.Spec PyProof.Rows

def MtM (X : Cx) (id : String) (r : V → List V → Hp → VK → Prop) : Prop :=
  ∀ (pins : List (Addr × Obj)) (s : Shared) (σ : St) (H : Hp) (x : V) (xs : List V) (v : Value) (us : List Value) (Q : VK), Inv X pins σ H s → RelV x v → Vals xs us → r x xs H Q →
    wpAny (model X.prog X.w) X.A (call (.builtin id) (v :: us)) (EP X pins σ Q) X.xe s

/-! ### lists of values -/
theorem Vals.one : ∀ {x : V} {us : List Value}, Vals [x] us → ∃ u, us = [u] ∧ RelV x u
  | _, _, .cons r .nil => ⟨_, rfl, r⟩
theorem Vals.two : ∀ {x y : V} {us : List Value}, Vals [x, y] us → ∃ u v, us = [u, v] ∧ RelV x u ∧ RelV y v
  | _, _, _, .cons r (.cons q .nil) => ⟨_, _, rfl, r, q⟩
theorem Vals.zero : ∀ {us : List Value}, Vals [] us → us = []
  | _, .nil => rfl
theorem Vals.dropLast {xs : List V} {us : List Value} (h : Vals xs us) : Vals xs.dropLast us.dropLast := by
  induction h with
  | nil => exact .nil
  | cons r t ih =>
    cases t with
    | nil => exact .nil
    | cons q t' => exact .cons r ih
theorem Vals.reverse {xs : List V} {us : List Value} (h : Vals xs us) : Vals xs.reverse us.reverse := by
  induction h with
  | nil => exact .nil
  | cons r t ih => rw [List.reverse_cons, List.reverse_cons]; exact Vals.append ih (.cons r .nil)
theorem Vals.rep {xs : List V} {us : List Value} (h : Vals xs us) : ∀ k : Nat, Vals (List.replicate k xs).flatten (List.replicate k us).flatten
  | 0 => .nil
  | k + 1 => by
    rw [List.replicate_succ, List.replicate_succ, List.flatten_cons, List.flatten_cons]
    exact Vals.append h (Vals.rep h k)
theorem erase_last {α : Type} (l : List α) : l.eraseIdx (l.length - 1) = l.dropLast := by
  induction l with
  | nil => rfl
  | cons a r ih =>
    cases r with
    | nil => rfl
    | cons b r =>
      have e : (a :: b :: r).length - 1 = ((b :: r).length - 1) + 1 := by
        have h1 : (a :: b :: r).length = r.length + 2 := rfl
        have h2 : (b :: r).length = r.length + 1 := rfl
        (first | lia | omega)
      rw [e, List.eraseIdx_cons_succ, ih]
      all_goals rfl
theorem foldl_rep (its : List Value) : ∀ (k : Nat) (acc : List Value),
    List.foldl (fun x1 x2 => x1 ++ x2) acc.toArray (List.replicate k its.toArray) = (acc ++ (List.replicate k its).flatten).toArray
  | 0, acc => by simp
  | k + 1, acc => by
    have e : acc.toArray ++ its.toArray = (acc ++ its).toArray := by simp
    have e2 : (acc ++ its) ++ (List.replicate k its).flatten = acc ++ (List.replicate (k + 1) its).flatten := by
      rw [List.replicate_succ, List.flatten_cons, List.append_assoc]
    rw [← e2, ← foldl_rep its k (acc ++ its), ← e, List.replicate_succ, List.foldl_cons]

section
variable {X : Cx} {pins : List (Addr × Obj)} {σ : St} {H : Hp} {s : Shared} {l b : Addr} {xs ys zs : List V}

/-! ### the two steps: a tracked list is rewritten, a new list is laid -/
theorem Inv.lset {its its' : List Value} {n : Nat} {f : Array Value → Array Value} {t' : Nat} (I : Inv X pins σ H s) (hH : H l = some (.lst xs))
    (e : s.heap.get? l = some { cls := .type "list", data := .seq its.toArray n }) (hf : f its.toArray = its'.toArray) (hv : Vals ys its') (hz : ys.length ≤ sizeLine) :
    Inv X pins σ (upd H l (.lst ys)) { s with heap := s.heap.update l (Obj.mapSeq f), toks := t' } := by
  have q := PySem.IsL.update e f
  rw [hf] at q
  refine I.write (x := l) (e := l) (by rw [hH]; exact trivial) (.inl rfl) (fun b' u hb hu => (Heap.get?_update_other s.heap (Obj.mapSeq f) (Ne.symm hb)).trans hu) ⟨_, q⟩ ?_
  exact ⟨hz, its', _, hv, q⟩
theorem Inv.lnew {its : List Value} {t' : Nat} (I : Inv X pins σ H s) (hv : Vals ys its) (hz : ys.length ≤ sizeLine) :
    Inv X pins σ (upd H s.heap.objs.size (.lst ys)) { s with heap := s.heap.push { cls := .type "list", data := .seq its.toArray }, toks := t' } :=
  I.laid (fun _ _ q => Heap.get?_push_of_some _ q) (Nat.le_refl _) ⟨hz, its, 0, hv, Heap.get?_push_size _ rfl⟩
theorem Inv.fresh (I : Inv X pins σ H s) : H s.heap.objs.size = none := I.hok.fresh (Nat.le_refl _)
theorem Inv.lstM (I : Inv X pins σ H s) (hH : H l = some (.lst xs)) : xs.length ≤ sizeLine ∧ ∃ (its : List Value) (n : Nat), Vals xs its ∧ xs.length = its.length ∧ s.heap.get? l = some { cls := .type "list", data := .seq its.toArray n } := by
  obtain ⟨z, its, n, r, e⟩ := I.hok l _ hH
  exact ⟨z, its, n, r, r.length, e⟩

theorem notLongL {n : Nat} (h : n ≤ sizeLine) : Builtin.List.listTooLong n = false := by
  unfold Builtin.List.listTooLong
  exact decide_eq_false (by (first | lia | omega))
end

section
variable {X : Cx}

/-! ### methods -/
def rAppend : V → List V → Hp → VK → Prop := fun x vs H Q => ∃ l xs y, x = .ref l ∧ vs = [y] ∧ H l = some (.lst xs) ∧ xs.length < sizeLine ∧ Q .non (upd H l (.lst (xs ++ [y])))
theorem mt_append : MtM X "list.append" rAppend := by
  intro pins s σ H x vs v us Q I rx rv h
  obtain ⟨l, xs, y, rfl, rfl, hH, hz, q⟩ := h
  cases rx
  obtain ⟨u, rfl, ru⟩ := rv.one
  obtain ⟨z, its, n, r, hl, e⟩ := I.lstM hH
  refine call_meets F.slot_list_append ⟨_, e, rfl⟩ F.entry_list_append (F.args_list_append_2 _ _) (PySem.list_append l its.toArray n u (by rw [List.size_toArray]; (first | lia | omega))) ⟨e, ?_⟩
  refine ⟨.non, _, I.lset (its' := its ++ [u]) hH e (by simp) (r.append (.cons ru .nil)) ?_, rfl, q⟩
  rw [List.length_append, List.length_singleton]
  (first | lia | omega)

def rPop : V → List V → Hp → VK → Prop := fun x vs H Q => ∃ l xs y, x = .ref l ∧ vs = [] ∧ H l = some (.lst xs) ∧ xs[xs.length - 1]? = some y ∧ Q y (upd H l (.lst xs.dropLast))
theorem mt_pop : MtM X "list.pop" rPop := by
  intro pins s σ H x vs v us Q I rx rv h
  obtain ⟨l, xs, y, rfl, rfl, hH, hy, q⟩ := h
  cases rx
  have hus := rv.zero
  subst hus
  obtain ⟨z, its, n, r, hl, e⟩ := I.lstM hH
  obtain ⟨u, hu, ru⟩ := r.get hy
  have hy' : its.toArray[its.toArray.size - 1]? = some u := by
    show its.toArray[its.length - 1]? = some u
    rw [← Array.getElem?_toList, ← hl]
    exact hu
  refine call_meets F.slot_list_pop ⟨_, e, rfl⟩ F.entry_list_pop (F.args_list_pop_1 _) (MeetsSeq.list_pop_last l its.toArray n u hy' (by rw [List.size_toArray]; (first | lia | omega))) ⟨e, ?_⟩
  refine ⟨y, _, I.lset (its' := its.dropLast) hH e ?_ r.dropLast ?_, ru, q⟩
  · show its.toArray.eraseIdxIfInBounds (its.toArray.size - 1) = its.dropLast.toArray
    rw [List.size_toArray, List.eraseIdxIfInBounds_toArray, erase_last]
  · rw [List.length_dropLast]
    (first | lia | omega)

/-! ### list + list, list += list, list * int -/
/-- a list times an int (a negative one is nothing) -/
def rRep : R2 := fun x y H Q => ∃ l k xs, x = .ref l ∧ y = .int k ∧ H l = some (.lst xs) ∧ -(2 ^ 63) ≤ k ∧ k < 2 ^ 63 ∧ xs.length * k.toNat ≤ sizeLine ∧
  ∀ p, H p = none → Q (.ref p) (upd H p (.lst (List.replicate k.toNat xs).flatten))
theorem len_rep {α : Type} (xs : List α) (k : Nat) : (List.replicate k xs).flatten.length = k * xs.length := by
  induction k with
  | zero => simp
  | succ k ih => rw [List.replicate_succ, List.flatten_cons, List.length_append, ih, Nat.succ_mul, Nat.add_comm]
theorem op_rep : OpR X (binaryOp .Mult) rRep := by
  intro pins s σ H x y v u Q I rx ry h
  obtain ⟨l, k, xs, rfl, rfl, hH, h1, h2, hz, q⟩ := h
  cases rx
  obtain ⟨t, rfl⟩ := ry
  obtain ⟨z, its, n, r, hl, e⟩ := I.lstM hH
  have hlen : its.toArray.size * k.toNat ≤ sizeLine := by rw [List.size_toArray, ← hl]; exact hz
  have hcap : ¬ its.toArray.size * k.toNat > (2 ^ 63 - 1) / 8 := by
    have : (sizeLine : Nat) ≤ (2 ^ 63 - 1) / 8 := by decide
    (first | lia | omega)
  have hfit : ¬ (!Builtin.List.listFitsIndex k) = true := by
    rw [fitsIndex_both h1 h2]
    exact Bool.false_ne_true
  have hlong : ¬ Builtin.List.listTooLong (its.toArray.size * k.toNat) = true := by
    rw [notLongL hlen]
    exact Bool.false_ne_true
  have hnew : List.foldl (fun x1 x2 => x1 ++ x2) #[] (List.replicate (if its.toArray.isEmpty = true then 0 else k.toNat) its.toArray) = (List.replicate k.toNat its).flatten.toArray := by
    have f0 : ∀ m : Nat, List.foldl (fun x1 x2 => x1 ++ x2) #[] (List.replicate m its.toArray) = (List.replicate m its).flatten.toArray := fun m => by
      have := foldl_rep its m []
      rw [List.nil_append] at this
      exact this
    rw [f0]
    cases its with
    | nil => simp
    | cons a r' => rw [if_neg (by simp)]
  refine wpAny_binaryOp_repeat_ref (T := "list") (U := "int") (by decide) ⟨_, e, rfl⟩ (fun s' => typeIs_int s' k t) noFill_list_mul F.fills_int_mul F.slot_int_rmul repeat_list F.slot_int_index.lookup
    (call_meets F.slot_int_rmul (typeIs_int s k t) F.entry_int_rmul (F.args_int_rmul_2 _ _) (int___rmul___int_list k t l its.toArray n)
      ⟨e, rfl, ⟨_, e, rfl⟩, call_meets F.slot_list_mul ⟨_, e, rfl⟩ F.entry_list_mul (F.args_list_mul_2 _ _) (AutoListH.list___mul___list_int_3 l its.toArray n k t hfit hcap hlong) ⟨e, ?_⟩⟩)
  rw [hnew]
  exact ⟨.ref _, _, I.lnew (t' := s.toks) (r.rep k.toNat) (by rw [len_rep, Nat.mul_comm]; exact hz), rfl, q _ I.fresh⟩

/-! ### del xs[i] -/
end

/-! ### xs[a:b] = ys -/

end L2

namespace Att
open PySem PySem.W PySem.Calls PyProof.Rows

/-! ### the script -/
theorem ints_of_wellAll {P : Params} {h : Heap} : ∀ (ns : List Int) (vs : List Value), WellAll P h vs (ns.map WData.int) → IntsAre vs ns := by
  intro ns
  induction ns with
  | nil =>
    intro vs w
    rw [List.map_nil] at w
    cases w
    exact .nil
  | cons n ns ih =>
    intro vs w
    rw [List.map_cons] at w
    cases w with
    | cons a b =>
      cases a
      exact .cons _ _ (ih _ b)

theorem script_of {l : OpenLaw} {n : Nat} (hn : l.most = some n) {P : Params} {h : Heap} {args : List WData} {vals : List Value}
    (hpre : l.row.toRowW.claim.pre args = true) (hwl : WellAll P h vals args) :
    ∃ a vs ns, vals = [Value.ref a] ∧ args = [WData.list (ns.map WData.int)] ∧ h.get? a = some { cls := .type "list", data := .seq vs.toArray } ∧ IntsAre vs ns ∧ ns.length ≤ n := by
  have hsh : WShape.hasAll [] args [.list .int] = true := (pre_splitW hpre).1
  have hc : l.pre.holds [] { args := args } = true := (pre_splitW hpre).2
  obtain ⟨d, r, rfl, h1, h2⟩ := hasAllW_cons hsh
  obtain rfl := hasAllW_nil h2
  obtain ⟨xs, rfl, h3⟩ := hasW_list h1
  obtain ⟨ns, rfl⟩ := items_int h3
  have hlen : ns.length ≤ n := by
    unfold OpenLaw.pre at hc
    have h4 : (WTm.not (.lt (.lit (.int (n : Int))) (.len (.arg 0)))).holds [] { args := [.list (ns.map .int)] } = true := by
      have h4 := (holds_andW hc).1
      rw [hn] at h4
      exact h4
    have h5 := condW_of h4 (w_not (w_lt w_lit (w_len_list (w_arg rfl))))
    rw [List.length_map] at h5
    refine Nat.le_of_not_lt fun q => ?_
    have q' : (n : Int) < ((ns.length : Nat) : Int) := by (first | lia | omega)
    first
      | (rw [decide_eq_true q'] at h5; exact absurd h5 (by decide))
      | (simp at h5; (first | lia | omega))
  cases hwl with
  | cons w1 w2 =>
    cases w2
    cases w1 with
    | list ho hall => exact ⟨_, _, ns, rfl, rfl, ho, ints_of_wellAll ns _ hall, hlen⟩

theorem post_true (l : OpenLaw) (args : List WData) : l.row.toRowW.claim.post args (.bool true) args = true :=
  postW_of (r := l.row.toRowW) (X := (true == true))
    (show WShape.has [] (.bool true) .bool = true by first | rfl | decide | simp [WShape.has, WShape.arms, WShape.armsAll])
    (show (WTm.eq .res (.lit (.bool true))).value [] { args := args, res := some (.bool true), after := args } = some (.bool (true == true)) from w_eq_bool (w_res rfl) w_lit) rfl

/-! ### the attachment: holds_open's last premise (the goal 'hc' behind k_head) from a wpAny of the law's body -/
/-- the same from a codeAny of the CALL (for a layer whose function contracts speak of calls) -/
theorem attach_call {l : OpenLaw} {n : Nat} {q : Program} {loose : List Str} {XP : (Str → Option Value) → Heap → Prop} {YP : World → Heap → Prop} {d : DefRec}
    (hn : l.most = some n) (hdf : d.params.defaults = [])
    (call : ∀ (w : World) (s₀ s₁ : Shared) (mg mb : Str → Option Value) (fa : Addr) (o : Obj) (pm cd doc : Value) (a : Addr) (vs : List Value) (ns : List Int),
      Ground q loose [] XP w s₀ mg mb s₁.heap → YP w s₁.heap →
      s₁.heap.get? fa = some o → o.data = .func (docDef d.name d.params d.body d.scope pm cd doc) → s₁.heap.CodeRec cd d.name → mg d.name = some (.ref fa) →
      s₁.heap.get? a = some { cls := .type "list", data := .seq vs.toArray } → IntsAre vs ns → ns.length ≤ n → s₁.gens = #[] →
      codeAny (model l.prog w) callerA (.call (.ref fa) ⟨[.ref a], []⟩) (fun r s' => r = .ok (.ret (.bool true)) ∧ OldK s₁.heap s'.heap ∧ s'.os = s₁.os ∧ AllBare s'.gens) s₁) :
    WalkO q loose XP YP l.row.toRowW d [] (fun f vs => PySem.call f vs) := by
  intro w s₀ s₁ mg mb G Y fa o pm cd doc dV kV ho hd hcd hD hmg hg args vals as hpre hlay hrd hwl hlo
  obtain rfl : dV = .none := Dflts.none hD hdf
  obtain rfl : kV = .none := Dflts.noKw hD
  obtain ⟨a, vs, ns, rfl, rfl, hobj, hints, hlen⟩ := script_of hn hpre hwl
  refine enter_call (codeAny_mono (call w s₀ s₁ mg mb fa o pm cd doc a vs ns G Y ho (fd_plain hd) hcd hmg hobj hints hlen hg) fun r s' hq => ?_)
  obtain ⟨rfl, h2, h3, h4⟩ := hq
  exact ⟨.inl ⟨.bool true, .bool true, [], rfl, fun _ => rfl, .bool true, post_true l _, fun _ => ⟨List.Pairwise.nil, fun _ hm => (nomatch hm)⟩⟩, h2, h3, h4⟩

/-! ### rules over ANY heap (no ledger) from facts about the written part K: the library's own take a ledger (News) for what they write -/
end Att

namespace L2
open PySem PySem.Spec PyProof.Rows

theorem vals_ints : ∀ {vs : List Value} {ns : List Int}, IntsAre vs ns → Vals (ns.map V.int) vs
  | _, _, .nil => .nil
  | _, _, .cons n t h => .cons ⟨t, rfl⟩ (vals_ints h)

/-- nothing is tracked but the script, known to the object (or it is an object of the module) -/
def Only (H : Hp) : Prop := ∀ b, H b = none ∨ ∃ o xs, H b = some (.frz o (.lst xs))

/-- THE HEAD: the law's promise, at the heap behind the top. F, the promise of the law's def, may use that base is part of the heap (so K.In base, base.Ns mainGlobals mg stand in Mod) -/
theorem law_call {P : Program} {w : World} {K : PySem.W.Frag} {mg mb : Str → Option Value} {CX : CXT} {k : Nat} {fa a : Addr} {fd : FuncData} {x : Str} {sp : Sp} {s₁ : Shared} {vs : List Value} {ns : List Int}
    (KX : K.In s₁.heap) (hns : s₁.heap.Ns mainGlobals mg) (hb : s₁.heap.Ns builtinsNs mb) (hbb : ∀ x : Str, x ≠ "__name__" → mb x = bootBuiltins x) (hlim : s₁.heap.NoLimit) (hg : s₁.gens = #[])
    (ha : s₁.heap.get? a = some { cls := .type "list", data := .seq vs.toArray }) (hi : IntsAre vs ns) (hl : ns.length ≤ sizeLine) (hr : Room k callerA)
    (F : ∀ base : Heap, K.In base → base.Ns mainGlobals mg → FnOk P w K mg base CX k fa fd [x] sp) (hbind : ∀ (s : Shared) (u : Value), BindsTo s fd ⟨[u], []⟩ [(x, u)])
    (hsp : ∀ H : Hp, Only H → SqL K H a (ns.map V.int) → sp [.ref a] H (fun v _ => v = .bl true) fun _ _ _ => False)
    (hCX : ∀ H e s', CX [] H s₁ (fun _ _ _ => False) e s' → False) :
    codeAny (model P w) callerA (.call (.ref fa) ⟨[.ref a], []⟩) (fun r s' => r = .ok (.ret (.bool true)) ∧ OldK s₁.heap s'.heap ∧ s'.os = s₁.os ∧ AllBare s'.gens) s₁ := by
  have rv := vals_ints hi
  have lenV := hi.length
  -- from an abstract heap in which nothing but the script may be tracked
  have core : ∀ H : Hp, Only H → SqL K H a (ns.map V.int) → HOk P w H s₁.heap → (∀ b, H b ≠ none → b = a) → (H a ≠ none → K.lookup a = none) →
      codeAny (model P w) callerA (.call (.ref fa) ⟨[.ref a], []⟩) (fun r s' => r = .ok (.ret (.bool true)) ∧ OldK s₁.heap s'.heap ∧ s'.os = s₁.os ∧ AllBare s'.gens) s₁ := by
    intro H hO hS hok hA hK
    have base_of : ∀ {b : Addr} {o : Obj}, s₁.heap.get? b = some o → H b = none → (hidT s₁.heap H).get? b = some o := fun e n => hidT_get e n
    have noA : ∀ {b : Addr} {o : Obj} {es : Array DictEntry} {ep : Nat}, s₁.heap.get? b = some o → o.data = .dict es ep → H b = none := fun {b o es ep} e d => by
      cases q : H b with
      | none => rfl
      | some u =>
        have e' : b = a := hA b (by rw [q]; simp)
        subst e'
        rw [ha] at e; cases e
        have d' : Data.seq vs.toArray _ = Data.dict es ep := d
        cases d'
    have nsK : ∀ {b : Addr} {m : Str → Option Value}, s₁.heap.Ns b m → (hidT s₁.heap H).Ns b m := fun {b m} ⟨o, es, ep, e, d, r⟩ => ⟨o, es, ep, base_of e (noA e d), d, r⟩
    have hKb : K.In (hidT s₁.heap H) := fun b o e => base_of (KX b o e) (by
      cases q : H b with
      | none => rfl
      | some u =>
        have e' : b = a := hA b (by rw [q]; simp)
        subst e'
        rw [hK (by rw [q]; simp)] at e; cases e)
    have hM : Mod K mg (hidT s₁.heap H) := ⟨hKb, nsK hns, ⟨mb, nsK hb, hbb⟩, let ⟨mc, h1, h2⟩ := hlim; ⟨mc, nsK h1, h2⟩⟩
    have e0 : Env0 P w K mg (hidT s₁.heap H) callerA [] s₁ H := ⟨rfl, hM, fun b o e => of_hidT e, Nat.le_of_eq (hidT_size _ _), trivial, fun b hb => absurd (show b ∈ ([] : List Addr) from hb) (by simp), hok, .of_eq hg⟩
    refine codeAny_mono ((F _ hKb (nsK hns)).run callerA [] s₁ H ⟨[.ref a], []⟩ [.ref a] [.ref a] _ _ hr e0 (hbind s₁ (.ref a)) (.cons rfl .nil) (hsp H hO hS)) fun r s' h => ?_
    cases r with
    | error e => exact (hCX H e s' h).elim
    | ok fl =>
      cases fl with
      | next => exact False.elim h
      | brk => exact False.elim h
      | cont => exact False.elim h
      | ret u =>
        obtain ⟨v, H', os, bare, un, hok', r', q⟩ := h
        have q' : v = .bl true := q
        subst q'
        obtain rfl : u = Value.bool true := r'
        refine ⟨rfl, OldK.of_keep fun b o e => ?_, os, bare⟩
        cases q : H b with
        | none => exact un.keep b o e q (by intro z; exact absurd (show b ∈ ([] : List Addr) from z) (by simp)) (by simp)
        | some u =>
          rcases hO b with z | ⟨ob, xs, z⟩
          · rw [q] at z; cases z
          · have z2 := un.frzs b ob _ z
            obtain ⟨e1, _⟩ := hok b _ z
            obtain ⟨e2, _⟩ := hok' b _ z2
            rw [e] at e1; cases e1
            exact e2
  cases hk : K.lookup a with
  | some o =>
    -- the script is one of the module's own objects
    have e := KX a o hk
    rw [ha] at e
    cases e
    refine core (fun _ => none) (fun _ => .inl rfl) (.inr ⟨_, vs.toArray, _, hk, rfl, rfl, rfl, by rw [List.size_toArray, lenV]; exact hl, by simpa using rv⟩) (fun b u z => by have z' : (none : Option HO) = some u := z; cases z') (fun b z => absurd rfl z) fun z => absurd rfl z
  | none =>
    refine core (fun b => if b = a then some (.frz { cls := .type "list", data := .seq vs.toArray } (.lst (ns.map V.int))) else none) (fun b => ?_) (.inl (.inr ⟨{ cls := .type "list", data := .seq vs.toArray }, if_pos rfl⟩)) (fun b u z => ?_) (fun b z => ?_) fun _ => hk
    · by_cases hb : b = a
      · exact .inr ⟨_, _, if_pos hb⟩
      · exact .inl (if_neg hb)
    · by_cases hb : b = a
      · have z' := (if_pos hb).symm.trans z
        cases z'
        subst hb
        exact ⟨ha, by rw [List.length_map]; exact hl, vs, _, rv, ha⟩
      · have z' := (if_neg hb).symm.trans z
        cases z'
    · by_cases hb : b = a
      · exact hb
      · exact absurd (if_neg hb) z
end L2

namespace L2
open PySem PySem.Spec PyProof.Rows

/-- the goal that k_head leaves (case hc), from the law's promise. F gives the function object fd (K's own) once, then the promise over every base -/
theorem walk_of {l : PySem.W.OpenLaw} {n k : Nat} {q : Program} {loose : List Str} {XP : (Str → Option Value) → Heap → Prop} {YP : World → Heap → Prop} {d : DefRec} {K : Params → PySem.W.Frag} {CX : World → CXT} {sp : World → Sp} {x : Str}
    (hn : l.most = some n) (hn2 : n ≤ sizeLine) (hdf : d.params.defaults = []) (hr : Room k callerA)
    (hY : ∀ (w : World) (h : Heap), YP w h → (K w.params).In h)
    (F : ∀ (w : World) (mg : Str → Option Value) (fa : Addr) (h : Heap), (K w.params).In h → h.Ns mainGlobals mg → mg d.name = some (.ref fa) →
      ∃ fd : FuncData, (∀ (s : Shared) (u : Value), BindsTo s fd ⟨[u], []⟩ [(x, u)]) ∧
        ∀ base : Heap, (K w.params).In base → base.Ns mainGlobals mg → FnOk l.prog w (K w.params) mg base (CX w) k fa fd [x] (sp w))
    (hsp : ∀ (w : World) (H : Hp) (a : Addr) (ns : List Int), ns.length ≤ n → Only H → SqL (K w.params) H a (ns.map V.int) → sp w [.ref a] H (fun v _ => v = .bl true) fun _ _ _ => False)
    (hCX : ∀ (w : World) (H : Hp) (s : Shared) (e : Value) (s' : Shared), CX w [] H s (fun _ _ _ => False) e s' → False) :
    PySem.W.WalkO q loose XP YP l.row.toRowW d [] (fun f vs => PySem.call f vs) := by
  refine Att.attach_call hn hdf fun w s₀ s₁ mg mb fa o pm cd doc a vs ns G Y ho hd hcd hmg hobj hints hlen hg => ?_
  have KX := hY w _ Y
  obtain ⟨fd, hb, hF⟩ := F w mg fa _ KX G.T.g hmg
  exact law_call KX G.T.g G.T.b G.T.builtins G.T.nolimit hg hobj hints (Nat.le_trans hlen hn2) hr hF hb (fun H hO hS => hsp w H a ns hlen hO hS) fun H e s' => hCX w H s₁ e s'
end L2

/- THE LAST THEOREM (shape; LID, My.* are yours):
   My.Adr: a structure of the addresses that your layer names (classes, functions); My.Txt K t: a structure (Prop) of the equations over K;
   My.txt_mk : {K} {implicit addresses ..} (e1 : nsIn K mainGlobals "law" = some (some (.ref f))) (e2 : K.lookup f = some ⟨oc, od, .func (fnOf "law" "law" params body scope dV kV doc pm an cdv ct), sl⟩) (e3 : codeIn K cdv "law" = true) .. : ∃ t, My.Txt K t

set_option maxRecDepth 100000 in
set_option maxHeartbeats 0 in
theorem PySem.Challenge.cw_LID_holds : PySem.Challenge.rw_LID.Holds := by
  w_on; o_law; k_head; (case hw => w_witness2)
  k_fill
  refine L2.walk_of (l := PySem.Challenge.rw_LID) (n := 63) (k := 40) (x := "script") (CX := fun w => ..) (sp := fun _ => My.sp_law) rfl (by decide) rfl ⟨rfl, by decide, by decide⟩ (fun w h Y => PySem.W.kIn_of Y) ?F ?S ?C
  case F =>
    intro w mg fa h KX G hmg
    have T : ∃ t, My.Txt (L2.KOf KX) t := by
      dsimp only [L2.KOf]                          -- K must stand as «<heap const> w.params» for k_is
      refine' My.txt_mk ?e1 ?e2 ?e3 ..
      (case e1 => PySem.W.k_is)                    -- in the order: a name -> its address -> its object -> its parts
      (case e2 => PySem.W.k_is)
      ..
    obtain ⟨t, T⟩ := T
    have e0 := hmg.symm.trans (PySem.W.mg_of KX G T.law)
    cases e0                                       -- fa is the law's own address
    exact ⟨_, fun s u => .of_eq rfl, fun base kb nb => My.law_fn T kb nb⟩     -- if «.of_eq rfl» comes too early: refine' ⟨_, ?b, fun base kb nb => My.law_fn T kb nb⟩; exact fun s u => .of_eq rfl
  case S => exact fun w H a ns hl hO hS => ..
  case C => exact ..
(the tactic k_is has no namespace: write k_is) -/

/-! SHORT WORDS over the layer: a def of the text, its body, what a loop and a test want. -/
namespace L2
open PySem PySem.Spec PyProof.Rows

/-! ### the text by places -/
def defArgs (s : Stmt) : Arguments := match s with
  | .FunctionDef _ a _ _ _ _ _ _ _ _ => a
  | _ => { posonlyargs := [], args := [], vararg := none, kwonlyargs := [], kw_defaults := [], kwarg := none, defaults := [] }
def defBody (s : Stmt) : List Stmt := match s with
  | .FunctionDef _ _ b _ _ _ _ _ _ _ => b
  | _ => []
def defScope (s : Stmt) : Scope := match s with
  | .FunctionDef _ _ _ _ _ _ sc _ _ _ => sc
  | _ => { kind := .function, names := [], isGenerator := false, isCoroutine := false }

/-! ### no exception leaves a def -/
abbrev CX0 : CXT := fun _ _ _ _ _ _ => False
abbrev E0 : XK := fun _ _ _ => False
theorem pass0 {X : Cx} : Passes CX0 X E0 := fun _ _ _ _ _ _ _ h => h.elim

/-! ### a def (or method) of the text as it stands behind the top -/
structure Fun (K : PySem.W.Frag) (x qual : Str) (st : Stmt) (f : Addr) (fd : FuncData) : Prop where
  ex : ∃ (oc : Value) (od : Option Addr) (kV doc pm : Value) (an : Option Addr) (cdv ct : Value) (osl : Array (Option Value)),
    fd = PySem.W.fnOf x qual (defArgs st) (defBody st) (defScope st) .none kV doc pm an cdv ct ∧ K.lookup f = some ⟨oc, od, .func fd, osl⟩ ∧ PySem.W.codeIn K cdv qual = true
  kp : PySem.W.keepIn K (.ref f) = true
section
variable {P : Program} {w : World} {K : PySem.W.Frag} {mg : Str → Option Value} {base : Heap}
/-- THE RULE for a def: its body as a term of rules, and the reading of that term -/
theorem Fun.ok {x qual : Str} {st : Stmt} {f : Addr} {fd : FuncData} {N ps : List Str} {k : Nat} {sp : Sp} (F : Fun K x qual st f fd) (S : FnScope N ps (defScope st)) (len : ∀ vs H Q E, sp vs H Q E → vs.length = ps.length)
    (hbody : ∀ (cdv : Value) (A : Around) (outer : List Env) (s : Shared) (H : Hp) (vs : List V) (Q : VK) (E : XK), Room k (A.deeper (envOfC qual (defScope st) s.heap.objs.size f cdv)) → sp vs H Q E →
      ∃ t, PSs (cxOf CX0 P w K mg base N qual (defScope st) f cdv A outer s H E).nox (defBody st) t ∧ t { nx := fun _ H' => Q .non H', rt := Q } (start N vs) H) : FnOk P w K mg base CX0 (k + 1) f fd ps sp := by
  obtain ⟨oc, od, kV, doc, pm, an, cdv, ct, osl, rfl, lk, hcd⟩ := F.ex
  refine fn_of lk hcd S len fun A outer s H vs Q E hr hsp => ?_
  obtain ⟨t, h, q⟩ := hbody cdv A outer s H vs Q E hr hsp
  exact ⟨t, h.nox, q⟩
/-- how its arguments bind (no defaults): h is «fun _ _ _ _ _ _ us hl => match us, hl with | [_, _], _ => rfl», one _ a parameter -/
theorem Fun.binds {x qual : Str} {st : Stmt} {f : Addr} {fd : FuncData} {ps : List Str} (F : Fun K x qual st f fd)
    (h : ∀ (kV doc pm : Value) (an : Option Addr) (cdv ct : Value) (us : List Value), us.length = ps.length → bindArgs (PySem.W.fnOf x qual (defArgs st) (defBody st) (defScope st) .none kV doc pm an cdv ct) ⟨us, []⟩ = pure (ps.zip us)) : Binds K fd ps [] := by
  obtain ⟨oc, od, kV, doc, pm, an, cdv, ct, osl, rfl, lk, hcd⟩ := F.ex
  exact .all (h kV doc pm an cdv ct)
theorem fun_mk {x qual : Str} {st : Stmt} {f : Addr} {oc : Value} {od an : Option Addr} {osl : Array (Option Value)} {kV doc pm cdv ct : Value} (l : K.lookup f = some ⟨oc, od, .func (PySem.W.fnOf x qual (defArgs st) (defBody st) (defScope st) .none kV doc pm an cdv ct), osl⟩)
    (c : PySem.W.codeIn K cdv qual = true) (k : PySem.W.keepIn K (.ref f) = true) : Fun K x qual st f (PySem.W.fnOf x qual (defArgs st) (defBody st) (defScope st) .none kV doc pm an cdv ct) := ⟨⟨oc, od, kV, doc, pm, an, cdv, ct, osl, rfl, l, c⟩, k⟩
end
/-! ### expressions in short: the name that stands in the i-th slot -/
section
variable {X : Cx}
theorem pv (i : Nat) {x : Str} {pos : Pos} (hN : X.N[i]? = some x := by rfl) (hv : Vis X.env.scope x := by first | exact Or.inl rfl | exact Or.inr (Or.inl rfl) | exact Or.inr (Or.inr rfl)) (hd : (x == ("__debug__" : Str)) = false := by decide)
    (hcd : (x == ("__classdict__" : Str)) = false := by decide) : PE X (.Name x pos) (tVar i) := pe_var hN hv hd hcd
end

/-! ### tests -/
theorem iteF {A B : Prop} (h : B) : if false = true then A else B := by
  rw [if_neg Bool.false_ne_true]
  exact h
theorem iteT {A B : Prop} (h : A) : if true = true then A else B := by
  rw [if_pos rfl]
  exact h
theorem ite2 {c A B : Prop} [Decidable c] (h1 : c → A) (h2 : ¬ c → B) : if c then A else B := by
  by_cases h : c
  · rw [if_pos h]
    exact h1 h
  · rw [if_neg h]
    exact h2 h
/-! ### heaps -/
/-- all that was tracked is as it was -/
def Same (H H' : Hp) : Prop := ∀ b o, H b = some o → H' b = some o
theorem Same.refl (H : Hp) : Same H H := fun _ _ h => h
theorem Same.trans {H H1 H2 : Hp} (a : Same H H1) (b : Same H1 H2) : Same H H2 := fun c o h => b c o (a c o h)
theorem Same.free {H H' : Hp} (e : Same H H') {l : Addr} (h : H' l = Option.none) : H l = Option.none := by
  cases q : H l with
  | none => rfl
  | some o =>
    rw [e l o q] at h
    cases h
theorem Same.seq {K : PySem.W.Frag} {H H' : Hp} {a : Addr} {xs : List V} (e : Same H H') (h : SqL K H a xs) : SqL K H' a xs := by
  rcases h with (h | ⟨o, h⟩) | h
  · exact .inl (.inl (e _ _ h))
  · exact .inl (.inr ⟨o, e _ _ h⟩)
  · exact .inr h

end L2

/-! Groves as data: a grove is nil, or a first tree (tag, what is within) and the others. Words with an end sl. -/
namespace FgM
inductive Gr (A : Type) where
  | nil
  | cons (t : A) (w o : Gr A)
section
variable {A : Type}
def words (sl : A) : Gr A → List A
  | .nil => []
  | .cons t w o => t :: (words sl w ++ sl :: words sl o)
def snoc : Gr A → A → Gr A → Gr A
  | .nil, t, w => .cons t w .nil
  | .cons t' w' o, t, w => .cons t' w' (snoc o t w)
theorem words_snoc (sl : A) (t : A) (w : Gr A) : ∀ g : Gr A, words sl (snoc g t w) = words sl g ++ t :: (words sl w ++ [sl])
  | .nil => by simp [snoc, words]
  | .cons t' w' o => by simp [snoc, words, words_snoc sl t w o]
/-- rows (the innermost first) with the open tags (the innermost first): the words so far -/
def flatR (sl : A) : List (Gr A) → List A → List A
  | [r], [] => words sl r
  | r :: rs, t :: ts => flatR sl rs ts ++ t :: words sl r
  | _, _ => []
theorem flatR_open (sl : A) (t : A) {rs : List (Gr A)} {ts : List A} : flatR sl (.nil :: rs) (t :: ts) = flatR sl rs ts ++ [t] := by
  cases rs <;> simp [flatR, words]
theorem flatR_grow (sl : A) (t : A) (w : Gr A) {r : Gr A} {rs : List (Gr A)} {ts : List A} (h : rs.length = ts.length) :
    flatR sl (snoc r t w :: rs) ts = flatR sl (r :: rs) ts ++ t :: (words sl w ++ [sl]) := by
  cases ts with
  | nil =>
    have : rs = [] := List.eq_nil_of_length_eq_zero (by simpa using h)
    subst this
    simp [flatR, words_snoc]
  | cons t' ts =>
    cases rs with
    | nil => simp at h
    | cons r' rs => simp [flatR, words_snoc]
theorem flatR_close (sl : A) (t : A) {w r : Gr A} {rs : List (Gr A)} {ts : List A} (h : rs.length = ts.length) :
    flatR sl (snoc r t w :: rs) ts = flatR sl (w :: r :: rs) (t :: ts) ++ [sl] := by
  rw [flatR_grow sl t w h]
  simp [flatR]
theorem flatR_ge (sl : A) {r : Gr A} {rs : List (Gr A)} {ts : List A} (h : rs.length = ts.length) : (words sl r).length ≤ (flatR sl (r :: rs) ts).length := by
  cases ts with
  | nil =>
    have : rs = [] := List.eq_nil_of_length_eq_zero (by simpa using h)
    subst this
    simp [flatR]
  | cons t' ts =>
    cases rs with
    | nil => simp at h
    | cons r' rs => simp [flatR]; (first | lia | omega)
section
variable [DecidableEq A]
/-- from h open tags on these words end all tags and no more -/
def Can (sl : A) : Nat → List A → Prop
  | h, [] => h = 0
  | h, w :: ws => if w = sl then 1 ≤ h ∧ Can sl (h - 1) ws else Can sl (h + 1) ws
theorem can_tag {sl w : A} (hw : w ≠ sl) {h : Nat} {ws : List A} : Can sl h (w :: ws) ↔ Can sl (h + 1) ws := by
  simp [Can, hw]
theorem can_end {sl : A} {h : Nat} {ws : List A} : Can sl h (sl :: ws) ↔ 1 ≤ h ∧ Can sl (h - 1) ws := by
  simp [Can]
/-- the words of a grove leave the open tags as they were -/
def Clean (sl : A) : Gr A → Prop
  | .nil => True
  | .cons t w o => t ≠ sl ∧ Clean sl w ∧ Clean sl o
theorem clean_snoc {sl t : A} {w : Gr A} (ht : t ≠ sl) (hw : Clean sl w) : ∀ {g : Gr A}, Clean sl g → Clean sl (snoc g t w)
  | .nil, _ => ⟨ht, hw, trivial⟩
  | .cons _ _ _, ⟨a, b, c⟩ => ⟨a, b, clean_snoc ht hw c⟩
/-- one more open by a tag, one fewer by an end -/
def hgt (sl : A) : List A → Int
  | [] => 0
  | w :: ws => (if w = sl then -1 else 1) + hgt sl ws
end
/-- the stack of words_of: none is an end, some a tree -/
abbrev Item (A : Type) := Option (A × Gr A)
def wi (sl : A) : Item A → List A
  | none => [sl]
  | some (t, w) => t :: (words sl w ++ [sl])
def items : Gr A → List (Item A)
  | .nil => []
  | .cons t w o => some (t, w) :: items o
theorem items_words (sl : A) : ∀ g : Gr A, (items g).flatMap (wi sl) = words sl g
  | .nil => rfl
  | .cons t w o => by simp [items, wi, words, items_words sl o]
/-- what is still to come of a stack, its last one first -/
def toCome (sl : A) (st : List (Item A)) : List A := st.reverse.flatMap (wi sl)
theorem toCome_nil (sl : A) : toCome sl ([] : List (Item A)) = [] := rfl
theorem toCome_snoc (sl : A) (st : List (Item A)) (x : Item A) : toCome sl (st ++ [x]) = wi sl x ++ toCome sl st := by
  simp [toCome]
theorem toCome_grove (sl : A) (g : Gr A) : toCome sl (items g).reverse = words sl g := by
  simp [toCome, items_words]
theorem toCome_tree (sl : A) (st : List (Item A)) (w : Gr A) : toCome sl (st ++ [none] ++ (items w).reverse) = words sl w ++ sl :: toCome sl st := by
  simp [toCome, items_words, wi]
theorem toCome_len (sl : A) : ∀ st : List (Item A), st.length ≤ (toCome sl st).length := by
  intro st
  have h : ∀ l : List (Item A), l.length ≤ (l.flatMap (wi sl)).length := by
    intro l
    induction l with
    | nil => exact Nat.le_refl _
    | cons x l ih =>
      rw [List.flatMap_cons, List.length_append, List.length_cons]
      have : 1 ≤ (wi sl x).length := by cases x with
        | none => exact Nat.le_refl _
        | some p => obtain ⟨t, w⟩ := p; simp [wi]
      (first | lia | omega)
  have := h st.reverse
  rw [List.length_reverse] at this
  exact this
end
end FgM

/-! RULES OF OUR OWN over the layer: isinstance, t[::-1], whole slices of tuples, extend by a tuple, text * int, == of data at any depth, calls of own defs in short. -/
namespace L2
open PySem PySem.Spec PyProof.Rows
theorem bt_list : bootBuiltins "list" = some (.type "list") := by decide +kernel
theorem bt_tuple : bootBuiltins "tuple" = some (.type "tuple") := by decide +kernel
theorem bt_str : bootBuiltins "str" = some (.type "str") := by decide +kernel
theorem bt_int : bootBuiltins "int" = some (.type "int") := by decide +kernel
theorem bt_bool : bootBuiltins "bool" = some (.type "bool") := by decide +kernel
theorem bt_max : bootBuiltins "max" = some (.builtin "max") := by decide +kernel
theorem bt_min : bootBuiltins "min" = some (.builtin "min") := by decide +kernel
theorem bt_isinstance : bootBuiltins "isinstance" = some (.builtin "isinstance") := by decide +kernel
section
variable {X : Cx}
/-- the name of a built-in type -/
theorem pe_ty {x : Str} {n : String} {pos : Pos} (hg : Gl X x) (hm : X.mg x = none) (hv : bootBuiltins x = some (.type n)) (hn : x ≠ "__name__" := by decide) (hd : (x == ("__debug__" : Str)) = false := by decide) : PE X (.Name x pos) (tC (.ty n)) :=
  pe_bltn (v := .ty n) hg hm hv rfl hn hd
/-- isinstance(x, T), T a built-in type -/
theorem call_isinst : CallR X (.builtin "isinstance") (fun xs H Q => ∃ x n t b, xs = [x, .ty n] ∧ TyOf X.K H x t ∧ PySem.W.kitOne X.K t (.type n) = some b ∧ Q (.bl b) H) := by
  intro pins s σ H xs us Q I r h
  obtain ⟨x, n, t, b, rfl, ty, e, q⟩ := h
  obtain ⟨u, v, rfl, rx, ry⟩ := Vals.two r
  obtain rfl : v = Value.type n := ry
  exact isinst_ok I rx ty e fun tk => ⟨.bl b, H, I.tok tk, rfl, q⟩
end
/-! ### calls of own defs -/
structure Has (P : Program) (w : World) (K : PySem.W.Frag) (mg : Str → Option Value) (base : Heap) (x : Str) (ps : List Str) (k : Nat) (sp : Sp) : Prop where
  ex : ∃ (f : Addr) (fd : FuncData), FnOk P w K mg base CX0 k f fd ps sp ∧ Binds K fd ps [] ∧ PySem.W.keepIn K (.ref f) = true ∧ mg x = some (.ref f)
section
variable {X : Cx} {x : Str} {ps : List Str} {j k : Nat} {sp : Sp} {e : Expr} {es : List Expr} {t : TA} {p pos : Pos}
theorem FnOk.room {P : Program} {w : World} {K : PySem.W.Frag} {mg : Str → Option Value} {base : Heap} {CX : CXT} {f : Addr} {fd : FuncData} (F : FnOk P w K mg base CX j f fd ps sp) (h : j ≤ k) : FnOk P w K mg base CX k f fd ps sp :=
  ⟨F.len, fun A outer s H args us vs Q E hr => F.run A outer s H args us vs Q E (hr.mono h)⟩
theorem pe_has (G : Has X.prog X.w X.K X.mg X.base x ps j sp) (hr : Room k X.A) (hg : Gl X x) (ha : PA X (e :: es) t) (hk : j ≤ k := by decide) (hdb : (x == ("__debug__" : Str)) = false := by decide)
    (he : starEach (e :: es) X.env = (false, eval e X.env) :: starEach es X.env := by rfl) (hpl : (backTo pos (starEach es X.env)).any (·.1) = false := by rfl) :
    PE X (.Call (.Name x p) (e :: es) [] pos) (tCall sp [] E0 t) := by
  obtain ⟨f, fd, F, b, kp, m⟩ := G.ex
  exact pe_call (F.room hk) hr hg m kp b .nil pass0 ha hdb he hpl
end
/-! ### extend by a tuple -/
section
variable {X : Cx}
theorem list_extend_tup (l : Addr) (items : Array Value) (n : Nat) (b : Addr) (items2 : Array Value) (n2 : Nat) (dd2 : Option Addr) (sl2 : Array (Option Value))
    (hs0 : ¬(!items.isEmpty && Builtin.List.listTooLong (items.size + items2.size)) = true) (hs1 : items.size ≤ sizeLine) (hs2 : items.size + items2.size ≤ sizeLine + 1) :
    Meets (Builtin.«list.extend» ⟨[.ref l, .ref b], []⟩) (fun _ R s => s.heap.get? l = some { cls := .type "list", dict := none, data := .seq items n, slots := #[] }
      ∧ s.heap.get? b = some { cls := .type "tuple", dict := dd2, data := .seq items2 n2, slots := sl2 } ∧ R (.ok (.ret Value.none)) { s with heap := s.heap.update l (Obj.mapSeq fun x => x ++ items2), toks := s.toks }) :=
  .of_wp fun prog w A R s h => by
    obtain ⟨hp, g, d, tk, os⟩ := s
    obtain ⟨hl, hb, h⟩ := h
    have f2 := AutoSeq1.sub_tuple_tuple
    have f3 := AutoSeq1.sub_list_list
    have f4 := AutoSeq1.sub_tuple_list
    have f5 := AutoSeq1.sub_list_tuple
    have hz' : (items ++ items2).size ≤ sizeLine + 1 := by
      rw [Array.size_append]
      exact hs2
    wp_walk using (wpAny_updateSeq hl rfl (hz := hs1) (_hz' := hz')), AutoSeq1.wpAny_loadPart' hl, AutoSeq1.wpAny_loadPart' hb
    exact ⟨_, rfl, h⟩
def rExtendT (K : PySem.W.Frag) : V → List V → Hp → VK → Prop := fun x vs H Q => ∃ l b xs zs, x = .ref l ∧ vs = [.ref b] ∧ H l = some (.lst xs) ∧ SqT K H b zs ∧ xs.length + zs.length ≤ sizeLine ∧ Q .non (upd H l (.lst (xs ++ zs)))
theorem mt_extendT : MtM X "list.extend" (rExtendT X.K) := by
  intro pins s σ H x vs v us Q I rx rv h
  obtain ⟨l, b, xs, zs, rfl, rfl, hH, hB, hz, q⟩ := h
  cases rx
  obtain ⟨u, rfl, ru⟩ := rv.one
  cases ru
  obtain ⟨z, its, n, r, hl, e⟩ := I.lstM hH
  obtain ⟨its2, r2, tup, z2⟩ := I.tuple hB
  obtain ⟨⟨cls, dd, data, sl⟩, ho, hc, n2, hd⟩ := tup
  simp only at hc hd
  subst hc hd
  have hl2 := r2.length
  have hsz : its.toArray.size + its2.toArray.size ≤ sizeLine := by
    rw [List.size_toArray, List.size_toArray, ← hl, ← hl2]
    exact hz
  have hlong : ¬ (!its.toArray.isEmpty && Builtin.List.listTooLong (its.toArray.size + its2.toArray.size)) = true := by
    rw [notLongL hsz, Bool.and_false]
    exact Bool.false_ne_true
  refine call_meets F.slot_list_extend ⟨_, e, rfl⟩ F.entry_list_extend (F.args_list_extend_2 _ _)
    (list_extend_tup l its.toArray n b its2.toArray n2 dd sl hlong (by rw [List.size_toArray]; (first | lia | omega)) (by (first | lia | omega))) ⟨e, ho, ?_⟩
  refine ⟨.non, _, I.lset (its' := its ++ its2) hH e (by simp) (r.append r2) ?_, rfl, q⟩
  rw [List.length_append]
  (first | lia | omega)
end
/-! ### text * int -/
end L2
namespace HT
open PySem PyProof.Rows
section
variable {prog : Program} {w : World} {A : Around} {E : Value → Shared → Prop} {s : Shared}
theorem adjust_rev (n : Nat) : Builtin.Slice.sliceAdjust none none (-1) (n : Int) = ((n : Int) - 1, -1) := by
  unfold Builtin.Slice.sliceAdjust
  rfl
theorem places_rev (n : Nat) : Builtin.Slice.slicePlaces ((n : Int) - 1) (-1) (-1) = n := by
  unfold Builtin.Slice.slicePlaces
  have h1 : ¬ ((-1 : Int) > 0) := by (first | lia | omega)
  have h2 : (-(-1 : Int)) = 1 := rfl
  simp only [h1, if_false, h2, Int.ediv_one]
  split <;> (first | lia | omega)
theorem sliceApplied_rev {sl : Addr} {vl vu vs : Value} {n : Nat} {Q : Int × Int × Nat → Shared → Prop} (hs : s.heap.IsSliceOf sl vl vu vs) (pl : IsPart vl none) (pu : IsPart vu none) (ps : IsPart vs (some (-1)))
    (h : Q ((n : Int) - 1, -1, n) s) : wpAny (model prog w) A (Builtin.Slice.sliceApplied (.ref sl) (pure (n : Int))) Q E s := by
  obtain ⟨os, hos, hcs, hds⟩ := id hs
  unfold Builtin.Slice.sliceApplied Builtin.Slice.sliceFields
  refine wpAny_bind (wpAny_bind (wpAny_field hos hds (x := vl) rfl (wpAny_bind (wpAny_field hos hds (x := vu) rfl (wpAny_bind (wpAny_field hos hds (x := vs) rfl (wpAny_pure ?_)))))))
  refine wpAny_bind (slicePart_ ps ?_)
  show wpAny _ _ (if ((-1 : Int) == 0) = true then _ else _) _ _ s
  rw [if_neg (by decide)]
  refine wpAny_bind (slicePart_ pl (wpAny_bind (slicePart_ pu (wpAny_bind (wpAny_pure ?_)))))
  show wpAny _ _ (match Builtin.Slice.sliceAdjust none none (-1) (n : Int) with | (lo, hi) => pure (lo, (-1 : Int), Builtin.Slice.slicePlaces lo hi (-1))) _ _ s
  rw [adjust_rev n]
  show wpAny _ _ (pure ((n : Int) - 1, (-1 : Int), Builtin.Slice.slicePlaces ((n : Int) - 1) (-1) (-1))) _ _ s
  rw [places_rev]
  exact wpAny_pure h
theorem pick_rev {α : Type} (l : List α) : ∀ k : Nat, k ≤ l.length → ((List.range k).filterMap fun (m : Nat) => l.toArray[((l.length : Int) - 1 + (m : Int) * (-1)).toNat]?) = l.reverse.take k
  | 0, _ => by simp
  | k + 1, hk => by
    rw [List.range_succ, List.filterMap_append, pick_rev l k (by (first | lia | omega)), List.take_succ]
    congr 1
    have e : ((l.length : Int) - 1 + (k : Int) * (-1)).toNat = l.length - 1 - k := by (first | lia | omega)
    simp only [List.filterMap_cons, List.filterMap_nil, e, List.getElem?_toArray]
    rw [List.getElem?_reverse (by (first | lia | omega))]
    cases l[l.length - 1 - k]? <;> rfl
theorem getItem_tuple_rev {t sl : Addr} {its : List Value} {vl vu vs : Value} {Q : Value → Shared → Prop} (ht : IsTup s.heap t its.toArray) (hs : s.heap.IsSliceOf sl vl vu vs) (pl : IsPart vl none) (pu : IsPart vu none) (ps : IsPart vs (some (-1)))
    (h : Q (.ref s.heap.objs.size) { s with heap := s.heap.push { cls := .type "tuple", data := .seq its.reverse.toArray } })
    (hsz : its.length ≤ sizeLine) : wpAny (model prog w) A (getItem (.ref t) (.ref sl)) Q E s := by
  have hok : sizeOk (.seq its.reverse.toArray) := by
    show its.reverse.toArray.size ≤ sizeLine
    rw [List.size_toArray, List.length_reverse]
    exact hsz
  obtain ⟨os, hos, hcs, hds⟩ := id hs
  have hTs : s.TypeIs (.ref sl) "slice" := ⟨os, hos, hcs⟩
  unfold getItem
  try with_reducible refine wpAny_holding ?_
  first | refine wpAny_bind (wpAny_pure ?_) | skip
  refine wpAny_bind (wpAny_sequenceKey ht.typeIs (by decide) ?_)
  refine wpAny_bind (wpAny_callSpecial?_slot (name := Str.ofString "__getitem__") ht.typeIs PyProof.Rows.slot_tuple_getitem
    (wpAny_call_entry PyProof.Rows.slot_tuple_getitem ht.typeIs entry_tuple_getitem ?_ (args_tuple_getitem _ _)))
  show wpAny _ _ (Builtin.Tuple.tupleItemsOf (.ref t) >>= _) _ _ s
  refine wpAny_bind (tupleItemsOf_ ht ?_)
  refine wpAny_bind (wpAny_typeOf hTs ?_)
  rw [if_pos (by decide)]
  refine wpAny_bind (sliceApplied_rev (n := its.toArray.size) hs pl pu ps ?_)
  have hno : ¬ (((its.toArray.size : Int) - 1 == 0 && (-1 : Int) == 1 && its.toArray.size == its.toArray.size) = true) := by
    intro q
    rw [Bool.and_eq_true, Bool.and_eq_true] at q
    exact absurd q.1.2 (by decide)
  show wpAny _ _ (if ((its.toArray.size : Int) - 1 == 0 && (-1 : Int) == 1 && its.toArray.size == its.toArray.size) = true then _ else _) _ _ s
  have hp := pick_rev its its.length (Nat.le_refl _)
  rw [List.take_of_length_le (by simp)] at hp
  rw [if_neg hno]
  simp only [List.size_toArray]
  rw [hp]
  first
    | exact wpAny_bind (m := Builtin.Tuple.tupleExact _) (wpAny_newObj_type (wpAny_pure ⟨_, rfl, wpAny_pure h⟩) hok)
    | exact wpAny_bind (m := Builtin.Tuple.tupleExact _) (wpAny_newObj_type (wpAny_bind (wpAny_pure (wpAny_pure ⟨_, rfl, wpAny_pure h⟩))) hok)
    | exact wpAny_bind (wpAny_bind (m := Builtin.Tuple.tupleExact _) (wpAny_newObj_type (wpAny_pure (wpAny_pure ⟨_, rfl, wpAny_pure h⟩)) hok))
    | exact wpAny_bind (wpAny_bind (m := Builtin.Tuple.tupleExact _) (wpAny_newObj_type (wpAny_pure ⟨_, rfl, wpAny_pure h⟩) hok))
/-- t[a:b], the whole: t itself -/
theorem getItem_tuple_whole {t sl : Addr} {items : Array Value} {vl vu : Value} {lo hi : Option Int} {Q : Value → Shared → Prop} (ht : IsTup s.heap t items) (hs : s.heap.IsSliceOf sl vl vu .none) (pl : IsPart vl lo) (pu : IsPart vu hi)
    (h1 : sIx items.size 0 lo = 0) (h2 : sIx items.size items.size hi = items.size) (h : Q (.ref t) s) : wpAny (model prog w) A (getItem (.ref t) (.ref sl)) Q E s := by
  obtain ⟨os, hos, hcs, hds⟩ := id hs
  have hTs : s.TypeIs (.ref sl) "slice" := ⟨os, hos, hcs⟩
  unfold getItem
  try with_reducible refine wpAny_holding ?_
  first | refine wpAny_bind (wpAny_pure ?_) | skip
  refine wpAny_bind (wpAny_sequenceKey ht.typeIs (by decide) ?_)
  refine wpAny_bind (wpAny_callSpecial?_slot (name := Str.ofString "__getitem__") ht.typeIs PyProof.Rows.slot_tuple_getitem
    (wpAny_call_entry PyProof.Rows.slot_tuple_getitem ht.typeIs entry_tuple_getitem ?_ (args_tuple_getitem _ _)))
  show wpAny _ _ (Builtin.Tuple.tupleItemsOf (.ref t) >>= _) _ _ s
  refine wpAny_bind (tupleItemsOf_ ht ?_)
  refine wpAny_bind (wpAny_typeOf hTs ?_)
  rw [if_pos (by decide)]
  refine wpAny_bind (sliceApplied_gen hs pl pu ?_)
  rw [h1, h2]
  have hyes : ((((0 : Nat) : Int) == 0 && (1 : Int) == 1 && (items.size - 0) == items.size) = true) := by simp
  show wpAny _ _ (if (((0 : Nat) : Int) == 0 && (1 : Int) == 1 && (items.size - 0) == items.size) = true then _ else _) _ _ s
  rw [if_pos hyes]
  refine wpAny_bind (m := Builtin.Tuple.tupleIsExact (.ref t)) ?_
  unfold Builtin.Tuple.tupleIsExact
  refine wpAny_bind (wpAny_typeOf ht.typeIs (wpAny_pure ?_))
  show wpAny _ _ (if ((Value.type "tuple") == .type "tuple") = true then _ else _) _ _ s
  rw [if_pos (by decide)]
  refine wpAny_bind (wpAny_rule ?_)
  first
    | exact wpAny_pure ⟨_, rfl, wpAny_pure h⟩
    | exact wpAny_bind (wpAny_pure (wpAny_pure ⟨_, rfl, wpAny_pure h⟩))
end
end HT

namespace L2
open PySem PySem.Spec PyProof.Rows
/-! ### == and != of data at any depth -/
mutual
inductive Dp (K : PySem.W.Frag) (H : Hp) : V → PyData → Prop
  | non : Dp K H .non .none
  | bl (b : Bool) : Dp K H (.bl b) (.bool b)
  | int (i : Int) : Dp K H (.int i) (.int i)
  | str (x : Str) : Dp K H (.str x) (.str x)
  | lst {a : Addr} {xs : List V} {ds : List PyData} : SqL K H a xs → DpAll K H xs ds → Dp K H (.ref a) (.list ds)
  | tup {a : Addr} {xs : List V} {ds : List PyData} : SqT K H a xs → DpAll K H xs ds → Dp K H (.ref a) (.tuple ds)
inductive DpAll (K : PySem.W.Frag) (H : Hp) : List V → List PyData → Prop
  | nil : DpAll K H [] []
  | cons {v : V} {vs : List V} {d : PyData} {ds : List PyData} : Dp K H v d → DpAll K H vs ds → DpAll K H (v :: vs) (d :: ds)
end
section
variable {X : Cx} {pins : List (Addr × Obj)} {σ : St} {H : Hp} {s : Shared}
mutual
theorem Dp.reads (I : Inv X pins σ H s) : ∀ {v : V} {d : PyData} {u : Value}, Dp X.K H v d → RelV v u → ∃ as, Reads s.heap u d as
  | _, _, u, .non, r => by
    obtain rfl : u = Value.none := r
    exact ⟨_, .none⟩
  | _, _, u, .bl b, r => by
    obtain rfl : u = Value.bool b := r
    exact ⟨_, .bool b⟩
  | _, _, _, .int i, ⟨t, e⟩ => by
    subst e
    exact ⟨_, .int i t⟩
  | _, _, _, .str x, ⟨t, e⟩ => by
    subst e
    exact ⟨_, .str x t⟩
  | _, _, u, @Dp.lst _ _ a xs ds hq hall, r => by
    obtain rfl : u = Value.ref a := r
    obtain ⟨its, rv, ⟨o, n, e, hc, _, hd⟩, _⟩ := I.list hq
    obtain ⟨as, ha⟩ := DpAll.reads I hall rv
    exact ⟨_, .list e hc hd (by simpa using ha)⟩
  | _, _, u, @Dp.tup _ _ a xs ds hq hall, r => by
    obtain rfl : u = Value.ref a := r
    obtain ⟨its, rv, ⟨o, e, hc, n, hd⟩, _⟩ := I.tuple hq
    obtain ⟨as, ha⟩ := DpAll.reads I hall rv
    exact ⟨_, .tuple e hc hd (by simpa using ha)⟩
theorem DpAll.reads (I : Inv X pins σ H s) : ∀ {vs : List V} {ds : List PyData} {us : List Value}, DpAll X.K H vs ds → Vals vs us → ∃ as, ReadsAll s.heap us ds as
  | _, _, _, .nil, .nil => ⟨_, .nil⟩
  | _, _, _, .cons h t, .cons r rs => by
    obtain ⟨as, ha⟩ := Dp.reads I h r
    obtain ⟨bs, hb⟩ := DpAll.reads I t rs
    exact ⟨_, .cons ha hb⟩
end
end
section
variable {X : Cx}
def rEqD (K : PySem.W.Frag) (neg : Bool) : R2 := fun x y H Q => ∃ d e, Dp K H x d ∧ Dp K H y e ∧ d.canLay0 = true ∧ e.canLay0 = true ∧ min d.depth e.depth ≤ 200 ∧ Q (.bl (if neg then !PyData.eqv d e else PyData.eqv d e)) H
theorem op_eqD (hu : X.A.units + 200 < cLine) : OpR X (compareOp .Eq) (rEqD X.K false) := by
  intro pins s σ H x y v u Q I rx ry h
  obtain ⟨d, e, hx, hy, h1, h2, hd, q⟩ := h
  obtain ⟨as, ra⟩ := hx.reads I rx
  obtain ⟨bs, rb⟩ := hy.reads I ry
  exact PySem.SeqAt.compareEq_reads ra rb h1 h2 (by (first | lia | omega)) ⟨.bl _, H, I, rfl, q⟩
theorem hu_room {A : Around} {k : Nat} (hr : Room k A) : A.units + 200 < cLine := by
  have := hr.un
  (first | lia | omega)
end
/-! ### t[::-1], slices of tuples whole or not -/
section
variable {X : Cx} {e : Expr} {te : TE} {pos p2 p3 p4 : Pos} {j : Nat}
def rRevT (K : PySem.W.Frag) : V → Hp → VK → Prop := fun x H Q => ∃ a xs, x = .ref a ∧ SqT K H a xs ∧ ∀ p, H p = none → Q (.ref p) (upd H p (.tup xs.reverse))
theorem pe_revT (he : PE X e te) : PE X (.Subscript e (.Slice none none (some (.UnaryOp .USub (.Constant (.int 1) j p4) p3)) p2) pos) (tUn (rRevT X.K) te) := by
  intro pins s σ H Q I h
  refine Subscript_ (thn (he pins s σ H _ I h) fun v s1 ⟨x, H1, I1, r1, q1⟩ => ?_)
  obtain ⟨a, xs, rfl, hx, q⟩ := q1
  cases r1
  refine wpAny_Slice (thn (po_none pins s1 σ H1 (fun o H' => o = none ∧ H' = H1) I1 ⟨rfl, rfl⟩) fun vl s2 ⟨l, H2, I2, pl, el, eh⟩ => ?_)
  subst el eh
  refine thn (po_none pins s2 σ H2 (fun o H' => o = none ∧ H' = H2) I2 ⟨rfl, rfl⟩) fun vu s3 ⟨u, H3, I3, pu, el, eh⟩ => ?_
  subst el eh
  refine thn (po_some (pe_un un_neg pe_int) pins s3 σ H3 (fun o H' => o = some (-1) ∧ H' = H3) I3 ⟨1, rfl, -1, rfl, rfl, rfl⟩) fun vt s4 ⟨o, H4, I4, pt, el, eh⟩ => ?_
  subst el eh
  have I5 : Inv X pins σ H4 { s4 with heap := s4.heap.push { cls := .type "slice", data := .fields #[vl, vu, vt] } } := I4.kept (t' := s4.toks) fun b ob q => Heap.get?_push_of_some _ q
  obtain ⟨its, r, ht, hz⟩ := I5.tuple hx
  have hlen := r.length
  show wpAny (model X.prog X.w) X.A (subscriptTail e (.Slice none none (some (.UnaryOp .USub (.Constant (.int 1) j p4) p3)) p2) (.ref a) (.ref s4.heap.objs.size)) (EP X pins σ Q) X.xe { s4 with heap := s4.heap.push { cls := .type "slice", data := .fields #[vl, vu, vt] } }
  refine tail_any (ops := [.ref a, .ref s4.heap.objs.size]) ht.typeIs PyProof.Rows.slot_tuple_getitem.lookup (HT.getItem_tuple_rev ht (Heap.IsSliceOf.new ..) pl pu pt ?_ (by (first | lia | omega))) (by with_unfolding_all rfl)
  refine ⟨.ref _, _, I5.laid (t' := s4.toks) (o := .tup xs.reverse) (fun b ob q => Heap.get?_push_of_some _ q) (Nat.le_refl _) ?_, rfl, q _ (I5.hok.fresh (Nat.le_refl _))⟩
  exact ⟨by rw [List.length_reverse]; exact hz, _, r.reverse, IsTup.new _ _⟩
def rSlTW (K : PySem.W.Frag) : V → Option Int → Option Int → Hp → VK → Prop := fun x lo hi H Q => ∃ a xs, x = .ref a ∧ SqT K H a xs ∧
  ((HT.sIx xs.length 0 lo = 0 ∧ HT.sIx xs.length xs.length hi = xs.length) → Q (.ref a) H) ∧ ∀ p, H p = none → Q (.ref p) (upd H p (.tup (cutV xs lo hi)))
theorem sl_tupW : SlR X (rSlTW X.K) := by
  intro pins s σ H x v vl vu lo hi sl Q I rx hs pl pu h
  obtain ⟨a, xs, rfl, hx, q1, q2⟩ := h
  by_cases c : HT.sIx xs.length 0 lo = 0 ∧ HT.sIx xs.length xs.length hi = xs.length
  · cases rx
    obtain ⟨its, r, ht, hz⟩ := I.tuple hx
    have hlen : its.toArray.size = xs.length := by rw [List.size_toArray]; exact r.length.symm
    refine ⟨"tuple", _, PyProof.Rows.slot_tuple_getitem.lookup, ht.typeIs, ?_⟩
    exact HT.getItem_tuple_whole ht hs pl pu (by rw [hlen]; exact c.1) (by rw [hlen]; exact c.2) ⟨.ref a, H, I, rfl, q1 c⟩
  · exact sl_tup pins s σ H (.ref a) v vl vu lo hi sl Q I rx hs pl pu ⟨a, xs, rfl, hx, c, q2⟩
end
/-! ### heaps: tuples are kept -/
/-- what is no list that may change: the tuples stay -/
def TK (H H' : Hp) : Prop := ∀ b xs, H b = some (.tup xs) → H' b = some (.tup xs)
theorem TK.trans {H H1 H2 : Hp} (a : TK H H1) (b : TK H1 H2) : TK H H2 := fun c xs h => b c xs (a c xs h)
theorem TK.new {H : Hp} {p : Addr} {o : HO} (h : H p = none) : TK H (upd H p o) := fun b xs q => by
  rw [upd_ne (ne_of_none q h)]
  exact q
theorem TK.lst {H : Hp} {p : Addr} {xs : List V} {o : HO} (h : H p = some (.lst xs)) : TK H (upd H p o) := fun b ys q => by
  by_cases e : b = p
  · subst e
    rw [h] at q
    cases q
  · rw [upd_ne e]
    exact q
theorem Same.tk {H H' : Hp} (h : Same H H') : TK H H' := fun b xs q => h b _ q
theorem Same.new {H : Hp} {p : Addr} {o : HO} (h : H p = none) : Same H (upd H p o) := fun b u q => by
  rw [upd_ne (ne_of_none q h)]
  exact q
theorem Same.upd_new {H H' : Hp} {p : Addr} {o : HO} (h : Same H H') (hp : H p = none) : Same H (upd H' p o) := fun b u q => by
  rw [upd_ne (ne_of_none q hp)]
  exact h b u q
end L2
namespace L2
open PySem PySem.Spec PyProof.Rows
theorem Same.seqT {K : PySem.W.Frag} {H H' : Hp} {a : Addr} {xs : List V} (e : Same H H') (h : SqT K H a xs) : SqT K H' a xs := by
  rcases h with (h | ⟨o, h⟩) | h
  · exact .inl (.inl (e _ _ h))
  · exact .inl (.inr ⟨o, e _ _ h⟩)
  · exact .inr h
theorem upd_none {H : Hp} {p b : Addr} {o : HO} (h : upd H p o b = none) : b ≠ p ∧ H b = none := by
  by_cases e : b = p
  · subst e
    rw [upd_same] at h
    cases h
  · rw [upd_ne e] at h
    exact ⟨e, h⟩
end L2
namespace L2
open PySem PySem.Spec PyProof.Rows
end L2
namespace L2
open PySem PySem.Spec PyProof.Rows
section
variable {X : Cx}
/-- t[lo:hi] of a tuple that is tracked, whole or not -/
def rSlTU : V → Option Int → Option Int → Hp → VK → Prop := fun x lo hi H Q => ∃ a xs, x = .ref a ∧ H a = some (.tup xs) ∧ ∀ p H', Same H H' → H' p = some (.tup (cutV xs lo hi)) → Q (.ref p) H'
theorem sl_tupU : SlR X rSlTU := by
  intro pins s σ H x v vl vu lo hi sl Q I rx hs pl pu h
  obtain ⟨a, xs, rfl, hx, q⟩ := h
  refine sl_tupW pins s σ H (.ref a) v vl vu lo hi sl Q I rx hs pl pu ⟨a, xs, rfl, SqT.of hx, fun c => q a H (Same.refl H) ?_, fun p hp => q p _ (Same.new hp) upd_same⟩
  rw [hx]
  unfold cutV
  rw [c.1, c.2, List.drop_zero, Nat.sub_zero, List.take_length]
end
end L2
namespace L2
end L2

namespace L2
open PySem PySem.Spec PyProof.Rows
section
variable {X : Cx}
/-- a tuple is no text -/
theorem op_eq_tupstr (hu : X.A.units + 200 < cLine) : OpR X (compareOp .Eq) (fun x y H Q => ∃ a xs z, x = .ref a ∧ y = .str z ∧ SqT X.K H a xs ∧ Q (.bl false) H) := by
  intro pins s σ H x y v u Q I rx ry h
  obtain ⟨a, xs, z, rfl, rfl, hx, q⟩ := h
  cases rx
  obtain ⟨t, rfl⟩ := ry
  obtain ⟨its, r, ⟨o, e, hc, n, hd⟩, _⟩ := I.tuple hx
  exact PySem.SeqAt.RcAt.tuple_str z t ⟨o, e, hc, n, hd⟩ (by (first | lia | omega)) X.prog X.w X.xe _ ⟨.bl false, H, I, rfl, q⟩
theorem op_eqTS (hu : X.A.units + 200 < cLine) : OpR X (compareOp .Eq) (fun x y H Q => (∃ a xs z, x = .ref a ∧ y = .str z ∧ SqT X.K H a xs ∧ Q (.bl false) H) ∨ rEq x y H Q) := (op_eq_tupstr hu).or op_eq
end
theorem Paired.app {α β : Type} {F : α → β → Prop} : ∀ {l₁ k₁ : List α} {l₂ k₂ : List β}, Paired F l₁ l₂ → Paired F k₁ k₂ → Paired F (l₁ ++ k₁) (l₂ ++ k₂)
  | _, _, _, _, .nil, s => s
  | _, _, _, _, .cons r t, s => .cons r (Paired.app t s)
theorem Paired.unsnoc {α β : Type} {F : α → β → Prop} : ∀ {l : List α} {a : α} {l₂ : List β}, Paired F (l ++ [a]) l₂ → ∃ k b, l₂ = k ++ [b] ∧ Paired F l k ∧ F a b
  | [], _, _, .cons r .nil => ⟨[], _, rfl, .nil, r⟩
  | x :: l, a, _, .cons r t => by
    obtain ⟨k, b, e, p, f⟩ := Paired.unsnoc (l := l) t
    exact ⟨_ :: k, b, by rw [e]; rfl, .cons r p, f⟩
theorem snoc_of {α : Type} {l : List α} (h : l ≠ []) : ∃ k a, l = k ++ [a] := ⟨l.dropLast, l.getLast h, (List.dropLast_concat_getLast h).symm⟩
theorem snoc_last {α : Type} (l : List α) (a : α) : (l ++ [a])[(l ++ [a]).length - 1]? = some a := by
  simp
theorem snoc_drop {α : Type} (l : List α) (a : α) : (l ++ [a]).dropLast = l := by
  simp
end L2
namespace Fg
open PySem L2 FgM
abbrev SL : Str := "/"
/-- the tuples bear a grove -/
inductive RepG (H : Hp) : List V → Gr Str → Prop
  | nil : RepG H [] .nil
  | cons {p q : Addr} {t : Str} {ys vs : List V} {w o : Gr Str} : H p = some (.tup [.str t, .ref q]) → H q = some (.tup ys) → RepG H ys w → RepG H vs o → RepG H (.ref p :: vs) (.cons t w o)
theorem RepG.mono {H H' : Hp} (k : TK H H') : ∀ {vs : List V} {g : Gr Str}, RepG H vs g → RepG H' vs g
  | _, _, .nil => .nil
  | _, _, .cons h1 h2 h3 h4 => .cons (k _ _ h1) (k _ _ h2) (h3.mono k) (h4.mono k)
theorem RepG.snoc {H : Hp} {p q : Addr} {t : Str} {ys : List V} {w : Gr Str} (h1 : H p = some (.tup [.str t, .ref q])) (h2 : H q = some (.tup ys)) (h3 : RepG H ys w) :
    ∀ {vs : List V} {g : Gr Str}, RepG H vs g → RepG H (vs ++ [.ref p]) (snoc g t w)
  | _, _, .nil => .cons h1 h2 h3 .nil
  | _, _, .cons a b c d => .cons a b c (RepG.snoc h1 h2 h3 d)
theorem RepG.length {H : Hp} : ∀ {vs : List V} {g : Gr Str}, RepG H vs g → vs.length ≤ (words SL g).length
  | _, _, .nil => Nat.le_refl _
  | _, _, .cons _ _ _ d => by
    have := d.length
    simp only [List.length_cons, words, List.length_append]
    (first | lia | omega)
/-- an item of the stack -/
def RepI (H : Hp) (v : V) : Item Str → Prop
  | none => v = .str SL
  | some (t, w) => ∃ p q ys, v = .ref p ∧ H p = some (.tup [.str t, .ref q]) ∧ H q = some (.tup ys) ∧ RepG H ys w
theorem RepI.mono {H H' : Hp} (k : TK H H') {v : V} : ∀ {x : Item Str}, RepI H v x → RepI H' v x
  | none, h => h
  | some _, ⟨p, q, ys, e, a, b, c⟩ => ⟨p, q, ys, e, k _ _ a, k _ _ b, c.mono k⟩
theorem RepG.items {H : Hp} : ∀ {vs : List V} {g : Gr Str}, RepG H vs g → Paired (RepI H) vs (items g)
  | _, _, .nil => .nil
  | _, _, .cons a b c d => .cons ⟨_, _, _, rfl, a, b, c⟩ d.items
theorem paired_rev {α β : Type} {F : α → β → Prop} : ∀ {l₁ : List α} {l₂ : List β}, Paired F l₁ l₂ → Paired F l₁.reverse l₂.reverse
  | _, _, .nil => .nil
  | _, _, .cons r t => by
    rw [List.reverse_cons, List.reverse_cons]
    exact Paired.app (paired_rev t) (.cons r .nil)
theorem stk_mono {H H' : Hp} (k : TK H H') {vs : List V} {st : List (Item Str)} (h : Paired (RepI H) vs st) : Paired (RepI H') vs st := Paired.mapP h fun _ _ r => r.mono k
/-- rows under way, the innermost first -/
abbrev RowsR (H : Hp) : List Addr → List (Gr Str) → Prop := Paired fun a g => ∃ vs, H a = some (.lst vs) ∧ RepG H vs g
theorem rows_mono {H H' : Hp} (k : TK H H') : ∀ {as : List Addr} {gs : List (Gr Str)}, RowsR H as gs → (∀ b ∈ as, ∀ o, H b = some o → H' b = some o) → RowsR H' as gs
  | _, _, .nil, _ => .nil
  | _, _, .cons ⟨vs, h1, h2⟩ t, hk => .cons ⟨vs, hk _ (List.mem_cons_self ..) _ h1, h2.mono k⟩ (rows_mono k t fun b hb => hk b (List.mem_cons_of_mem _ hb))
theorem rows_there {H : Hp} : ∀ {as : List Addr} {gs : List (Gr Str)}, RowsR H as gs → ∀ b ∈ as, ∃ o, H b = some o
  | _, _, .nil, _, hb => nomatch hb
  | _, _, .cons ⟨vs, h1, _⟩ t, b, hb => by
    rcases List.mem_cons.mp hb with rfl | hb
    · exact ⟨_, h1⟩
    · exact rows_there t b hb
/-- small letters, one or more -/
def Lets (t : Str) : Prop := t.cps.toList ≠ [] ∧ ∀ c ∈ t.cps.toList, 97 ≤ c ∧ c ≤ 122
def Let0 (t : Str) : Prop := ∀ c ∈ t.cps.toList, 97 ≤ c ∧ c ≤ 122
theorem app_cps (x y : Str) : (x ++ y).cps.toList = x.cps.toList ++ y.cps.toList := by
  show (x.cps ++ y.cps).toList = _
  simp
theorem let0_app {x y : Str} (hx : Let0 x) (hy : Let0 y) : Let0 (x ++ y) := fun c hc => by
  rw [app_cps] at hc
  exact (List.mem_append.mp hc).elim (hx c) (hy c)
theorem Lets.let0 {t : Str} (h : Lets t) : Let0 t := h.2
theorem Lets.ne {t : Str} (h : Lets t) : t ≠ SL := fun e => by
  subst e
  have := h.2 47 (by decide)
  (first | lia | omega)
theorem Let0.ok {t : Str} (h : Let0 t) : PyData.strOk t = true := by
  unfold PyData.strOk
  rw [Array.all_eq_true_iff_forall_mem]
  intro c hc
  have := h c (by simpa using hc)
  exact decide_eq_true (by (first | lia | omega))
theorem sl_ok : PyData.strOk SL = true := by decide +kernel
def ABC : Str := "abcdefghijklmnopqrstuvwxyz"
theorem abc_all : ∀ n : _root_.Fin 26, 97 ≤ ABC.cps.toList.getD n.val 0 ∧ ABC.cps.toList.getD n.val 0 ≤ 122 ∧ n.val < ABC.cps.toList.length := by decide
theorem abc_at {i : Int} (h0 : 0 ≤ i) (h1 : i < 26) : ∃ c, atI ABC.cps.toList i = some c ∧ 97 ≤ c ∧ c ≤ 122 := by
  obtain ⟨n, rfl⟩ := Int.eq_ofNat_of_zero_le h0
  obtain ⟨a, b, c⟩ := abc_all ⟨n, by (first | lia | omega)⟩
  refine ⟨_, atI_nat (List.getElem?_eq_getElem c), ?_, ?_⟩
  · rw [List.getD_eq_getElem?_getD, List.getElem?_eq_getElem c] at a
    exact a
  · rw [List.getD_eq_getElem?_getD, List.getElem?_eq_getElem c] at b
    exact b
theorem ints_at {ns : List Int} {k : Int} (h0 : 0 ≤ k) (h : k < (ns.length : Int)) : ∃ v : Int, atI (ns.map V.int) k = some (.int v) := by
  obtain ⟨n, rfl⟩ := Int.eq_ofNat_of_zero_le h0
  have hn : n < ns.length := by (first | lia | omega)
  exact ⟨ns[n], atI_nat (by rw [List.getElem?_map, List.getElem?_eq_getElem hn]; rfl)⟩
theorem strs_at {ws : List Str} {n : Nat} (h : n < ws.length) : atI (ws.map V.str) ((n : Nat) : Int) = some (.str ws[n]) := atI_nat (by rw [List.getElem?_map, List.getElem?_eq_getElem h]; rfl)
end Fg

namespace Fg
open PySem L2 FgM
/-! ### what the laws' own helpers promise -/
/-- script[k], or 0: some int -/
def spCell (K : PySem.W.Frag) : Sp := fun vs H Q _ => ∃ (a : Addr) (ns : List Int) (k : Int), vs = [.ref a, .int k] ∧ SqL K H a (ns.map V.int) ∧ ns.length ≤ 63 ∧ 0 ≤ k ∧ ∀ v : Int, Q (.int v) H
/-- the words of a grove -/
def spWords (K : PySem.W.Frag) : Sp := fun vs H Q _ => ∃ (a : Addr) (xs : List V) (g : Gr Str), vs = [.ref a] ∧ SqT K H a xs ∧ RepG H xs g ∧ (words SL g).length ≤ 1000 ∧
  ∀ (r : Addr) (H' : Hp), Same H H' → H r = none → H' r = some (.lst ((words SL g).map V.str)) → Q (.ref r) H'
def spLaw (K : PySem.W.Frag) : Sp := fun vs H Q _ => ∃ (a : Addr) (ns : List Int), vs = [.ref a] ∧ SqL K H a (ns.map V.int) ∧ ns.length ≤ 63 ∧ ∀ H', Q (.bl true) H'
theorem len1000 {n : Nat} (h : n ≤ 100000) : n ≤ sizeLine := Nat.le_trans h (by decide)
theorem len1000' {n : Nat} (h : n ≤ 100000) : n < sizeLine := Nat.lt_of_le_of_lt h (by decide)
end Fg
namespace Fg
open PySem L2 FgM
theorem app_len (x y : Str) : (x ++ y).length = x.length + y.length := by
  show (x.cps ++ y.cps).size = _
  rw [Array.size_append]
  rfl
end Fg
namespace Fg
open PySem L2 FgM
theorem max_pos (j : Int) : (0 : Int) < if j > 1 then j else 1 := by
  split
  · rename_i h
    exact Int.lt_trans (by decide) h
  · decide
end Fg
namespace Fg
open PySem L2 FgM
theorem cut_from (xs : List V) (n : Nat) : cutV xs (some (n : Int)) none = xs.drop n := by
  unfold cutV
  rw [HT.sIx_nat, HT.sIx_none]
  rw [List.take_of_length_le (by rw [List.length_drop]; exact Nat.le_refl _)]
  by_cases h : n ≤ xs.length
  · rw [Nat.min_eq_left h]
  · rw [Nat.min_eq_right (by (first | lia | omega)), List.drop_length, List.drop_eq_nil_of_le (by (first | lia | omega))]
end Fg
namespace Fg
open PySem L2 FgM
theorem cut_upto (xs : List V) (n : Nat) : cutV xs none (some (n : Int)) = xs.take n := by
  unfold cutV
  rw [HT.sIx_nat, HT.sIx_none, List.drop_zero, Nat.sub_zero]
  by_cases h : n ≤ xs.length
  · rw [Nat.min_eq_left h]
  · rw [Nat.min_eq_right (by (first | lia | omega)), List.take_length, List.take_of_length_le (by (first | lia | omega))]
end Fg

namespace L2
open PySem PySem.Spec PyProof.Rows
end L2
namespace Fg
open PySem L2 FgM
/-! ### groves as texts -/
/-! ### what the laws want of texts -/
end Fg

/-! Texts: their signs walked, cut and compared; all(..) of truths; the comprehension of a tag's test. -/
namespace L2
open PySem PySem.Spec PyProof.Rows
/-! ### for x in text -/
/-! ### all(..), texts compared and cut -/
section
variable {X : Cx}
theorem sl_str : SlR X (fun x lo hi H Q => ∃ z, x = .str z ∧ z.length ≤ sizeLine ∧ Q (.str (PySem.StrLaws.sliceText z lo hi)) H) := by
  intro pins s σ H x v vl vu lo hi sl Q I rx hs pl pu h
  obtain ⟨z, rfl, hz, q⟩ := h
  obtain ⟨t, rfl⟩ := rx
  refine ⟨"str", _, F.slot_str_getitem.lookup, typeIs_str s z t, ?_⟩
  have key : ∀ l u : Option (Int × Tok), s.heap.IsSlice sl l u none → l.map (·.1) = lo → u.map (·.1) = hi → wpAny (model X.prog X.w) X.A (getItem (.str z t) (.ref sl)) (EP X pins σ Q) X.xe s := by
    intro l u hsl el eu
    refine wpAny_getItem_str_slice hsl rfl ?_
    unfold sliceMade slicePicked
    rw [el, eu]
    unfold PySem.StrLaws.sliceText at q
    by_cases c : ((1 : Int) == 1 && (Builtin.Str.strSliceIndices lo hi 1 z.length).length == z.length) = true
    · rw [if_pos c] at q
      rw [if_pos (show ((((none : Option (Int × Tok)).map (·.1)).getD 1 == 1) && (Builtin.Str.strSliceIndices lo hi (((none : Option (Int × Tok)).map (·.1)).getD 1) z.length).length == z.length) = true from c)]
      exact ⟨.str z, H, I, ⟨_, rfl⟩, q⟩
    · rw [if_neg c] at q
      rw [if_neg (show ¬ ((((none : Option (Int × Tok)).map (·.1)).getD 1 == 1) && (Builtin.Str.strSliceIndices lo hi (((none : Option (Int × Tok)).map (·.1)).getD 1) z.length).length == z.length) = true from c)]
      refine ⟨?_, .str _, H, I.tok _, ⟨_, rfl⟩, q⟩
      show (((Builtin.Str.strSliceIndices lo hi 1 z.length).filterMap (z.cps[·]?)).toArray).size ≤ sizeLine
      rw [List.size_toArray]
      refine Nat.le_trans (List.length_filterMap_le _ _) (Nat.le_trans ?_ hz)
      refine sliceRange_length_le _ _ _ _ (fun _ => ?_) (fun z => absurd (by decide) z)
      cases lo with
      | none =>
        cases hi with
        | none => exact ⟨Int.le_refl 0, Int.le_refl _⟩
        | some j => exact ⟨Int.le_refl 0, by simp only [show (1 : Int) > 0 by decide, if_true]; (first | lia | omega)⟩
      | some i =>
        cases hi with
        | none => exact ⟨by simp only [show (1 : Int) > 0 by decide, if_true]; (first | lia | omega), Int.le_refl _⟩
        | some j => exact ⟨by simp only [show (1 : Int) > 0 by decide, if_true]; (first | lia | omega), by simp only [show (1 : Int) > 0 by decide, if_true]; (first | lia | omega)⟩
  cases pl with
  | none =>
    cases pu with
    | none => exact key none none hs rfl rfl
    | int j tj => exact key none (some (j, tj)) hs rfl rfl
  | int i ti =>
    cases pu with
    | none => exact key (some (i, ti)) none hs rfl rfl
    | int j tj => exact key (some (i, ti)) (some (j, tj)) hs rfl rfl
end
/-! ### ['a' <= x <= 'z' for x in text] -/
end L2

namespace L2
open PySem
end L2
namespace Fg
open PySem L2 FgM
end Fg

/-! for i, x in enumerate(xs) -/
namespace L2
open PySem PySem.Spec PyProof.Rows
theorem bt_enumerate : bootBuiltins "enumerate" = some (.type "enumerate") := by decide +kernel
def Ite (K : PySem.W.Frag) (l : Addr) : It :=
  ⟨fun i H => ∃ xs x, SqL K H l xs ∧ xs[i]? = some x, fun i H x H' => ∃ p, H p = none ∧ x = .ref p ∧ ∀ xs, SqL K H l xs → ∃ y, xs[i]? = some y ∧ H' = upd H p (.tup [.int i, y]), fun i H => ∃ xs, SqL K H l xs ∧ xs.length ≤ i⟩
theorem turn_enum {P : Program} {w : World} {K : PySem.W.Frag} {elts : List Expr} {x1} {tp : Pos} (l e it : Addr) (hne : e ≠ it) :
    Turn P w K (.Tuple elts x1 tp) (Ite K l) [e, it] e (fun i h => (∃ old, IsEnum h e it (i : Int) old) ∧ h.IsListIter it l i) where
  mem := by simp
  obj := fun i h st b hb => by
    obtain ⟨⟨old, he⟩, o, ho, hc, hd⟩ := st
    rcases List.mem_cons.mp hb with rfl | hb
    · exact ⟨_, he, fun v z => by cases z⟩
    · obtain rfl := List.mem_singleton.mp hb
      exact ⟨o, ho, fun v z => by rw [hd] at z; cases z⟩
  keep := fun i h h' st k => by
    obtain ⟨⟨old, he⟩, o, ho, r⟩ := st
    exact ⟨⟨old, k e (by simp) _ he⟩, o, k it (by simp) o ho, r⟩
  item := by
    intro X hP hw hK hc i pins s σ H E I hf st hg
    subst hP hw hK
    obtain ⟨⟨old, he⟩, hit⟩ := st
    obtain ⟨xs, x, hq, hx⟩ := hg
    obtain ⟨its, rv, pl, hz⟩ := I.list hq
    obtain ⟨u, hu, ru⟩ := rv.get hx
    have fe := hf e (by simp)
    have fi := hf it (by simp)
    refine wpAny_pyNext_enum_item he hit pl.isList (x := u) (by simpa using hu) hne fun h1 he1 hit1 ht1 hz1 hk1 => ⟨_, rfl, wpAny_letOwnedTupleGo_enum he1 fun h2 he2 hs2 => ?_⟩
    have hfresh : H s.heap.objs.size = none := I.hok.fresh (Nat.le_refl _)
    have nee : s.heap.objs.size ≠ e := Nat.ne_of_gt (Heap.lt_size he)
    obtain ⟨oi, hoi, _⟩ := id hit
    have nei : s.heap.objs.size ≠ it := Nat.ne_of_gt (Heap.lt_size hoi)
    have kp : ∀ b o, b ∉ [e, it] → s.heap.get? b = some o → h2.get? b = some o := fun b o hb q => by
      have b1 : b ≠ e := fun z => hb (by rw [z]; simp)
      have b2 : b ≠ it := fun z => hb (by rw [z]; simp)
      exact (hs2.2 b b1).trans (hk1 b o b1 b2 q)
    have hp2 : h2.get? s.heap.objs.size = some { cls := .type "tuple", data := .seq #[.int i s.toks, u] } := (hs2.2 _ nee).trans ht1
    have nb : ∀ b o, s.heap.get? b = some o → b ≠ s.heap.objs.size := fun b o q => Nat.ne_of_lt (Heap.lt_size q)
    have tracked : ∀ b o, H b = some o → b ∉ [e, it] := fun b o q hb => by
      rcases List.mem_cons.mp hb with rfl | hb
      · rw [fe.1] at q
        cases q
      · obtain rfl := List.mem_singleton.mp hb
        rw [fi.1] at q
        cases q
    have it2 : h2.IsListIter it l (i + 1) := by
      obtain ⟨o, ho, r⟩ := hit1
      exact ⟨o, (hs2.2 it hne.symm).trans ho, r⟩
    have hok2 : HOk X.prog X.w (upd H s.heap.objs.size (.tup [.int i, x])) h2 := fun b o q => by
      by_cases hb : b = s.heap.objs.size
      · subst hb
        rw [upd_same] at q
        cases q
        exact ⟨by show 2 ≤ sizeLine; decide, [.int i s.toks, u], .cons ⟨_, rfl⟩ (.cons ru .nil), _, hp2, rfl, _, rfl⟩
      · rw [upd_ne hb] at q
        refine (I.hok b o q).stay (fun c v hcv r => kp c v ?_ r) (fun c r => by rw [upd_ne (ne_of_none r hfresh)]; exact r) fun c ys r => by rw [upd_ne (ne_of_none r hfresh)]; exact r
        rcases hcv with rfl | hcv
        · exact tracked _ _ q
        · exact tracked _ _ hcv
    have I2 : Inv X pins σ (upd H s.heap.objs.size (.tup [.int i, x])) { s with heap := h2, gens := s.gens, drawn := s.drawn, toks := s.toks + 1 } := by
      refine I.step (ch := [e, it]) (fun b hb => ?_) (fun b o _ _ hb q _ => kp b o hb q) (fun b o _ _ hb q _ => ⟨o.slots, kp b o hb q⟩) (fun b o _ q n => by rw [upd_ne (nb b o q)]; exact n) (fun b o hb q => ⟨o, kp b o hb q⟩)
        (fun b ys q => by rw [upd_ne (ne_of_none q hfresh)]; exact q) (fun b o ys q => by rw [upd_ne (ne_of_none q hfresh)]; exact q) (fun b ps q => ⟨#[], by rw [upd_ne (ne_of_none q hfresh), q]; simp⟩) (fun m hm => ?_) hok2 I.bare
      · have f : FpOk X pins H b := hf b hb
        exact ⟨f.2.2.2.1, f.2.1, f.2.2.2.2.1, f.2.2.2.2.2⟩
      · obtain ⟨o, es, ep, ho, r⟩ := hm
        refine ⟨o, es, ep, kp _ o (fun hb => ?_) ho, r⟩
        exact (hf _ hb).2.1 rfl
    refine ⟨.ref s.heap.objs.size, _, I2, rfl, ⟨_, hfresh, rfl, fun ys hy => ⟨x, by rw [I.list_inj hy hq]; exact hx, rfl⟩⟩, ⟨⟨_, he2⟩, it2⟩, fun b hb => ?_⟩
    rcases List.mem_cons.mp hb with rfl | hb
    · rw [upd_ne nee.symm]
      exact fe.1
    · obtain rfl := List.mem_singleton.mp hb
      rw [upd_ne nei.symm]
      exact fi.1
  done := by
    intro X hP hw hK hc i pins s σ H E I hf st hg
    subst hP hw hK
    obtain ⟨⟨old, he⟩, hit⟩ := st
    obtain ⟨xs, hq, hx⟩ := hg
    obtain ⟨its, rv, pl, hz⟩ := I.list hq
    obtain ⟨f0, f1, f2, f3, f4, f5⟩ := hf it (by simp)
    have hlen := rv.length
    exact wpAny_pyNext_enum_end (I.ok.hd hc) he hit pl.isList (by simp; (first | lia | omega)) fun h' eb => ⟨rfl, I.turned (t' := s.toks) (fun b o hb q => eb b o hb q) f0 f1 f3 f4 f5⟩
  self := fun _ _ _ _ _ st h => by
    obtain ⟨⟨old, he⟩, _⟩ := st
    exact wpAny_pyIter_enum he h
section
variable {X : Cx} {elts : List Expr} {x1 : Nat} {tp : Pos}
def iEnum (K : PySem.W.Frag) (tl : TA) : TI := fun σ H R => tl σ H fun vs H1 => ∃ a xs, vs = [.ref a] ∧ SqL K H1 a xs ∧ R (Ite K a) H1
theorem pi_enum {l : Expr} {ta : TA} {p pos : Pos} (hg : Gl X "enumerate") (hm : X.mg "enumerate" = none) (ha : PA X [l] ta) (hs : starEach [l] X.env = [(false, eval l X.env)] := by rfl) :
    PI X (.Tuple elts x1 tp) (.Call (.Name "enumerate" p) [l] [] pos) (iEnum X.K ta) := by
  intro pins s σ H R I h
  refine Call_ (ld_blt I hg hm bt_enumerate (PyProof.Rows.callWith_type1 (thn (ha pos pins s σ H _ I h) fun us s1 ⟨vs, H1, I1, r1, q1⟩ => ?_) hs rfl))
  obtain ⟨a, xs, e, hq, q⟩ := q1
  subst e
  obtain ⟨u, rfl, ru⟩ := Vals.one r1
  cases ru
  obtain ⟨its, rv, pl, hz⟩ := I1.list hq
  refine call_enumerate_list pl.isList fun h' he hit hz' hk => wpAny_pyIter_enum he ?_
  refine ⟨s1.heap.objs.size + 1, [s1.heap.objs.size + 1, s1.heap.objs.size], _, _, H1, rfl, I1.kept (t' := s1.toks) hk, turn_enum a _ _ (Nat.succ_ne_self _), ⟨⟨_, he⟩, hit⟩, fun b hb => ?_, q⟩
  have hb' : s1.heap.objs.size ≤ b := by
    rcases List.mem_cons.mp hb with rfl | hb
    · exact Nat.le_succ _
    · rw [List.mem_singleton.mp hb]
      exact Nat.le_refl _
  exact I1.fpOk hb' (I1.hok.fresh hb')
end
theorem for_enum {K : PySem.W.Frag} {a : Addr} {xs : List V} {g : TG} {tb : TS} {D : Ends} {σ : St} {H : Hp} (Pv : Nat → St → Hp → Prop) (h0 : Pv 0 σ H) (hl : ∀ i σ H, i ≤ xs.length → Pv i σ H → SqL K H a xs)
    (hs : ∀ i y p σ H, xs[i]? = some y → Pv i σ H → H p = none → g (.ref p) σ (upd H p (.tup [.int i, y])) fun σ2 H2 => tb { D with nx := Pv (i + 1), ct := Pv (i + 1), bk := D.nx } σ2 H2) (hd : ∀ σ H, Pv xs.length σ H → D.nx σ H) :
    ∃ W : Nat → Nat → St → Hp → Prop, (∃ m, W 0 m σ H) ∧ ∀ i m σ H, W i m σ H →
      ((Ite K a).stop i H ∧ D.nx σ H) ∨ ((Ite K a).go i H ∧ ∃ N : St → Hp → Prop, (∀ σ' H', N σ' H' → ∃ m', m' < m ∧ W (i + 1) m' σ' H') ∧ ∀ x H', (Ite K a).yld i H x H' → g x σ H' fun σ2 H2 => tb { D with nx := N, ct := N, bk := D.nx } σ2 H2) := by
  refine ⟨fun i m σ H => m = xs.length - i ∧ i ≤ xs.length ∧ Pv i σ H, ⟨xs.length, by simp, Nat.zero_le _, h0⟩, ?_⟩
  rintro i m σ H ⟨rfl, hi, p⟩
  have q := hl i σ H hi p
  by_cases hlt : i < xs.length
  · refine .inr ⟨⟨xs, xs[i], q, by simp [hlt]⟩, Pv (i + 1), fun σ' H' p' => ⟨xs.length - (i + 1), by (first | lia | omega), rfl, hlt, p'⟩, fun x H' y => ?_⟩
    obtain ⟨b, hb, hx, hy⟩ := y
    obtain ⟨z, hz, hH⟩ := hy xs q
    subst hx hH
    exact hs i z b σ H hz p hb
  · have e : i = xs.length := by (first | lia | omega)
    subst e
    exact .inl ⟨⟨xs, q, Nat.le_refl _⟩, hd σ H p⟩
end L2

/-! [elt for tg in iter]: the block as a context of its own -/
namespace L2
open PySem PySem.Spec PyProof.Rows
section
variable {prog : Program} {w : World} {A : Around} {s : Shared} {R : Result → Shared → Prop}
abbrev no0 : Value → Shared → Prop := fun _ _ => False
theorem comp_loop0 {elt target iter : Expr} {scope : Scope} {pos : Pos} {it acc : Value} {env : Env} (I : Nat → Shared → Prop)
    (turn : ∀ n s, I n s → wpAny (model prog w) A (pyNext it) (fun r s1 => match r with
      | none => R (.ok .next) s1
      | some v => wpAny (model prog w) A (letOwnedTupleGo target it v) (fun _ s2 => wpAny (model prog w) A (assign target env v) (fun _ s3 => wpAny (model prog w) A (eval elt env) (fun x s4 =>
          wpAny (model prog w) A (call (.builtin "list.append") [acc, x]) (fun _ s5 => ∃ m, m < n ∧ I m s5) no0 s4) no0 s3) no0 s2) no0 s1) no0 s)
    (n : Nat) (h : I n s) : codeAny (model prog w) A (.compLoop (.ListComp elt [⟨target, iter, [], 0⟩] scope pos) 0 it acc env) R s := by
  refine codeAny_loop rfl I (fun n s hI => ?_) n h
  show wpAny _ _ ((compTurn (.ListComp elt [⟨target, iter, [], 0⟩] scope pos) 0 it acc env).onRaise (fun x => do noteFrame x env; theTreesLotGoes x)) _ _ s
  refine wpAny_noted ?_
  rw [compTurn_list1]
  refine wpAny_bind (wpAny_standAt (wpAny_bind (wpAny_mono (turn n s hI) (fun r s1 h1 => ?_) fun _ _ h' => h'.elim)))
  cases r with
  | none => exact wpAny_pure h1
  | some v =>
    refine wpAny_bind (wpAny_mono h1 (fun _ s2 h2 => ?_) fun _ _ h' => h'.elim)
    refine wpAny_bind (wpAny_mono h2 (fun _ s3 h3 => ?_) fun _ _ h' => h'.elim)
    refine wpAny_bind (wpAny_bind (wpAny_mono h3 (fun x s4 h4 => ?_) fun _ _ h' => h'.elim))
    exact wpAny_bind (wpAny_mono h4 (fun _ s5 h5 => wpAny_pure (wpAny_pure ⟨rfl, h5⟩)) fun _ _ h' => h'.elim)
end
/-- the context of a comprehension's block: its frame at C, the cells cl of captured names, the iterator's records fp -/
def cxComp (X : Cx) (N : List Str) (scope : Scope) (cl : List (Str × Addr)) (C : Addr) (fp : List Addr) (s : Shared) (H : Hp) : Cx where
  prog := X.prog
  w := X.w
  K := X.K
  mg := X.mg
  base := X.base
  A := X.A
  N := N
  s₀ := s
  H₀ := H
  env := compEnvC scope cl C X.env
  outer := X.stack
  stack := X.stack
  ex := fp
  fn := fun _ => false
  calm := X.calm
  pn := []
  xe := no0
section
variable {X : Cx} {pins : List (Addr × Obj)} {σ : St} {H : Hp} {s : Shared}
theorem cxComp_ok {N : List Str} {scope : Scope} {cl : List (Str × Addr)} {C : Addr} {fp : List Addr} (I : Inv X pins σ H s) (hk : scope.kind = .function) (hC : s.heap.objs.size ≤ C) (hcl : ∀ x c, cl.lookup x = some c → X.env.cells.lookup x = some c)
    (hhas : ∀ x, ((compEnvC scope cl C X.env).kindOf x = some .cell ∨ (compEnvC scope cl C X.env).kindOf x = some .free) → ∃ c, cl.lookup x = some c)
    (hf : ∀ b ∈ fp, FpOk X pins H b) (hlt : ∀ b ∈ fp, b < s.heap.objs.size) : (cxComp X N scope cl C fp s H).Ok where
  mod := I.ok.mod
  kind := hk
  glob := I.ok.glob
  blt := I.ok.blt
  above := hC
  inj := fun x y c e1 e2 => I.ok.inj x y c (hcl x c e1) (hcl y c e2)
  has := hhas
  cab := fun x c e => by cases e
  hd := I.ok.hd
  frames := I.ok.frames
  stk := .inl rfl
  exf := fun b hb => ⟨fun z => absurd (Nat.lt_of_lt_of_le (hlt b hb) hC) (by rw [show b = C from z]; exact Nat.lt_irrefl _), fun x c e => (hf b hb).2.2.2.2.1 x c (hcl x c e)⟩
  bs := fun b o e => ⟨(I.bs b o e).1, (I.bs b o e).2⟩
  bsz := Nat.le_trans I.ok.bsz I.sz
  noex := fun b o e hb => by
    rcases (hf b hb).2.2.2.1 with z | z
    · exact I.ok.noex b o e z
    · exact absurd (Nat.lt_of_lt_of_le (Heap.lt_size e) (Nat.le_trans I.ok.bsz z)) (Nat.lt_irrefl _)
  exfs := fun b hb hm => by
    rcases List.mem_cons.mp (I.stkSub b hm) with z | z
    · exact (hf b hb).2.1 z
    · exact (hf b hb).2.2.1 z
  funs := I.stack
  frf := I.stkFree
/-- the values of the block's names at its start: the targets' none, the captured ones' as they stand -/
def capσ (σ : St) (k : Nat) (cap : List (Str × Nat)) : St := List.replicate k none ++ cap.map fun p => (σ[p.2]?).getD none
theorem cxComp_start {scope : Scope} {cl : List (Str × Addr)} {fp : List Addr} {tn : List Str} {cap : List (Str × Nat)} {h1 : Heap} (I : Inv X pins σ H s) (hk : scope.kind = .function) (hcl : ∀ x c, cl.lookup x = some c → X.env.cells.lookup x = some c)
    (hhas : ∀ x, ((compEnvC scope cl s.heap.objs.size X.env).kindOf x = some .cell ∨ (compEnvC scope cl s.heap.objs.size X.env).kindOf x = some .free) → ∃ c, cl.lookup x = some c)
    (hf : ∀ b ∈ fp, FpOk X pins H b) (hlt : ∀ b ∈ fp, b < s.heap.objs.size)
    (hcap : ∀ p ∈ cap, X.N[p.2]? = some p.1 ∧ X.env.scope.names.lookup p.1 = some .cell ∧ ((compEnvC scope cl s.heap.objs.size X.env).kindOf p.1 = some .cell ∨ (compEnvC scope cl s.heap.objs.size X.env).kindOf p.1 = some .free))
    (hns : h1.Ns s.heap.objs.size (fun _ => none)) (hkp : ∀ b o, s.heap.get? b = some o → h1.get? b = some o) :
    Inv (cxComp X (tn ++ cap.map (·.1)) scope cl s.heap.objs.size fp s H) [] (capσ σ tn.length cap) H { s with heap := h1 } where
  ok := cxComp_ok I hk (Nat.le_refl _) hcl hhas hf hlt
  os := rfl
  bare := I.bare
  base := Un.kept hkp
  loc := by
    refine ⟨fun _ => none, hns, fun i x v e1 e2 hv => ?_⟩
    unfold capσ at e2
    by_cases hi : i < tn.length
    · rw [List.getElem?_append_left (by rw [List.length_replicate]; exact hi), List.getElem?_replicate, if_pos hi] at e2
      cases e2
    · have hN : (cap.map (·.1))[i - tn.length]? = some x := by
        have : (tn ++ cap.map (·.1))[i]? = some x := e1
        rw [List.getElem?_append_right (by (first | lia | omega))] at this
        exact this
      rw [List.getElem?_append_right (by rw [List.length_replicate]; (first | lia | omega)), List.length_replicate, List.getElem?_map] at e2
      rw [List.getElem?_map] at hN
      cases hp : cap[i - tn.length]? with
      | none => rw [hp] at hN; cases hN
      | some p =>
        rw [hp] at hN e2
        have hx : p.1 = x := Option.some.inj hN
        have he : (σ[p.2]?).getD none = some v := Option.some.inj e2
        obtain ⟨c1, c2, c3⟩ := hcap p (List.mem_of_getElem? hp)
        subst hx
        have hs : σ[p.2]? = some (some v) := by
          cases q : σ[p.2]? with
          | none => rw [q] at he; cases he
          | some z => rw [q] at he; rw [show z = some v from he]
        obtain ⟨m, hn, hl⟩ := I.loc
        obtain ⟨u, r, l⟩ := hl p.2 p.1 v c1 hs (.inr (.inl c2))
        refine ⟨u, r, .inr ⟨c3, ?_⟩⟩
        obtain ⟨c, hc⟩ := hhas p.1 c3
        refine ⟨c, hc, ?_⟩
        rcases l with ⟨l1, _⟩ | ⟨_, c', l2, o, ho, hd⟩
        · have : X.env.kindOf p.1 = some .cell := c2
          rw [this] at l1
          cases l1
        · have : c = c' := Option.some.inj ((hcl p.1 c hc).symm.trans l2)
          subst this
          exact ⟨o, hkp _ _ ho, hd⟩
  cell := fun x c e => by
    obtain ⟨v, o, ho, hd⟩ := I.cell x c (hcl x c e)
    exact ⟨v, o, hkp _ _ ho, hd⟩
  free := I.hok.fresh (Nat.le_refl _)
  freeC := fun x c e => I.freeC x c (hcl x c e)
  pin := fun p hp => by cases hp
  hok := I.hok.kept hkp
  len := by
    unfold capσ
    show _ = (tn ++ cap.map (·.1)).length
    rw [List.length_append, List.length_append, List.length_replicate, List.length_map, List.length_map]
end
end L2

namespace L2
open PySem PySem.Spec PyProof.Rows
/-- a comprehension's reading: W by the turn, a measure, the items so far, the block's names, the heap; p: the list under way -/
def tComp (wi : TI) (k : Nat) (cap : List (Str × Nat)) (g : TG) (te : TE) : TE := fun σ H Q => wi σ H fun J H1 => ∀ p, H1 p = none → ∃ W : Nat → Nat → List V → St → Hp → Prop, (∃ m, W 0 m [] (capσ σ k cap) (upd H1 p (.lst []))) ∧
  ∀ i m ys σc H2, W i m ys σc H2 → H2 p = some (.lst ys) ∧ ((J.stop i H2 ∧ Q (.ref p) H2) ∨ (J.go i H2 ∧ ∀ x H3, J.yld i H2 x H3 → g x σc H3 fun σ3 H4 => te σ3 H4 fun v H5 =>
    H5 p = some (.lst ys) ∧ ys.length < sizeLine ∧ ∃ m', m' < m ∧ W (i + 1) m' (ys ++ [v]) σ3 (upd H5 p (.lst (ys ++ [v])))))
section
variable {X : Cx} {elt iter tg : Expr} {scope : Scope} {pos : Pos} {wi : TI} {g : TG} {te : TE} {cl : List (Str × Addr)}
theorem comp_core0 {pins : List (Addr × Obj)} {σ : St} {H2 : Hp} {s2 : Shared} {it : Addr} {fp : List Addr} {tnn : Nat → Heap → Prop} {J : It} {R : Addr → Hp → Prop} {use : Option (Value → Sem Unit)} {Qp : Value → Shared → Prop} (tn : List Str) (cap : List (Str × Nat)) (hg : ∀ C fp s H, PG (cxComp X (tn ++ cap.map (·.1)) scope cl C fp s H) tg g) (he : ∀ C fp s H, PE (cxComp X (tn ++ cap.map (·.1)) scope cl C fp s H) elt te) (hc : X.calm = true) (hcell : ∀ y ∈ scope.names, y.2 ≠ .cell) (hk : scope.kind = .function) (hcl : ∀ x c, cl.lookup x = some c → X.env.cells.lookup x = some c) (hhas : ∀ C x, ((compEnvC scope cl C X.env).kindOf x = some .cell ∨ (compEnvC scope cl C X.env).kindOf x = some .free) → ∃ c, cl.lookup x = some c) (hcap : ∀ C, ∀ p ∈ cap, X.N[p.2]? = some p.1 ∧ X.env.scope.names.lookup p.1 = some .cell ∧ ((compEnvC scope cl C X.env).kindOf p.1 = some .cell ∨ (compEnvC scope cl C X.env).kindOf p.1 = some .free))
    (I2 : Inv X pins σ H2 s2) (T : Turn X.prog X.w X.K tg J fp it tnn) (st2 : tnn 0 s2.heap) (f2 : ∀ b ∈ fp, FpOk X pins H2 b) (q2 : ∀ p, H2 p = none → ∃ W : Nat → Nat → List V → St → Hp → Prop, (∃ m, W 0 m [] (capσ σ tn.length cap) (upd H2 p (.lst []))) ∧
  ∀ i m ys σc H2, W i m ys σc H2 → H2 p = some (.lst ys) ∧ ((J.stop i H2 ∧ R p H2) ∨ (J.go i H2 ∧ ∀ x H3, J.yld i H2 x H3 → g x σc H3 fun σ3 H4 => te σ3 H4 fun v H5 => H5 p = some (.lst ys) ∧ ys.length < sizeLine ∧ ∃ m', m' < m ∧ W (i + 1) m' (ys ++ [v]) σ3 (upd H5 p (.lst (ys ++ [v]))))))
    (hfin : ∀ (s3 : Shared) (H3 : Hp), Inv X pins σ H3 s3 → (∀ b ∈ fp, FpOk X pins H3 b) → ∀ (acc : Addr) (σ6 : St) (H6 : Hp) (s6 : Shared), Inv (cxComp X (tn ++ cap.map (·.1)) scope cl s3.heap.objs.size fp s3 H3) [] σ6 H6 s6 → R acc H6 → compPost (model X.prog X.w) X.A X.xe use Qp (.ref acc) s3.heap.objs.size (.ok .next) s6) :
    wpAny (model X.prog X.w) X.A (newList []) (fun acc s₃ => wpAny (model X.prog X.w) X.A (newFunctionEnv scope X.env.globals cl [] X.env.qual none Value.none (some X.env)) (fun cenv s₄ => codeAny (model X.prog X.w) X.A (Code.compStart (.ListComp elt [⟨tg, iter, [], 0⟩] scope pos) 0 (Value.ref it) acc { cenv with scope := relabel scope X.env }) (compPost (model X.prog X.w) X.A X.xe use Qp acc cenv.locals) s₄) X.xe s₃) X.xe s2 := by
  have fresh : H2 s2.heap.objs.size = none := I2.fresh
  obtain ⟨W, ⟨m0, w0⟩, turn⟩ := q2 s2.heap.objs.size fresh
  have lt2 : ∀ b ∈ fp, b < s2.heap.objs.size := fun b hb => by
    obtain ⟨o, ho, _⟩ := T.obj _ _ st2 b hb
    exact Heap.lt_size ho
  have I3 : Inv X pins σ (upd H2 s2.heap.objs.size (.lst [])) { s2 with heap := s2.heap.push { cls := .type "list", data := .seq ([] : List Value).toArray } } := I2.lnew (its := []) (t' := s2.toks) .nil (Nat.zero_le _)
  refine wpAny_newObj_type (wpAny_newFunctionEnv hcell (by intro y hy; simp at hy) (fun h1 hns1 hsb1 => ?_) hk)
  dsimp only at hns1 hsb1 ⊢
  generalize hS3 : ({ s2 with heap := s2.heap.push { cls := .type "list", dict := none, data := .seq ([] : List Value).toArray } } : Shared) = s3 at I3
  have hh3 : s2.heap.push { cls := .type "list", dict := none, data := .seq ([] : List Value).toArray } = s3.heap := by rw [← hS3]
  rw [hh3] at hns1 hsb1 ⊢
  have sz3 : s3.heap.objs.size = s2.heap.objs.size + 1 := by rw [← hh3, Heap.size_push]
  have lt3 : ∀ b ∈ fp, b < s3.heap.objs.size := fun b hb => Nat.lt_of_lt_of_le (lt2 b hb) (by rw [sz3]; exact Nat.le_succ _)
  have f3 : ∀ b ∈ fp, FpOk X pins (upd H2 s2.heap.objs.size (.lst [])) b := fun b hb => ⟨by rw [upd_ne (Nat.ne_of_lt (lt2 b hb))]; exact (f2 b hb).1, (f2 b hb).2⟩
  have keep3 : ∀ b o, s3.heap.get? b = some o → h1.get? b = some o := fun b o q => hsb1.extBut b o (Nat.ne_of_lt (Heap.lt_size q)) (Heap.get?_push_of_some _ q)
  have st3 : tnn 0 h1 := T.keep _ _ _ st2 fun b hb o q => keep3 b o (by rw [← hh3]; exact Heap.get?_push_of_some _ q)
  have I4 := (cxComp_start (tn := tn) I3 hk hcl (hhas _) f3 lt3 (hcap _) hns1 keep3).tok (s2.toks + ([] : List (Str × Value)).length)
  have loop : codeAny (model X.prog X.w) X.A (.compLoop (.ListComp elt [⟨tg, iter, [], 0⟩] scope pos) 0 (.ref it) (.ref s2.heap.objs.size) (compEnvC scope cl s3.heap.objs.size X.env))
      (compPost (model X.prog X.w) X.A X.xe use Qp (.ref s2.heap.objs.size) s3.heap.objs.size) { s3 with heap := h1, toks := s2.toks + ([] : List (Str × Value)).length } := by
    refine comp_loop0 (fun n s' => ∃ i ys σ' H', Inv (cxComp X (tn ++ cap.map (·.1)) scope cl s3.heap.objs.size fp s3 (upd H2 s2.heap.objs.size (.lst []))) [] σ' H' s' ∧ tnn i s'.heap ∧ (∀ b ∈ fp, H' b = none) ∧ W i n ys σ' H') ?_ m0
      ⟨0, [], _, _, I4, st3, fun b hb => (f3 b hb).1, w0⟩
    rintro n s5 ⟨i, ys, σ5, H5, I5, st5, fr5, w5⟩
    obtain ⟨hD, alt⟩ := turn i n ys σ5 H5 w5
    have stat : ∀ {H' : Hp}, (∀ b ∈ fp, H' b = none) → ∀ b ∈ fp, FpOk (cxComp X (tn ++ cap.map (·.1)) scope cl s3.heap.objs.size fp s3 (upd H2 s2.heap.objs.size (.lst []))) [] H' b :=
      fun hn b hb => ⟨hn b hb, (I4.ok.exf b hb).1, I4.ok.exfs b hb, .inl hb, (I4.ok.exf b hb).2, fun p hp => by cases hp⟩
    rcases alt with ⟨stop, qn⟩ | ⟨go, step⟩
    · refine thn (T.done (cxComp X (tn ++ cap.map (·.1)) scope cl s3.heap.objs.size fp s3 (upd H2 s2.heap.objs.size (.lst []))) rfl rfl rfl hc i [] s5 σ5 H5 no0 I5 (stat fr5) st5 stop) fun r s6 ⟨hr, I6⟩ => ?_
      subst hr
      exact hfin s3 _ I3 f3 _ σ5 H5 s6 I6 qn
    · refine thn (T.item (cxComp X (tn ++ cap.map (·.1)) scope cl s3.heap.objs.size fp s3 (upd H2 s2.heap.objs.size (.lst []))) rfl rfl rfl hc i [] s5 σ5 H5 no0 I5 (stat fr5) st5 go) fun r s6 ⟨u, hr, h6⟩ => ?_
      subst hr
      refine thn h6 fun _ s7 ⟨x, H7, I7, r7, y7, st7, fr7⟩ => ?_
      have I7' := I7.pinned (stat fr7) (T.obj _ _ st7)
      refine thn (hg _ _ _ _ _ s7 σ5 H7 x u _ I7' r7 (step x H7 y7)) fun _ s8 ⟨σ8, H8, I8, q8⟩ => ?_
      refine thn (he _ _ _ _ _ s8 σ8 H8 _ I8 q8) fun xv s9 ⟨v9, H9, I9, r9, q9⟩ => ?_
      obtain ⟨hD9, hl9, m', hm', w9⟩ := q9
      refine thn (mt_append _ s9 σ8 H9 (.ref s2.heap.objs.size) [v9] (.ref s2.heap.objs.size) [xv] (fun z H' => z = .non ∧ H' = upd H9 s2.heap.objs.size (.lst (ys ++ [v9]))) I9 rfl (.cons r9 .nil)
        ⟨s2.heap.objs.size, ys, v9, rfl, rfl, hD9, hl9, rfl, rfl⟩) fun z s10 ⟨zv, H10, I10, _, _, eH⟩ => ?_
      subst eH
      refine ⟨m', hm', i + 1, ys ++ [v9], σ8, _, I10.unpinned, T.keep _ _ _ st7 fun b hb o q => (I10.pin (b, o) (List.mem_append_right _ (List.mem_append_right _ (mem_pinsAt hb q)))).1, fun b hb => ?_, w9⟩
      obtain ⟨o, q, d⟩ := T.obj _ _ st7 b hb
      exact (I10.pin (b, o) (List.mem_append_right _ (List.mem_append_right _ (mem_pinsAt hb q)))).2.1
  subst hS3
  exact codeAny_compStart_list loop (T.self X.A 0 _ _ _ st3 loop)
theorem pe_comp (tn : List Str) (cap : List (Str × Nat)) (hi : PI X tg iter wi) (hg : ∀ C fp s H, PG (cxComp X (tn ++ cap.map (·.1)) scope cl C fp s H) tg g) (he : ∀ C fp s H, PE (cxComp X (tn ++ cap.map (·.1)) scope cl C fp s H) elt te)
    (hc : X.calm = true) (hclos : closureFor scope X.env = pure cl) (hcell : ∀ y ∈ scope.names, y.2 ≠ .cell) (hk : scope.kind = .function) (hnames : ∀ y ∈ scope.names, y.2 = .local → scope.names.lookup y.1 = some .local)
    (hcl : ∀ x c, cl.lookup x = some c → X.env.cells.lookup x = some c)
    (hhas : ∀ C x, ((compEnvC scope cl C X.env).kindOf x = some .cell ∨ (compEnvC scope cl C X.env).kindOf x = some .free) → ∃ c, cl.lookup x = some c)
    (hcap : ∀ C, ∀ p ∈ cap, X.N[p.2]? = some p.1 ∧ X.env.scope.names.lookup p.1 = some .cell ∧ ((compEnvC scope cl C X.env).kindOf p.1 = some .cell ∨ (compEnvC scope cl C X.env).kindOf p.1 = some .free))
    (hs : ∀ v, foldedSetIterable iter X.env v = pure v) : PE X (.ListComp elt [⟨tg, iter, [], 0⟩] scope pos) (tComp wi tn.length cap g te) := by
  intro pins s σ H Q I h
  rw [eval_ListComp]
  refine wpAny_comprehension_free (use := none) rfl hs hclos hk hnames (thn (hi pins s σ H _ I h) fun v s1 h1 => thn h1 fun itv s2 h2 => ?_)
  obtain ⟨it, fp, tnn, J, H2, e, I2, T, st2, f2, q2⟩ := h2
  subst e
  refine comp_core0 (R := fun p H6 => Q (.ref p) H6) tn cap hg he hc hcell hk hcl hhas hcap I2 T st2 f2 q2 fun s3 H3 I3 f3 acc σ6 H6 s6 I6 q6 => ?_
  obtain ⟨m, hn, _⟩ := I6.loc
  refine ⟨m, hn, fun h' sb => ?_⟩
  have nC : ∀ b o, s3.heap.get? b = some o → b ≠ s3.heap.objs.size := fun b o q => Nat.ne_of_lt (Heap.lt_size q)
  have u : Un (frs X.stack) fp H3 H6 s3.heap h' := by
    have u0 := I6.base
    refine ⟨fun b o q n hb hx => (sb.2 b (nC b o q)).trans (u0.keep b o q n hb hx), fun b o q n hb hx => ?_, u0.free, fun b o q hx => ?_, u0.tups, u0.frzs, u0.tbls⟩
    · obtain ⟨sl, e⟩ := u0.slot b o q n hb hx
      exact ⟨sl, (sb.2 b (nC b o q)).trans e⟩
    · obtain ⟨o', e⟩ := u0.there b o q hx
      exact ⟨o', (sb.2 b (nC b o q)).trans e⟩
  have free6 : H6 s3.heap.objs.size = none := I6.free
  have ok6 : HOk X.prog X.w H6 h' := fun b o q => (I6.hok b o q).stay (fun c v hcv r => (sb.2 c (by
    rcases hcv with z | z
    · rw [z]
      exact ne_of_none q free6
    · exact ne_of_none z free6)).trans r) (fun _ q => q) fun _ _ q => q
  have I' := I3.call (g' := s6.gens) (d' := s6.drawn) (t' := s6.toks) (ch := fp) u ok6 I6.bare fun b hb => ⟨(f3 b hb).2.2.2.1, (f3 b hb).2.1, (f3 b hb).2.2.2.2.1, (f3 b hb).2.2.2.2.2⟩
  have e : ({ s6 with heap := h' } : Shared) = { s3 with heap := h', gens := s6.gens, drawn := s6.drawn, toks := s6.toks } := by
    have ho : s6.os = s3.os := I6.os
    obtain ⟨a1, a2, a3, a4, a5⟩ := s6
    obtain ⟨b1, b2, b3, b4, b5⟩ := s3
    simp only at ho
    subst ho
    rfl
  rw [e]
  exact ⟨.ref _, H6, I', rfl, q6⟩
end
end L2

/-! [elt for tg in iter if ct] -/
namespace L2
open PySem PySem.Spec PyProof.Rows
end L2

/-! < of lists and of tuples, place by place, of data at any depth -/
namespace PySem.SeqAt
open AutoSeq1 (wpAny_loadPart')
open MeetsSeq MeetsSeq2 MeetsSeq3 SeqRoads2
def LtAt (A : Around) (s : Shared) (y x : Value) (b : Bool) : Prop :=
  ∀ (prog : Program) (w : World) (E : Value → Shared → Prop) (Q : Value → Shared → Prop), Q (.bool b) s → wpAny (model prog w) A (richCompare .Lt y x) Q E s
/-- the answer of < over two rows of values -/
inductive LexR (A : Around) (s : Shared) : List Value → List Value → Bool → Prop
  | nn : LexR A s [] [] false
  | nc {y : Value} {ys : List Value} : LexR A s [] (y :: ys) true
  | cn {x : Value} {xs : List Value} : LexR A s (x :: xs) [] false
  | eq {x y : Value} {xs ys : List Value} {b : Bool} : EqAt A s x y true → LexR A s xs ys b → LexR A s (x :: xs) (y :: ys) b
  | lt {x y : Value} {xs ys : List Value} {b : Bool} : EqAt A s x y false → LtAt A s x y b → LexR A s (x :: xs) (y :: ys) b
theorem LexR.fin {A : Around} {s : Shared} {xs ys : List Value} {b : Bool} (h : LexR A s xs ys b) (h0 : xs = [] ∨ ys = []) : b = decide (xs.length < ys.length) := by
  cases h with
  | nn => rfl
  | nc => simp
  | cn => simp
  | eq _ _ => rcases h0 with q | q <;> cases q
  | lt _ _ => rcases h0 with q | q <;> cases q
theorem lt_loopAt (l b : Addr) (items items2 : Array Value) (n n2 : Nat) (dd dd2 : Option Addr) (sl sl2 : Array (Option Value)) (v : Bool) (k : Nat) :
    ∀ i : Nat, i + k = min items.size items2.size → Meets (Builtin.«list.__eq__.loop» ⟨[.ref l, .ref b, rawInt i, rawInt 0], []⟩)
      (fun A R s => s.heap.get? l = some { cls := .type "list", dict := dd, data := .seq items n, slots := sl } ∧ s.heap.get? b = some { cls := .type "list", dict := dd2, data := .seq items2 n2, slots := sl2 } ∧
        LexR A.in1 s (items.toList.drop i) (items2.toList.drop i) v ∧ R (.ok (.ret (.bool v))) s) := by
  induction k with
  | zero =>
    intro i hk prog w A R s h
    obtain ⟨hp, g, d, tk, os⟩ := s; obtain ⟨hl, hb, he, h⟩ := h
    have hv : v = decide (items.size < items2.size) := by
      have h0 : items.toList.drop i = [] ∨ items2.toList.drop i = [] := by
        rcases Nat.le_total items.size items2.size with q | q
        · exact .inl (List.drop_of_length_le (by rw [Array.length_toList]; (first | lia | omega)))
        · exact .inr (List.drop_of_length_le (by rw [Array.length_toList]; (first | lia | omega)))
      rw [he.fin h0, List.length_drop, List.length_drop, Array.length_toList, Array.length_toList]
      by_cases q : items.size < items2.size
      · rw [decide_eq_true q]; exact decide_eq_true (by (first | lia | omega))
      · rw [decide_eq_false q]; exact decide_eq_false (by (first | lia | omega))
    subst hv
    wp_walk using wpAny_loadPart' hl, wpAny_loadPart' hb
    by_cases h1 : i < items.size
    · have hi1 : items[((i : Nat) : Int).toNat]? = some items[i] := by simp [h1]
      have hi2 : items2[((i : Nat) : Int).toNat]? = none := by simp; (first | lia | omega)
      rw [hi1, hi2]
      wp_walk using wpAny_loadPart' hl, wpAny_loadPart' hb
      exact h
    · have hi1 : items[((i : Nat) : Int).toNat]? = none := by simp; (first | lia | omega)
      rw [hi1]
      wp_walk using wpAny_loadPart' hl, wpAny_loadPart' hb
      exact h
  | succ k ih =>
    intro i hk prog w A R s h
    obtain ⟨hp, g, d, tk, os⟩ := s; obtain ⟨hl, hb, he, h⟩ := h
    wp_walk using wpAny_loadPart' hl, wpAny_loadPart' hb
    have hlt : i < items.size := by (first | lia | omega)
    have hlt2 : i < items2.size := by (first | lia | omega)
    have hi1 : items[((i : Nat) : Int).toNat]? = some items[i] := by simp [hlt]
    have hi2 : items2[((i : Nat) : Int).toNat]? = some items2[i] := by simp [hlt2]
    have hc : ((i : Int) + 1) = ((i + 1 : Nat) : Int) := by push_cast; rfl
    have d1 : items.toList.drop i = items[i] :: items.toList.drop (i + 1) := by rw [List.drop_eq_getElem_cons (by rw [Array.length_toList]; exact hlt)]; simp
    have d2 : items2.toList.drop i = items2[i] :: items2.toList.drop (i + 1) := by rw [List.drop_eq_getElem_cons (by rw [Array.length_toList]; exact hlt2)]; simp
    rw [d1, d2] at he
    rw [hi1, hi2]
    cases he with
    | eq h1 h2 =>
      refine wpAny_bind (h1 prog w _ _ ?_)
      wp_walk
      rw [hc]
      exact ⟨plainId_quiet plain_eq_loop _, codeAny_builtin entry_eq_loop (by
        rw [Around.under_plainId plain_eq_loop _]
        exact ih (i + 1) (by (first | lia | omega)) prog w A R _ ⟨hl, hb, h2, h⟩)⟩
    | lt h1 h2 =>
      refine wpAny_bind (h1 prog w _ _ ?_)
      wp_walk using wpAny_loadPart' hl, wpAny_loadPart' hb
      rw [hi1, hi2]
      refine wpAny_bind (h2 prog w _ _ ?_)
      wp_walk
      exact h
theorem list_ltAt (l b : Addr) (items items2 : Array Value) (n n2 : Nat) (dd dd2 : Option Addr) (sl sl2 : Array (Option Value)) (v : Bool) :
    Meets (Builtin.«list.__lt__» ⟨[.ref l, .ref b], []⟩)
      (fun A R s => s.heap.get? l = some { cls := .type "list", dict := dd, data := .seq items n, slots := sl } ∧ s.heap.get? b = some { cls := .type "list", dict := dd2, data := .seq items2 n2, slots := sl2 } ∧
        LexR A.in1 s items.toList items2.toList v ∧ R (.ok (.ret (.bool v))) s) := by
  intro prog w A R s h
  obtain ⟨hp, g, d, tk, os⟩ := s; obtain ⟨hl, hb, he, h⟩ := h
  have f3 := AutoSeq1.sub_list_list
  wp_walk using wpAny_loadPart' hl, wpAny_loadPart' hb
  exact ⟨plainId_quiet plain_eq_loop _, codeAny_builtin entry_eq_loop (by
    rw [Around.under_plainId plain_eq_loop _]
    exact lt_loopAt l b items items2 n n2 dd dd2 sl sl2 v _ 0 (Nat.zero_add _) prog w A R _ ⟨hl, hb, by simpa using he, h⟩)⟩
theorem tuple_ltAt (l b : Addr) (items items2 : Array Value) (n n2 : Nat) (dd dd2 : Option Addr) (sl sl2 : Array (Option Value)) (v : Bool) :
    Meets (Builtin.«tuple.__lt__» ⟨[.ref l, .ref b], []⟩)
      (fun A R s => s.heap.get? l = some { cls := .type "tuple", dict := dd, data := .seq items n, slots := sl } ∧ s.heap.get? b = some { cls := .type "tuple", dict := dd2, data := .seq items2 n2, slots := sl2 } ∧
        LexR A.in1 s items.toList items2.toList v ∧ R (.ok (.ret (.bool v))) s) :=
  .of_wp fun prog w A R s h => by
    obtain ⟨hp, g, d, tk, os⟩ := s; obtain ⟨hl, hb, he, h⟩ := h
    have f2 := AutoSeq1.sub_tuple_tuple
    wp_walk using wpAny_loadPart' hl, wpAny_loadPart' hb, wpAny_forIn_list _ (fun rest b s' => b.1 = none ∧ s' = ⟨hp, g, d, tk, os⟩ ∧ ∃ (vs ws : List Value), rest = vs.zip ws ∧
      vs.length + items2.size = ws.length + items.size ∧ LexR A.in1 ⟨hp, g, d, tk, os⟩ vs ws v) _
    case turn =>
      rintro ⟨y, x⟩ rest b s' ⟨hb', rfl, vs, ws, hz, hlen, hL⟩
      cases hL with
      | nn => rw [List.zip_nil_left] at hz; cases hz
      | nc => rw [List.zip_nil_left] at hz; cases hz
      | cn => rw [List.zip_nil_right] at hz; cases hz
      | eq h1 h2 =>
        rw [List.zip_cons_cons] at hz
        injection hz with hyx hrest
        injection hyx with hy hx
        subst hy hx
        simp only [List.length_cons] at hlen
        refine wpAny_bind (h1 prog w _ _ ?_)
        wp_walk
        exact ⟨rfl, rfl, _, _, hrest, by (first | lia | omega), h2⟩
      | lt h1 h2 =>
        rw [List.zip_cons_cons] at hz
        injection hz with hyx hrest
        injection hyx with hy hx
        subst hy hx
        refine wpAny_bind (h1 prog w _ _ ?_)
        have hri := h2 prog w
        wp_walk using hri
        exact ⟨_, rfl, h⟩
    case fin =>
      rintro ⟨b1, b2⟩ s' ⟨hb', rfl, vs, ws, hz, hlen, hL⟩
      simp only at hb'
      subst hb'
      have hv : v = decide (items.size < items2.size) := by
        rw [hL.fin (by
          cases vs with
          | nil => exact .inl rfl
          | cons a t => cases ws with
            | nil => exact .inr rfl
            | cons c u => rw [List.zip_cons_cons] at hz; cases hz)]
        by_cases q : items.size < items2.size
        · rw [decide_eq_true q]; exact decide_eq_true (by (first | lia | omega))
        · rw [decide_eq_false q]; exact decide_eq_false (by (first | lia | omega))
      subst hv
      wp_walk
      exact ⟨_, rfl, by simpa [Builtin.Tuple.tupleCompareSizes] using h⟩
    case h =>
      exact ⟨rfl, rfl, items.toList, items2.toList, rfl, by simp; (first | lia | omega), he⟩
section
variable {A : Around} {s : Shared}
theorem LtAt.lists {l b : Addr} {items items2 : Array Value} {v : Bool} (hl : s.heap.IsList l items) (hb : s.heap.IsList b items2) (hu : A.units < cLine) (he : LexR A.in1 s items.toList items2.toList v) :
    LtAt A s (.ref l) (.ref b) v := fun prog w E Q h => by
  obtain ⟨⟨cls, dd, data, sl⟩, ho, hc, n, hd⟩ := id hl
  obtain ⟨⟨cls2, dd2, data2, sl2⟩, ho2, hc2, n2, hd2⟩ := id hb
  simp only at hc hd hc2 hd2
  subst hc hd hc2 hd2
  exact richCompare_meets_room (op := .Lt) ⟨_, ho, rfl⟩ ⟨_, ho2, rfl⟩ F.slot_list_lt F.entry_list_lt (F.args_list_lt_2 _ _) (list_ltAt l b items items2 n n2 dd dd2 sl sl2 v)
    ⟨ho, ho2, he, show Value.bool v ≠ Value.notImplemented ∧ Q (.bool v) s from ⟨(fun x => nomatch x), h⟩⟩ hu
theorem LtAt.tuples {l b : Addr} {items items2 : Array Value} {v : Bool} (hl : s.heap.IsTuple l items) (hb : s.heap.IsTuple b items2) (hu : A.units < cLine) (he : LexR A.in1 s items.toList items2.toList v) :
    LtAt A s (.ref l) (.ref b) v := fun prog w E Q h => by
  obtain ⟨⟨cls, dd, data, sl⟩, ho, hc, n, hd⟩ := id hl
  obtain ⟨⟨cls2, dd2, data2, sl2⟩, ho2, hc2, n2, hd2⟩ := id hb
  simp only at hc hd hc2 hd2
  subst hc hd hc2 hd2
  exact richCompare_meets_room (op := .Lt) ⟨_, ho, rfl⟩ ⟨_, ho2, rfl⟩ F.slot_tuple_lt F.entry_tuple_lt (F.args_tuple_lt_2 _ _) (tuple_ltAt l b items items2 n n2 dd dd2 sl sl2 v)
    ⟨ho, ho2, he, show Value.bool v ≠ Value.notImplemented ∧ Q (.bool v) s from ⟨(fun x => nomatch x), h⟩⟩ hu
end
end PySem.SeqAt

/-! < of data: one relation for ints, texts, lists and tuples of them -/
namespace L2
open PySem PySem.Spec PyProof.Rows PySem.SeqAt
mutual
inductive LtD : PyData → PyData → Bool → Prop
  | int (i j : Int) : LtD (.int i) (.int j) (decide (i < j))
  | str (x y : Str) : LtD (.str x) (.str y) (decide (x.cps.toList < y.cps.toList))
  | lst {xs ys : List PyData} {b : Bool} : LexD xs ys b → LtD (.list xs) (.list ys) b
  | tup {xs ys : List PyData} {b : Bool} : LexD xs ys b → LtD (.tuple xs) (.tuple ys) b
inductive LexD : List PyData → List PyData → Bool → Prop
  | nn : LexD [] [] false
  | nc {y : PyData} {ys : List PyData} : LexD [] (y :: ys) true
  | cn {x : PyData} {xs : List PyData} : LexD (x :: xs) [] false
  | eq {x y : PyData} {xs ys : List PyData} {b : Bool} : PyData.eqv x y = true → LexD xs ys b → LexD (x :: xs) (y :: ys) b
  | lt {x y : PyData} {xs ys : List PyData} {b : Bool} : PyData.eqv x y = false → LtD x y b → LexD (x :: xs) (y :: ys) b
end
mutual
theorem LtD.at {s : Shared} : ∀ {da db : PyData} {v : Bool}, LtD da db v → ∀ (A : Around) {a b : Value} {as bs : List Addr}, Reads s.heap a da as → Reads s.heap b db bs → da.canLay0 = true → db.canLay0 = true → A.units + min da.depth db.depth < cLine → LtAt A s a b v
  | _, _, _, .int i j, A, _, _, _, _, ra, rb, _, _, _ => by
    cases ra
    cases rb
    exact fun prog w E Q h => (lt_int h : wpAny (model prog w) A (compareOp .Lt (.int _ _) (.int _ _)) Q E s)
  | _, _, _, .str x y, A, _, _, _, _, ra, rb, _, _, _ => by
    cases ra
    cases rb
    exact fun prog w E Q h => (lt_str h : wpAny (model prog w) A (compareOp .Lt (.str _ _) (.str _ _)) Q E s)
  | _, _, _, .lst h, A, _, _, _, _, ra, rb, ha, hb, hu => by
    cases ra with
    | list h1 h2 h3 h4 =>
      cases rb with
      | list k1 k2 k3 k4 => exact LtAt.lists ⟨_, h1, h2, _, h3⟩ ⟨_, k1, k2, _, k3⟩ (room_here hu) (LexD.at h A.in1 h4 k4 ha hb (room_in hu))
  | _, _, _, .tup h, A, _, _, _, _, ra, rb, ha, hb, hu => by
    cases ra with
    | tuple h1 h2 h3 h4 =>
      cases rb with
      | tuple k1 k2 k3 k4 => exact LtAt.tuples ⟨_, h1, h2, _, h3⟩ ⟨_, k1, k2, _, k3⟩ (room_here hu) (LexD.at h A.in1 h4 k4 ha hb (room_in hu))
theorem LexD.at {s : Shared} : ∀ {xs ys : List PyData} {v : Bool}, LexD xs ys v → ∀ (A : Around) {vs ws : List Value} {as bs : List Addr}, ReadsAll s.heap vs xs as → ReadsAll s.heap ws ys bs → PyData.canLayAll0 xs = true → PyData.canLayAll0 ys = true →
    A.units + min (PyData.depthAll xs) (PyData.depthAll ys) < cLine → LexR A s vs ws v
  | _, _, _, .nn, A, _, _, _, _, ra, rb, _, _, _ => by
    cases ra
    cases rb
    exact .nn
  | _, _, _, .nc, A, _, _, _, _, ra, rb, _, _, _ => by
    cases ra
    cases rb
    exact .nc
  | _, _, _, .cn, A, _, _, _, _, ra, rb, _, _, _ => by
    cases ra
    cases rb
    exact .cn
  | _, _, _, @LexD.eq x y xs ys b e h, A, _, _, _, _, ra, rb, ha, hb, hu => by
    have ha' : x.canLay0 = true ∧ PyData.canLayAll0 xs = true := by simpa [PyData.canLayAll0] using ha
    have hb' : y.canLay0 = true ∧ PyData.canLayAll0 ys = true := by simpa [PyData.canLayAll0] using hb
    cases ra with
    | cons r rs =>
      cases rb with
      | cons r' rs' =>
        refine .eq (e ▸ eqAt_reads x y A s _ _ _ _ r r' ha'.1 hb'.1 (room_head hu)) (LexD.at h A rs rs' ha'.2 hb'.2 ?_)
        have : PyData.depthAll (x :: xs) = max x.depth (PyData.depthAll xs) := rfl
        have : PyData.depthAll (y :: ys) = max y.depth (PyData.depthAll ys) := rfl
        (first | lia | omega)
  | _, _, _, @LexD.lt x y xs ys b e h, A, _, _, _, _, ra, rb, ha, hb, hu => by
    have ha' : x.canLay0 = true ∧ PyData.canLayAll0 xs = true := by simpa [PyData.canLayAll0] using ha
    have hb' : y.canLay0 = true ∧ PyData.canLayAll0 ys = true := by simpa [PyData.canLayAll0] using hb
    cases ra with
    | cons r rs =>
      cases rb with
      | cons r' rs' => exact .lt (e ▸ eqAt_reads x y A s _ _ _ _ r r' ha'.1 hb'.1 (room_head hu)) (LtD.at h A r r' ha'.1 hb'.1 (room_head hu))
end
end L2

/-! min(l, key=f, default=d) over a list, the key a def of the text -/
namespace L2
open PySem PySem.Spec PyProof.Rows PySem.SeqAt
/-- inside a builtin's call -/
def cxIn1 (X : Cx) : Cx where
  prog := X.prog
  w := X.w
  K := X.K
  mg := X.mg
  base := X.base
  A := X.A.in1
  N := X.N
  s₀ := X.s₀
  H₀ := X.H₀
  env := X.env
  outer := X.outer
  stack := X.stack
  ex := X.ex
  fn := X.fn
  calm := X.calm
  pn := X.pn
  xe := no0
section
variable {X : Cx} {pins : List (Addr × Obj)} {σ : St} {H : Hp} {s : Shared}
theorem Cx.Ok.in1 (o : X.Ok) : (cxIn1 X).Ok :=
  ⟨o.mod, o.kind, o.glob, o.blt, o.above, o.inj, o.has, o.cab, o.hd, o.frames, o.stk, o.exf, o.bs, o.bsz, o.noex, o.exfs, o.funs, o.frf⟩
theorem Inv.in1 (I : Inv X pins σ H s) : Inv (cxIn1 X) pins σ H s := ⟨I.ok.in1, I.os, I.bare, I.base, I.loc, I.cell, I.free, I.freeC, I.pin, I.hok, I.len⟩
theorem Inv.out1 (o : X.Ok) (I : Inv (cxIn1 X) pins σ H s) : Inv X pins σ H s := ⟨o, I.os, I.bare, I.base, I.loc, I.cell, I.free, I.freeC, I.pin, I.hok, I.len⟩
end
section
variable {X : Cx} {pins : List (Addr × Obj)} {σ : St} {H : Hp} {s : Shared} {k : Nat} {f : Addr} {fd : FuncData} {ps : List Str} {sp : Sp} {Q : VK} {l p it : Addr} {xs : List V} {W : Nat → V → V → Hp → Prop}
abbrev minR (X : Cx) (pins : List (Addr × Obj)) (σ : St) (Q : VK) : Result → Shared → Prop := fun r s' => match r with | .ok (.ret v) => EP X pins σ Q v s' | .ok _ => False | .error e => X.xe e s'
theorem min_item {i : Nat} {x : V} {Q' : Option Value → Shared → Prop} {E : Value → Shared → Prop} (I : Inv (cxIn1 X) pins σ H s) (st : s.heap.IsListIter it l i) (hq : SqL X.K H l xs) (hx : xs[i]? = some x) (hf : FpOk (cxIn1 X) pins H it)
    (h : ∀ u s', Inv (cxIn1 X) pins σ H s' → s'.heap.IsListIter it l (i + 1) → RelV x u → Q' (some u) s') : wpAny (model X.prog X.w) X.A.in1 (pyNext (.ref it)) Q' E s := by
  obtain ⟨its, rv, p, hz⟩ := I.list hq
  obtain ⟨u, hu, ru⟩ := rv.get hx
  obtain ⟨f0, f1, f2, f3, f4, f5⟩ := hf
  exact wpAny_pyNext_list_item st p.isList (x := u) (by simpa using hu) fun h' st' sb => h u _ (I.turned (t' := s.toks) (fun b o hb e => (sb.2 b hb).trans e) f0 f1 f3 f4 f5) st' ru
theorem min_end {i : Nat} {Q' : Option Value → Shared → Prop} {E : Value → Shared → Prop} (hc : X.calm = true) (I : Inv (cxIn1 X) pins σ H s) (st : s.heap.IsListIter it l i) (hq : SqL X.K H l xs) (hx : xs.length ≤ i) (hf : FpOk (cxIn1 X) pins H it)
    (h : ∀ s', Inv (cxIn1 X) pins σ H s' → Q' none s') : wpAny (model X.prog X.w) X.A.in1 (pyNext (.ref it)) Q' E s := by
  obtain ⟨its, rv, p, hz⟩ := I.list hq
  obtain ⟨f0, f1, f2, f3, f4, f5⟩ := hf
  have hl := rv.length
  exact wpAny_pyNext_list_end (I.ok.hd hc) st p.isList (by simp; (first | lia | omega)) fun h' eb => h _ (I.turned (t' := s.toks) (fun b o hb e => eb b o hb e) f0 f1 f3 f4 f5)
end
end L2
namespace L2
open PySem PySem.Spec PyProof.Rows PySem.SeqAt
section
variable {X : Cx} {pins : List (Addr × Obj)} {σ : St} {H : Hp} {s : Shared} {k : Nat} {f : Addr} {fd : FuncData} {ps : List Str} {sp : Sp} {Q : VK} {l p it : Addr} {xs : List V} {W : Nat → V → V → Hp → Prop} {ud : Value}
theorem fp_upd {o : HO} (h : FpOk X pins H it) (hp : ∃ u, H p = some u) : FpOk X pins (upd H p o) it := by
  refine ⟨?_, h.2⟩
  obtain ⟨u, hu⟩ := hp
  rw [upd_ne (ne_of_none hu h.1).symm]
  exact h.1
theorem iter_data {h : Heap} {i : Nat} (st : h.IsListIter it l i) : ∃ o, h.get? it = some o ∧ (∀ v, o.data ≠ .cell v) ∧ ∀ h' : Heap, h'.get? it = some o → h'.IsListIter it l i := by
  obtain ⟨o, e, c, d⟩ := st
  exact ⟨o, e, fun v z => (by rw [d] at z; cases z), fun h' e' => ⟨o, e', c, d⟩⟩
end
end L2
namespace L2
open PySem PySem.Spec PyProof.Rows PySem.SeqAt
end L2
namespace L2
open PySem PySem.Spec PyProof.Rows PySem.SeqAt
end L2

/-! the order of groves: the promises of rank, before, least_among -/
namespace Fg
open PySem L2 FgM PySem.SeqAt
theorem eqv_str (x y : Str) : PyData.eqv (.str x) (.str y) = decide (x = y) := by
  show (x == y) = _
  by_cases e : x = y
  · subst e; simp
  · rw [decide_eq_false e]; exact beq_eq_false_iff_ne.mpr e
def OkW (ws : List Str) : Prop := ∀ x ∈ ws, PyData.strOk x = true
end Fg

/-! == of groves, whatever their depth: the data of a grove -/
namespace L2
open PySem PySem.Spec PyProof.Rows
end L2
namespace Fg
open PySem L2 FgM
def dataG : Gr Str → List PyData
  | .nil => []
  | .cons t w o => .tuple [.str t, .tuple (dataG w)] :: dataG o
theorem dpG {K : PySem.W.Frag} {H : Hp} : ∀ {xs : List V} {g : Gr Str}, RepG H xs g → DpAll K H xs (dataG g)
  | _, _, .nil => .nil
  | _, _, .cons a b c d => .cons (.tup (SqT.of a) (.cons (.str _) (.cons (.tup (SqT.of b) (dpG c)) .nil))) (dpG d)
theorem depthG : ∀ g : Gr Str, PyData.depthAll (dataG g) ≤ (words SL g).length
  | .nil => Nat.zero_le _
  | .cons t w o => by
    have h1 := depthG w
    have h2 := depthG o
    show max (max 0 (max (PyData.depthAll (dataG w) + 1) 0) + 1) (PyData.depthAll (dataG o)) ≤ (words SL (.cons t w o)).length
    simp only [words, List.length_cons, List.length_append]
    (first | lia | omega)
theorem layG : ∀ g : Gr Str, OkW (words SL g) → PyData.canLayAll0 (dataG g) = true
  | .nil, _ => rfl
  | .cons t w o, h => by
    have ht : PyData.strOk t = true := h t (by simp [words])
    have hw : OkW (words SL w) := fun x hx => h x (by simp [words, hx])
    have ho : OkW (words SL o) := fun x hx => h x (by simp [words, hx])
    show ((PyData.strOk t && ((PyData.canLayAll0 (dataG w)) && true)) && PyData.canLayAll0 (dataG o)) = true
    rw [ht, layG w hw, layG o ho]
    rfl
end Fg

namespace L2
open PySem PySem.Spec PyProof.Rows PySem.SeqAt
/-! list(reversed(l)) -/
end L2

/-! the reading of [e for x in l], and what a block without captured names is -/
namespace L2
open PySem PySem.Spec PyProof.Rows
def CW (n : Nat) (Pv : Nat → List V → St → Hp → Prop) : Nat → Nat → List V → St → Hp → Prop := fun i m ys σ H => m = n - i ∧ i ≤ n ∧ Pv i ys σ H
theorem CW.next {n i : Nat} {Pv : Nat → List V → St → Hp → Prop} {ys : List V} {σ : St} {H : Hp} (hi : i < n) (h : Pv (i + 1) ys σ H) : ∃ m', m' < n - i ∧ CW n Pv (i + 1) m' ys σ H := ⟨_, by (first | lia | omega), rfl, hi, h⟩
theorem nofree {scope : Scope} {env : Env} (h : ∀ y ∈ scope.names, y.2 ≠ .cell ∧ y.2 ≠ .free) {cl : List (Str × Addr)} : ∀ (C : Addr) (x : Str), ((compEnvC scope cl C env).kindOf x = some .cell ∨ (compEnvC scope cl C env).kindOf x = some .free) → ∃ c, cl.lookup x = some c := by
  have key : ∀ (l : List (Str × NameKind)) (x : Str), (∀ y ∈ l, y.2 ≠ .cell ∧ y.2 ≠ .free) → ∀ k, (l.map fun (n, k) => if (k == .free && env.scope.kind == .function && env.kindOf n == some .cell) then (n, .cell) else (n, k)).lookup x = some k → k ≠ .cell ∧ k ≠ .free := by
    intro l
    induction l with
    | nil => intro x _ k e; simp at e
    | cons y l ih =>
      intro x hy k e
      obtain ⟨n, kd⟩ := y
      have hk := hy _ (List.mem_cons_self ..)
      have e0 : (kd == NameKind.free && env.scope.kind == .function && env.kindOf n == some .cell) = false := by
        have : (kd == NameKind.free) = false := by
          cases kd <;> first | rfl | exact absurd rfl hk.2
        rw [this]; rfl
      simp only [List.map_cons, e0, Bool.false_eq_true, if_false, List.lookup_cons] at e
      cases hx : x == n with
      | true =>
        rw [hx] at e
        cases e
        exact hk
      | false =>
        rw [hx] at e
        exact ih x (fun y hm => hy y (List.mem_cons_of_mem _ hm)) k e
  intro C x hx
  rcases hx with e | e
  · exact absurd rfl (key _ x h _ e).1
  · exact absurd rfl (key _ x h _ e).2
end L2
namespace FgM
theorem can_words {A : Type} [DecidableEq A] {sl : A} : ∀ {g : Gr A} {n : Nat} {ws : List A}, Clean sl g → Can sl n ws → Can sl n (words sl g ++ ws)
  | .nil, _, _, _, h => h
  | .cons t w o, n, ws, ⟨h1, h2, h3⟩, h => by
    have e : words sl (.cons t w o) ++ ws = t :: (words sl w ++ sl :: (words sl o ++ ws)) := by simp [words]
    rw [e, can_tag h1]
    exact can_words h2 (can_end.mpr ⟨by (first | lia | omega), can_words h3 (by simpa using h)⟩)
end FgM

/-! x = [elt for tg in iter], x = [elt for tg in iter if ct]: the name is bound ahead of the block's end -/
namespace L2
open PySem PySem.Spec PyProof.Rows
section
variable {X : Cx} {elt iter tg : Expr} {scope : Scope} {pos : Pos} {wi : TI} {g : TG} {te : TE} {cl : List (Str × Addr)}
theorem ps_set_comp {y : Str} {py spos : Pos} {n0 : Nat} (hN : X.N.Nodup) (hi0 : X.N[n0]? = some y) (hx : Loc X.env.scope y) (tn : List Str) (cap : List (Str × Nat)) (hi : PI X tg iter wi) (hg : ∀ C fp s H, PG (cxComp X (tn ++ cap.map (·.1)) scope cl C fp s H) tg g) (he : ∀ C fp s H, PE (cxComp X (tn ++ cap.map (·.1)) scope cl C fp s H) elt te)
    (hc : X.calm = true) (hclos : closureFor scope X.env = pure cl) (hcell : ∀ y ∈ scope.names, y.2 ≠ .cell) (hk : scope.kind = .function) (hnames : ∀ y ∈ scope.names, y.2 = .local → scope.names.lookup y.1 = some .local)
    (hcl : ∀ x c, cl.lookup x = some c → X.env.cells.lookup x = some c)
    (hhas : ∀ C x, ((compEnvC scope cl C X.env).kindOf x = some .cell ∨ (compEnvC scope cl C X.env).kindOf x = some .free) → ∃ c, cl.lookup x = some c)
    (hcap : ∀ C, ∀ p ∈ cap, X.N[p.2]? = some p.1 ∧ X.env.scope.names.lookup p.1 = some .cell ∧ ((compEnvC scope cl C X.env).kindOf p.1 = some .cell ∨ (compEnvC scope cl C X.env).kindOf p.1 = some .free))
    (hs : ∀ v, foldedSetIterable iter X.env v = pure v) (hsw : swapsWith (.ListComp elt [⟨tg, iter, [], 0⟩] scope pos) (some (.Name y py)) spos.line X.env = pure true) (hf : X.fn y = true ∨ X.env.scope.names.lookup y = some .local := by first | exact .inl rfl | exact .inr rfl | assumption) :
    PS X (.Assign [.Name y py] (.ListComp elt [⟨tg, iter, [], 0⟩] scope pos) spos) (tAsg (tComp wi tn.length cap g te) (gName n0)) := by
  intro pins s σ H D I h
  rw [exec_Assign_Name_used _ _ _ _ hsw]
  refine wpAny_bind (wpAny_standAt (wpAny_bind ?_))
  show wpAny _ X.A (do let _ ← comprehension (.ListComp elt [⟨tg, iter, [], 0⟩] scope pos) scope X.env _ (newList []) false (eval iter X.env) (some (assign (.Name y py) X.env))) _ _ s
  refine wpAny_bind (wpAny_mono (wpAny_comprehension_free (use := some (assign (.Name y py) X.env)) (Q := fun _ s' => SP X pins D .next s') rfl hs hclos hk hnames (thn (hi pins s σ H _ I h) fun v s1 h1 => thn h1 fun itv s2 h2 => ?_)) (fun _ s' hq => wpAny_pure (wpAny_pure hq)) fun _ _ e => e)
  obtain ⟨it, fp, tnn, J, H2, e, I2, T, st2, f2, q2⟩ := h2
  subst e
  refine comp_core0 (R := fun p H6 => gName n0 (.ref p) σ H6 (fun σ' H' => D.nx σ' H')) tn cap hg he hc hcell hk hcl hhas hcap I2 T st2 f2 q2 fun s3 H3 I3 f3 acc σ6 H6 s6 I6 q6 => ?_
  obtain ⟨m, hn, _⟩ := I6.loc
  have I' : Inv X pins σ H6 s6 := I3.call' (ch := fp) I6.os I6.base I6.hok I6.bare fun b hb => ⟨(f3 b hb).2.2.2.1, (f3 b hb).2.1, (f3 b hb).2.2.2.2.1, (f3 b hb).2.2.2.2.2⟩
  have fC : FpOk X pins H6 s3.heap.objs.size := I3.fpOk (Nat.le_refl _) I6.free
  show wpAny _ X.A (assign (.Name y py) X.env (.ref acc)) _ _ s6
  refine wpAny_assign_Name (store_ok2 (v := .ref acc) I' hN hi0 hx rfl (fun s7 I7 ⟨a, sb, ha⟩ => ?_) hf)
  have nCa : s3.heap.objs.size ≠ a := by
    rcases ha with z | z
    · rw [z]
      exact fC.2.1
    · exact (fC.2.2.2.2.1 _ _ z).symm
  exact ⟨m, hn.sameBut sb nCa, fun h' sb' => ⟨_, H6, I7.turned (t' := s7.toks) (fun b o hb e => (sb'.2 b hb).trans e) fC.1 fC.2.1 fC.2.2.2.1 fC.2.2.2.2.1 fC.2.2.2.2.2, q6⟩⟩
end
end L2
namespace L2
open PySem PySem.Spec PyProof.Rows
end L2

namespace L2
open PySem PySem.Spec PyProof.Rows

/-! ### lists of pairs as tables -/
section
variable {κ : Type} [DecidableEq κ]
def valV (kvs : List (κ × V)) (k : κ) : Option V := (kvs.find? fun kv => decide (kv.1 = k)).map (·.2)
/-- in its place, or at the end -/
def putK (kvs : List (κ × V)) (k : κ) (v : V) : List (κ × V) :=
  if (kvs.any fun kv => decide (kv.1 = k)) = true then kvs.map (fun kv => if kv.1 = k then (kv.1, v) else kv) else kvs ++ [(k, v)]
theorem valV_pos {p : κ × V} {r : List (κ × V)} {k : κ} (e : p.1 = k) : valV (p :: r) k = some p.2 := by simp [valV, List.find?_cons, e]
theorem valV_neg {p : κ × V} {r : List (κ × V)} {k : κ} (e : ¬ p.1 = k) : valV (p :: r) k = valV r k := by simp [valV, List.find?_cons, e]
theorem valV_any (k : κ) : ∀ kvs : List (κ × V), (kvs.any fun kv => decide (kv.1 = k)) = (valV kvs k).isSome
  | [] => rfl
  | p :: r => by
    rw [List.any_cons]
    by_cases e : p.1 = k
    · simp only [valV_pos e, decide_eq_true e, Bool.true_or, Option.isSome_some]
    · rw [valV_neg e, decide_eq_false e, Bool.false_or]; exact valV_any k r
theorem valV_map (k j : κ) (y : V) : ∀ kvs : List (κ × V), valV (kvs.map fun kv => if kv.1 = k then (kv.1, y) else kv) j = (valV kvs j).map fun x => if j = k then y else x
  | [] => rfl
  | p :: r => by
    have ih := valV_map k j y r
    rw [List.map_cons]
    by_cases h : p.1 = k
    · rw [if_pos h]
      by_cases e : p.1 = j
      · rw [valV_pos (p := (p.1, y)) e, valV_pos e, Option.map_some, if_pos (e.symm.trans h)]
      · rw [valV_neg (p := (p.1, y)) e, valV_neg e, ih]
    · rw [if_neg h]
      by_cases e : p.1 = j
      · rw [valV_pos (p := p) e, valV_pos e, Option.map_some, if_neg (fun z => h (e.trans z))]
      · rw [valV_neg (p := p) e, valV_neg e, ih]
theorem valV_snoc (k j : κ) (y : V) : ∀ kvs : List (κ × V), valV kvs k = none → valV (kvs ++ [(k, y)]) j = if j = k then some y else valV kvs j
  | [], _ => by
    by_cases e : k = j
    · rw [if_pos e.symm]; exact valV_pos (p := (k, y)) e
    · rw [if_neg (fun z => e z.symm)]; exact valV_neg (p := (k, y)) e
  | p :: r, hn => by
    rw [List.cons_append]
    have hk : ¬ p.1 = k := fun z => by rw [valV_pos z] at hn; cases hn
    rw [valV_neg hk] at hn
    have ih := valV_snoc k j y r hn
    by_cases e : p.1 = j
    · rw [valV_pos e, valV_pos e, if_neg (fun z => hk (e.trans z))]
    · rw [valV_neg e, valV_neg e, ih]
theorem valV_put (kvs : List (κ × V)) (k j : κ) (y : V) : valV (putK kvs k y) j = if j = k then some y else valV kvs j := by
  unfold putK
  by_cases a : (kvs.any fun kv => decide (kv.1 = k)) = true
  · rw [if_pos a, valV_map]
    rw [valV_any] at a
    by_cases e : j = k
    · obtain ⟨x, hx⟩ := Option.isSome_iff_exists.mp a
      rw [if_pos e, e, hx, Option.map_some, if_pos rfl]
    · rw [if_neg e]
      cases valV kvs j with
      | none => rfl
      | some x => rw [Option.map_some, if_neg e]
  · rw [if_neg a]
    refine valV_snoc k j y kvs ?_
    rw [valV_any] at a
    cases q : valV kvs k with
    | none => rfl
    | some x => rw [q] at a; exact (a rfl).elim
theorem length_putK (kvs : List (κ × V)) (k : κ) (v : V) : (putK kvs k v).length ≤ kvs.length + 1 := by
  unfold putK
  split
  · rw [List.length_map]; (first | lia | omega)
  · rw [List.length_append, List.length_cons, List.length_nil]; (first | lia | omega)
theorem putK_new {kvs : List (κ × V)} {k : κ} (v : V) (h : valV kvs k = none) : putK kvs k v = kvs ++ [(k, v)] := by
  unfold putK
  rw [valV_any, h]
  exact if_neg (by decide)

theorem RelO.isSome_eq {o : Option V} {u : Option Value} (r : RelO o u) : o.isSome = u.isSome := by
  cases o with
  | none => cases u with
    | none => rfl
    | some _ => exact (show False from r).elim
  | some _ => cases u with
    | none => exact (show False from r).elim
    | some _ => rfl
/-- raw tables of the same keys -/
theorem KV.val {kvs : List (κ × V)} {vs : List (κ × Value)} (r : KV kvs vs) (k : κ) : RelO (valV kvs k) (valueAt vs k) := by
  unfold KV at r
  induction r with
  | nil => exact True.intro
  | @cons p q ps qs h t ih =>
    obtain ⟨h1, h2⟩ := h
    by_cases e : p.1 = k
    · have e' : q.1 = k := h1.symm.trans e
      have b : valueAt (q :: qs) k = some q.2 := by simp [valueAt, List.find?_cons, e']
      rw [valV_pos e, b]; exact h2
    · have e' : ¬ q.1 = k := fun z => e (h1.trans z)
      have b : valueAt (q :: qs) k = valueAt qs k := by simp [valueAt, List.find?_cons, e']
      rw [valV_neg e, b]; exact ih
theorem KV.any {kvs : List (κ × V)} {vs : List (κ × Value)} (r : KV kvs vs) (k : κ) : (kvs.any fun kv => decide (kv.1 = k)) = vs.any fun kv => decide (kv.1 = k) := by
  unfold KV at r
  induction r with
  | nil => rfl
  | cons h t ih => rw [List.any_cons, List.any_cons, ih, h.1]
theorem KV.repl {kvs : List (κ × V)} {vs : List (κ × Value)} (r : KV kvs vs) (k : κ) {y : V} {u : Value} (ry : RelV y u) :
    KV (kvs.map fun kv => if kv.1 = k then (kv.1, y) else kv) (vs.map fun kv => if kv.1 = k then (kv.1, u) else kv) := by
  unfold KV at r ⊢
  induction r with
  | nil => exact .nil
  | @cons p q ps qs h t ih =>
    rw [List.map_cons, List.map_cons]
    refine .cons ?_ ih
    obtain ⟨h1, h2⟩ := h
    by_cases e : p.1 = k
    · rw [if_pos e, if_pos (h1.symm.trans e)]; exact ⟨h1, ry⟩
    · rw [if_neg e, if_neg (fun z => e (h1.trans z))]; exact ⟨h1, h2⟩
theorem KV.put {kvs : List (κ × V)} {vs : List (κ × Value)} (r : KV kvs vs) (k : κ) {y : V} {u : Value} (ry : RelV y u) : KV (putK kvs k y) (stored vs k u) := by
  unfold putK stored
  rw [r.any k]
  by_cases e : (vs.any fun kv => decide (kv.1 = k)) = true
  · rw [if_pos e, if_pos e]; exact r.repl k ry
  · rw [if_neg e, if_neg e]; exact Paired.snoc r ⟨rfl, ry⟩
theorem KV.length {kvs : List (κ × V)} {vs : List (κ × Value)} (r : KV kvs vs) : kvs.length = vs.length := Paired.length r
end


/-! ### a tracked dict, its keys ints and texts or tuples of these -/
theorem kV_is {P : Program} {w : World} {k : Key} {u : Value} (r : RelV (kV k) u) : (mixKind P w).is k u = true := by
  cases k with
  | inl i => obtain ⟨t, e⟩ := (show ∃ t, u = Value.int i t from r); subst e; exact mixKind_int P w i t
  | inr x => obtain ⟨t, e⟩ := (show ∃ t, u = Value.str x t from r); subst e; exact mixKind_str P w x t
theorem items_are {P : Program} {w : World} : ∀ {ks : List Key} {us : List Value}, Vals (ks.map kV) us → ItemsAre (mixKind P w) ks us
  | [], _, r => by rw [List.map_nil] at r; cases r; exact .nil
  | k :: ks, _, r => by
    rw [List.map_cons] at r
    cases r with
    | cons h t => exact .cons (kV_is h) (items_are t)

/-- raw entries of a dict with tuple keys -/
abbrev KT (H : Hp) : List (List Key × V) → List (List Key × Addr × Value) → Prop := Paired fun p q => p.1 = q.1 ∧ H q.2.1 = some (.tup (p.1.map kV)) ∧ RelV p.2 q.2.2
theorem KT.val {H : Hp} {kvs : List (List Key × V)} {xs : List (List Key × Addr × Value)} (r : KT H kvs xs) (k : List Key) : RelO (valV kvs k) ((atKey xs k).map (·.2)) := by
  induction r with
  | nil => exact True.intro
  | @cons p q ps qs h t ih =>
    obtain ⟨h1, _, h2⟩ := h
    by_cases e : p.1 = k
    · have e' : q.1 = k := h1.symm.trans e
      have b : atKey (q :: qs) k = some q.2 := by simp [atKey, List.find?_cons, e']
      rw [valV_pos e, b]; exact h2
    · have e' : ¬ q.1 = k := fun z => e (h1.trans z)
      have b : atKey (q :: qs) k = atKey qs k := by simp [atKey, List.find?_cons, e']
      rw [valV_neg e, b]; exact ih
theorem KT.repl {H : Hp} {kvs : List (List Key × V)} {xs : List (List Key × Addr × Value)} (r : KT H kvs xs) (k : List Key) {y : V} {u : Value} (ry : RelV y u) :
    KT H (kvs.map fun kv => if kv.1 = k then (kv.1, y) else kv) (xs.map (putAt k u)) := by
  induction r with
  | nil => exact .nil
  | @cons p q ps qs h t ih =>
    rw [List.map_cons, List.map_cons]
    refine .cons ?_ ih
    obtain ⟨h1, h2, h3⟩ := h
    unfold putAt
    by_cases e : p.1 = k
    · rw [if_pos e, if_pos (h1.symm.trans e)]; exact ⟨h1, h2, ry⟩
    · rw [if_neg e, if_neg (fun z => e (h1.trans z))]; exact ⟨h1, h2, h3⟩
theorem KT.put {H : Hp} {kvs : List (List Key × V)} {xs : List (List Key × Addr × Value)} (r : KT H kvs xs) (k : List Key) {b : Addr} {y : V} {u : Value} (hb : H b = some (.tup (k.map kV))) (ry : RelV y u) :
    KT H (putK kvs k y) (storedH xs k b u) := by
  have e : (kvs.any fun kv => decide (kv.1 = k)) = (atKey xs k).isSome := by
    rw [valV_any, (r.val k).isSome_eq, Option.isSome_map]
  unfold putK storedH
  rw [e]
  by_cases q : (atKey xs k).isSome = true
  · rw [if_pos q, if_pos q]; exact r.repl k ry
  · rw [if_neg q, if_neg q]; exact Paired.snoc r ⟨rfl, hb, ry⟩
theorem KT.keeps {H H' : Hp} {kvs : List (List Key × V)} {xs : List (List Key × Addr × Value)} (r : KT H kvs xs) (ht : ∀ b ys, H b = some (.tup ys) → H' b = some (.tup ys)) : KT H' kvs xs :=
  Paired.mapP r fun _ _ z => ⟨z.1, ht _ _ z.2.1, z.2.2⟩

section
variable {P : Program} {w : World} {H : Hp} {h : Heap} {a : Addr}
theorem rd_of {u : HO} (ok : HOk P w H h) (e : Rd H a u) : ObjOk P w H h a u := e.ok ok
theorem dk_rd {kvs : List (Key × V)} (ok : HOk P w H h) (e : Rd H a (.dK kvs)) : kvs.length ≤ sizeLine ∧ (a == sysModules) = false ∧ ∃ vs, KV kvs vs ∧ h.DictOf (mixKind P w) a vs :=
  show ObjOk P w H h a (.dK kvs) from rd_of ok e
theorem dk_of {kvs : List (Key × V)} (ok : HOk P w H h) (e : H a = some (.dK kvs)) : kvs.length ≤ sizeLine ∧ (a == sysModules) = false ∧ ∃ vs, KV kvs vs ∧ h.DictOf (mixKind P w) a vs := dk_rd ok (.inl e)
/-- a tracked tuple of ints and texts is a key -/
theorem key_of {ks : List Key} (ok : HOk P w H h) (e : H a = some (.tup (ks.map kV))) : (tupleKind (mixKind P w)).is h ks a := by
  obtain ⟨_, its, r, o, h1, h2, n, h3⟩ := (show ObjOk P w H h a (.tup (ks.map kV)) from ok a _ e)
  exact ⟨o, its.toArray, n, h1, h2, h3, by simpa using items_are r⟩
theorem dt_rd {kvs : List (List Key × V)} (ok : HOk P w H h) (e : Rd H a (.dT kvs)) : kvs.length ≤ sizeLine ∧ (a == sysModules) = false ∧
    ∃ xs, KT H kvs xs ∧ h.DictOfH (tupleKind (mixKind P w)) a xs := by
  obtain ⟨z, y, xs, r, o, es, ep, h1, h2, h3, h4, h5⟩ := (show ObjOk P w H h a (.dT kvs) from rd_of ok e)
  refine ⟨z, y, xs, r, o, es, ep, h1, h2, h3, h4, fun x hx => ?_, h5⟩
  have all : ∀ {l : List (List Key × V)} {m : List (List Key × Addr × Value)}, KT H l m → ∀ x ∈ m, (tupleKind (mixKind P w)).is h x.1 x.2.1 := by
    intro l m q
    induction q with
    | nil => intro x hx; exact nomatch hx
    | @cons p q ps qs hq t ih =>
      intro x hx
      rcases List.mem_cons.mp hx with e | hx
      · subst e
        exact key_of ok (by rw [← hq.1]; exact hq.2.1)
      · exact ih x hx
  exact all r x hx
theorem dt_of {kvs : List (List Key × V)} (ok : HOk P w H h) (e : H a = some (.dT kvs)) : kvs.length ≤ sizeLine ∧ (a == sysModules) = false ∧
    ∃ xs, KT H kvs xs ∧ h.DictOfH (tupleKind (mixKind P w)) a xs := dt_rd ok (.inl e)
end

/-- what the dict at a holds at the key y -/
def DGet (H : Hp) (a : Addr) (y : V) (r : Option V) : Prop :=
  (∃ kvs k, Rd H a (.dK kvs) ∧ y = kV k ∧ r = valV kvs k) ∨ ∃ kvs k b, Rd H a (.dT kvs) ∧ y = .ref b ∧ H b = some (.tup (k.map kV)) ∧ r = valV kvs k
/-- the heap behind a[y] = v -/
def DPut (H : Hp) (a : Addr) (y v : V) (H' : Hp) : Prop :=
  (∃ kvs k, H a = some (.dK kvs) ∧ y = kV k ∧ kvs.length < sizeLine ∧ H' = upd H a (.dK (putK kvs k v))) ∨
  ∃ kvs k b, H a = some (.dT kvs) ∧ y = .ref b ∧ H b = some (.tup (k.map kV)) ∧ kvs.length < sizeLine ∧ H' = upd H a (.dT (putK kvs k v))
theorem DGet.k {H : Hp} {a : Addr} {kvs : List (Key × V)} {k : Key} (e : H a = some (.dK kvs)) : DGet H a (kV k) (valV kvs k) := .inl ⟨kvs, k, .inl e, rfl, rfl⟩
theorem DPut.k {H : Hp} {a : Addr} {kvs : List (Key × V)} {k : Key} {v : V} (e : H a = some (.dK kvs)) (hl : kvs.length < sizeLine) : DPut H a (kV k) v (upd H a (.dK (putK kvs k v))) := .inl ⟨kvs, k, e, rfl, hl, rfl⟩
section
variable {X : Cx} {pins : List (Addr × Obj)} {σ : St} {H : Hp} {s : Shared} {a : Addr} {y v : V} {u r : Value} {o : Option V} {A : Around} {E : Value → Shared → Prop}

theorem Inv.big (I : Inv X pins σ H s) : sysModules < s.heap.objs.size := by
  have h : mainGlobals < s.heap.objs.size := (I.mod.glob.keeps I.bk).lt
  exact Nat.lt_trans (by decide) h

/-- d[y], there -/
theorem d_getItem {Q : Value → Shared → Prop} (hu : A.units + 1 < cLine) (I : Inv X pins σ H s) (g : DGet H a y (some v)) (ry : RelV y u) (h : ∀ w' s', Inv X pins σ H s' → RelV v w' → Q w' s') :
    wpAny (model X.prog X.w) A (getItem (.ref a) u) Q E s := by
  rcases g with ⟨kvs, k, e, ey, l⟩ | ⟨kvs, k, b, e, ey, eb, l⟩
  · subst ey
    obtain ⟨z, hd, vs, rel, dd⟩ := dk_rd I.hok e
    obtain ⟨w', hw, rw'⟩ := RelO.some_of (v := v) (o := valueAt vs k) (by rw [l]; exact rel.val k)
    exact wpAny_getItem_of (kV_is ry) dd.mapOf hw (h w' _ (I.tok _) rw')
  · subst ey
    cases (show u = Value.ref b from ry)
    obtain ⟨z, hd, xs, rel, dd⟩ := dt_rd I.hok e
    obtain ⟨w', hw, rw'⟩ := RelO.some_of (v := v) (o := (atKey xs k).map (·.2)) (by rw [l]; exact rel.val k)
    obtain ⟨p, hp, hp2⟩ := Option.map_eq_some_iff.mp hw
    refine wpAny_getItem_heap (tupleKind_room_in1 hu) (key_of I.hok eb) dd hp ?_
    rw [hp2]
    exact h w' _ (I.tok _) rw'
/-- y in d -/
theorem d_in {Q : Value → Shared → Prop} (hu : A.units + 1 < cLine) (I : Inv X pins σ H s) (g : DGet H a y o) (ry : RelV y u) (h : ∀ s', Inv X pins σ H s' → Q (.bool o.isSome) s') :
    wpAny (model X.prog X.w) A (compareOp .In u (.ref a)) Q E s := by
  rcases g with ⟨kvs, k, e, ey, l⟩ | ⟨kvs, k, b, e, ey, eb, l⟩
  · subst ey
    obtain ⟨z, hd, vs, rel, dd⟩ := dk_rd I.hok e
    refine wpAny_in_of (kV_is ry) hd dd.mapOf ?_
    rw [← (rel.val k).isSome_eq, ← l]
    exact h _ (I.tok _)
  · subst ey
    cases (show u = Value.ref b from ry)
    obtain ⟨z, hd, xs, rel, dd⟩ := dt_rd I.hok e
    refine wpAny_in_heap (tupleKind_room_in1 hu) (key_of I.hok eb) hd dd ?_
    have q := (rel.val k).isSome_eq
    rw [Option.isSome_map] at q
    rw [← q, ← l]
    exact h _ (I.tok _)
theorem d_notIn {Q : Value → Shared → Prop} (hu : A.units + 1 < cLine) (I : Inv X pins σ H s) (g : DGet H a y o) (ry : RelV y u) (h : ∀ s', Inv X pins σ H s' → Q (.bool (!o.isSome)) s') :
    wpAny (model X.prog X.w) A (compareOp .NotIn u (.ref a)) Q E s := by
  rcases g with ⟨kvs, k, e, ey, l⟩ | ⟨kvs, k, b, e, ey, eb, l⟩
  · subst ey
    obtain ⟨z, hd, vs, rel, dd⟩ := dk_rd I.hok e
    refine wpAny_notIn_of (kV_is ry) hd dd.mapOf ?_
    rw [← (rel.val k).isSome_eq, ← l]
    exact h _ (I.tok _)
  · subst ey
    cases (show u = Value.ref b from ry)
    obtain ⟨z, hd, xs, rel, dd⟩ := dt_rd I.hok e
    refine wpAny_notIn_heap (tupleKind_room_in1 hu) (key_of I.hok eb) hd dd ?_
    have q := (rel.val k).isSome_eq
    rw [Option.isSome_map] at q
    rw [← q, ← l]
    exact h _ (I.tok _)
/-- a dict's object is replaced -/
theorem d_write {h' : Heap} {t' : Nat} {ob : HO} (I : Inv X pins σ H s) (mu : Mut (H a)) (hs : Heap.SameBut a s.heap h') (he : ∃ q, h'.get? a = some q) (new : ObjOk X.prog X.w (upd H a ob) h' a ob) :
    Inv X pins σ (upd H a ob) { s with heap := h', toks := t' } :=
  I.write (x := a) (e := a) mu (.inl rfl) (fun b q hb z => (hs.2 b hb).trans z) he new
theorem dk_new {P : Program} {w : World} {H' : Hp} {h' : Heap} {kvs : List (Key × V)} {vs : List (Key × Value)} (z : kvs.length ≤ sizeLine) (hd : (a == sysModules) = false) (rel : KV kvs vs) (dd : h'.DictOf (mixKind P w) a vs) :
    ObjOk P w H' h' a (.dK kvs) := ⟨z, hd, vs, rel, dd⟩
/-- d[y] = v -/
theorem d_setItem {H' : Hp} {Q : Unit → Shared → Prop} (hu : A.units + 1 < cLine) (I : Inv X pins σ H s) (g : DPut H a y v H') (ry : RelV y u) (rv : RelV v r) (h : ∀ s', Inv X pins σ H' s' → Q () s') :
    wpAny (model X.prog X.w) A (setItem (.ref a) u r) Q E s := by
  rcases g with ⟨kvs, k, e, ey, l, eH⟩ | ⟨kvs, k, b, e, ey, eb, l, eH⟩
  · subst ey eH
    obtain ⟨z, hd, vs, rel, dd⟩ := dk_of I.hok e
    have hz : vs.length ≤ sizeLine := by rw [← rel.length]; exact z
    have hl : (putK kvs k v).length ≤ sizeLine := by have := length_putK kvs k v; (first | lia | omega)
    refine wpAny_setItem_pairs (hsz := hz) (kV_is ry) dd fun h' dd' hs => h _ ?_
    have he : ∃ q, h'.get? a = some q := let ⟨q, _, _, hq, _⟩ := dd'; ⟨q, hq⟩
    exact d_write I (by rw [e]; exact True.intro) hs he (dk_new hl hd (rel.put k rv) dd')
  · subst ey eH
    cases (show u = Value.ref b from ry)
    obtain ⟨z, hd, xs, rel, dd⟩ := dt_of I.hok e
    have hz : xs.length ≤ sizeLine := by rw [← Paired.length rel]; exact z
    have hl : (putK kvs k v).length ≤ sizeLine := by have := length_putK kvs k v; (first | lia | omega)
    refine wpAny_setItem_heap (hsz := hz) (tupleKind_room_in1 hu) (key_of I.hok eb) dd fun h' dd' hs => h _ ?_
    obtain ⟨q, es, ep, hq, h2, h3, h4, _, h5⟩ := dd'
    refine d_write I (by rw [e]; exact True.intro) hs ⟨q, hq⟩ ⟨hl, hd, _, (rel.put k eb rv).keeps fun c ys ec => ?_, q, es, ep, hq, h2, h3, h4, h5⟩
    rw [upd_ne (ne_of ec e (fun z => nomatch z))]
    exact ec
end



/-! ### readings and rules -/
/-- the element of a subscription, not a slice -/
def NoSl (i : Expr) : Prop := ∀ ov iv, subscripted i false ov iv = operate [ov, iv] (getItem ov iv)
theorem subD_of {prog : Program} {w : World} {A : Around} {E : Value → Shared → Prop} {s : Shared} {env : Env} {value slice : Expr} {pos : Pos} {T id : String} {Q : Value → Shared → Prop}
    (hl : typeLookup (.type T) "__getitem__" = pure (some (.builtin id))) (hs : NoSl slice)
    (h : wpAny (model prog w) A (eval value env) (fun o s₁ => wpAny (model prog w) A (eval slice env) (fun i s₂ => s₂.TypeIs o T ∧ wpAny (model prog w) A (getItem o i) Q E s₂) E s₁) E s) :
    wpAny (model prog w) A (eval (.Subscript value slice pos) env) Q E s := by
  refine Subscript_ (wpAny_mono h (fun o s₁ h₁ => wpAny_mono h₁ (fun i s₂ h₂ => ?_) fun _ _ x => x) fun _ _ x => x)
  obtain ⟨hT, h₂⟩ := h₂
  unfold subscriptTail
  refine wpAny_bind ?_
  rw [getitemInPython_of_ne hT.not_modules]
  refine wpAny_bind (wpAny_specialOf hT hl ?_)
  have fin : wpAny (model prog w) A (subscripted slice false o i) (fun r s₃ => wpAny (model prog w) A (letTemporaryGo value o r >>= fun _ => pure r) Q E s₃) E s₂ := by
    rw [hs o i]
    exact wpAny_operating (wpAny_mono h₂ (fun r s₃ h₃ => wpAny_bind (wpAny_letTemporaryGo (wpAny_pure h₃))) fun _ _ x => x)
  first
    | exact wpAny_pure (wpAny_bind fin)
    | exact wpAny_bind (wpAny_pure (wpAny_bind fin))
    | exact wpAny_bind fin

theorem dict_typeIs {X : Cx} {pins : List (Addr × Obj)} {σ : St} {H : Hp} {s : Shared} {a : Addr} {y : V} {o : Option V} (I : Inv X pins σ H s) (g : DGet H a y o) : s.TypeIs (.ref a) "dict" := by
  rcases g with ⟨kvs, k, e, _, _⟩ | ⟨kvs, k, b, e, _, _, _⟩
  · obtain ⟨_, _, vs, _, dd⟩ := dk_rd I.hok e
    exact dd.typeIs
  · obtain ⟨_, _, xs, _, dd⟩ := dt_rd I.hok e
    exact dd.typeIs
/-- d[y] -/
def tDGet (td ty : TE) : TE := fun σ H Q => td σ H fun x H1 => ty σ H1 fun y H2 => ∃ a v, x = .ref a ∧ DGet H2 a y (some v) ∧ Q v H2
/-- y in d, y not in d -/
def tDIn (ty td : TE) : TE := fun σ H Q => ty σ H fun y H1 => td σ H1 fun x H2 => ∃ a o, x = .ref a ∧ DGet H2 a y o ∧ Q (.bl o.isSome) H2
def tDNotIn (ty td : TE) : TE := fun σ H Q => ty σ H fun y H1 => td σ H1 fun x H2 => ∃ a o, x = .ref a ∧ DGet H2 a y o ∧ Q (.bl (!o.isSome)) H2
/-- d[y] = v -/
def sDPut (td ty tv : TE) : TS := fun D σ H => tv σ H fun v H1 => td σ H1 fun x H2 => ty σ H2 fun y H3 => ∃ a H4, x = .ref a ∧ DPut H3 a y v H4 ∧ D.nx σ H4
section
variable {X : Cx} {o i e value : Expr} {pos pos' tpos : Pos} {td ty tv : TE}
theorem pe_dget (hu : X.A.units + 1 < cLine) (ho : PE X o td) (hi : PE X i ty) (hs : NoSl i) : PE X (.Subscript o i pos) (tDGet td ty) := by
  intro pins s σ H Q I h
  refine subD_of PySem.F.slot_dict_getitem.lookup hs (thn (ho pins s σ H _ I h) fun u s1 ⟨x, H1, I1, rx, q1⟩ => thn (hi pins s1 σ H1 _ I1 q1) fun iv s2 ⟨y, H2, I2, ry, a, v, ex, g, q2⟩ => ?_)
  subst ex
  obtain rfl : u = Value.ref a := rx
  exact ⟨dict_typeIs I2 g, d_getItem hu I2 g ry fun w' s3 I3 rw' => ⟨v, H2, I3, rw', q2⟩⟩
theorem pc_din (hu : X.A.units + 1 < cLine) (hi : PE X i ty) (ho : PE X o td) : PC X .In i o (tDIn ty td) := by
  intro pins s σ H Q I h
  refine thn (hi pins s σ H _ I h) fun iv s1 ⟨y, H1, I1, ry, q1⟩ => thn (ho pins s1 σ H1 _ I1 q1) fun u s2 ⟨x, H2, I2, rx, a, ov, ex, g, q2⟩ => ?_
  subst ex
  obtain rfl : u = Value.ref a := rx
  exact d_in hu I2 g ry fun s3 I3 => ⟨.bl ov.isSome, H2, I3, rfl, q2⟩
theorem pc_dnotin (hu : X.A.units + 1 < cLine) (hi : PE X i ty) (ho : PE X o td) : PC X .NotIn i o (tDNotIn ty td) := by
  intro pins s σ H Q I h
  refine thn (hi pins s σ H _ I h) fun iv s1 ⟨y, H1, I1, ry, q1⟩ => thn (ho pins s1 σ H1 _ I1 q1) fun u s2 ⟨x, H2, I2, rx, a, ov, ex, g, q2⟩ => ?_
  subst ex
  obtain rfl : u = Value.ref a := rx
  exact d_notIn hu I2 g ry fun s3 I3 => ⟨.bl (!ov.isSome), H2, I3, rfl, q2⟩
theorem ps_dput (hu : X.A.units + 1 < cLine) (ho : PE X o td) (hi : PE X i ty) (hv : PE X value tv) (hs : swapsWith value (some (.Subscript o i pos')) pos.line X.env = pure false) :
    PS X (.Assign [.Subscript o i pos'] value pos) (sDPut td ty tv) := by
  intro pins s σ H D I h
  refine wpAny_Assign_Subscript (thn (hv pins s σ H _ I h) fun r s1 ⟨v, H1, I1, rv, q1⟩ => thn (ho pins s1 σ H1 _ I1 q1) fun u s2 ⟨x, H2, I2, rx, q2⟩ => thn (hi pins s2 σ H2 _ I2 q2) fun iv s3 ⟨y, H3, I3, ry, a, H4, ex, g, q3⟩ => ?_) hs
  subst ex
  obtain rfl : u = Value.ref a := rx
  exact d_setItem hu I3 g ry rv fun s4 I4 => ⟨σ, H4, I4, q3⟩
end


/-! ### displays -/
theorem dk_empty {P : Program} {w : World} {H : Hp} (h : Heap) (hb : sysModules < h.objs.size) : ObjOk P w H (h.push { cls := .type "dict", data := .dict #[] }) h.objs.size (.dK []) :=
  ⟨Nat.zero_le _, beq_eq_false_iff_ne.mpr (Ne.symm (Nat.ne_of_lt hb)), [], .nil, Heap.DictOf.new h⟩
/-- {}, to be a dict of the kind that is wanted -/
def tDNewK : TE := fun _ H Q => ∀ p, H p = none → Q (.ref p) (upd H p (.dK []))
section
variable {X : Cx} {pos : Pos}
theorem pe_dnewK : PE X (.Dict [] [] pos) tDNewK := fun pins s σ H Q I h =>
  wpAny_Dict_empty ⟨.ref s.heap.objs.size, _, I.laid (a := s.heap.objs.size) (o := .dK []) (t' := s.toks) (fun _ _ q => Heap.get?_push_of_some _ q) (Nat.le_refl _) (dk_empty s.heap I.big), rfl, h _ (I.hok.fresh (Nat.le_refl _))⟩
end

/-! ### methods -/


/-! ### dict(d): a copy -/


end L2
namespace L2
open PySem PySem.Spec PyProof.Rows
/-! ### a dict's pairs: keys that differ -/
end L2
/-! own classes: their methods and their making, as Has; a statement that is never come to; int(truth) -/
namespace L2
open PySem PySem.Spec PyProof.Rows
end L2
namespace L2
open PySem PySem.Spec PyProof.Rows
theorem call_intB {X : Cx} : CallR X (.type "int") (fun xs H Q => ∃ b, xs = [.bl b] ∧ Q (.int (if b = true then 1 else 0)) H) := by
  intro pins s σ H xs us Q I r h
  obtain ⟨b, rfl, q⟩ := h
  obtain ⟨u, rfl, ru⟩ := vals1 r
  cases ru
  exact call_int_bool ⟨.int (if b = true then 1 else 0), H, I.tok _, ⟨_, rfl⟩, q⟩
end L2

/-! for i, c in enumerate(text) -/
namespace L2
open PySem PySem.Spec PyProof.Rows
end L2

/-! t + u of tuples, == of lists of texts, groves behind one another -/
namespace L2
open PySem PySem.Spec PyProof.Rows
section
variable {X : Cx}
def rCatG (K : PySem.W.Frag) : R2 := fun x y H Q => ∃ l b xs zs, x = .ref l ∧ y = .ref b ∧ H l = some (.tup xs) ∧ H b = some (.tup zs) ∧ xs.length + zs.length ≤ sizeLine ∧ ∀ p H', Same H H' → H' p = some (.tup (xs ++ zs)) → Q (.ref p) H'
theorem op_catG : OpR X (binaryOp .Add) (rCatG X.K) := by
  intro pins s σ H x y v u Q I rx ry h
  obtain ⟨l, b, xs, zs, rfl, rfl, hl, hb, hz, q⟩ := h
  cases rx
  cases ry
  obtain ⟨its, r, p1, z1⟩ := I.tuple (SqT.of hl)
  obtain ⟨its2, r2, p2, z2⟩ := I.tuple (SqT.of hb)
  obtain ⟨⟨c1, d1, t1, s1⟩, ho, hc, n, hd⟩ := p1
  obtain ⟨⟨c2, d2, t2, s2⟩, ho2, hc2, n2, hd2⟩ := p2
  simp only at hc hd hc2 hd2
  subst hc hd hc2 hd2
  have k1 := r.length
  have k2 := r2.length
  by_cases e1 : its = []
  · subst e1
    cases r
    refine concat_meets ⟨_, ho, rfl⟩ ⟨_, ho2, rfl⟩ noFill_tuple_add seq_tuple_add PySem.F.slot_tuple_add PySem.F.entry_tuple_add (PySem.F.args_tuple_add_2 _ _) (tuple_addW0 l b _ _ n n2 d1 d2 s1 s2 rfl) ⟨ho, ho2, ?_⟩
    exact ⟨.ref b, H, I.tok _, rfl, q b H (Same.refl H) hb⟩
  by_cases e2 : its2 = []
  · subst e2
    cases r2
    refine concat_meets ⟨_, ho, rfl⟩ ⟨_, ho2, rfl⟩ noFill_tuple_add seq_tuple_add PySem.F.slot_tuple_add PySem.F.entry_tuple_add (PySem.F.args_tuple_add_2 _ _) (tuple_addW1 l b _ _ n n2 d1 d2 s1 s2 (by simpa using e1) rfl) ⟨ho, ho2, ?_⟩
    exact ⟨.ref l, H, I.tok _, rfl, q l H (Same.refl H) (by rw [List.append_nil]; exact hl)⟩
  · refine concat_meets ⟨_, ho, rfl⟩ ⟨_, ho2, rfl⟩ noFill_tuple_add seq_tuple_add PySem.F.slot_tuple_add PySem.F.entry_tuple_add (PySem.F.args_tuple_add_2 _ _) (tuple_addW2 l b _ _ n n2 d1 d2 s1 s2 (by simpa using e1) (by simpa using e2) (by rw [List.size_toArray, List.size_toArray]; (first | lia | omega))) ⟨ho, ho2, ?_⟩
    have ea : its.toArray ++ its2.toArray = (its ++ its2).toArray := by simp
    rw [ea]
    have hf : H s.heap.objs.size = none := I.hok.fresh (Nat.le_refl _)
    refine ⟨.ref s.heap.objs.size, upd H s.heap.objs.size (.tup (xs ++ zs)), I.laid (t' := s.toks) (fun b u e => Heap.get?_push_of_some _ e) (Nat.le_refl _) ?_, rfl, q _ _ (Same.new hf) upd_same⟩
    exact ⟨by rw [List.length_append]; exact hz, its ++ its2, r.append r2, _, Heap.get?_push_size _ rfl, rfl, _, rfl⟩
end
end L2
namespace Fg
open PySem L2 FgM
end Fg
namespace FgM
section
variable {A : Type}
def gapp : Gr A → Gr A → Gr A
  | .nil, h => h
  | .cons t w o, h => .cons t w (gapp o h)
variable [DecidableEq A]
end
end FgM
namespace Fg
open PySem L2 FgM
theorem RepG.gapp {H : Hp} : ∀ {xs ys : List V} {g h : Gr Str}, RepG H xs g → RepG H ys h → RepG H (xs ++ ys) (gapp g h)
  | _, _, _, _, .nil, k => k
  | _, _, _, _, .cons a b c d, k => .cons a b c (RepG.gapp d k)
end Fg

/-! recursion's ground, constants of the module, == of tuples by their lengths, blocks with captured names -/
namespace L2
open PySem PySem.Spec PyProof.Rows
theorem FnOk.none {P : Program} {w : World} {K : PySem.W.Frag} {mg : Str → Option Value} {base : Heap} {CX : CXT} {k : Nat} {f : Addr} {fd : FuncData} {ps : List Str} {sp : Sp} (h : ∀ vs H Q E, ¬ sp vs H Q E) : FnOk P w K mg base CX k f fd ps sp :=
  ⟨fun vs H Q E z => absurd z (h vs H Q E), fun A outer s H args us vs Q E hr e0 hb r z => absurd z (h vs H Q E)⟩
/-! captured names -/
theorem lookup_mem {β : Type} {x : Str} {c : β} : ∀ {l : List (Str × β)}, l.lookup x = some c → (x, c) ∈ l
  | [], h => by cases h
  | (y, d) :: l, h => by
    rw [List.lookup_cons] at h
    cases e : x == y with
    | true =>
      rw [e] at h
      cases h
      rw [beq_iff_eq.mp e]
      exact List.mem_cons_self ..
    | false =>
      rw [e] at h
      exact List.mem_cons_of_mem _ (lookup_mem h)
theorem cap_cl {env : Env} {cl : List (Str × Addr)} (h : ∀ p ∈ cl, env.cells.lookup p.1 = some p.2) : ∀ x c, cl.lookup x = some c → env.cells.lookup x = some c := fun x c e => h (x, c) (lookup_mem e)
theorem cap_has {scope : Scope} {env : Env} {cl : List (Str × Addr)} (h : ∀ y ∈ scope.names, (y.2 = .cell ∨ y.2 = .free) → ∃ c, cl.lookup y.1 = some c) : ∀ (C : Addr) (x : Str), ((compEnvC scope cl C env).kindOf x = some .cell ∨ (compEnvC scope cl C env).kindOf x = some .free) → ∃ c, cl.lookup x = some c := by
  have key : ∀ (k : NameKind) (x : Str), (k = .cell ∨ k = .free) → (scope.names.map fun (n, k) => if (k == .free && env.scope.kind == .function && env.kindOf n == some .cell) then (n, .cell) else (n, k)).lookup x = some k → ∃ c, cl.lookup x = some c := by
    intro k x hk e
    obtain ⟨⟨n, k0⟩, hy, he⟩ := List.mem_map.mp (lookup_mem e)
    by_cases hc : (k0 == .free && env.scope.kind == .function && env.kindOf n == some .cell) = true
    · simp only [hc, if_true] at he
      have h0 : k0 = .free := by
        simp only [Bool.and_eq_true] at hc
        have := hc.1.1
        cases k0 <;> first | rfl | exact absurd this (by decide)
      injection he with e1 e2
      subst e1
      exact h _ hy (.inr h0)
    · simp only [hc] at he
      injection he with e1 e2
      subst e1 e2
      exact h _ hy hk
  intro C x hx
  rcases hx with e | e
  · exact key _ x (.inl rfl) e
  · exact key _ x (.inr rfl) e
end L2
namespace L2
open PySem PySem.Spec PyProof.Rows
end L2

/-! a block's parts by names of their own (what comes behind a statement is then one word in a proof) -/
namespace L2
open PySem PySem.Spec PyProof.Rows
def sBody : Stmt → List Stmt
  | .For _ _ b _ _ => b
  | .While _ b _ _ => b
  | .If _ b _ _ => b
  | _ => []
def sElse : Stmt → List Stmt
  | .If _ _ b _ => b
  | _ => []
theorem hideI {X : Cx} {b : List Stmt} {D : Ends} {σ : St} {H : Hp} (s : List Stmt) {t : TS} (h : PSs X s t) (k : ∀ u, PSs X s u → u = t → ∃ t, PSs X b t ∧ t D σ H) : ∃ t, PSs X b t ∧ t D σ H := k t h rfl
theorem by_eq {u t : TS} (e : u = t) {D : Ends} {σ : St} {H : Hp} (h : t D σ H) : u D σ H := e ▸ h
theorem len1 {α : Type} : ∀ {us : List α}, us.length = 1 → ∃ a, us = [a]
  | [a], _ => ⟨a, rfl⟩
theorem lenS {α : Type} {n : Nat} : ∀ {us : List α}, us.length = n + 1 → ∃ a vs, us = a :: vs ∧ vs.length = n
  | a :: vs, h => ⟨a, vs, rfl, Nat.succ.inj h⟩
theorem len2 {α : Type} {us : List α} (h : us.length = 2) : ∃ a b, us = [a, b] := by
  obtain ⟨a, vs, rfl, h2⟩ := lenS h
  obtain ⟨b, rfl⟩ := len1 h2
  exact ⟨a, b, rfl⟩
theorem len3 {α : Type} {us : List α} (h : us.length = 3) : ∃ a b c, us = [a, b, c] := by
  obtain ⟨a, vs, rfl, h2⟩ := lenS h
  obtain ⟨b, c, rfl⟩ := len2 h2
  exact ⟨a, b, c, rfl⟩
theorem len4 {α : Type} {us : List α} (h : us.length = 4) : ∃ a b c d, us = [a, b, c, d] := by
  obtain ⟨a, vs, rfl, h2⟩ := lenS h
  obtain ⟨b, c, d, rfl⟩ := len3 h2
  exact ⟨a, b, c, d, rfl⟩
end L2

/-! exceptions of own classes: raised, passed on, caught -/
namespace L2
open PySem PySem.Spec PyProof.Rows
end L2

namespace L2
open PySem PySem.Spec PyProof.Rows
/-! ### callees that may raise -/
/-! ### which classes an except names -/
end L2

namespace L2
open PySem PySem.Spec PyProof.Rows
/-! ### try -/
end L2

namespace L2
open PySem PySem.Spec PyProof.Rows PySem.W
/-! ### an own class of errors, under ValueError by one class more -/
end L2

namespace L2
open PySem PySem.Spec PyProof.Rows PySem.W Builtin Builtin.ObjectAttr
end L2

namespace L2
open PySem PySem.Spec PyProof.Rows PySem.W Builtin Builtin.ObjectAttr
end L2

namespace L2
open PySem PySem.Spec PyProof.Rows PySem.W
end L2

namespace L2
open PySem PySem.Spec PyProof.Rows PySem.W
end L2

namespace L2
open PySem PySem.Spec PyProof.Rows PySem.W
end L2

/-! texts with values put in -/
namespace L2
open PySem PySem.Spec PyProof.Rows
end L2

/-! a display of many written texts -/
namespace L2
open PySem PySem.Spec PyProof.Rows
end L2
namespace L2
open PySem PySem.Spec PyProof.Rows
end L2
namespace L2
open PySem PySem.Spec PyProof.Rows PySem.W
variable {X : Cx}
end L2

/-! sorted: what it gives is what it was given, in some order, at any length -/
namespace Srt
open PySem PyProof.Rows
end Srt

namespace Srt
open PySem PyProof.Rows
end Srt

namespace Srt
open PySem PyProof.Rows
end Srt

namespace Srt
open PySem PyProof.Rows
end Srt

namespace Srt
open PySem PyProof.Rows
end Srt

namespace Srt
open PySem PyProof.Rows
end Srt

namespace Srt
open PySem PyProof.Rows
end Srt

namespace Srt
open PySem PyProof.Rows
end Srt

namespace Srt
open PySem PyProof.Rows
end Srt

namespace Srt
open PySem PyProof.Rows
end Srt

namespace Srt
open PySem PyProof.Rows PySem.W
end Srt

namespace L2
open PySem PySem.Spec PyProof.Rows
end L2

namespace L2
open PySem PySem.Spec PyProof.Rows PySem.W
end L2

namespace L2
open PySem PySem.Spec PyProof.Rows PySem.W
end L2
namespace Srt
open PySem PyProof.Rows PySem.W
end Srt
namespace L2
open PySem PySem.Spec PyProof.Rows
end L2

namespace L2
open PySem PySem.Spec PyProof.Rows
/-- the numbers lo, lo + c, .. : n of them -/
def Itst (lo c : Int) (n : Nat) : It := ⟨fun i _ => i < n, fun i H x H' => H' = H ∧ x = .int (lo + i * c), fun i _ => n ≤ i⟩
theorem turn_steps {P : Program} {w : World} {K : PySem.W.Frag} {tg : Expr} (it : Addr) (lo c : Int) (n : Nat) : Turn P w K tg (Itst lo c n) [it] it (fun i h => IsRangeIter h it (lo + (i : Nat) * c) ((n : Int) - (i : Nat)) c) where
  mem := List.mem_singleton.mpr rfl
  obj := fun i h st b hb => by
    obtain rfl := List.mem_singleton.mp hb
    exact ⟨_, st, fun v z => by
      have z2 : Data.fields _ = Data.cell v := z
      exact nomatch z2⟩
  keep := fun i h h' st k => k it (List.mem_singleton.mpr rfl) _ st
  item := by
    intro X eP ew eK hc i pins s σ H E I hf st hg
    subst eP ew eK
    obtain ⟨f0, f1, f2, f3, f4, f5⟩ := hf it (List.mem_singleton.mpr rfl)
    refine (Walks.range (prog := X.prog) (w := X.w) (I.ok.hd hc) it lo c n).item i s _ _ hg st fun v h' tk hv st' kk => ?_
    obtain ⟨t, rfl⟩ := hv
    have I1 : Inv X pins σ H { s with heap := h', toks := tk } := I.turned (fun b o hb e => kk b o (fun z => hb (List.mem_singleton.mp z)) e) f0 f1 f3 f4 f5
    exact ⟨_, rfl, go_of (s := { s with heap := h', toks := tk }) (n := "range_iterator") st' rfl rfl (by decide) ⟨.int (lo + i * c), H, I1, ⟨t, rfl⟩, ⟨rfl, rfl⟩, st', fun b hb => (hf b hb).1⟩⟩
  done := by
    intro X eP ew eK hc i pins s σ H E I hf st hg
    subst eP ew eK
    obtain ⟨f0, f1, f2, f3, f4, f5⟩ := hf it (List.mem_singleton.mpr rfl)
    have hni : n ≤ i := hg
    exact wpAny_pyNext_range_end (I.ok.hd hc) st (by (first | lia | omega)) fun h' eb => ⟨rfl, I.turned (t' := s.toks) (fun b o hb e => eb b o hb e) f0 f1 f3 f4 f5⟩
  self := fun _ _ _ _ _ st h => wpAny_pyIter_rangeiter st h
theorem small_step {a b c : Int} (ha : -1000000 ≤ a) (ha' : a ≤ 1000000) (hb : -1000000 ≤ b) (hb' : b ≤ 1000000) (hc : c = 7 ∨ c = -1) : Builtin.Range.small a b c = true := by
  unfold Builtin.Range.small Builtin.Range.rangeSize
  simp only [Builtin.Range.rangeFitsLong, Bool.and_eq_true, Bool.or_eq_true, decide_eq_true_eq, beq_iff_eq]
  rcases hc with rfl | rfl
  · simp only [show (7 : Int) > 0 by decide, if_true]
    split <;> refine ⟨⟨⟨⟨⟨?_, ?_⟩, ?_, ?_⟩, by decide, by decide⟩, ?_, ?_⟩, ?_⟩ <;> first | (first | lia | omega) | (right; simp; (first | lia | omega)) | (left; rfl)
  · simp only [show ¬ ((-1 : Int) > 0) by decide, if_false, show -(-1 : Int) = 1 by decide, Int.ediv_one]
    split <;> refine ⟨⟨⟨⟨⟨?_, ?_⟩, ?_, ?_⟩, by decide, by decide⟩, ?_, ?_⟩, ?_⟩ <;> first | (first | lia | omega) | (right; simp; (first | lia | omega)) | (left; rfl)
def iRng3 (ta : TA) : TI := fun σ H R => ta σ H fun vs H1 => ∃ a b c : Int, vs = [.int a, .int b, .int c] ∧ (-1000000 ≤ a ∧ a ≤ 1000000 ∧ -1000000 ≤ b ∧ b ≤ 1000000) ∧ (c = 7 ∨ c = -1) ∧ R (Itst a c (Builtin.Range.rangeSize a b c).toNat) H1
section
variable {X : Cx} {tg : Expr}
theorem pi_range3 {a b c : Expr} {ta : TA} {p pos : Pos} (hg : Gl X "range") (hm : X.mg "range" = none) (ha : PA X [a, b, c] ta) (hs : starEach [a, b, c] X.env = [(false, eval a X.env), (false, eval b X.env), (false, eval c X.env)] := by rfl)
    (hs2 : starEach [b, c] X.env = [(false, eval b X.env), (false, eval c X.env)] := by rfl) (hs3 : starEach [c] X.env = [(false, eval c X.env)] := by rfl) : PI X tg (.Call (.Name "range" p) [a, b, c] [] pos) (iRng3 ta) := by
  intro pins s σ H R I h
  refine Call_ (ld_blt I hg hm boot_range (PyProof.Rows.callWith_type1 (thn (ha pos pins s σ H _ I h) fun us s1 ⟨vs, H1, I1, r1, q1⟩ => ?_) (by rw [hs, hs2]) (by rw [hs2]; rfl)))
  obtain ⟨x, y, z, e, ⟨q1, q2, q3, q4⟩, hz, q⟩ := q1
  subst e
  have hz0 : z ≠ 0 := by rcases hz with rfl | rfl <;> decide
  have hzs : z.natAbs < 1073741824 := by rcases hz with rfl | rfl <;> decide
  cases r1 with
  | cons r rr =>
    cases rr with
    | cons r2 rr =>
      cases rr with
      | cons r3 rr =>
        cases rr
        obtain ⟨t, rfl⟩ := r
        obtain ⟨t2, rfl⟩ := r2
        obtain ⟨t3, rfl⟩ := r3
        refine call_range_3 hz0 ?_ (.inl (PyProof.noPylong_small hzs))
        refine wpAny_pyIter_range (IsRange.new ..) (small_step q1 q2 q3 q4 hz) ?_
        have I2 : Inv X pins σ H1 { s1 with heap := s1.heap.push { cls := .type "range", data := .fields #[.int x t, .int y t2, .int z t3] } } := I1.kept (t' := s1.toks) fun b o e => Heap.get?_push_of_some _ e
        refine ⟨_, [_], _, _, H1, rfl, I2.kept (t' := s1.toks) fun b o e => Heap.get?_push_of_some _ e, turn_steps _ x z (Builtin.Range.rangeSize x y z).toNat, ?_, fun b hb => ?_, q⟩
        · have hn : 0 ≤ Builtin.Range.rangeSize x y z := by
            unfold Builtin.Range.rangeSize
            rcases hz with rfl | rfl
            · rw [if_pos (by decide)]
              split <;> (first | lia | omega)
            · rw [if_neg (by decide), show -(-1 : Int) = 1 by decide, Int.ediv_one]
              split <;> (first | lia | omega)
          show IsRangeIter _ _ (x + ((0 : Nat) : Int) * z) (((Builtin.Range.rangeSize x y z).toNat : Int) - ((0 : Nat) : Int)) z
          rw [Int.toNat_of_nonneg hn, show x + ((0 : Nat) : Int) * z = x by simp, show Builtin.Range.rangeSize x y z - ((0 : Nat) : Int) = Builtin.Range.rangeSize x y z by simp]
          exact Heap.get?_push_size _ rfl
        · obtain rfl := List.mem_singleton.mp hb
          exact I2.fpOk (Nat.le_refl _) (I2.hok.fresh (Nat.le_refl _))
end
theorem for_steps {lo c : Int} {n : Nat} {g : TG} {tb : TS} {D : Ends} {σ : St} {H : Hp} (Pv : Nat → St → Hp → Prop) (h0 : Pv 0 σ H)
    (hs : ∀ i σ H, i < n → Pv i σ H → g (.int (lo + i * c)) σ H fun σ2 H2 => tb { D with nx := Pv (i + 1), ct := Pv (i + 1), bk := D.nx } σ2 H2) (hd : ∀ σ H, Pv n σ H → D.nx σ H) :
    ∃ W : Nat → Nat → St → Hp → Prop, (∃ m, W 0 m σ H) ∧ ∀ i m σ H, W i m σ H →
      ((Itst lo c n).stop i H ∧ D.nx σ H) ∨ ((Itst lo c n).go i H ∧ ∃ N : St → Hp → Prop, (∀ σ' H', N σ' H' → ∃ m', m' < m ∧ W (i + 1) m' σ' H') ∧ ∀ x H', (Itst lo c n).yld i H x H' → g x σ H' fun σ2 H2 => tb { D with nx := N, ct := N, bk := D.nx } σ2 H2) := by
  refine ⟨fun i m σ H => m = n - i ∧ i ≤ n ∧ Pv i σ H, ⟨n, rfl, Nat.zero_le _, h0⟩, ?_⟩
  rintro i m σ H ⟨rfl, hi, hp⟩
  rcases Nat.lt_or_ge i n with hl | hl
  · refine .inr ⟨hl, Pv (i + 1), fun σ' H' hN => ⟨n - (i + 1), by (first | lia | omega), rfl, hl, hN⟩, ?_⟩
    rintro x H' ⟨rfl, rfl⟩
    exact hs i σ _ hl hp
  · obtain rfl : i = n := by (first | lia | omega)
    exact .inl ⟨hl, hd σ H hp⟩
end L2

/-! the table of a set: a search always ends -/
namespace Sts
open PySem
/-! the steps of a search -/
end Sts

/-! a table laid anew holds all its elements -/
namespace Sts
open PySem
end Sts

/-! places in rising order -/
namespace Sts
open PySem
end Sts

/-! tuples in a set -/
namespace Sts
open PySem
end Sts

/-! a tuple added to a set -/
namespace Sts
open PySem
end Sts

namespace Sts
open PySem
end Sts

/-! set(list of tuples) -/
namespace Sts
open PySem PyProof.Rows
end Sts

namespace Sts
open PySem PyProof.Rows
end Sts

/-! a set walked -/
namespace Sts
open PySem PyProof.Rows
end Sts

namespace Sts
open PySem PyProof.Rows
end Sts

namespace Sts
open PySem PyProof.Rows
end Sts

namespace Sts
open PySem PyProof.Rows PySem.W
end Sts

namespace Srt
open PySem PyProof.Rows PySem.W
end Srt

namespace Sts
open PySem PyProof.Rows PySem.W Srt
end Sts
namespace L2
open PySem PySem.Spec PyProof.Rows PySem.W
end L2

/-! sorted: the order too -/
namespace Srd
open PySem PyProof.Rows Srt
end Srd

namespace Srd
open PySem PyProof.Rows Srt
end Srd

namespace Srd
open PySem PyProof.Rows Srt
end Srd

namespace Srd
open PySem PyProof.Rows Srt
end Srd

namespace Srd
open PySem PyProof.Rows Srt
end Srd

namespace Srd
open PySem PyProof.Rows Srt
end Srd

namespace Srd
open PySem PyProof.Rows Srt
end Srd

namespace Srd
open PySem PyProof.Rows Srt
end Srd

namespace Srd
open PySem PyProof.Rows Srt PySem.W
end Srd

/-! a list has no keys() -/
namespace Srd
open PySem PyProof.Rows
end Srd

/-! dict(list of pairs) -/
namespace Srd
open PySem PyProof.Rows
end Srd

/-! dict(list of pairs) and sorted(dict of ints), as rules -/
namespace L2
open PySem PySem.Spec PyProof.Rows PySem.W
end L2

/-! arguments without a star: what has no star, by its head alone -/
namespace L2
open PySem PySem.Spec PyProof.Rows
end L2
/-! expressions and arguments, shut: nothing is unfolded while a deep display is put together -/
namespace L2
open PySem PySem.Spec PyProof.Rows
end L2

/-! sets of tuples: every element stands on its own way of probes -/
namespace Stg
open PySem Sts
end Stg

namespace Stg
open PySem Sts
end Stg

namespace Stg
open PySem Sts
end Stg

/-! the order of tuples of an int, a text and two ints -/
namespace Srd
open PySem PyProof.Rows Srt PySem.W
end Srd

namespace Stg
open PySem PyProof.Rows PySem.W Sts
end Stg

/-! strong sets of numbers; set(list) for any kind of set -/
namespace Stg
open PySem PyProof.Rows Sts
end Stg

/-! sorted(set(l)) and sorted(l), with all that can be said -/
namespace Srd
end Srd
namespace L2
open PySem PySem.Spec PyProof.Rows PySem.W Srd Sts Stg
end L2

namespace L2
open PySem PySem.Spec PyProof.Rows PySem.W Srd Sts Stg
end L2

/-! for x, y in zip(xs, ys) -/
namespace L2
open PySem PySem.Spec PyProof.Rows
end L2

/-! sorted(l) of tuples (int, str, int, int) and of ints: the same items, rising -/
namespace L2
open PySem PySem.Spec PyProof.Rows PySem.W Srd
end L2

/-! range(a, b, 2) -/
namespace L2
open PySem PySem.Spec PyProof.Rows
end L2

namespace L2
open PySem PySem.Spec PyProof.Rows
end L2

/-! len(set(l)) of tuples (int, str, int, int): how many unlike ones -/
namespace L2
open PySem PySem.Spec PyProof.Rows PySem.W Srd Sts Stg
end L2

/-! sets of texts: sorted(set(l)) -/
namespace Stg
open PySem PyProof.Rows Sts
end Stg
namespace L2
open PySem PySem.Spec PyProof.Rows PySem.W Srd Sts Stg
end L2

/-! for x in reversed(l) -/
namespace L2
open PySem PySem.Spec PyProof.Rows
end L2

/-! forms in the heap, as lists of all that they hold; what their makers promise; kinds of groves -/
namespace Fg
open PySem L2 FgM
theorem pg_tupK {X : Cx} {K : PySem.W.Frag} {es : List Expr} {k : Nat} {t : TGs} {n : Nat} {pos : Pos} (hK : X.K = K) (hc : X.calm = true) (h : PGs X es t) (hn : (assignEach es X.env).length = n := by rfl) (hst : (assignEach es X.env).findIdx? (·.1) = none := by rfl) : PG X (.Tuple es k pos) (gTup K n t) := by
  subst hK
  exact pg_tup hc h hn hst
theorem comp_tup {K : PySem.W.Frag} {a p : Addr} {xs : List V} {g : TG} {te : TE} {R : Hp → Prop} {σ0 : St} {H0 : Hp} (Pv : Nat → List V → St → Hp → Prop) (h0 : Pv 0 [] σ0 H0)
    (hl : ∀ i ys σ H, i ≤ xs.length → Pv i ys σ H → SqT K H a xs ∧ H p = some (.lst ys))
    (hs : ∀ i ys x σ H, i < xs.length → xs[i]? = some x → Pv i ys σ H → g x σ H fun σ3 H4 => te σ3 H4 fun v H5 => H5 p = some (.lst ys) ∧ ys.length < sizeLine ∧ ∃ m', m' < xs.length - i ∧ CW xs.length Pv (i + 1) m' (ys ++ [v]) σ3 (upd H5 p (.lst (ys ++ [v]))))
    (hd : ∀ ys σ H, Pv xs.length ys σ H → R H) :
    ∃ W : Nat → Nat → List V → St → Hp → Prop, (∃ m, W 0 m [] σ0 H0) ∧ ∀ i m ys σc H2, W i m ys σc H2 → H2 p = some (.lst ys) ∧ (((Itt K a).stop i H2 ∧ R H2) ∨ ((Itt K a).go i H2 ∧ ∀ x H3, (Itt K a).yld i H2 x H3 → g x σc H3 fun σ3 H4 => te σ3 H4 fun v H5 =>
      H5 p = some (.lst ys) ∧ ys.length < sizeLine ∧ ∃ m', m' < m ∧ W (i + 1) m' (ys ++ [v]) σ3 (upd H5 p (.lst (ys ++ [v]))))) := by
  refine ⟨CW xs.length Pv, ⟨_, rfl, Nat.zero_le _, h0⟩, ?_⟩
  rintro i m ys σ H ⟨rfl, hi, hp⟩
  obtain ⟨h1, h2⟩ := hl i ys σ H hi hp
  refine ⟨h2, ?_⟩
  by_cases hlt : i < xs.length
  · refine .inr ⟨⟨xs, xs[i], h1, List.getElem?_eq_getElem hlt⟩, ?_⟩
    rintro x H3 ⟨rfl, hx⟩
    exact hs i ys x σ _ hlt (hx xs h1) hp
  · refine .inl ⟨⟨xs, h1, by (first | lia | omega)⟩, hd ys σ H ?_⟩
    have e : i = xs.length := by (first | lia | omega)
    rw [← e]
    exact hp
theorem take_succ' {α : Type} {l : List α} {i : Nat} {x : α} (h : l[i]? = some x) : l.take (i + 1) = l.take i ++ [x] := by
  rw [List.take_add_one, h]
  rfl
theorem comp_range {lo : Int} {n : Nat} {p : Addr} {g : TG} {te : TE} {R : Hp → Prop} {σ0 : St} {H0 : Hp} (Pv : Nat → List V → St → Hp → Prop) (h0 : Pv 0 [] σ0 H0)
    (hl : ∀ i ys σ H, i ≤ n → Pv i ys σ H → H p = some (.lst ys))
    (hs : ∀ i ys σ H, i < n → Pv i ys σ H → g (.int (lo + i)) σ H fun σ3 H4 => te σ3 H4 fun v H5 => H5 p = some (.lst ys) ∧ ys.length < sizeLine ∧ ∃ m', m' < n - i ∧ CW n Pv (i + 1) m' (ys ++ [v]) σ3 (upd H5 p (.lst (ys ++ [v]))))
    (hd : ∀ ys σ H, Pv n ys σ H → R H) :
    ∃ W : Nat → Nat → List V → St → Hp → Prop, (∃ m, W 0 m [] σ0 H0) ∧ ∀ i m ys σc H2, W i m ys σc H2 → H2 p = some (.lst ys) ∧ (((Itr lo n).stop i H2 ∧ R H2) ∨ ((Itr lo n).go i H2 ∧ ∀ x H3, (Itr lo n).yld i H2 x H3 → g x σc H3 fun σ3 H4 => te σ3 H4 fun v H5 =>
      H5 p = some (.lst ys) ∧ ys.length < sizeLine ∧ ∃ m', m' < m ∧ W (i + 1) m' (ys ++ [v]) σ3 (upd H5 p (.lst (ys ++ [v]))))) := by
  refine ⟨CW n Pv, ⟨_, rfl, Nat.zero_le _, h0⟩, ?_⟩
  rintro i m ys σ H ⟨rfl, hi, hp⟩
  refine ⟨hl i ys σ H hi hp, ?_⟩
  by_cases hlt : i < n
  · refine .inr ⟨hlt, ?_⟩
    rintro x H3 ⟨rfl, rfl⟩
    exact hs i ys σ _ hlt hp
  · have e : i = n := by (first | lia | omega)
    subst e
    exact .inl ⟨Nat.le_refl _, hd ys σ H hp⟩
theorem ix_listK {X : Cx} {K : PySem.W.Frag} (h : X.K = K) : IxR X (rIxL K) := h ▸ ix_list
theorem ix_nat {n k : Nat} (h : k < n) : ixN n ((k : Nat) : Int) = some k := by
  unfold ixN
  rw [if_pos (by (first | lia | omega)), if_pos (by (first | lia | omega))]
  rfl
theorem modN (x : Int) {n : Nat} (h : 0 < n) : ∃ k : Nat, x % (n : Int) = (k : Int) ∧ k < n := by
  have h1 := Int.emod_nonneg x (by (first | lia | omega) : (n : Int) ≠ 0)
  have h2 := Int.emod_lt_of_pos x (by (first | lia | omega) : (0 : Int) < (n : Int))
  obtain ⟨k, hk⟩ := Int.eq_ofNat_of_zero_le h1
  exact ⟨k, hk, by (first | lia | omega)⟩
/-! forms with all that is known of them -/
theorem nodup_le {α : Type} [DecidableEq α] : ∀ {l m : List α}, l.Nodup → (∀ x ∈ l, x ∈ m) → l.length ≤ m.length
  | [], _, _, _ => Nat.zero_le _
  | a :: l, m, hn, h => by
    obtain ⟨h1, h2⟩ := List.nodup_cons.mp hn
    have ha := h a (List.mem_cons_self ..)
    have h3 := nodup_le (m := m.erase a) h2 fun x hx => (List.mem_erase_of_ne (fun (e : x = a) => h1 (e ▸ hx))).mpr (h x (List.mem_cons_of_mem _ hx))
    rw [List.length_erase_of_mem ha] at h3
    have := List.length_pos_of_mem ha
    rw [List.length_cons]
    (first | lia | omega)
end Fg

namespace Fg
open PySem L2 FgM
/-! kinds of groves by a form; words gone through from the last one -/
/-- the rest of a row that begins here, and those behind the tags that are open here, the innermost first -/
def bk : List Str → Gr Str × List (Gr Str)
  | [] => (.nil, [])
  | w :: ws => if w = SL then (.nil, (bk ws).1 :: (bk ws).2) else
    match (bk ws).2 with
    | [] => (.nil, [])
    | b :: pl => (.cons w (bk ws).1 b, pl)
theorem bk_sl (ws : List Str) : bk (SL :: ws) = (.nil, (bk ws).1 :: (bk ws).2) := by
  rw [bk, if_pos rfl]
theorem bk_tag {w : Str} {ws : List Str} (hw : w ≠ SL) {b : Gr Str} {pl : List (Gr Str)} (h : (bk ws).2 = b :: pl) : bk (w :: ws) = (.cons w (bk ws).1 b, pl) := by
  rw [bk, if_neg hw, h]
theorem can_len : ∀ {ws : List Str} {n : Nat}, Can SL n ws → (bk ws).2.length = n
  | [], n, h => by
    have h' : n = 0 := h
    subst h'
    rfl
  | w :: ws, n, h => by
    by_cases e : w = SL
    · subst e
      obtain ⟨h1, h2⟩ := can_end.mp h
      rw [bk_sl, List.length_cons, can_len h2]
      (first | lia | omega)
    · have h2 := can_len ((can_tag e).mp h)
      cases hb : (bk ws).2 with
      | nil =>
        rw [hb] at h2
        cases h2
      | cons b pl =>
        rw [bk_tag e hb]
        rw [hb] at h2
        simpa using h2
theorem can_split : ∀ {xs ys : List Str} {n : Nat}, Can SL n (xs ++ ys) → ∃ k : Nat, (k : Int) = n + hgt SL xs ∧ Can SL k ys
  | [], ys, n, h => ⟨n, by simp [hgt], h⟩
  | x :: xs, ys, n, h => by
    by_cases e : x = SL
    · subst e
      obtain ⟨h1, h2⟩ := can_end.mp h
      obtain ⟨k, hk, hc⟩ := can_split h2
      refine ⟨k, ?_, hc⟩
      simp only [hgt, if_true]
      (first | lia | omega)
    · obtain ⟨k, hk, hc⟩ := can_split ((can_tag e).mp h)
      refine ⟨k, ?_, hc⟩
      simp only [hgt, if_neg e]
      (first | lia | omega)
end Fg

namespace Fg
open PySem L2 FgM
/-! lists of kinds, one for each rest of a row -/
theorem can_drop {ws : List Str} (h : Can SL 0 ws) (i : Nat) : ∃ k, Can SL k (ws.drop i) := by
  have h' : Can SL 0 (ws.take i ++ ws.drop i) := by rw [List.take_append_drop]; exact h
  obtain ⟨k, _, hk⟩ := can_split h'
  exact ⟨k, hk⟩
/-! what the makers of words and forms promise -/
end Fg

/-! rows again and again -/
namespace Fg
open PySem L2 FgM
end Fg

/-! d.setdefault(k, x); sorted(d, reverse=True) of a dict with whole numbers as keys -/
namespace L2
open PySem PySem.Spec PyProof.Rows
end L2

/-! places of tags and of their ends; dicts by whole numbers -/
namespace Fg
open PySem L2 FgM
/-- the places of the open tags (the innermost first), and each tag's place with its end's -/
def cst (ws : List Str) : Nat → List Nat × List (Nat × Nat)
  | 0 => ([], [])
  | i + 1 => if ws[i]? = some SL then ((cst ws i).1.tail, (cst ws i).2 ++ (cst ws i).1.head?.toList.map (·, i)) else (i :: (cst ws i).1, (cst ws i).2)
theorem cst_end {ws : List Str} {i o : Nat} {os : List Nat} (h : ws[i]? = some SL) (e : (cst ws i).1 = o :: os) : cst ws (i + 1) = (os, (cst ws i).2 ++ [(o, i)]) := by
  show (if _ then _ else _) = _
  rw [if_pos h, e]
  rfl
theorem cst_tag {ws : List Str} {i : Nat} {w : Str} (h : ws[i]? = some w) (hw : w ≠ SL) : cst ws (i + 1) = (i :: (cst ws i).1, (cst ws i).2) := by
  show (if _ then _ else _) = _
  rw [if_neg (by rw [h]; exact fun e => hw (by injection e))]
theorem drop_here {ws : List Str} {i : Nat} {w : Str} (h : ws[i]? = some w) : ws.drop i = w :: ws.drop (i + 1) := by
  obtain ⟨hi, e⟩ := List.getElem?_eq_some_iff.mp h
  rw [List.drop_eq_getElem_cons hi, e]
/-- all that is known of them -/
structure Cst (ws : List Str) (i : Nat) : Prop where
  len : (cst ws i).1.length = (bk (ws.drop i)).2.length
  at_ : ∀ (m o : Nat), (cst ws i).1[m]? = some o → (bk (ws.drop (o + 1))).2[0]? = (bk (ws.drop i)).2[m]?
  pair : ∀ p e : Nat, (p, e) ∈ (cst ws i).2 → (bk (ws.drop (p + 1))).2[0]? = some (bk (ws.drop (e + 1))).1 ∧ p < e ∧ e < i
  mem : ∀ p : Nat, (p ∈ (cst ws i).1 ∨ p ∈ (cst ws i).2.map (·.1)) ↔ ∃ w, p < i ∧ ws[p]? = some w ∧ w ≠ SL
  nd : ((cst ws i).1 ++ (cst ws i).2.map (·.1)).Nodup
  cnt : (cst ws i).1.length + 2 * (cst ws i).2.length = i
theorem cst_ok {ws : List Str} (hc : Can SL 0 ws) : ∀ i, i ≤ ws.length → Cst ws i
  | 0, _ => ⟨by
      rw [List.drop_zero, can_len hc]
      rfl, (fun m o h => by cases m <;> cases h), (fun p e h => (nomatch h)), (fun p => ⟨fun h => h.elim (fun h => (nomatch h)) (fun h => (nomatch h)), fun ⟨_, h, _⟩ => absurd h (Nat.not_lt_zero _)⟩), List.nodup_nil, rfl⟩
  | i + 1, hi => by
    have x := cst_ok hc i (by (first | lia | omega))
    obtain ⟨w, hw⟩ : ∃ w, ws[i]? = some w := ⟨_, List.getElem?_eq_getElem (by (first | lia | omega))⟩
    by_cases e : w = SL
    · subst e
      have hb : bk (ws.drop i) = (.nil, (bk (ws.drop (i + 1))).1 :: (bk (ws.drop (i + 1))).2) := by rw [drop_here hw, bk_sl]
      cases hs : (cst ws i).1 with
      | nil =>
        have := x.len
        rw [hs, hb] at this
        cases this
      | cons o os =>
        have hz := cst_end hw hs
        obtain ⟨x1, x2, x3, x4, x5, x6⟩ := x
        rw [hs] at x1 x2 x4 x5 x6
        rw [hb] at x1 x2
        refine ⟨?_, fun m o' h => ?_, fun p e h => ?_, fun p => ?_, ?_, ?_⟩
        · rw [hz]
          simpa using x1
        · rw [hz] at h
          have := x2 (m + 1) o' (by rw [List.getElem?_cons_succ]; exact h)
          rw [List.getElem?_cons_succ] at this
          exact this
        · rw [hz] at h
          rcases List.mem_append.mp h with h | h
          · obtain ⟨a, b, c⟩ := x3 p e h
            exact ⟨a, b, by (first | lia | omega)⟩
          · have h' := List.mem_singleton.mp h
            injection h' with h1 h2
            subst h1 h2
            refine ⟨x2 0 p rfl, ?_, by (first | lia | omega)⟩
            obtain ⟨w', h1, _⟩ := (x4 p).mp (.inl (List.mem_cons_self ..))
            exact h1
        · rw [hz]
          have := x4 p
          constructor
          · intro h
            have h' : p ∈ o :: os ∨ p ∈ (cst ws i).2.map (·.1) := by
              rcases h with h | h
              · exact .inl (List.mem_cons_of_mem _ h)
              · rw [List.map_append] at h
                rcases List.mem_append.mp h with h | h
                · exact .inr h
                · exact .inl (by rw [List.mem_singleton.mp h]; exact List.mem_cons_self ..)
            obtain ⟨w', h1, h2, h3⟩ := this.mp h'
            exact ⟨w', by (first | lia | omega), h2, h3⟩
          · rintro ⟨w', h1, h2, h3⟩
            have hpi : p ≠ i := fun z => by
              rw [z, hw] at h2
              injection h2 with h2
              exact h3 h2.symm
            rw [List.map_append]
            rcases this.mpr ⟨w', by (first | lia | omega), h2, h3⟩ with h | h
            · rcases List.mem_cons.mp h with rfl | h
              · exact .inr (List.mem_append_right _ (List.mem_singleton.mpr rfl))
              · exact .inl h
            · exact .inr (List.mem_append_left _ h)
        · rw [hz, List.map_append]
          have hp : (os ++ ((cst ws i).2.map (·.1) ++ [o])).Perm (o :: os ++ (cst ws i).2.map (·.1)) := by
            rw [← List.append_assoc]
            exact List.perm_append_comm
          exact hp.nodup_iff.mpr x5
        · rw [hz]
          show os.length + 2 * ((cst ws i).2 ++ [(o, i)]).length = i + 1
          rw [List.length_append, List.length_singleton]
          rw [List.length_cons] at x6
          (first | lia | omega)
    · have hz := cst_tag hw e
      have hcd : ∃ k, Can SL k (ws.drop i) := can_drop hc i
      obtain ⟨k, hk⟩ := hcd
      rw [drop_here hw] at hk
      have hk' := can_len ((can_tag e).mp hk)
      cases hp : (bk (ws.drop (i + 1))).2 with
      | nil =>
        rw [hp] at hk'
        cases hk'
      | cons b pl =>
        have hb : bk (ws.drop i) = (.cons w (bk (ws.drop (i + 1))).1 b, pl) := by rw [drop_here hw, bk_tag e hp]
        obtain ⟨x1, x2, x3, x4, x5, x6⟩ := x
        rw [hb] at x1 x2
        refine ⟨?_, fun m o' h => ?_, fun p e' h => ?_, fun p => ?_, ?_, ?_⟩
        · rw [hz, hp, List.length_cons, List.length_cons, x1]
        · rw [hz] at h
          rw [hp]
          cases m with
          | zero =>
            injection h with h
            subst h
            rw [hp]
          | succ m =>
            rw [List.getElem?_cons_succ] at h ⊢
            exact x2 m o' h
        · rw [hz] at h
          obtain ⟨a, b, c⟩ := x3 p e' h
          exact ⟨a, b, by (first | lia | omega)⟩
        · rw [hz]
          have := x4 p
          constructor
          · rintro (h | h)
            · rcases List.mem_cons.mp h with rfl | h
              · exact ⟨w, by (first | lia | omega), hw, e⟩
              · obtain ⟨w', h1, h2, h3⟩ := this.mp (.inl h)
                exact ⟨w', by (first | lia | omega), h2, h3⟩
            · obtain ⟨w', h1, h2, h3⟩ := this.mp (.inr h)
              exact ⟨w', by (first | lia | omega), h2, h3⟩
          · rintro ⟨w', h1, h2, h3⟩
            by_cases hpi : p = i
            · exact .inl (by rw [hpi]; exact List.mem_cons_self ..)
            · rcases this.mpr ⟨w', by (first | lia | omega), h2, h3⟩ with h | h
              · exact .inl (List.mem_cons_of_mem _ h)
              · exact .inr h
        · rw [hz]
          refine List.nodup_cons.mpr ⟨fun h => ?_, x5⟩
          have h' : i ∈ (cst ws i).1 ∨ i ∈ (cst ws i).2.map (·.1) := List.mem_append.mp h
          obtain ⟨_, h1, _⟩ := (x4 i).mp h'
          (first | lia | omega)
        · rw [hz]
          show (i :: (cst ws i).1).length + 2 * (cst ws i).2.length = i + 1
          rw [List.length_cons]
          (first | lia | omega)
/-- the pairs as they stand in the dict -/
def kvC (ps : List (Nat × Nat)) : List (Key × V) := ps.map fun p => (Sum.inl (p.1 : Int), V.int (p.2 : Int))
theorem kvC_none {ps : List (Nat × Nat)} {p : Nat} (h : p ∉ ps.map (·.1)) : valV (kvC ps) (Sum.inl (p : Int)) = none := by
  induction ps with
  | nil => rfl
  | cons x ps ih =>
    rw [List.map_cons, List.mem_cons, not_or] at h
    show valV ((Sum.inl (x.1 : Int), V.int (x.2 : Int)) :: kvC ps) _ = none
    rw [valV_neg (fun z => h.1 (by injection z with z; exact (Int.ofNat.inj z).symm))]
    exact ih h.2
theorem kvC_some {ps : List (Nat × Nat)} {p e : Nat} (hn : (ps.map (·.1)).Nodup) (h : (p, e) ∈ ps) : valV (kvC ps) (Sum.inl (p : Int)) = some (.int (e : Int)) := by
  induction ps with
  | nil => cases h
  | cons x ps ih =>
    rw [List.map_cons, List.nodup_cons] at hn
    show valV ((Sum.inl (x.1 : Int), V.int (x.2 : Int)) :: kvC ps) _ = _
    rcases List.mem_cons.mp h with e1 | h
    · subst e1
      rw [valV_pos rfl]
    · rw [valV_neg (fun z => hn.1 (by injection z with z; rw [show x.1 = p from Int.ofNat.inj z]; exact List.mem_map.mpr ⟨_, h, rfl⟩))]
      exact ih hn.2 h
end Fg

namespace L2
open PySem PySem.Spec PyProof.Rows
end L2

/-! len of a dict; the place of a number in a list -/
namespace L2
open PySem PySem.Spec PyProof.Rows PySem.W
end L2

/-! pairs of numbers in order; sorted of a dict whose keys are such pairs -/
namespace Srd
open PySem PyProof.Rows Srt PySem.W
end Srd
namespace L2
open PySem PySem.Spec PyProof.Rows PySem.W Srd
end L2

/-! list(d): the keys of a dict, in its order -/
namespace L2
open PySem PySem.Spec PyProof.Rows PySem.W Srd
end L2

/-! l.extend(d): the keys of a dict behind what l has -/
namespace L2
open PySem PySem.Spec PyProof.Rows PySem.W Srd
end L2

/-! for i, x in enumerate(tuple); min(list of ints) -/
namespace L2
open PySem PySem.Spec PyProof.Rows
end L2

/-! runs: the first rule at each tag -/
namespace Fg
open PySem L2 FgM
end Fg

/-! list.insert; a quad in a tuple of quads, and its place there -/
namespace L2
open PySem PySem.Spec PyProof.Rows Srd
end L2

/-! an own class called with arguments; isinstance of an own class -/
namespace L2
open PySem PySem.Spec PyProof.Rows
end L2

/-! sorted(set(l)) of a list of texts of any length, of which few are unlike -/
namespace Stg
open PySem PyProof.Rows Sts
end Stg
namespace L2
open PySem PySem.Spec PyProof.Rows PySem.W Srd Sts Stg
end L2
namespace L2
open PySem PySem.Spec PyProof.Rows
end L2
namespace L2
open PySem PySem.Spec PyProof.Rows
end L2

/-! the reader: its state, in the heap and as lists of pairs -/
namespace Fg
open PySem L2 FgM
/-! in the heap -/
def KeepX (ex : List Addr) (H H' : Hp) : Prop := ∀ b o, b ∉ ex → H b = some o → H' b = some o
theorem KeepX.trans {ex : List Addr} {H H1 H2 : Hp} (a : KeepX ex H H1) (b : KeepX ex H1 H2) : KeepX ex H H2 := fun c o hc h => b c o hc (a c o hc h)
theorem Same.keepX {ex : List Addr} {H H' : Hp} (s : Same H H') : KeepX ex H H' := fun b o _ h => s b o h
theorem KeepX.upd {ex : List Addr} {H H' : Hp} {a : Addr} {o : HO} (k : KeepX ex H H') (h : a ∈ ex) : KeepX ex H (L2.upd H' a o) := fun b u hb e => by
  have hne : b ≠ a := fun z => hb (by rw [z]; exact h)
  rw [upd_ne hne]
  exact k b u hb e
theorem KS.has {m : List (Key × V)} {ts : List Str} (h : m.map (·.1) = ts.map Sum.inr) (x : Str) : (valV m (Sum.inr x)).isSome = decide (x ∈ ts) := by
  rw [← valV_any]
  have e1 : (m.any fun kv => decide (kv.1 = (Sum.inr x : Key))) = (m.map (·.1)).any (fun y => decide (y = (Sum.inr x : Key))) := by rw [List.any_map]; rfl
  rw [e1, h, List.any_map, Bool.eq_iff_iff, List.any_eq_true, decide_eq_true_eq]
  constructor
  · rintro ⟨y, hy, h⟩
    have := of_decide_eq_true h
    injection this with this
    rw [← this]
    exact hy
  · intro hx
    exact ⟨x, hx, decide_eq_true rfl⟩
theorem KS.new {m : List (Key × V)} {ts : List Str} (h : m.map (·.1) = ts.map Sum.inr) {x : Str} (v : V) (hn : valV m (Sum.inr x) = none) : (putK m (Sum.inr x) v).map (·.1) = (ts ++ [x]).map Sum.inr := by
  rw [putK_new v hn, List.map_append, List.map_append, h]
  rfl
/-! the promises of the reader's methods -/
end Fg

/-! what the laws of the reader build -/
namespace Fg
open PySem L2 FgM
end Fg
namespace L2
open PySem PySem.Spec PyProof.Rows
end L2
namespace L2
open PySem PySem.Spec PyProof.Rows
end L2
namespace Fg
open PySem L2 FgM
end Fg
namespace Fg
open PySem L2 FgM
/-- a cut within a block whose parts have names -/
theorem via {u t : TS} {D : Ends} {σ : St} {H : Hp} (R : St → Hp → Prop) (h2 : ∀ σ' H', R σ' H' → t D σ' H') (h1 : (∀ σ' H', R σ' H' → t D σ' H') → u D σ H) : u D σ H := h1 h2
end Fg
namespace Fg
open PySem L2 FgM
end Fg

/-! sorted(list of pairs), sorted(list of texts) -/
namespace L2
open PySem PySem.Spec PyProof.Rows PySem.W Srd Sts Stg
end L2
namespace Fg
open PySem L2 FgM
end Fg
namespace Fg
open PySem L2 FgM
end Fg
namespace L2
open PySem PySem.Spec PyProof.Rows
/-! a display of many written numbers -/
end L2
namespace L2
open PySem PySem.Spec PyProof.Rows
end L2
namespace Fg
open PySem L2 FgM
end Fg

/-! sorted(set(l)) of a list of pairs of numbers; a pair in a list of pairs -/
namespace L2
open PySem PySem.Spec PyProof.Rows PySem.W Srd Sts Stg
end L2

/-! sum(list of ints) -/
namespace L2
open PySem PySem.Spec PyProof.Rows
theorem preSum_list (ns : List Int) (f : Nat → Int) (h : ∀ j, f j = ns.getD j 0) : ∀ j, j ≤ ns.length → preSum f j = (ns.take j).sum
  | 0, _ => rfl
  | j + 1, hj => by
    have hn : ns[j]? = some (ns[j]'(by (first | lia | omega))) := List.getElem?_eq_getElem (by (first | lia | omega))
    show preSum f j + f j = _
    rw [preSum_list ns f h j (by (first | lia | omega)), h j, List.take_succ_eq_append_getElem (by (first | lia | omega)), List.sum_append, List.getD_eq_getElem?_getD, hn]
    simp
section
variable {X : Cx}
theorem call_sumL (hc : X.calm = true) : CallR X (.builtin "sum") (fun xs H Q => ∃ (a : Addr) (ns : List Int), xs = [.ref a] ∧ SqL X.K H a (ns.map V.int) ∧ Q (.int ns.sum) H) := by
  intro pins s σ H xs us Q I r h
  obtain ⟨a, ns, rfl, hq, q⟩ := h
  obtain ⟨u, rfl, r1⟩ := vals1 r
  cases r1
  obtain ⟨its, rv, pl, hz⟩ := I.list hq
  have hall : ∀ {ns : List Int} {its : List Value}, Vals (ns.map V.int) its → ∃ xs : List (Int × Tok), its = xs.map (fun p => Value.int p.1 p.2) ∧ xs.map (·.1) = ns := by
    intro ns
    induction ns with
    | nil =>
      intro its h
      cases h
      exact ⟨[], rfl, rfl⟩
    | cons n ns ih =>
      intro its h
      cases h with
      | cons h1 h2 =>
        obtain ⟨t, rfl⟩ := h1
        obtain ⟨xs, rfl, e⟩ := ih h2
        exact ⟨(n, t) :: xs, rfl, by rw [List.map_cons, e]⟩
  obtain ⟨ps, rfl, hps⟩ := hall rv
  have hl : s.heap.IsList a (intItems ps.toArray) := by
    have := pl.isList
    simpa [intItems] using this
  refine sum_intListG (I.ok.hd hc) hl fun h' tk t' hk => ?_
  refine ⟨V.int _, H, I.kept hk, ⟨t', rfl⟩, ?_⟩
  have e : preSum (numAt ps.toArray) ps.toArray.size = ns.sum := by
    rw [preSum_list ns _ (fun j => by rw [numAt_eq, ← hps]) _ (by rw [List.size_toArray, ← hps, List.length_map]; (first | lia | omega)), List.size_toArray, ← hps, List.take_of_length_le (by rw [List.length_map]; (first | lia | omega))]
  rw [e]
  exact q
end
end L2

/-! min(list of ints, default=d) -/
namespace L2
open PySem PySem.Spec PyProof.Rows PySem.SeqAt
theorem args_min_d (a d : Value) : argsOk "min" ⟨[a], [(Str.ofString "default", d)]⟩ := by unfold argsOk; kernel_rfl
section
variable {X : Cx} {pins : List (Addr × Obj)} {σ : St} {H : Hp} {s : Shared} {Q : VK} {l p it : Addr} {ns : List Int} {ud : Value}
theorem min_loopI (hc : X.calm = true) (hu : X.A.in1.units < cLine) (ok : X.Ok) (hp0 : H p = none) (hq : ∀ o, SqL X.K (upd H p o) l (ns.map V.int)) (q : ∀ M, M ∈ ns → (∀ x ∈ ns, M ≤ x) → Q (.int M) (upd H p (.lst []))) :
    ∀ (r i : Nat) (b : Int) (s : Shared), ns.length - (i + 1) = r → i < ns.length → b ∈ ns → (∀ x ∈ ns.take (i + 1), b ≤ x) → Inv (cxIn1 X) pins σ (upd H p (.lst [.int b, .int b])) s → s.heap.IsListIter it l (i + 1) → FpOk (cxIn1 X) pins (upd H p (.lst [.int b, .int b])) it →
      codeAny (model X.prog X.w) X.A (.builtin "min.loop" ⟨[.ref it, .none, .ref p], [(Str.ofString "default", ud)]⟩) (minR X pins σ Q) s := by
  have hname : (toString "min" ++ toString ".loop" : String) = "min.loop" := by decide
  intro r
  induction r with
  | zero =>
    intro i b s hr hi hb hle I st hf
    have hp : (upd H p (.lst [.int b, .int b])) p = some (.lst [.int b, .int b]) := upd_same
    obtain ⟨_, its, n, rv, _, e⟩ := I.lstM hp
    obtain ⟨ub, uk, rfl, rb, rk⟩ := vals2 rv
    refine codeAny_builtin PySem.F.entry_min_loop ?_
    rw [Around.under_plainId PySem.F.plain_min_loop _]
    show wpAny _ X.A.in1 (seqItems? (.ref p) >>= _) _ _ _
    refine wpAny_bind (wpAny_seqItems e rfl ?_)
    show wpAny _ X.A.in1 (tryCatch (pyNext (.ref it)) _ >>= _) _ _ _
    refine wpAny_bind (wpAny_tryCatch (min_end hc I st (hq _) (by rw [List.length_map]; (first | lia | omega)) hf fun s1 I1 => ?_))
    obtain ⟨_, its, n, rv, _, e⟩ := I1.lstM hp
    show wpAny _ X.A.in1 (updateSeq p (fun _ => #[]) >>= _) _ _ _
    refine wpAny_bind (wpAny_updateSeq e rfl (wpAny_bind (wpAny_letGo (wpAny_pure ?_))))
    have I2 := Inv.out1 ok (I1.lset (f := fun _ => #[]) (t' := s1.toks) (its' := []) hp e rfl .nil (Nat.zero_le _))
    rw [upd_upd] at I2
    refine ⟨.int b, _, I2, rb, q b hb fun x hx => hle x ?_⟩
    rw [List.take_of_length_le (by (first | lia | omega))]
    exact hx
  | succ r ih =>
    intro i b s hr hi hb hle I st hf
    have hp : (upd H p (.lst [.int b, .int b])) p = some (.lst [.int b, .int b]) := upd_same
    obtain ⟨_, its, n, rv, _, e⟩ := I.lstM hp
    obtain ⟨ub, uk, rfl, rb, rk⟩ := vals2 rv
    have hi1 : i + 1 < ns.length := by (first | lia | omega)
    have hx : (ns.map V.int)[i + 1]? = some (.int (ns[i + 1]'hi1)) := by rw [List.getElem?_map, List.getElem?_eq_getElem hi1]; rfl
    have hxm : ns[i + 1]'hi1 ∈ ns := List.getElem_mem _
    have htk : ns.take (i + 1 + 1) = ns.take (i + 1) ++ [ns[i + 1]'hi1] := List.take_succ_eq_append_getElem hi1
    generalize ns[i + 1]'hi1 = a at hx hxm htk
    refine codeAny_builtin PySem.F.entry_min_loop ?_
    rw [Around.under_plainId PySem.F.plain_min_loop _]
    show wpAny _ X.A.in1 (seqItems? (.ref p) >>= _) _ _ _
    refine wpAny_bind (wpAny_seqItems e rfl ?_)
    show wpAny _ X.A.in1 (tryCatch (pyNext (.ref it)) _ >>= _) _ _ _
    refine wpAny_bind (wpAny_tryCatch (min_item I st (hq _) hx hf fun u s1 I1 st1 ru => ?_))
    obtain ⟨as, ra⟩ := (Dp.int (K := X.K) (H := upd H p (.lst [.int b, .int b])) a).reads I1 ru
    obtain ⟨bs, rb'⟩ := (Dp.int (K := X.K) (H := upd H p (.lst [.int b, .int b])) b).reads I1 rk
    show wpAny _ X.A.in1 (tryCatch (holding [u, u] (richCompare .Lt u uk >>= _)) _ >>= _) _ _ _
    refine wpAny_bind (wpAny_tryCatch (wpAny_holding (wpAny_bind ((LtD.int a b).at X.A.in1 ra rb' rfl rfl (by show X.A.in1.units + min 0 0 < cLine; (first | lia | omega)) X.prog X.w _ _ ?_))))
    refine wpAny_bind (wpAny_holding (wpAny_truthy_bool ?_))
    refine wpAny_bind (wpAny_letGo (wpAny_pure ?_))
    obtain ⟨_, its2, n2, rv2, _, e2⟩ := I1.lstM hp
    by_cases c : a < b
    · rw [decide_eq_true c]
      simp only [if_true]
      refine wpAny_bind (wpAny_updateSeq e2 rfl (wpAny_bind (wpAny_letGo ?_)))
      rw [hname]
      have I2 := I1.lset (f := fun _ => #[u, u]) (t' := s1.toks) (its' := [u, u]) (ys := [.int a, .int a]) hp e2 rfl (.cons ru (.cons ru .nil)) (by show 2 ≤ sizeLine; decide)
      have hf2 := fp_upd (o := .lst [.int a, .int a]) hf ⟨_, hp⟩
      rw [upd_upd] at I2 hf2
      refine wpAny_pure ⟨plainId_quiet PySem.F.plain_min_loop _, ih (i + 1) a _ (by (first | lia | omega)) hi1 hxm (fun x hx => ?_) I2 ?_ hf2⟩
      · rw [htk] at hx
        rcases List.mem_append.mp hx with hx | hx
        · have := hle x hx
          (first | lia | omega)
        · rw [List.mem_singleton.mp hx]
          exact Int.le_refl _
      · obtain ⟨o, eo, _, back⟩ := iter_data st1
        exact back _ ((Heap.get?_update_other _ _ (ne_of_none hp hf.1)).trans eo)
    · rw [decide_eq_false c]
      simp only [Bool.false_eq_true, if_false]
      refine wpAny_bind (wpAny_letGo ?_)
      rw [hname]
      refine wpAny_pure ⟨plainId_quiet PySem.F.plain_min_loop _, ih (i + 1) b _ (by (first | lia | omega)) hi1 hb (fun x hx => ?_) I1 st1 hf⟩
      rw [htk] at hx
      rcases List.mem_append.mp hx with hx | hx
      · exact hle x hx
      · rw [List.mem_singleton.mp hx]
        (first | lia | omega)
/-- min(list of ints, default=d): the least, or d -/
def rMinD (K : PySem.W.Frag) (x d : V) (H : Hp) (Q : VK) : Prop := ∃ (l : Addr) (ns : List Int), x = .ref l ∧ SqL K H l (ns.map V.int) ∧ ∀ p, H p = none → (∀ o, SqL K (upd H p o) l (ns.map V.int)) ∧ (ns = [] → Q d (upd H p (.lst []))) ∧ ∀ M, M ∈ ns → (∀ x ∈ ns, M ≤ x) → Q (.int M) (upd H p (.lst []))
theorem call_min_d {x d : V} {u : Value} (hc : X.calm = true) (hu : X.A.in1.units < cLine) (I : Inv X pins σ H s) (rx : RelV x u) (rd : RelV d ud) (h : rMinD X.K x d H Q) :
    wpAny (model X.prog X.w) X.A (call (.builtin "min") [u] [(Str.ofString "default", ud)]) (EP X pins σ Q) X.xe s := by
  have hname : (toString "min" ++ toString ".loop" : String) = "min.loop" := by decide
  obtain ⟨l, ns, rfl, hq, alt⟩ := h
  cases rx
  obtain ⟨its, rv, pl, hz⟩ := I.list hq
  refine PyProof.Rows.kmk_tree PySem.F.kind_min PySem.F.plain_min PySem.F.entry_min (args_min_d _ _) ?_
  show wpAny _ X.A.in1 (Builtin.Builtins.bindParams "min" ["key", "default"] 0 ⟨[], [(Str.ofString "default", ud)]⟩ >>= _) _ _ s
  refine wpAny_bind (wpAny_of_eq (show Builtin.Builtins.bindParams "min" ["key", "default"] 0 ⟨[], [(Str.ofString "default", ud)]⟩ = pure [none, some ud] from rfl) ?_)
  refine wpAny_bind (wpAny_pure ?_)
  refine wpAny_bind (wpAny_pyIter_list pl.isList ?_)
  refine wpAny_bind (wpAny_newList ?_ (Nat.zero_le _))
  rw [hname]
  refine wpAny_pure ⟨plainId_quiet PySem.F.plain_min_loop _, ?_⟩
  have hS : (s.heap.push { cls := .type "list_iterator", data := .fields #[.ref l, .int 0 0] }).objs.size = s.heap.objs.size + 1 := size_push' ..
  have I0 : Inv (cxIn1 X) pins σ H { s with heap := s.heap.push { cls := .type "list_iterator", data := .fields #[.ref l, .int 0 0] }, toks := s.toks } := I.in1.kept fun b o e => Heap.get?_push_of_some _ e
  have I1 := I0.lnew (its := []) (t' := s.toks) .nil (Nat.zero_le _)
  have fr : H (s.heap.push { cls := .type "list_iterator", data := .fields #[.ref l, .int 0 0] }).objs.size = none := I0.fresh
  have ne : s.heap.objs.size ≠ (s.heap.push { cls := .type "list_iterator", data := .fields #[.ref l, .int 0 0] }).objs.size := by rw [hS]; exact Nat.ne_of_lt (Nat.lt_succ_self _)
  have hf : FpOk (cxIn1 X) pins (upd H (s.heap.push { cls := .type "list_iterator", data := .fields #[.ref l, .int 0 0] }).objs.size (.lst [])) s.heap.objs.size := I.in1.fpOk (Nat.le_refl _) (by rw [upd_ne ne]; exact I.fresh)
  have st : ((s.heap.push { cls := .type "list_iterator", data := .fields #[.ref l, .int 0 0] }).push { cls := .type "list", data := .seq ([] : List Value).toArray }).IsListIter s.heap.objs.size l 0 := ⟨_, Heap.get?_push_of_some _ (Heap.get?_push_size _ rfl), rfl, rfl⟩
  have hp0 : (upd H (s.heap.push { cls := .type "list_iterator", data := .fields #[.ref l, .int 0 0] }).objs.size (.lst [])) (s.heap.push { cls := .type "list_iterator", data := .fields #[.ref l, .int 0 0] }).objs.size = some (.lst []) := upd_same
  obtain ⟨_, its0, n0, rv0, _, e0⟩ := I1.lstM hp0
  cases rv0
  refine codeAny_builtin PySem.F.entry_min_loop ?_
  rw [Around.under_plainId PySem.F.plain_min_loop _]
  show wpAny _ X.A.in1 (seqItems? (.ref _) >>= _) _ _ _
  refine wpAny_bind (wpAny_seqItems e0 rfl ?_)
  show wpAny _ X.A.in1 (tryCatch (pyNext (.ref s.heap.objs.size)) _ >>= _) _ _ _
  obtain ⟨hq0, q0, q1⟩ := alt _ fr
  cases ns with
  | nil =>
    refine wpAny_bind (wpAny_tryCatch (min_end hc I1 st (hq0 _) (Nat.zero_le _) hf fun s1 I2 => ?_))
    refine wpAny_bind (wpAny_rule (wpAny_pure ?_))
    exact ⟨d, _, Inv.out1 I.ok I2, rd, q0 rfl⟩
  | cons a ns =>
    refine wpAny_bind (wpAny_tryCatch (min_item (x := .int a) I1 st (hq0 _) rfl hf fun u s1 I2 st1 ru => ?_))
    obtain ⟨_, its2, n2, rv2, _, e2⟩ := I2.lstM hp0
    show wpAny _ X.A.in1 (updateSeq _ (fun _ => #[u, u]) >>= _) _ _ _
    refine wpAny_bind (wpAny_updateSeq e2 rfl ?_)
    rw [hname]
    have I3 := I2.lset (f := fun _ => #[u, u]) (t' := s1.toks) (its' := [u, u]) (ys := [.int a, .int a]) hp0 e2 rfl (.cons ru (.cons ru .nil)) (by show 2 ≤ sizeLine; decide)
    have hf2 := fp_upd (o := .lst [.int a, .int a]) hf ⟨_, hp0⟩
    rw [upd_upd] at I3 hf2
    refine wpAny_pure ⟨plainId_quiet PySem.F.plain_min_loop _, min_loopI (ns := a :: ns) hc hu I.ok fr hq0 q1 _ 0 a _ rfl (Nat.zero_lt_succ _) (List.mem_cons_self ..) (fun x hx => ?_) I3 ?_ hf2⟩
    · rw [List.mem_singleton.mp hx]
      exact Int.le_refl _
    · obtain ⟨o, eo, _, back⟩ := iter_data st1
      exact back _ ((Heap.get?_update_other _ _ (ne_of_none hp0 hf.1)).trans eo)
end
section
variable {X : Cx} {e dx : Expr} {te td : TE} {p pos kp : Pos}
theorem pe_min_d (hu : X.A.units + 200 < cLine) (hc : X.calm = true) (hgm : Gl X (Str.ofString "min")) (hmm : X.mg (Str.ofString "min") = none) (pa : PA X [e] (tCons te tNil)) (hde : PE X dx td)
    (hst : backTo pos (starEach [e] X.env) = (false, eval e X.env) :: backTo pos (starEach [] X.env) := by rfl) (hpl : (backTo pos (starEach [e] X.env)).any (·.1) = false := by rfl) :
    PE X (.Call (.Name (Str.ofString "min") p) [e] [⟨some (Str.ofString "default"), dx, kp⟩] pos) (fun σ H Q => te σ H fun v H1 => td σ H1 fun d H2 => rMinD X.K v d H2 Q) := by
  intro pins s σ H Q I h
  refine wpAny_Call_Name_kw (ld_blt I hgm hmm bt_min ?_)
  refine callWith_kw (thn (pa pos pins s σ H (fun vs H1 => match vs with | [v] => td σ H1 fun d H2 => rMinD X.K v d H2 Q | _ => False) I h) fun us s1 ⟨vs, H1, I1, r, q⟩ => ?_) hst hpl
  match vs, r, q with
  | [v], r, q =>
    obtain ⟨u, rfl, ru⟩ := r.one
    have pk : PK X [⟨some (Str.ofString "default"), dx, kp⟩] (tCons td tNil) := pk_cons hde pk_nil
    refine thn (pk pos pins s1 σ H1 (fun zs H2 => match zs with | [d] => rMinD X.K v d H2 Q | _ => False) I1 q) fun ws s2 ⟨zs, H2, I2, rz, q2⟩ => ?_
    match zs, rz, q2 with
    | [d], rz, q2 =>
      obtain ⟨ud, rfl, rd⟩ := vals1 rz
      exact call_min_d hc (by show X.A.units + 1 < cLine; (first | lia | omega)) I2 ru rd q2
end
end L2

/-! a grove under way: rows and tags that are open; one tag opened, one shut -/
namespace Fg
open PySem L2 FgM
structure GvS (H H1 : Hp) (R T : Addr) (as : List Addr) (gs : List (Gr Str)) (ts : List Str) : Prop where
  sm : Same H H1
  hT : H1 T = some (.lst ((ts.map V.str).reverse))
  hR : H1 R = some (.lst ((as.map V.ref).reverse))
  rows : RowsR H1 as gs
  nd : (R :: T :: as).Nodup
  fr : ∀ b ∈ R :: T :: as, H b = none
  gl : gs.length = ts.length + 1
  cl : ∀ g ∈ gs, Clean SL g
  tn : ∀ t ∈ ts, t ≠ SL
section
variable {H H1 : Hp} {R T : Addr} {as : List Addr} {gs : List (Gr Str)} {ts : List Str}
theorem GvS.nR (h : GvS H H1 R T as gs ts) : ∀ b ∈ as, b ≠ R := fun b hb e => (List.nodup_cons.mp h.nd).1 (by rw [← e]; exact List.mem_cons_of_mem _ hb)
theorem GvS.nT (h : GvS H H1 R T as gs ts) : ∀ b ∈ as, b ≠ T := fun b hb e => (List.nodup_cons.mp (List.nodup_cons.mp h.nd).2).1 (by rw [← e]; exact hb)
theorem GvS.RT (h : GvS H H1 R T as gs ts) : R ≠ T := fun e => (List.nodup_cons.mp h.nd).1 (by rw [e]; exact List.mem_cons_self ..)
theorem GvS.start {a0 R T : Addr} (h0 : H a0 = none) (hR : (upd H a0 (.lst [])) R = none) (hT : (upd (upd H a0 (.lst [])) R (.lst [.ref a0])) T = none) : GvS H (upd (upd (upd H a0 (.lst [])) R (.lst [.ref a0])) T (.lst [])) R T [a0] [.nil] [] := by
  obtain ⟨nR0, hR'⟩ := upd_none hR
  obtain ⟨nTR, hT2⟩ := upd_none hT
  obtain ⟨nT0, hT'⟩ := upd_none hT2
  refine ⟨((Same.new h0).upd_new hR').upd_new hT', upd_same, ?_, .cons ⟨[], ?_, .nil⟩ .nil, ?_, ?_, rfl, ?_, fun _ h => (nomatch h)⟩
  · rw [upd_ne nTR.symm]
    exact upd_same
  · rw [upd_ne nT0.symm, upd_ne nR0.symm]
    exact upd_same
  · simp [nTR.symm, nR0, nT0]
  · intro b hb
    simp only [List.mem_cons, List.not_mem_nil, or_false] at hb
    rcases hb with rfl | rfl | rfl
    · exact hR'
    · exact hT'
    · exact h0
  · intro g hg
    obtain rfl := List.mem_singleton.mp hg
    trivial
theorem GvS.opened {wd : Str} {l : Addr} (h : GvS H H1 R T as gs ts) (hw : wd ≠ SL) (hl : (upd H1 T (.lst ((ts.map V.str).reverse ++ [.str wd]))) l = none) : GvS H (upd (upd (upd H1 T (.lst ((ts.map V.str).reverse ++ [.str wd]))) l (.lst [])) R (.lst ((as.map V.ref).reverse ++ [.ref l]))) R T (l :: as) (.nil :: gs) (wd :: ts) := by
  obtain ⟨nlT, hl1⟩ := upd_none hl
  have nlR : R ≠ l := ne_of_none h.hR hl1
  have hRT := h.RT
  have hRb : (upd (upd H1 T (.lst ((ts.map V.str).reverse ++ [.str wd]))) l (.lst [])) R = some (.lst (as.map V.ref).reverse) := by
    rw [upd_ne nlR, upd_ne hRT]
    exact h.hR
  have tk : TK H1 (upd (upd (upd H1 T (.lst ((ts.map V.str).reverse ++ [.str wd]))) l (.lst [])) R (.lst ((as.map V.ref).reverse ++ [.ref l]))) := ((TK.lst h.hT).trans (TK.new hl)).trans (TK.lst hRb)
  have nla : l ∉ as := fun hb => by
    obtain ⟨o, ho⟩ := rows_there h.rows l hb
    rw [hl1] at ho
    cases ho
  obtain ⟨ndR, ndT⟩ := List.nodup_cons.mp h.nd
  obtain ⟨ndT', ndA⟩ := List.nodup_cons.mp ndT
  refine ⟨((h.sm.upd_new (h.fr T (by simp))).upd_new (h.sm.free hl1)).upd_new (h.fr R (by simp)), ?_, ?_, .cons ⟨[], ?_, .nil⟩ (rows_mono tk h.rows fun b hb o ho => ?_), ?_, ?_, by rw [List.length_cons, List.length_cons, h.gl], ?_, ?_⟩
  · rw [upd_ne hRT.symm, upd_ne nlT.symm, upd_same, List.map_cons, List.reverse_cons]
  · rw [upd_same, List.map_cons, List.reverse_cons]
  · rw [upd_ne nlR.symm]
    exact upd_same
  · rw [upd_ne (h.nR b hb), upd_ne (ne_of_none ho hl1), upd_ne (h.nT b hb)]
    exact ho
  · refine List.nodup_cons.mpr ⟨fun h => ?_, List.nodup_cons.mpr ⟨fun h => ?_, List.nodup_cons.mpr ⟨nla, ndA⟩⟩⟩
    · rcases List.mem_cons.mp h with h | h
      · exact hRT h
      · rcases List.mem_cons.mp h with h | h
        · exact nlR h
        · exact ndR (List.mem_cons_of_mem _ h)
    · rcases List.mem_cons.mp h with h | h
      · exact nlT h.symm
      · exact ndT' h
  · intro b hb
    simp only [List.mem_cons] at hb
    rcases hb with rfl | rfl | rfl | hb
    · exact h.fr _ (by simp)
    · exact h.fr _ (by simp)
    · exact h.sm.free hl1
    · exact h.fr b (by simp [hb])
  · intro g hg
    rcases List.mem_cons.mp hg with rfl | hg
    · trivial
    · exact h.cl g hg
  · intro x hx
    rcases List.mem_cons.mp hx with rfl | hx
    · exact hw
    · exact h.tn x hx
end
section
variable {H H1 : Hp} {R T b0 b1 l l2 : Addr} {as : List Addr} {g0 g1 : Gr Str} {gs : List (Gr Str)} {t : Str} {ts : List Str} {vs0 vs1 : List V}
/-- what can be told ahead of a tag's end -/
theorem GvS.two {as0 : List Addr} {gs0 : List (Gr Str)} (h : GvS H H1 R T as0 gs0 (t :: ts)) : ∃ b0 b1 as g0 g1 gs vs0 vs1, as0 = b0 :: b1 :: as ∧ gs0 = g0 :: g1 :: gs ∧ gs.length = ts.length ∧ H1 b0 = some (.lst vs0) ∧ RepG H1 vs0 g0 ∧ H1 b1 = some (.lst vs1) ∧ RepG H1 vs1 g1 ∧
    H1 R = some (.lst (((b1 :: as).map V.ref).reverse ++ [.ref b0])) ∧ H1 T = some (.lst ((ts.map V.str).reverse ++ [.str t])) := by
  have hgl := h.gl
  have hR := h.hR
  have hT := h.hT
  have hrows := h.rows
  cases gs0 with
  | nil => simp at hgl
  | cons g0 gs =>
    cases gs with
    | nil => simp at hgl
    | cons g1 gs =>
      cases hrows with
      | @cons b0 _ as _ r0 hrows =>
        cases hrows with
        | @cons b1 _ as _ r1 hrows =>
          obtain ⟨vs0, h00, r00⟩ := r0
          obtain ⟨vs1, h11, r11⟩ := r1
          refine ⟨b0, b1, as, g0, g1, gs, vs0, vs1, rfl, rfl, by simpa using hgl, h00, r00, h11, r11, ?_, ?_⟩
          · rw [hR, List.map_cons, List.reverse_cons]
          · rw [hT, List.map_cons, List.reverse_cons]
theorem GvS.shut (h : GvS H H1 R T (b0 :: b1 :: as) (g0 :: g1 :: gs) (t :: ts)) (h00 : H1 b0 = some (.lst vs0)) (r00 : RepG H1 vs0 g0) (h11 : H1 b1 = some (.lst vs1)) (r11 : RepG H1 vs1 g1)
    (hl : (upd H1 R (.lst ((b1 :: as).map V.ref).reverse)) l = none) (hl2 : (upd (upd (upd H1 R (.lst ((b1 :: as).map V.ref).reverse)) l (.tup vs0)) T (.lst (ts.map V.str).reverse)) l2 = none) :
    GvS H (upd (upd (upd (upd (upd H1 R (.lst ((b1 :: as).map V.ref).reverse)) l (.tup vs0)) T (.lst (ts.map V.str).reverse)) l2 (.tup [.str t, .ref l])) b1 (.lst (vs1 ++ [.ref l2]))) R T (b1 :: as) (snoc g1 t g0 :: gs) ts := by
  have hRT := h.RT
  have m0 : b0 ∈ b0 :: b1 :: as := List.mem_cons_self ..
  have m1 : b1 ∈ b0 :: b1 :: as := List.mem_cons_of_mem _ (List.mem_cons_self ..)
  obtain ⟨ndR, ndT⟩ := List.nodup_cons.mp h.nd
  obtain ⟨ndT', ndA⟩ := List.nodup_cons.mp ndT
  obtain ⟨nlR, hl1⟩ := upd_none hl
  have hT1 := h.hT
  have hR1 := h.hR
  have nlT : l ≠ T := (ne_of_none hT1 hl1).symm
  have nl1 : b1 ≠ l := ne_of_none h11 hl1
  obtain ⟨n2T, hl2a⟩ := upd_none hl2
  obtain ⟨n2l, hl2b⟩ := upd_none hl2a
  obtain ⟨n2R, hl2c⟩ := upd_none hl2b
  have n21 : b1 ≠ l2 := ne_of_none h11 hl2c
  have h1b : (upd (upd H1 R (.lst ((b1 :: as).map V.ref).reverse)) l (.tup vs0)) b1 = some (.lst vs1) := by
    rw [upd_ne nl1, upd_ne (h.nR b1 m1)]
    exact h11
  have h1d : (upd (upd (upd (upd H1 R (.lst ((b1 :: as).map V.ref).reverse)) l (.tup vs0)) T (.lst (ts.map V.str).reverse)) l2 (.tup [.str t, .ref l])) b1 = some (.lst vs1) := by
    rw [upd_ne n21, upd_ne (h.nT b1 m1)]
    exact h1b
  have hTb : (upd (upd H1 R (.lst ((b1 :: as).map V.ref).reverse)) l (.tup vs0)) T = some (.lst (((t :: ts).map V.str).reverse)) := by
    rw [upd_ne nlT.symm, upd_ne hRT.symm]
    exact hT1
  have tk : TK H1 (upd (upd (upd (upd (upd H1 R (.lst ((b1 :: as).map V.ref).reverse)) l (.tup vs0)) T (.lst (ts.map V.str).reverse)) l2 (.tup [.str t, .ref l])) b1 (.lst (vs1 ++ [.ref l2]))) :=
    ((((TK.lst hR1).trans (TK.new hl)).trans (TK.lst hTb)).trans (TK.new hl2)).trans (TK.lst h1d)
  have ndA2 := (List.nodup_cons.mp ndA).2
  have n1as := (List.nodup_cons.mp ndA2).1
  have hrows : RowsR H1 as gs := by
    cases h.rows with
    | cons _ r =>
      cases r with
      | cons _ r => exact r
  refine ⟨((((h.sm.upd_new (h.fr R (by simp))).upd_new (h.sm.free hl1)).upd_new (h.fr T (by simp))).upd_new (h.sm.free hl2c)).upd_new (h.fr b1 (by simp)), ?_, ?_, .cons ⟨_, upd_same, RepG.snoc (q := l) (ys := vs0) ?_ ?_ (r00.mono tk) (r11.mono tk)⟩ (rows_mono tk hrows fun b hb o ho => ?_), ?_, ?_, ?_, ?_, ?_⟩
  · rw [upd_ne (h.nT b1 m1).symm, upd_ne n2T.symm, upd_same]
  · rw [upd_ne (h.nR b1 m1).symm, upd_ne n2R.symm, upd_ne hRT, upd_ne nlR.symm, upd_same]
  · rw [upd_ne n21.symm]
    exact upd_same
  · rw [upd_ne nl1.symm, upd_ne n2l.symm, upd_ne nlT]
    exact upd_same
  · have mb : b ∈ b0 :: b1 :: as := List.mem_cons_of_mem _ (List.mem_cons_of_mem _ hb)
    have nb1 : b ≠ b1 := fun e => n1as (by rw [← e]; exact hb)
    rw [upd_ne nb1, upd_ne (ne_of_none ho hl2c), upd_ne (h.nT b mb), upd_ne (ne_of_none ho hl1), upd_ne (h.nR b mb)]
    exact ho
  · refine List.nodup_cons.mpr ⟨fun h => ?_, List.nodup_cons.mpr ⟨fun h => ndT' (List.mem_cons_of_mem _ h), ndA2⟩⟩
    rcases List.mem_cons.mp h with h | h
    · exact hRT h
    · exact ndR (List.mem_cons_of_mem _ (List.mem_cons_of_mem _ h))
  · intro b hb
    refine h.fr b ?_
    simp only [List.mem_cons] at hb ⊢
    rcases hb with h | h | h | h
    · exact .inl h
    · exact .inr (.inl h)
    · exact .inr (.inr (.inr (.inl h)))
    · exact .inr (.inr (.inr (.inr h)))
  · have := h.gl
    simpa using this
  · intro g hg
    rcases List.mem_cons.mp hg with rfl | hg
    · exact clean_snoc (h.tn t (List.mem_cons_self ..)) (h.cl g0 (List.mem_cons_self ..)) (h.cl g1 (List.mem_cons_of_mem _ (List.mem_cons_self ..)))
    · exact h.cl g (List.mem_cons_of_mem _ (List.mem_cons_of_mem _ hg))
  · exact fun x hx => h.tn x (List.mem_cons_of_mem _ hx)
theorem GvS.f1 (h : GvS H H1 R T (b0 :: b1 :: as) (g0 :: g1 :: gs) (t :: ts)) (h00 : H1 b0 = some (.lst vs0)) : (upd H1 R (.lst ((b1 :: as).map V.ref).reverse)) b0 = some (.lst vs0) := by
  rw [upd_ne (h.nR b0 (List.mem_cons_self ..))]
  exact h00
theorem GvS.f2 (h : GvS H H1 R T (b0 :: b1 :: as) (g0 :: g1 :: gs) (t :: ts)) (h11 : H1 b1 = some (.lst vs1)) (hl : (upd H1 R (.lst ((b1 :: as).map V.ref).reverse)) l = none) :
    (upd (upd H1 R (.lst ((b1 :: as).map V.ref).reverse)) l (.tup vs0)) R = some (.lst ((as.map V.ref).reverse ++ [.ref b1])) ∧ (upd (upd H1 R (.lst ((b1 :: as).map V.ref).reverse)) l (.tup vs0)) b1 = some (.lst vs1) ∧
    (upd (upd H1 R (.lst ((b1 :: as).map V.ref).reverse)) l (.tup vs0)) T = some (.lst ((ts.map V.str).reverse ++ [.str t])) := by
  obtain ⟨nlR, hl1⟩ := upd_none hl
  have nlT : l ≠ T := (ne_of_none h.hT hl1).symm
  have nl1 : b1 ≠ l := ne_of_none h11 hl1
  refine ⟨?_, ?_, ?_⟩
  · rw [upd_ne nlR.symm, upd_same, List.map_cons, List.reverse_cons]
  · rw [upd_ne nl1, upd_ne (h.nR b1 (List.mem_cons_of_mem _ (List.mem_cons_self ..)))]
    exact h11
  · rw [upd_ne nlT.symm, upd_ne h.RT.symm, h.hT, List.map_cons, List.reverse_cons]
theorem GvS.f3 (h : GvS H H1 R T (b0 :: b1 :: as) (g0 :: g1 :: gs) (t :: ts)) (h11 : H1 b1 = some (.lst vs1)) (hl : (upd H1 R (.lst ((b1 :: as).map V.ref).reverse)) l = none) (hl2 : (upd (upd (upd H1 R (.lst ((b1 :: as).map V.ref).reverse)) l (.tup vs0)) T (.lst (ts.map V.str).reverse)) l2 = none) :
    (upd (upd (upd (upd H1 R (.lst ((b1 :: as).map V.ref).reverse)) l (.tup vs0)) T (.lst (ts.map V.str).reverse)) l2 (.tup [.str t, .ref l])) b1 = some (.lst vs1) := by
  obtain ⟨_, hl2a⟩ := upd_none hl2
  obtain ⟨_, hl2b⟩ := upd_none hl2a
  obtain ⟨_, hl2c⟩ := upd_none hl2b
  rw [upd_ne (ne_of_none h11 hl2c), upd_ne (h.nT b1 (List.mem_cons_of_mem _ (List.mem_cons_self ..)))]
  exact (h.f2 h11 hl).2.1
/-- the words so far, one tag shut -/
theorem flat_shut (hgs : gs.length = ts.length) : (flatR SL (snoc g1 t g0 :: gs) ts).length = (flatR SL (g0 :: g1 :: gs) (t :: ts)).length + 1 ∧ (∀ x ∈ flatR SL (snoc g1 t g0 :: gs) ts, x = SL ∨ x ∈ flatR SL (g0 :: g1 :: gs) (t :: ts)) ∧ (words SL g1).length ≤ (flatR SL (g0 :: g1 :: gs) (t :: ts)).length := by
  have e := flatR_close SL t (w := g0) (r := g1) hgs
  refine ⟨?_, fun x hx => ?_, ?_⟩
  · rw [e, List.length_append, List.length_singleton]
  · rw [e] at hx
    rcases List.mem_append.mp hx with hx | hx
    · exact .inr hx
    · exact .inl (List.mem_singleton.mp hx)
  · have h1 := flatR_ge SL (r := g1) hgs
    simp only [flatR, List.length_append]
    (first | lia | omega)
end
/-! how many tags, how deep, what is within each -/
def gsz : Gr Str → Nat
  | .nil => 0
  | .cons _ w o => 1 + gsz w + gsz o
def gdep : Gr Str → Nat
  | .nil => 0
  | .cons _ w o => max (gdep w + 1) (gdep o)
def kidsG : Gr Str → List (Gr Str)
  | .nil => []
  | .cons _ w o => w :: kidsG o
theorem gsz_words : ∀ g : Gr Str, (words SL g).length = 2 * gsz g
  | .nil => rfl
  | .cons t w o => by
    have h1 := gsz_words w
    have h2 := gsz_words o
    simp only [words, gsz, List.length_cons, List.length_append]
    (first | lia | omega)
theorem gdep_le : ∀ g : Gr Str, gdep g ≤ gsz g
  | .nil => Nat.le_refl _
  | .cons t w o => by
    have h1 := gdep_le w
    have h2 := gdep_le o
    simp only [gdep, gsz]
    (first | lia | omega)
theorem sum_kids : ∀ g : Gr Str, ((kidsG g).map fun w => 1 + (gsz w : Int)).sum = (gsz g : Int)
  | .nil => rfl
  | .cons t w o => by
    have h := sum_kids o
    simp only [kidsG, gsz, List.map_cons, List.sum_cons]
    (first | lia | omega)
theorem kid_dep : ∀ {g w : Gr Str}, w ∈ kidsG g → gdep w < gdep g
  | .cons t w' o, w, h => by
    simp only [gdep]
    rcases List.mem_cons.mp h with rfl | h
    · (first | lia | omega)
    · have := kid_dep h
      (first | lia | omega)
theorem kid_sz : ∀ {g w : Gr Str}, w ∈ kidsG g → gsz w < gsz g
  | .cons t w' o, w, h => by
    simp only [gsz]
    rcases List.mem_cons.mp h with rfl | h
    · (first | lia | omega)
    · have := kid_sz h
      (first | lia | omega)
theorem kids_len : ∀ g : Gr Str, (kidsG g).length ≤ gsz g
  | .nil => Nat.le_refl _
  | .cons t w o => by
    have := kids_len o
    simp only [kidsG, gsz, List.length_cons]
    (first | lia | omega)
theorem RepG.kids {H : Hp} : ∀ {xs : List V} {g : Gr Str}, RepG H xs g → xs.length = (kidsG g).length
  | _, _, .nil => rfl
  | _, _, .cons _ _ _ t => by
    show _ + 1 = _ + 1
    rw [RepG.kids t]
theorem RepG.kid {H : Hp} : ∀ {xs : List V} {g : Gr Str}, RepG H xs g → ∀ (i : Nat) z, xs[i]? = some z → ∃ p q t ys w, z = V.ref p ∧ H p = some (.tup [.str t, .ref q]) ∧ H q = some (.tup ys) ∧ RepG H ys w ∧ (kidsG g)[i]? = some w
  | _, _, .cons h1 h2 h3 t, i, z, hz => by
    cases i with
    | zero =>
      injection hz with hz
      subst hz
      exact ⟨_, _, _, _, _, rfl, h1, h2, h3, rfl⟩
    | succ i => exact RepG.kid t i z hz
end Fg

/-! where the tags of a grove end; what stands at each place; how far two groves are apart -/
namespace Fg
open PySem L2 FgM
def prs : Nat → Gr Str → List (Nat × Nat)
  | _, .nil => []
  | k, .cons _ w o => prs (k + 1) w ++ (k, k + 1 + 2 * gsz w) :: prs (k + 2 + 2 * gsz w) o
/-- the rest of the row at a place -/
def atG : Gr Str → Nat → Gr Str
  | .nil, _ => .nil
  | .cons t w o, 0 => .cons t w o
  | .cons _ w o, i + 1 => if i ≤ 2 * gsz w then atG w i else atG o (i - (2 * gsz w + 1))
theorem atG_zero : ∀ g : Gr Str, atG g 0 = g
  | .nil => rfl
  | .cons _ _ _ => rfl
theorem atG_in {t : Str} {w o : Gr Str} {i : Nat} (h : i ≤ 2 * gsz w) : atG (.cons t w o) (i + 1) = atG w i := by
  show (if i ≤ 2 * gsz w then _ else _) = _
  rw [if_pos h]
theorem atG_out {t : Str} {w o : Gr Str} {i : Nat} : atG (.cons t w o) (i + 2 * gsz w + 2) = atG o i := by
  show (if i + 2 * gsz w + 1 ≤ 2 * gsz w then _ else _) = _
  rw [if_neg (by (first | lia | omega))]
  congr 1
  (first | lia | omega)
theorem words_in {t : Str} {w o : Gr Str} {j : Nat} (h : j < 2 * gsz w) : (words SL (.cons t w o))[j + 1]? = (words SL w)[j]? := by
  show (t :: (words SL w ++ SL :: words SL o))[j + 1]? = _
  rw [List.getElem?_cons_succ, List.getElem?_append_left (by rw [gsz_words]; exact h)]
theorem words_end {t : Str} {w o : Gr Str} : (words SL (.cons t w o))[2 * gsz w + 1]? = some SL := by
  show (t :: (words SL w ++ SL :: words SL o))[2 * gsz w + 1]? = _
  rw [List.getElem?_cons_succ, List.getElem?_append_right (by rw [gsz_words]; exact Nat.le_refl _), gsz_words, Nat.sub_self]
  rfl
theorem words_out {t : Str} {w o : Gr Str} {j : Nat} : (words SL (.cons t w o))[j + 2 * gsz w + 2]? = (words SL o)[j]? := by
  show (t :: (words SL w ++ SL :: words SL o))[j + 2 * gsz w + 1 + 1]? = _
  rw [List.getElem?_cons_succ, List.getElem?_append_right (by rw [gsz_words]; (first | lia | omega)), gsz_words, show j + 2 * gsz w + 1 - 2 * gsz w = j + 1 by (first | lia | omega), List.getElem?_cons_succ]
theorem cst_words : ∀ (g : Gr Str) (ws : List Str) (k : Nat), Clean SL g → (∀ j, j < 2 * gsz g → ws[k + j]? = (words SL g)[j]?) → cst ws (k + 2 * gsz g) = ((cst ws k).1, (cst ws k).2 ++ prs k g)
  | .nil, ws, k, _, _ => by
    show cst ws k = ((cst ws k).1, (cst ws k).2 ++ [])
    rw [List.append_nil]
  | .cons t w o, ws, k, hc, h => by
    obtain ⟨ht, hw, ho⟩ := hc
    have hz : gsz (.cons t w o) = 1 + gsz w + gsz o := rfl
    have h0 : ws[k]? = some t := h 0 (by rw [hz]; (first | lia | omega))
    have e1 := cst_tag h0 ht
    have e2 := cst_words w ws (k + 1) hw fun j hj => by
      have := h (j + 1) (by rw [hz]; (first | lia | omega))
      rw [words_in hj] at this
      rw [← this]
      congr 1
      (first | lia | omega)
    have h3 : ws[k + 1 + 2 * gsz w]? = some SL := by
      have := h (2 * gsz w + 1) (by rw [hz]; (first | lia | omega))
      rw [words_end] at this
      rw [← this]
      congr 1
      (first | lia | omega)
    rw [e1] at e2
    have e3 := cst_end (i := k + 1 + 2 * gsz w) (o := k) (os := (cst ws k).1) h3 (by rw [e2])
    have e4 := cst_words o ws (k + 2 + 2 * gsz w) ho fun j hj => by
      have := h (j + 2 * gsz w + 2) (by rw [hz]; (first | lia | omega))
      rw [words_out] at this
      rw [← this]
      congr 1
      (first | lia | omega)
    rw [show k + 2 * gsz (.cons t w o) = k + 2 + 2 * gsz w + 2 * gsz o by rw [hz]; (first | lia | omega), e4, show k + 2 + 2 * gsz w = k + 1 + 2 * gsz w + 1 by (first | lia | omega), e3, e2]
    show _ = (_, _ ++ (prs (k + 1) w ++ (k, k + 1 + 2 * gsz w) :: prs (k + 2 + 2 * gsz w) o))
    rw [show k + 2 + 2 * gsz w = k + 1 + 2 * gsz w + 1 by (first | lia | omega)]
    simp
theorem prs_at : ∀ (g : Gr Str) (k p e : Nat), (p, e) ∈ prs k g → ∃ i, p = k + i ∧ ∃ t w o, atG g i = .cons t w o ∧ e = p + 1 + 2 * gsz w ∧ atG g (i + 1) = w ∧ atG g (i + 2 * gsz w + 2) = o ∧ (words SL g)[i]? = some t ∧ i + 2 * gsz w + 2 ≤ 2 * gsz g
  | .cons t w o, k, p, e, h => by
    have hz : gsz (.cons t w o) = 1 + gsz w + gsz o := rfl
    rcases List.mem_append.mp h with h | h
    · obtain ⟨i, rfl, t', w', o', h1, h2, h3, h4, h5, h6⟩ := prs_at w (k + 1) p e h
      refine ⟨i + 1, by (first | lia | omega), t', w', o', ?_, h2, ?_, ?_, ?_, by rw [hz]; (first | lia | omega)⟩
      · rw [atG_in (by (first | lia | omega))]
        exact h1
      · rw [atG_in (by (first | lia | omega))]
        exact h3
      · rw [show i + 1 + 2 * gsz w' + 2 = (i + 2 * gsz w' + 2) + 1 by (first | lia | omega), atG_in (by (first | lia | omega))]
        exact h4
      · rw [words_in (by (first | lia | omega))]
        exact h5
    · rcases List.mem_cons.mp h with h | h
      · injection h with h1 h2
        subst h1 h2
        refine ⟨0, rfl, t, w, o, rfl, rfl, ?_, ?_, rfl, by rw [hz]; (first | lia | omega)⟩
        · rw [atG_in (Nat.zero_le _)]
          exact atG_zero w
        · rw [atG_out]
          exact atG_zero o
      · obtain ⟨i, rfl, t', w', o', h1, h2, h3, h4, h5, h6⟩ := prs_at o (k + 2 + 2 * gsz w) p e h
        refine ⟨i + 2 * gsz w + 2, by (first | lia | omega), t', w', o', ?_, h2, ?_, ?_, ?_, by rw [hz]; (first | lia | omega)⟩
        · rw [atG_out]
          exact h1
        · rw [show i + 2 * gsz w + 2 + 1 = i + 1 + 2 * gsz w + 2 by (first | lia | omega), atG_out]
          exact h3
        · rw [show i + 2 * gsz w + 2 + 2 * gsz w' + 2 = (i + 2 * gsz w' + 2) + 2 * gsz w + 2 by (first | lia | omega), atG_out]
          exact h4
        · rw [words_out]
          exact h5
theorem prs_no : ∀ (g : Gr Str) (k i : Nat), k + i ∉ (prs k g).map (·.1) → i ≤ 2 * gsz g → atG g i = .nil
  | .nil, _, _, _, _ => rfl
  | .cons t w o, k, i, h, hi => by
    have hz : gsz (.cons t w o) = 1 + gsz w + gsz o := rfl
    have h' : k + i ∉ (prs (k + 1) w).map (·.1) ∧ k + i ≠ k ∧ k + i ∉ (prs (k + 2 + 2 * gsz w) o).map (·.1) := by
      have e : (prs k (.cons t w o)).map (·.1) = (prs (k + 1) w).map (·.1) ++ k :: (prs (k + 2 + 2 * gsz w) o).map (·.1) := by
        show (prs (k + 1) w ++ (k, k + 1 + 2 * gsz w) :: prs (k + 2 + 2 * gsz w) o).map (·.1) = _
        rw [List.map_append, List.map_cons]
      rw [e, List.mem_append, List.mem_cons] at h
      exact ⟨fun z => h (.inl z), fun z => h (.inr (.inl z)), fun z => h (.inr (.inr z))⟩
    obtain ⟨h1, h2, h3⟩ := h'
    match i, h1, h2, h3, hi with
    | 0, _, h2, _, _ => exact absurd rfl h2
    | i + 1, h1, _, h3, hi =>
      by_cases c : i ≤ 2 * gsz w
      · rw [atG_in c]
        exact prs_no w (k + 1) i (by rw [show k + 1 + i = k + (i + 1) by (first | lia | omega)]; exact h1) c
      · obtain ⟨j, rfl⟩ : ∃ j, i = j + 2 * gsz w + 1 := ⟨i - (2 * gsz w + 1), by (first | lia | omega)⟩
        rw [show j + 2 * gsz w + 1 + 1 = j + 2 * gsz w + 2 by (first | lia | omega), atG_out]
        exact prs_no o (k + 2 + 2 * gsz w) j (by rw [show k + 2 + 2 * gsz w + j = k + (j + 2 * gsz w + 1 + 1) by (first | lia | omega)]; exact h3) (by rw [hz] at hi; (first | lia | omega))
/-- how far two groves are apart -/
def dst : Gr Str → Gr Str → Nat
  | .nil, h => gsz h
  | .cons t w o, .nil => gsz (.cons t w o)
  | .cons t w o, .cons t' w' o' => min (min (1 + gsz w + dst o (.cons t' w' o')) (1 + gsz w' + dst (.cons t w o) o')) (dst w w' + dst o o' + if t = t' then 0 else 1)
termination_by g h => gsz g + gsz h
decreasing_by all_goals simp only [gsz]; (first | lia | omega)
theorem dst_nil (h : Gr Str) : dst .nil h = gsz h := by rw [dst]
theorem dst_nil_r : ∀ g : Gr Str, dst g .nil = gsz g
  | .nil => by rw [dst]
  | .cons _ _ _ => by rw [dst]
theorem dst_cons (t t' : Str) (w w' o o' : Gr Str) : dst (.cons t w o) (.cons t' w' o') = min (min (1 + gsz w + dst o (.cons t' w' o')) (1 + gsz w' + dst (.cons t w o) o')) (dst w w' + dst o o' + if t = t' then 0 else 1) := by rw [dst]
end Fg

/-! a tuple times an int; max(list of ints) -/
namespace L2
open PySem PySem.Spec PyProof.Rows
section
variable {X : Cx}
theorem call_len_seqK {K : PySem.W.Frag} (hK : X.K = K) : CallR X (.builtin "len") (fun xs H Q => ∃ p ys, xs = [.ref p] ∧ (SqL K H p ys ∨ SqT K H p ys) ∧ Q (.int ys.length) H) := hK ▸ call_len_seq
theorem rng_down (n : Nat) : (Builtin.Range.rangeSize ((n : Nat) : Int) (-1) (-1)).toNat = n + 1 := by
  unfold Builtin.Range.rangeSize
  rw [if_neg (by decide), show -(-1 : Int) = 1 by decide, Int.ediv_one]
  split <;> (first | lia | omega)
end
end L2

/-! a table: a list of lists of ints, each row a list of its own -/
namespace Fg
open PySem L2 FgM
def rowV (m : Nat) (f : Nat → Int) : List V := (List.range m).map fun j => V.int (f j)
theorem rowV_at {m j : Nat} {f : Nat → Int} (h : j < m) : (rowV m f)[j]? = some (V.int (f j)) := by
  unfold rowV
  rw [List.getElem?_map, List.getElem?_range h]
  rfl
theorem rowV_len {m : Nat} {f : Nat → Int} : (rowV m f).length = m := by
  unfold rowV
  rw [List.length_map, List.length_range]
theorem rowV_set {m j : Nat} {f : Nat → Int} {v : Int} : (rowV m f).set j (.int v) = rowV m fun b => if b = j then v else f b := by
  apply List.ext_getElem?
  intro k
  by_cases hk : k < m
  · rw [rowV_at hk]
    by_cases e : k = j
    · subst e
      rw [List.getElem?_set_self (by rw [rowV_len]; exact hk), if_pos rfl]
    · rw [List.getElem?_set_ne (fun z => e z.symm), rowV_at hk, if_neg e]
  · rw [List.getElem?_eq_none (by rw [List.length_set, rowV_len]; (first | lia | omega)), List.getElem?_eq_none (by rw [rowV_len]; (first | lia | omega))]
structure Tb (H : Hp) (L : Addr) (rs : List Addr) (m : Nat) (f : Nat → Nat → Int) : Prop where
  hL : H L = some (.lst (rs.map V.ref))
  nd : (L :: rs).Nodup
  row : ∀ (i : Nat) r, rs[i]? = some r → H r = some (.lst (rowV m (f i)))
section
variable {H H' : Hp} {L : Addr} {rs : List Addr} {m : Nat} {f : Nat → Nat → Int}
theorem Tb.keep (h : Tb H L rs m f) (k : ∀ b o, b ∈ L :: rs → H b = some o → H' b = some o) : Tb H' L rs m f :=
  ⟨k _ _ (List.mem_cons_self ..) h.hL, h.nd, fun i r hr => k _ _ (List.mem_cons_of_mem _ (List.mem_of_getElem? hr)) (h.row i r hr)⟩
theorem Tb.same (h : Tb H L rs m f) (s : Same H H') : Tb H' L rs m f := h.keep fun b o _ e => s b o e
theorem Tb.at1 (h : Tb H L rs m f) {i : Nat} (hi : i < rs.length) : ∃ r, rs[i]? = some r ∧ atI (rs.map V.ref) (i : Int) = some (.ref r) ∧ H r = some (.lst (rowV m (f i))) := by
  have e : rs[i]? = some (rs[i]'hi) := List.getElem?_eq_getElem hi
  exact ⟨_, e, atI_nat (by rw [List.getElem?_map, e]; rfl), h.row i _ e⟩
theorem rowV_atI {g : Nat → Int} {j : Nat} (hj : j < m) : atI (rowV m g) (j : Int) = some (.int (g j)) := atI_nat (rowV_at hj)
theorem Tb.put (h : Tb H L rs m f) {i j : Nat} {r : Addr} {v : Int} (hr : rs[i]? = some r) : Tb (upd H r (.lst ((rowV m (f i)).set j (.int v)))) L rs m (fun a b => if a = i ∧ b = j then v else f a b) := by
  obtain ⟨n1, n2⟩ := List.nodup_cons.mp h.nd
  have nL : L ≠ r := fun z => n1 (by rw [z]; exact List.mem_of_getElem? hr)
  refine ⟨by rw [upd_ne nL]; exact h.hL, h.nd, fun a r' hr' => ?_⟩
  by_cases e : r' = r
  · subst e
    have ea : a = i := by
      obtain ⟨h1, e1⟩ := List.getElem?_eq_some_iff.mp hr
      obtain ⟨h2, e2⟩ := List.getElem?_eq_some_iff.mp hr'
      have key : ∀ x y (hx : x < rs.length) (hy : y < rs.length), x < y → rs[x] ≠ rs[y] := fun x y hx hy hxy => List.pairwise_iff_getElem.mp n2 x y hx hy hxy
      rcases Nat.lt_trichotomy a i with z | z | z
      · exact absurd (e2.trans e1.symm) (key a i h2 h1 z)
      · exact z
      · exact absurd (e1.trans e2.symm) (key i a h1 h2 z)
    subst ea
    rw [upd_same, rowV_set]
    have ef : (fun b => if b = j then v else f a b) = fun b => if a = a ∧ b = j then v else f a b := funext fun b => by
      by_cases c : b = j
      · rw [if_pos c, if_pos ⟨rfl, c⟩]
      · rw [if_neg c, if_neg fun z => c z.2]
    rw [ef]
  · rw [upd_ne e]
    have ne : a ≠ i := fun z => by
      subst z
      rw [hr] at hr'
      injection hr' with hr'
      exact e hr'.symm
    have ef : (fun b => if a = i ∧ b = j then v else f a b) = f a := funext fun b => if_neg fun z => ne z.1
    rw [ef]
    exact h.row a r' hr'
end
end Fg

/-! how far groves are apart: steps, and what they tell -/
namespace Fg
open PySem L2 FgM
inductive Ed : Gr Str → Gr Str → Nat → Prop
  | nil : Ed .nil .nil 0
  | cut {t : Str} {w o h : Gr Str} {n : Nat} : Ed o h n → Ed (.cons t w o) h (1 + gsz w + n)
  | put {t : Str} {w o g : Gr Str} {n : Nat} : Ed g o n → Ed g (.cons t w o) (1 + gsz w + n)
  | keep {t t' : Str} {w w' o o' : Gr Str} {a b : Nat} : Ed w w' a → Ed o o' b → Ed (.cons t w o) (.cons t' w' o') (a + b + if t = t' then 0 else 1)
theorem dst_cut (t : Str) (w o h : Gr Str) : dst (.cons t w o) h ≤ 1 + gsz w + dst o h := by
  cases h with
  | nil =>
    rw [dst_nil_r, dst_nil_r]
    simp only [gsz]
    (first | lia | omega)
  | cons t' w' o' =>
    rw [dst_cons]
    (first | lia | omega)
theorem dst_put (t : Str) (w o g : Gr Str) : dst g (.cons t w o) ≤ 1 + gsz w + dst g o := by
  cases g with
  | nil =>
    rw [dst_nil, dst_nil]
    simp only [gsz]
    (first | lia | omega)
  | cons t' w' o' =>
    rw [dst_cons]
    (first | lia | omega)
theorem Ed.le {g h : Gr Str} {n : Nat} (e : Ed g h n) : dst g h ≤ n := by
  induction e with
  | nil => rw [dst_nil]; exact Nat.le_refl _
  | cut _ ih => exact Nat.le_trans (dst_cut ..) (Nat.add_le_add_left ih _)
  | put _ ih => exact Nat.le_trans (dst_put ..) (Nat.add_le_add_left ih _)
  | keep _ _ ih1 ih2 =>
    rw [dst_cons]
    (first | lia | omega)
theorem ed_nil : ∀ h : Gr Str, Ed .nil h (gsz h)
  | .nil => .nil
  | .cons t w o => .put (ed_nil o)
theorem ed_nil_r : ∀ g : Gr Str, Ed g .nil (gsz g)
  | .nil => .nil
  | .cons t w o => .cut (ed_nil_r o)
theorem dst_ed : ∀ (m : Nat) (g h : Gr Str), gsz g + gsz h ≤ m → Ed g h (dst g h)
  | m, .nil, h, _ => by rw [dst_nil]; exact ed_nil h
  | m, .cons t w o, .nil, _ => by rw [dst_nil_r]; exact ed_nil_r _
  | 0, .cons t w o, .cons t' w' o', hm => by
    simp only [gsz] at hm
    (first | lia | omega)
  | m + 1, .cons t w o, .cons t' w' o', hm => by
    simp only [gsz] at hm
    have e1 := dst_ed m o (.cons t' w' o') (by simp only [gsz]; (first | lia | omega))
    have e2 := dst_ed m (.cons t w o) o' (by simp only [gsz]; (first | lia | omega))
    have e3 := dst_ed m w w' (by (first | lia | omega))
    have e4 := dst_ed m o o' (by (first | lia | omega))
    have k1 : Ed (.cons t w o) (.cons t' w' o') _ := .cut e1
    have k2 : Ed (.cons t w o) (.cons t' w' o') _ := .put e2
    have k3 : Ed (.cons t w o) (.cons t' w' o') _ := .keep e3 e4
    rw [dst_cons]
    generalize 1 + gsz w + dst o (.cons t' w' o') = a at *
    generalize 1 + gsz w' + dst (.cons t w o) o' = b at *
    generalize (dst w w' + dst o o' + if t = t' then 0 else 1) = c at *
    rcases Nat.le_total a b with h1 | h1
    · rw [Nat.min_eq_left h1]
      rcases Nat.le_total a c with h2 | h2
      · rw [Nat.min_eq_left h2]; exact k1
      · rw [Nat.min_eq_right h2]; exact k3
    · rw [Nat.min_eq_right h1]
      rcases Nat.le_total b c with h2 | h2
      · rw [Nat.min_eq_left h2]; exact k2
      · rw [Nat.min_eq_right h2]; exact k3
theorem Ed.of (g h : Gr Str) : Ed g h (dst g h) := dst_ed _ g h (Nat.le_refl _)
theorem Ed.zero {g h : Gr Str} {n : Nat} (e : Ed g h n) : n = 0 → g = h := by
  induction e with
  | nil => exact fun _ => rfl
  | cut _ ih => intro z; (first | lia | omega)
  | put _ ih => intro z; (first | lia | omega)
  | @keep t t' _ _ _ _ a b _ _ ih1 ih2 =>
    intro z
    by_cases c : t = t'
    · rw [if_pos c] at z
      rw [c, ih1 (by (first | lia | omega)), ih2 (by (first | lia | omega))]
    · rw [if_neg c] at z
      (first | lia | omega)
theorem Ed.self : ∀ g : Gr Str, Ed g g 0
  | .nil => .nil
  | .cons t w o => by
    have := Ed.keep (t := t) (t' := t) (Ed.self w) (Ed.self o)
    rw [if_pos rfl] at this
    exact this
theorem Ed.symm {g h : Gr Str} {n : Nat} (e : Ed g h n) : Ed h g n := by
  induction e with
  | nil => exact .nil
  | cut _ ih => exact .put ih
  | put _ ih => exact .cut ih
  | @keep t t' w w' o o' a b _ _ ih1 ih2 =>
    have := Ed.keep (t := t') (t' := t) ih1 ih2
    have e : (if t' = t then (0 : Nat) else 1) = if t = t' then 0 else 1 := by
      by_cases c : t = t'
      · rw [if_pos c, if_pos c.symm]
      · rw [if_neg c, if_neg fun z => c z.symm]
    rw [e] at this
    exact this
theorem dst_symm (g h : Gr Str) : dst g h = dst h g := Nat.le_antisymm (Ed.of h g).symm.le (Ed.of g h).symm.le
theorem dst_zero (g h : Gr Str) : dst g h = 0 ↔ g = h := ⟨fun z => (Ed.of g h).zero z, fun z => by
  subst z
  have := (Ed.self g).le
  (first | lia | omega)⟩
end Fg

/-! groves changed tree by tree; == of groves -/
namespace Fg
open PySem L2 FgM
theorem Ed.app {a b c d : Gr Str} {m n : Nat} (e1 : Ed a b m) (e2 : Ed c d n) : Ed (gapp a c) (gapp b d) (m + n) := by
  induction e1 with
  | nil => rw [Nat.zero_add]; exact e2
  | cut _ ih => rw [Nat.add_assoc]; exact .cut ih
  | put _ ih => rw [Nat.add_assoc]; exact .put ih
  | @keep t t' w w' o o' x y h1 _ _ ih =>
    have := Ed.keep (t := t) (t' := t') h1 ih
    rw [show x + y + (if t = t' then 0 else 1) + n = x + (y + n) + if t = t' then 0 else 1 by (first | lia | omega)]
    exact this
theorem gsz_gapp : ∀ a b : Gr Str, gsz (gapp a b) = gsz a + gsz b
  | .nil, b => by simp [gapp, gsz]
  | .cons t w o, b => by simp only [gapp, gsz, gsz_gapp o b]; (first | lia | omega)
/-- all tags are among these -/
def TgIn (ts : List Str) : Gr Str → Prop
  | .nil => True
  | .cons t w o => t ∈ ts ∧ TgIn ts w ∧ TgIn ts o
theorem TgIn.app {ts : List Str} : ∀ {a b : Gr Str}, TgIn ts a → TgIn ts b → TgIn ts (gapp a b)
  | .nil, _, _, h => h
  | .cons _ _ _, _, ⟨h1, h2, h3⟩, h => ⟨h1, h2, TgIn.app h3 h⟩
theorem TgIn.clean {ts : List Str} (ht : ∀ t ∈ ts, t ≠ SL) : ∀ {g : Gr Str}, TgIn ts g → Clean SL g
  | .nil, _ => trivial
  | .cons _ _ _, ⟨h1, h2, h3⟩ => ⟨ht _ h1, TgIn.clean ht h2, TgIn.clean ht h3⟩
theorem TgIn.of {ts : List Str} : ∀ {g : Gr Str}, Clean SL g → (∀ x ∈ words SL g, x = SL ∨ x ∈ ts) → TgIn ts g
  | .nil, _, _ => trivial
  | .cons t w o, ⟨h1, h2, h3⟩, h => ⟨(h t (by simp [words])).resolve_left h1, TgIn.of h2 fun x hx => h x (by simp [words, hx]), TgIn.of h3 fun x hx => h x (by simp [words, hx])⟩
theorem eqvG : ∀ g h : Gr Str, PyData.eqvAll (dataG g) (dataG h) = true ↔ g = h
  | .nil, .nil => by simp [dataG, PyData.eqvAll]
  | .nil, .cons _ _ _ => by simp [dataG, PyData.eqvAll]
  | .cons _ _ _, .nil => by simp [dataG, PyData.eqvAll]
  | .cons t w o, .cons t' w' o' => by
    have e : PyData.eqvAll (dataG (.cons t w o)) (dataG (.cons t' w' o')) = ((PyData.eqv (.str t) (.str t') && (PyData.eqvAll (dataG w) (dataG w') && true)) && PyData.eqvAll (dataG o) (dataG o')) := rfl
    rw [e, eqv_str, Bool.and_eq_true, Bool.and_eq_true, Bool.and_true, eqvG w w', eqvG o o', decide_eq_true_eq]
    constructor
    · rintro ⟨⟨rfl, rfl⟩, rfl⟩
      rfl
    · intro z
      injection z with h1 h2 h3
      exact ⟨⟨h1, h2⟩, h3⟩
theorem eq_groves {K : PySem.W.Frag} {H : Hp} {a b : Addr} {xs ys : List V} {g h : Gr Str} {Q : VK} (hA : SqT K H a xs) (hB : SqT K H b ys) (hG : RepG H xs g) (hG' : RepG H ys h) (ok : OkW (words SL g)) (ok' : OkW (words SL h)) (hl : (words SL g).length < 200) (q : ∀ b : Bool, (b = true ↔ g = h) → Q (.bl b) H) : rEqD K false (.ref a) (.ref b) H Q := by
  have hy : (PyData.tuple (dataG g)).canLay0 = true := layG g ok
  have hy' : (PyData.tuple (dataG h)).canLay0 = true := layG h ok'
  have hd := depthG g
  refine ⟨.tuple (dataG g), .tuple (dataG h), .tup hA (dpG hG), .tup hB (dpG hG'), hy, hy', ?_, ?_⟩
  · show min (PyData.depthAll (dataG g) + 1) (PyData.depthAll (dataG h) + 1) ≤ 200
    (first | lia | omega)
  · show Q (.bl (PyData.eqvAll (dataG g) (dataG h))) H
    exact q _ (eqvG g h)
end Fg

/-! dict(list of pairs) whose keys are tuples -/
namespace Srd
open PySem PyProof.Rows
end Srd
namespace L2
open PySem PySem.Spec PyProof.Rows PySem.W Srd
end L2

/-! pairs of a number and a text in order; sorted of a dict whose keys are such pairs -/
namespace Srd
open PySem PyProof.Rows Srt PySem.W
end Srd
namespace L2
open PySem PySem.Spec PyProof.Rows PySem.W Srd
end L2

/-! parts of changers in the heap, streams; text.index, list.index of a tuple -/
namespace L2
open PySem PySem.Spec PyProof.Rows PySem.W
end L2
namespace Fg
open PySem L2 FgM
namespace Pa
end Pa
end Fg

/-! methods that may raise; isinstance of an exception, of any class -/
namespace L2
open PySem PySem.Spec PyProof.Rows PySem.W
end L2
namespace L2
open PySem PySem.Spec PyProof.Rows
end L2
namespace L2
open PySem PySem.Spec PyProof.Rows
end L2

/-! for k in d: a dict by ints or texts, walked; it is held fast while it is walked -/
namespace L2
open PySem PySem.Spec PyProof.Rows PySem.W
end L2

/-! C() where the class has no __init__ of its own -/
namespace L2
open PySem PySem.Spec PyProof.Rows PySem.W
end L2

/-! a def with defaults -/
namespace L2
open PySem PySem.Spec PyProof.Rows
end L2

/-! what comes of a grove by a changer, in any sense; the changed grove, its tags and depth -/
namespace Fg
open PySem L2 FgM
end Fg
namespace Fg
open PySem L2 FgM
end Fg

/-! sorted(d, reverse=True) at any length; defs with defaults that may raise -/
namespace Srd
open PySem PyProof.Rows Srt PySem.W
end Srd
namespace L2
open PySem PySem.Spec PyProof.Rows PySem.W
end L2
namespace L2
open PySem PySem.Spec PyProof.Rows
end L2

/-! a text put into a text by its repr: f'{x!r}' -/
namespace L2
open PySem PySem.Spec PyProof.Rows
end L2

/-! a dict by tuples, walked; sorted of a list of pairs of a number and a text; range with any step -/
namespace L2
open PySem PySem.Spec PyProof.Rows PySem.W
end L2
/-! a statement with a deep display, shut: pss_one would unfold it all -/
namespace L2
open PySem PySem.Spec PyProof.Rows
end L2

/-! an own class whose __init__ may raise -/
namespace L2
open PySem PySem.Spec PyProof.Rows PySem.W
end L2
/-! a dict by tuples that was walked may be changed again; a dict of one pair -/
namespace L2
open PySem PySem.Spec PyProof.Rows PySem.W
end L2
/-! isinstance of an exception without fields, of any class -/
namespace L2
open PySem PySem.Spec PyProof.Rows PySem.W
end L2

/-! str of nested tuples, min of three numbers, list(range(n)) -/
namespace L2
open PySem PySem.Spec PyProof.Rows
section
variable {X : Cx}
theorem call_min3 (hc : X.calm = true) : CallR X (.builtin "min") (fun xs H Q => ∃ i j k, xs = [.int i, .int j, .int k] ∧ Q (.int (if j < i then (if k < j then k else j) else (if k < i then k else i))) H) := by
  intro pins s σ H xs us Q I r h
  obtain ⟨i, j, k, rfl, q⟩ := h
  obtain ⟨u1, u2, u3, rfl, ⟨t, rfl⟩, ⟨t', rfl⟩, ⟨t'', rfl⟩⟩ : ∃ u1 u2 u3, us = [u1, u2, u3] ∧ RelV (.int i) u1 ∧ RelV (.int j) u2 ∧ RelV (.int k) u3 := by
    cases r with
    | cons r1 r =>
      cases r with
      | cons r2 r =>
        cases r with
        | cons r3 r =>
          cases r
          exact ⟨_, _, _, rfl, r1, r2, r3⟩
  refine min_three_ints (I.ok.hd hc) fun h' tk kp => ⟨_, H, I.kept kp, ?_, q⟩
  by_cases hj : j < i
  · rw [if_pos hj, if_pos hj]
    by_cases hk : k < j
    · rw [if_pos hk, if_pos hk]; exact ⟨_, rfl⟩
    · rw [if_neg hk, if_neg hk]; exact ⟨_, rfl⟩
  · rw [if_neg hj, if_neg hj]
    by_cases hk : k < i
    · rw [if_pos hk, if_pos hk]; exact ⟨_, rfl⟩
    · rw [if_neg hk, if_neg hk]; exact ⟨_, rfl⟩
/-- str of a tuple of texts and tuples -/
theorem call_strD (hg : X.A.guards = some []) (hu : X.A.units + 200 < cLine) : CallR X (.type "str") (fun xs H Q => ∃ (a : Addr) (d : PyData), xs = [.ref a] ∧ Dp X.K H (.ref a) d ∧ d.showable = true ∧ d.hasDict = false ∧ d.depth ≤ 190 ∧ d.shown.length ≤ sizeLine ∧ Q (.str d.shown) H) := by
  intro pins s σ H xs us Q I r h
  obtain ⟨a, d, rfl, hd, hs, hn, hdep, hz, q⟩ := h
  obtain ⟨u, rfl, ru⟩ := r.one
  cases ru
  obtain ⟨as, ra⟩ := hd.reads I rfl
  refine str_of_reads ra hs (PyData.noDict_hsm hn) hg (by (first | lia | omega)) (fun _ _ e => e) (fun h' u tk kp => ⟨.str d.shown, H, I.kept kp, ⟨_, rfl⟩, q⟩) hz
variable {e : Expr} {te : TE} {p p' pos pos' : Pos}
def rListRng (v : V) (H : Hp) (Q : VK) : Prop := ∃ n : Nat, v = .int (n : Int) ∧ n ≤ 1000 ∧ ∀ r, H r = none → Q (.ref r) (upd H r (.lst ((List.range n).map fun i : Nat => V.int (i : Int))))
theorem vals_map {f : Nat → V} : ∀ {l : List Nat} {us : List Value}, l.length = us.length → (∀ (j : Nat) (a : Nat) (u : Value), l[j]? = some a → us[j]? = some u → RelV (f a) u) → Vals (l.map f) us
  | [], [], _, _ => .nil
  | [], _ :: _, h, _ => nomatch h
  | _ :: _, [], h, _ => nomatch h
  | a :: l, u :: us, h, k => .cons (k 0 a u rfl rfl) (vals_map (Nat.succ.inj h) fun j b v h1 h2 => k (j + 1) b v h1 h2)
theorem pe_list_rng (hc : X.calm = true) (hg : Gl X "list") (hm : X.mg "list" = none) (hg' : Gl X "range") (hm' : X.mg "range" = none) (pa : PA X [e] (tCons te tNil))
    (hs : starEach [e] X.env = [(false, eval e X.env)] := by rfl) (hs' : starEach [.Call (.Name "range" p') [e] [] pos'] X.env = [(false, eval (.Call (.Name "range" p') [e] [] pos') X.env)] := by rfl) :
    PE X (.Call (.Name "list" p) [.Call (.Name "range" p') [e] [] pos'] [] pos) (fun σ H Q => te σ H fun v H1 => rListRng v H1 Q) := by
  intro pins s σ H Q I h
  refine wpAny_Call_Name_kw (ld_blt I hg hm bt_list ?_)
  refine PyProof.Rows.callWith_type1 ?_ hs' rfl
  rw [hs']
  refine Calls.spliced_cons ?_
  refine wpAny_Call_Name_kw (ld_blt I hg' hm' boot_range ?_)
  refine PyProof.Rows.callWith_type1 (thn (pa pos' pins s σ H (fun vs H1 => match vs with | [v] => rListRng v H1 Q | _ => False) I h) fun us s1 ⟨vs, H1, I1, r, q⟩ => ?_) hs rfl
  match vs, r, q with
  | [v], r, q =>
    obtain ⟨u, rfl, ru⟩ := r.one
    obtain ⟨n, rfl, hn, q⟩ := q
    obtain ⟨t, rfl⟩ := ru
    refine call_range_1 ?_
    refine Calls.spliced_nil ?_
    have e1 : Builtin.Range.rangeSize 0 (n : Int) 1 = ((n : Nat) : Int) := by
      rw [rangeSize_one]
      split <;> (first | lia | omega)
    refine call_list_range (I1.ok.hd hc) (IsRange.new ..) (small_one (by (first | lia | omega)) (by (first | lia | omega)) (by (first | lia | omega)) (by (first | lia | omega))) e1 (by (first | lia | omega)) fun h' tk acc c' hk hS hacc => ?_
    have sz : ∀ o : Obj, (s1.heap.push o).objs.size = s1.heap.objs.size + 1 := fun o => Heap.size_push ..
    have le : ∀ o : Obj, s1.heap.objs.size ≤ (s1.heap.push o).objs.size := fun o => by rw [sz]; exact Nat.le_succ _
    have hz2 : ((List.range n).map fun i : Nat => V.int (i : Int)).length ≤ sizeLine := by rw [List.length_map, List.length_range]; exact Nat.le_trans hn (by decide)
    have rr : Vals ((List.range n).map fun i : Nat => V.int (i : Int)) acc.toList := by
      refine vals_map (by rw [List.length_range, Array.length_toList, hacc.1]) fun j a u ha hu => ?_
      have hj : j < n := by
        have := (List.getElem?_eq_some_iff.mp ha).1
        rwa [List.length_range] at this
      rw [List.getElem?_range hj] at ha
      injection ha with ha
      subst ha
      have hu' : acc[j]? = some u := by simpa using hu
      obtain ⟨t', rfl⟩ := hacc.2 j u hu'
      exact ⟨t', by simp⟩
    exact ⟨.ref _, _, I1.laid (t' := tk) (fun b o eb => hk b o (Heap.get?_push_of_some _ eb)) (le _) (show ObjOk X.prog X.w _ h' _ (.lst _) from ⟨hz2, acc.toList, c', rr, by simpa using hS⟩), rfl, q _ (I1.hok.fresh (le _))⟩
end
end L2

/-! the text of a grove's tuples tells the grove; the distance of flat rows from behind -/
namespace Fg
open PySem PySem.Spec PyProof.Rows L2 FgM
/-- the signs of a tag's repr -/
def repN (t : Str) : List Nat := 39 :: (t.cps.toList ++ [39])
theorem repr_lets {t : Str} (h : Let0 t) : (reprText t).cps.toList = repN t := by
  have h39 : t.cps.contains 39 = false := by
    rw [← Bool.not_eq_true, Array.contains_iff_mem]
    intro z
    have := h 39 (Array.mem_toList_iff.mpr z)
    (first | lia | omega)
  have hq : reprQuote t = 39 := by
    unfold reprQuote
    rw [h39]
    rfl
  unfold reprText
  rw [hq, ← Array.foldl_toList]
  have key : ∀ (l : List Nat) (acc : Array Nat), (∀ c ∈ l, 97 ≤ c ∧ c ≤ 122) → (l.foldl (fun out c => out ++ (Builtin.Str.reprChar 39 c).toArray) acc).toList = acc.toList ++ l := by
    intro l
    induction l with
    | nil => intro acc _; simp
    | cons c l ih =>
      intro acc hl
      rw [List.foldl_cons, ih _ (fun x hx => hl x (List.mem_cons_of_mem _ hx))]
      have hc := hl c (List.mem_cons_self ..)
      have : Builtin.Str.reprChar 39 c = [c] := by
        obtain ⟨c1, c2⟩ := hc
        have : ∀ c : Fin 123, 97 ≤ c.val → Builtin.Str.reprChar 39 c.val = [c.val] := by decide +kernel
        exact this ⟨c, by (first | lia | omega)⟩ c1
      rw [this]
      simp
  show ((t.cps.toList.foldl (fun out c => out ++ (Builtin.Str.reprChar 39 c).toArray) #[39]).push 39).toList = _
  rw [Array.toList_push, key _ _ h]
  simp [repN]
mutual
/-- the signs of a row, written as a tuple -/
def txG : Gr Str → List Nat
  | .nil => [40, 41]
  | .cons t w o => 40 :: 40 :: (repN t ++ (44 :: 32 :: (txG w ++ (41 :: txA o))))
/-- behind the first tree -/
def txA : Gr Str → List Nat
  | .nil => [44, 41]
  | .cons t w o => 44 :: 32 :: 40 :: (repN t ++ (44 :: 32 :: (txG w ++ (41 :: txT o))))
/-- behind a later tree -/
def txT : Gr Str → List Nat
  | .nil => [41]
  | .cons t w o => 44 :: 32 :: 40 :: (repN t ++ (44 :: 32 :: (txG w ++ (41 :: txT o))))
end
def LetG : Gr Str → Prop
  | .nil => True
  | .cons t w o => Let0 t ∧ LetG w ∧ LetG o
theorem rep_pre : ∀ {a b : List Nat} {r r' : List Nat}, (∀ c ∈ a, 97 ≤ c ∧ c ≤ 122) → (∀ c ∈ b, 97 ≤ c ∧ c ≤ 122) → a ++ 39 :: r = b ++ 39 :: r' → a = b ∧ r = r'
  | [], [], _, _, _, _, h => by
    simp only [List.nil_append, List.cons.injEq, true_and] at h
    exact ⟨rfl, h⟩
  | [], c :: b, _, _, _, hb, h => by
    simp only [List.nil_append, List.cons_append, List.cons.injEq] at h
    have := hb c (List.mem_cons_self ..)
    (first | lia | omega)
  | c :: a, [], _, _, ha, _, h => by
    simp only [List.nil_append, List.cons_append, List.cons.injEq] at h
    have := ha c (List.mem_cons_self ..)
    (first | lia | omega)
  | c :: a, d :: b, r, r', ha, hb, h => by
    simp only [List.cons_append, List.cons.injEq] at h
    obtain ⟨rfl, h⟩ := h
    obtain ⟨h1, h2⟩ := rep_pre (fun x hx => ha x (List.mem_cons_of_mem _ hx)) (fun x hx => hb x (List.mem_cons_of_mem _ hx)) h
    exact ⟨by rw [h1], h2⟩
theorem rep_pre2 {t t' : Str} {r r' : List Nat} (h : Let0 t) (h' : Let0 t') (e : repN t ++ r = repN t' ++ r') : t = t' ∧ r = r' := by
  simp only [repN, List.cons_append, List.append_assoc, List.nil_append, List.cons.injEq, true_and] at e
  obtain ⟨h1, h2⟩ := rep_pre h h' e
  refine ⟨?_, h2⟩
  cases t
  cases t'
  congr 1
  exact Array.toList_inj.mp h1
theorem tx_pre : ∀ (g : Gr Str), LetG g → (∀ (h : Gr Str) (r r' : List Nat), LetG h → txG g ++ r = txG h ++ r' → g = h ∧ r = r') ∧ (∀ (h : Gr Str) (r r' : List Nat), LetG h → txT g ++ r = txT h ++ r' → g = h ∧ r = r') ∧ (∀ (h : Gr Str) (r r' : List Nat), LetG h → txA g ++ r = txA h ++ r' → g = h ∧ r = r') := by
  intro g
  induction g with
  | nil =>
    intro _
    refine ⟨?_, ?_, ?_⟩
    all_goals
      intro h r r' _ e
      cases h with
      | nil =>
        simp [txG, txT, txA] at e
        exact ⟨rfl, e⟩
      | cons t w o => simp [txG, txT, txA] at e
  | cons t w o ihw iho =>
    rintro ⟨l1, l2, l3⟩
    obtain ⟨w1, _, _⟩ := ihw l2
    obtain ⟨_, o1, o2⟩ := iho l3
    refine ⟨?_, ?_, ?_⟩
    · intro h r r' lh e
      cases h with
      | nil => simp [txG] at e
      | cons t' w' o' =>
        obtain ⟨k1, k2, k3⟩ := lh
        simp only [txG, List.cons_append, List.append_assoc, List.cons.injEq, true_and] at e
        obtain ⟨q1, e1⟩ := rep_pre2 l1 k1 e
        obtain ⟨q2, e2⟩ := w1 w' _ _ k2 (List.cons.inj (List.cons.inj e1).2).2
        obtain ⟨q3, e3⟩ := o2 o' _ _ k3 (List.cons.inj e2).2
        exact ⟨by rw [q1, q2, q3], e3⟩
    · intro h r r' lh e
      cases h with
      | nil => simp [txT] at e
      | cons t' w' o' =>
        obtain ⟨k1, k2, k3⟩ := lh
        simp only [txT, List.cons_append, List.append_assoc, List.cons.injEq, true_and] at e
        obtain ⟨q1, e1⟩ := rep_pre2 l1 k1 e
        obtain ⟨q2, e2⟩ := w1 w' _ _ k2 (List.cons.inj (List.cons.inj e1).2).2
        obtain ⟨q3, e3⟩ := o1 o' _ _ k3 (List.cons.inj e2).2
        exact ⟨by rw [q1, q2, q3], e3⟩
    · intro h r r' lh e
      cases h with
      | nil => simp [txA] at e
      | cons t' w' o' =>
        obtain ⟨k1, k2, k3⟩ := lh
        simp only [txA, List.cons_append, List.append_assoc, List.cons.injEq, true_and] at e
        obtain ⟨q1, e1⟩ := rep_pre2 l1 k1 e
        obtain ⟨q2, e2⟩ := w1 w' _ _ k2 (List.cons.inj (List.cons.inj e1).2).2
        obtain ⟨q3, e3⟩ := o1 o' _ _ k3 (List.cons.inj e2).2
        exact ⟨by rw [q1, q2, q3], e3⟩
/-- the pair of two groves, as data -/
def dataP (g h : Gr Str) : PyData := .tuple [.tuple (dataG g), .tuple (dataG h)]
def shP (g h : Gr Str) : Str := (dataP g h).shown
theorem tupT1 (x : Str) : (tupleText [x]).cps.toList = 40 :: (x.cps.toList ++ [44, 41]) := by
  show ((("(" : Str) ++ x ++ (",)" : Str))).cps.toList = _
  rw [app_cps, app_cps]
  rfl
theorem join_cps : ∀ (x : Str) (l : List Str), (Str.join ", " (x :: l)).cps.toList = x.cps.toList ++ (l.map fun y => 44 :: 32 :: y.cps.toList).flatten
  | x, [] => by simp [Str.join]
  | x, y :: l => by
    show (x ++ (", " : Str) ++ Str.join ", " (y :: l)).cps.toList = _
    rw [app_cps, app_cps, join_cps y l]
    show x.cps.toList ++ [44, 32] ++ _ = _
    simp
theorem tupT2 (x y : Str) (l : List Str) : (tupleText (x :: y :: l)).cps.toList = 40 :: (x.cps.toList ++ (((y :: l).map fun y => 44 :: 32 :: y.cps.toList).flatten ++ [41])) := by
  show ((("(" : Str) ++ Str.join ", " (x :: y :: l) ++ (")" : Str))).cps.toList = _
  rw [app_cps, app_cps, join_cps]
  show [40] ++ _ ++ [41] = _
  simp
theorem tx_shown : ∀ g : Gr Str, LetG g → (PyData.tuple (dataG g)).shown.cps.toList = txG g ∧ (((PyData.shownAll (dataG g)).map fun y => 44 :: 32 :: y.cps.toList).flatten ++ [41]) = txT g := by
  intro g
  induction g with
  | nil => intro _; exact ⟨rfl, rfl⟩
  | cons t w o ihw iho =>
    rintro ⟨l1, l2, l3⟩
    obtain ⟨w1, _⟩ := ihw l2
    obtain ⟨o1, o2⟩ := iho l3
    have tr : (PyData.tuple [.str t, .tuple (dataG w)]).shown.cps.toList = 40 :: (repN t ++ (44 :: 32 :: (txG w ++ [41]))) := by
      show (tupleText [reprText t, (PyData.tuple (dataG w)).shown]).cps.toList = _
      rw [tupT2, repr_lets l1]
      simp [w1]
    refine ⟨?_, ?_⟩
    · show (tupleText ((PyData.tuple [.str t, .tuple (dataG w)]).shown :: PyData.shownAll (dataG o))).cps.toList = _
      cases o with
      | nil =>
        show (tupleText [(PyData.tuple [.str t, .tuple (dataG w)]).shown]).cps.toList = _
        rw [tupT1, tr]
        simp [txG, txA]
      | cons t2 w2 o3 =>
        show (tupleText ((PyData.tuple [.str t, .tuple (dataG w)]).shown :: (PyData.tuple [.str t2, .tuple (dataG w2)]).shown :: PyData.shownAll (dataG o3))).cps.toList = _
        rw [tupT2, tr]
        have : (((PyData.tuple [.str t2, .tuple (dataG w2)]).shown :: PyData.shownAll (dataG o3)).map fun y => 44 :: 32 :: y.cps.toList).flatten ++ [41] = txT (.cons t2 w2 o3) := o2
        rw [this]
        simp [txG, txA, txT]
    · show ((((PyData.tuple [.str t, .tuple (dataG w)]).shown :: PyData.shownAll (dataG o)).map fun y => 44 :: 32 :: y.cps.toList).flatten ++ [41]) = _
      rw [List.map_cons, List.flatten_cons, List.append_assoc, o2, tr]
      simp [txT]
theorem shP_cps {g h : Gr Str} (hg : LetG g) (hh : LetG h) : (shP g h).cps.toList = 40 :: (txG g ++ (44 :: 32 :: (txG h ++ [41]))) := by
  show (tupleText [(PyData.tuple (dataG g)).shown, (PyData.tuple (dataG h)).shown]).cps.toList = _
  rw [tupT2, (tx_shown g hg).1]
  simp [(tx_shown h hh).1]
theorem shP_inj {g h g' h' : Gr Str} (hg : LetG g) (hh : LetG h) (hg' : LetG g') (hh' : LetG h') (e : shP g h = shP g' h') : g = g' ∧ h = h' := by
  have e2 := congrArg (fun z : Str => z.cps.toList) e
  simp only [shP_cps hg hh, shP_cps hg' hh', List.cons.injEq, true_and] at e2
  obtain ⟨q1, e3⟩ := (tx_pre g hg).1 g' _ _ hg' e2
  obtain ⟨q2, _⟩ := (tx_pre h hh).1 h' _ _ hh' (List.cons.inj (List.cons.inj e3).2).2
  exact ⟨q1, q2⟩
def ShG : Gr Str → Prop
  | .nil => True
  | .cons t w o => t.length ≤ 8 ∧ ShG w ∧ ShG o
theorem tx_len : ∀ g : Gr Str, ShG g → (txG g).length ≤ 2 + 20 * gsz g ∧ (txT g).length ≤ 1 + 20 * gsz g ∧ (txA g).length ≤ 2 + 20 * gsz g := by
  intro g
  induction g with
  | nil => intro _; exact ⟨by simp [txG, gsz], by simp [txT, gsz], by simp [txA, gsz]⟩
  | cons t w o ihw iho =>
    rintro ⟨l1, l2, l3⟩
    obtain ⟨w1, _, _⟩ := ihw l2
    obtain ⟨_, o1, o2⟩ := iho l3
    have hr : (repN t).length ≤ 10 := by
      simp only [repN, List.length_cons, List.length_append, List.length_nil, Array.length_toList]
      have : t.cps.size ≤ 8 := l1
      (first | lia | omega)
    refine ⟨?_, ?_, ?_⟩
    all_goals
      simp only [txG, txT, txA, List.length_cons, List.length_append, gsz]
      (first | lia | omega)
theorem shP_len {g h : Gr Str} (hg : LetG g) (hh : LetG h) (sg : ShG g) (sh : ShG h) : (shP g h).length ≤ 8 + 20 * (gsz g + gsz h) := by
  have : (shP g h).length = ((shP g h).cps.toList).length := by
    rw [Array.length_toList]
    rfl
  rw [this, shP_cps hg hh]
  have := (tx_len g sg).1
  have := (tx_len h sh).1
  simp only [List.length_cons, List.length_append, List.length_nil]
  (first | lia | omega)
theorem showG : ∀ g : Gr Str, PyData.showableAll (dataG g) = true ∧ PyData.hasDictAll (dataG g) = false
  | .nil => ⟨rfl, rfl⟩
  | .cons t w o => by
    obtain ⟨w1, w2⟩ := showG w
    obtain ⟨o1, o2⟩ := showG o
    refine ⟨?_, ?_⟩
    · show ((true && (PyData.showableAll (dataG w) && true)) && PyData.showableAll (dataG o)) = true
      rw [w1, o1]
      rfl
    · show ((false || (PyData.hasDictAll (dataG w) || false)) || PyData.hasDictAll (dataG o)) = false
      rw [w2, o2]
      rfl
/-- a row of trees with nothing within -/
def flt : List Str → Gr Str
  | [] => .nil
  | t :: l => .cons t .nil (flt l)
theorem flt_app : ∀ a b : List Str, flt (a ++ b) = gapp (flt a) (flt b)
  | [], _ => rfl
  | t :: a, b => by
    show Gr.cons t .nil (flt (a ++ b)) = Gr.cons t .nil (gapp (flt a) (flt b))
    rw [flt_app a b]
theorem gsz_flt : ∀ a : List Str, gsz (flt a) = a.length
  | [] => rfl
  | t :: a => by
    simp only [flt, gsz, List.length_cons, gsz_flt a]
    (first | lia | omega)
def lev (a b : List Str) : Nat := dst (flt a) (flt b)
theorem lev_nil (b : List Str) : lev [] b = b.length := by
  show dst .nil _ = _
  rw [dst_nil, gsz_flt]
theorem lev_nil_r (a : List Str) : lev a [] = a.length := by
  show dst _ .nil = _
  rw [dst_nil_r, gsz_flt]
theorem lev_cons (x y : Str) (a b : List Str) : lev (x :: a) (y :: b) = min (min (1 + lev a (y :: b)) (1 + lev (x :: a) b)) (lev a b + if x = y then 0 else 1) := by
  show dst (.cons x .nil (flt a)) (.cons y .nil (flt b)) = _
  rw [dst_cons, dst_nil]
  simp only [gsz, Nat.add_zero, Nat.zero_add]
  rfl
theorem lev_app (a b c d : List Str) : lev (a ++ c) (b ++ d) ≤ lev a b + lev c d := by
  unfold lev
  rw [flt_app, flt_app]
  exact ((Ed.of _ _).app (Ed.of _ _)).le
theorem lev_one (x y : Str) : lev [x] [y] ≤ if x = y then 0 else 1 := by
  rw [lev_cons]
  have : lev [] [] = 0 := lev_nil []
  rw [this]
  (first | lia | omega)
theorem lev_rev_le : ∀ (n : Nat) (a b : List Str), a.length + b.length ≤ n → lev a.reverse b.reverse ≤ lev a b
  | 0, a, b, h => by
    obtain rfl : a = [] := List.eq_nil_of_length_eq_zero (by (first | lia | omega))
    obtain rfl : b = [] := List.eq_nil_of_length_eq_zero (by (first | lia | omega))
    exact Nat.le_refl _
  | n + 1, [], b, h => by
    show lev [] b.reverse ≤ _
    rw [lev_nil, lev_nil, List.length_reverse]
    exact Nat.le_refl _
  | n + 1, x :: a, [], h => by
    show lev _ [] ≤ _
    rw [lev_nil_r, lev_nil_r, List.length_reverse]
    exact Nat.le_refl _
  | n + 1, x :: a, y :: b, h => by
    simp only [List.length_cons] at h
    have i1 := lev_rev_le n a (y :: b) (by simp only [List.length_cons]; (first | lia | omega))
    have i2 := lev_rev_le n (x :: a) b (by simp only [List.length_cons]; (first | lia | omega))
    have i3 := lev_rev_le n a b (by (first | lia | omega))
    have j1 := lev_app a.reverse (y :: b).reverse [x] []
    have j2 := lev_app (x :: a).reverse b.reverse [] [y]
    have j3 := lev_app a.reverse b.reverse [x] [y]
    have l1 := lev_one x y
    rw [List.append_nil, lev_nil_r] at j1
    rw [List.append_nil, lev_nil] at j2
    simp only [List.length_singleton] at j1 j2
    rw [lev_cons]
    simp only [List.reverse_cons] at i1 i2 j1 j2 ⊢
    (first | lia | omega)
theorem lev_rev (a b : List Str) : lev a.reverse b.reverse = lev a b := by
  have h1 := lev_rev_le _ a b (Nat.le_refl _)
  have h2 := lev_rev_le _ a.reverse b.reverse (Nat.le_refl _)
  rw [List.reverse_reverse, List.reverse_reverse] at h2
  (first | lia | omega)
theorem lev_snoc (x y : Str) (a b : List Str) : lev (a ++ [x]) (b ++ [y]) = min (min (1 + lev a (b ++ [y])) (1 + lev (a ++ [x]) b)) (lev a b + if x = y then 0 else 1) := by
  rw [← lev_rev (a ++ [x]) (b ++ [y]), ← lev_rev a (b ++ [y]), ← lev_rev (a ++ [x]) b, ← lev_rev a b, List.reverse_append, List.reverse_append]
  exact lev_cons x y a.reverse b.reverse
end Fg

namespace K83
open PySem L2 FgM Fg
def top (i : Nat) : Stmt := PySem.Challenge.pw_formgrove_k83_distance_by_rests.main.body.getD i (.Pass ⟨0, 0, 0, 0⟩)
abbrev s_words_of : Stmt := top 1
abbrev s_closings : Stmt := top 2
abbrev s_tree_size : Stmt := top 4
abbrev s_distance : Stmt := top 5
abbrev s_l_cell_at : Stmt := top 7
abbrev s_l_word : Stmt := top 8
abbrev s_l_pool : Stmt := top 9
abbrev s_l_grove : Stmt := top 10
abbrev s_l_size : Stmt := top 11
abbrev s_l_far : Stmt := top 12
abbrev s_l_flat_far : Stmt := top 13
abbrev s_l_like : Stmt := top 14
abbrev s_l_is : Stmt := top 15
abbrev s_law : Stmt := top 16
theorem sc_words_of : FnScope ["grove", "words", "waiting", "tree"] ["grove"] (defScope s_words_of) := ⟨rfl, rfl, rfl, by decide +kernel, rfl, by decide +kernel, by decide +kernel⟩
theorem sc_closings : FnScope ["words", "ended_at", "begun", "place", "word"] ["words"] (defScope s_closings) := ⟨rfl, rfl, rfl, by decide +kernel, rfl, by decide +kernel, by decide +kernel⟩
theorem sc_tree_size : FnScope ["ended_at", "place"] ["ended_at", "place"] (defScope s_tree_size) := ⟨rfl, rfl, rfl, by decide +kernel, rfl, by decide +kernel, by decide +kernel⟩
theorem sc_distance : FnScope ["one", "other", "words", "ended_at", "mates", "mates_ended_at", "told", "place", "mate", "prices", "kept"] ["one", "other"] (defScope s_distance) := ⟨rfl, rfl, rfl, by decide +kernel, rfl, by decide +kernel, by decide +kernel⟩
theorem sc_l_cell_at : FnScope ["_law_script", "_law_k"] ["_law_script", "_law_k"] (defScope s_l_cell_at) := ⟨rfl, rfl, rfl, by decide +kernel, rfl, by decide +kernel, by decide +kernel⟩
theorem sc_l_word : FnScope ["_law_cell", "_law_word_here", "_law_k", "_law_number"] ["_law_cell"] (defScope s_l_word) := ⟨rfl, rfl, rfl, by decide +kernel, rfl, by decide +kernel, by decide +kernel⟩
theorem sc_l_pool : FnScope ["_law_cell", "_law_many", "_law_base", "_law_at", "_law_letters"] ["_law_cell", "_law_many"] (defScope s_l_pool) := ⟨rfl, rfl, rfl, by decide +kernel, rfl, by decide +kernel, by decide +kernel⟩
theorem sc_l_grove : FnScope ["_law_script", "_law_start", "_law_many", "_law_tags", "_law_rows", "_law_opened", "_law_k", "_law_cell", "_law_number", "_law_j", "_law_kidrow"] ["_law_script", "_law_start", "_law_many", "_law_tags"] (defScope s_l_grove) := ⟨rfl, rfl, rfl, by decide +kernel, rfl, by decide +kernel, by decide +kernel⟩
theorem sc_l_size : FnScope ["_law_row"] ["_law_row"] (defScope s_l_size) := ⟨rfl, rfl, rfl, by decide +kernel, rfl, by decide +kernel, by decide +kernel⟩
theorem sc_l_far : FnScope ["_law_kept", "_law_one", "_law_other", "_law_key", "_law_cut", "_law_put", "_law_stay"] ["_law_kept", "_law_one", "_law_other"] (defScope s_l_far) := ⟨rfl, rfl, rfl, by decide +kernel, rfl, by decide +kernel, by decide +kernel⟩
theorem sc_l_flat_far : FnScope ["_law_one", "_law_other", "_law_line", "_law_k", "_law_below", "_law_j"] ["_law_one", "_law_other"] (defScope s_l_flat_far) := ⟨rfl, rfl, rfl, by decide +kernel, rfl, by decide +kernel, by decide +kernel⟩
theorem sc_l_like : FnScope ["_law_one", "_law_cell", "_law_tags", "_law_at"] ["_law_one", "_law_cell", "_law_tags"] (defScope s_l_like) := ⟨rfl, rfl, rfl, by decide +kernel, rfl, by decide +kernel, by decide +kernel⟩
theorem sc_l_is : FnScope ["_law_told", "_law_due"] ["_law_told", "_law_due"] (defScope s_l_is) := ⟨rfl, rfl, rfl, by decide +kernel, rfl, by decide +kernel, by decide +kernel⟩
theorem sc_law : FnScope ["_law_script", "_law_first", "_law_second", "_law_tags", "_law_one", "_law_other", "_law_due"] ["_law_script"] (defScope s_law) := ⟨rfl, rfl, rfl, by decide +kernel, rfl, by decide +kernel, by decide +kernel⟩
abbrev blts : List Str := ["bool", "enumerate", "int", "isinstance", "len", "list", "max", "min", "range", "str", "sum", "tuple"]
section
variable {P : Program} {w : World} {K : PySem.W.Frag} {mg : Str → Option Value} {base : Heap} {f : Addr} {fd : FuncData}
theorem ok_words_of (B : ∀ x ∈ blts, mg x = none) (F : Fun K "words_of" "words_of" s_words_of f fd) : FnOk P w K mg base CX0 1 f fd ["grove"] (spWords K) := by
  refine F.ok sc_words_of (fun vs H Q E h => ?_) (fun cdv A outer s H vs Q E hr h => ?_)
  · obtain ⟨a, xs, g, rfl, _⟩ := h
    rfl
  obtain ⟨a, xs, g, rfl, hT, hG, hlen, q⟩ := h
  have hu := hu_room hr
  refine ⟨_, (pss_cons (ps_set (i := 1) sc_words_of.nd rfl (Or.inl rfl) (pe_lst pa_nil))
    (pss_cons (ps_set (i := 2) sc_words_of.nd rfl (Or.inl rfl) (pe_callTy call_list_of rfl (B "list" (by decide)) bt_list (pa_cons (pe_revT (pv 0)) pa_nil)))
    (pss_cons (ps_while PassesOwn.never (pt_truth (pv 2) (fun _ => rfl))
      (pss_cons (ps_set (i := 3) sc_words_of.nd rfl (Or.inl rfl) (pe_bm0 PySem.F.plainAttrs_list PySem.F.slot_list_pop PySem.F.type_list_pop mt_pop (pv 2)))
        (pss_one (ps_if (pt_cmpR (op_eqTS hu) (pv 3) pe_str (nomark _))
          (pss_one (ps_expr (pe_bm PySem.F.plainAttrs_list PySem.F.slot_list_append PySem.F.type_list_append mt_append (pv 1) (pa_cons (pv 3) pa_nil))))
          (pss_cons (ps_expr (pe_bm PySem.F.plainAttrs_list PySem.F.slot_list_append PySem.F.type_list_append mt_append (pv 1) (pa_cons (pe_ix ix_tup (pv 3) pe_int (fun _ _ => rfl)) pa_nil)))
            (pss_cons (ps_expr (pe_bm PySem.F.plainAttrs_list PySem.F.slot_list_append PySem.F.type_list_append mt_append (pv 2) (pa_cons pe_str pa_nil)))
            (pss_one (ps_expr (pe_bm PySem.F.plainAttrs_list PySem.F.slot_list_extend PySem.F.type_list_extend mt_extendT (pv 2) (pa_cons (pe_revT (pe_ix ix_tup (pv 3) pe_int (fun _ _ => rfl))) pa_nil))))))))))
    (pss_one (ps_ret (pv 1)))))), ?_⟩
  -- words = []; waiting = list(grove[::-1])
  refine ⟨by decide, fun p hp => ?_⟩
  refine ⟨_, rfl, a, xs, rfl, (Same.new hp).seqT hT, fun t ht => ⟨t, _, rfl, .inr (SqT.of upd_same), fun l hl => ?_⟩⟩
  obtain ⟨ntp, ht0⟩ := upd_none ht
  obtain ⟨nlt, hl0⟩ := upd_none hl
  obtain ⟨nlp, hl1⟩ := upd_none hl0
  -- the loop
  let W : Nat → St → Hp → Prop := fun m σ H1 => ∃ (acc : List Str) (st : List (Item Str)) (vs : List V) (v3 : Option V), σ = [some (.ref a), some (.ref p), some (.ref l), v3] ∧ Same H H1 ∧
    H1 p = some (.lst (acc.map V.str)) ∧ H1 l = some (.lst vs) ∧ Paired (RepI H1) vs st ∧ acc ++ toCome SL st = words SL g ∧ m = (toCome SL st).length
  have s3 : Same H (upd (upd (upd H p (.lst [])) t (.tup xs.reverse)) l (.lst xs.reverse)) := ((Same.new hp).upd_new ht0).upd_new hl1
  refine ⟨W, ⟨_, [], (items g).reverse, xs.reverse, none, rfl, s3, ?_, upd_same, ?_, ?_, rfl⟩, ?_⟩
  · rw [upd_ne nlp.symm, upd_ne ntp.symm]
    exact upd_same
  · exact stk_mono s3.tk (paired_rev hG.items)
  · rw [toCome_grove]
    rfl
  rintro m σ H1 ⟨acc, st, vs, v3, rfl, sm, hp1, hl1', hst, hw, rfl⟩
  have hacc : acc.length ≤ 1000 := by
    have := congrArg List.length hw
    rw [List.length_append] at this
    (first | lia | omega)
  refine ⟨_, rfl, !vs.isEmpty, .inl ⟨vs, SqL.of hl1', rfl⟩, ?_⟩
  by_cases e : vs = []
  · subst e
    cases hst
    refine iteF ?_
    rw [toCome_nil, List.append_nil] at hw
    subst hw
    exact ⟨_, rfl, q p H1 sm hp hp1⟩
  · obtain ⟨vs', v, rfl⟩ := snoc_of e
    obtain ⟨st', x, rfl, hst', hx⟩ := Paired.unsnoc hst
    have ne : (!(vs' ++ [v]).isEmpty) = true := by simp
    rw [ne]
    refine iteT ?_
    rw [toCome_snoc] at hw
    refine ⟨fun σ' H' => ∃ m', m' < (toCome SL (st' ++ [x])).length ∧ W m' σ' H', fun _ _ h => h, ?_⟩
    refine ⟨_, rfl, .inl ⟨rfl, _, SqL.of hl1'⟩, l, _, v, rfl, rfl, hl1', snoc_last _ _, ?_⟩
    rw [snoc_drop]
    have k1 : TK H1 (upd H1 l (.lst vs')) := TK.lst hl1'
    have hp2 : (upd H1 l (.lst vs')) p = some (.lst (acc.map V.str)) := by
      rw [upd_ne nlp.symm]
      exact hp1
    have hstk := stk_mono k1 hst'
    have hx2 := hx.mono k1
    have sm2 : Same H (upd H1 l (.lst vs')) := sm.upd_new hl1
    have hvl : vs'.length = st'.length := Paired.length hst'
    have hsl : st'.length ≤ 1000 := by
      have := congrArg List.length hw
      rw [List.length_append, List.length_append] at this
      have h2 := toCome_len SL st'
      (first | lia | omega)
    cases x with
    | none =>
      have hv : v = .str SL := hx
      subst hv
      refine ⟨_, rfl, .inr ⟨rfl, _, rfl, ?_⟩⟩
      refine ite2 (fun _ => ?_) (fun c => absurd (decide_eq_true rfl) c)
      refine ⟨_, rfl, .inl ⟨rfl, _, SqL.of hp2⟩, _, rfl, p, _, _, rfl, rfl, hp2, len1000' (by rw [List.length_map]; (first | lia | omega)), ?_⟩
      refine ⟨(toCome SL st').length, ?_, acc ++ [SL], st', vs', _, rfl, sm2.upd_new hp, ?_, ?_, stk_mono (TK.lst hp2) hstk, ?_, rfl⟩
      · rw [toCome_snoc, List.length_append]
        show _ < 1 + _
        (first | lia | omega)
      · rw [upd_same, List.map_append]
        rfl
      · rw [upd_ne nlp]
        exact upd_same
      · rw [List.append_assoc]
        exact hw
    | some tw =>
      obtain ⟨t', w'⟩ := tw
      obtain ⟨p', q', ys, rfl, h1, h2, h3⟩ := hx2
      refine ⟨_, rfl, .inl ⟨p', _, _, rfl, rfl, SqT.of h1, _, rfl, ?_⟩⟩
      refine iteF ?_
      refine ⟨_, rfl, .inl ⟨rfl, _, SqL.of hp2⟩, _, rfl, p', _, 0, _, rfl, rfl, SqT.of h1, rfl, p, _, _, rfl, rfl, hp2, len1000' (by rw [List.length_map]; (first | lia | omega)), ?_⟩
      have k3 : TK (upd H1 l (.lst vs')) (upd (upd H1 l (.lst vs')) p (.lst (acc.map V.str ++ [.str t']))) := TK.lst hp2
      have hl3 : (upd (upd H1 l (.lst vs')) p (.lst (acc.map V.str ++ [.str t']))) l = some (.lst vs') := by
        rw [upd_ne nlp]
        exact upd_same
      refine ⟨_, rfl, .inl ⟨rfl, _, SqL.of hl3⟩, l, _, _, rfl, rfl, hl3, len1000' (by (first | lia | omega)), ?_⟩
      have k4 := TK.lst (o := .lst (vs' ++ [.str SL])) hl3
      have hl4 : (upd (upd (upd H1 l (.lst vs')) p (.lst (acc.map V.str ++ [.str t']))) l (.lst (vs' ++ [.str SL]))) l = some (.lst (vs' ++ [.str SL])) := upd_same
      refine ⟨_, rfl, .inl ⟨rfl, _, SqL.of hl4⟩, _, rfl, p', _, 1, _, rfl, rfl, SqT.of (k4 _ _ (k3 _ _ h1)), rfl, q', ys, rfl, SqT.of (k4 _ _ (k3 _ _ h2)), fun t2 ht2 => ?_⟩
      obtain ⟨n2l, ht3⟩ := upd_none ht2
      obtain ⟨n2p, ht4⟩ := upd_none ht3
      obtain ⟨_, ht5⟩ := upd_none ht4
      have hl5 : (upd (upd (upd (upd H1 l (.lst vs')) p (.lst (acc.map V.str ++ [.str t']))) l (.lst (vs' ++ [.str SL]))) t2 (.tup ys.reverse)) l = some (.lst (vs' ++ [.str SL])) := by
        rw [upd_ne n2l.symm]
        exact upd_same
      have hys := h3.length
      have hwl : (words SL w').length ≤ 1000 := by
        have := congrArg List.length hw
        rw [List.length_append, List.length_append] at this
        have e2 : (wi SL (some (t', w'))).length = (words SL w').length + 2 := by
          show (t' :: (words SL w' ++ [SL])).length = _
          rw [List.length_cons, List.length_append]
          rfl
        (first | lia | omega)
      refine ⟨l, t2, _, _, rfl, rfl, hl5, SqT.of upd_same, len1000 (by rw [List.length_append, List.length_reverse, List.length_singleton]; (first | lia | omega)), ?_⟩
      have k6 := (k3.trans k4).trans ((TK.new (o := .tup ys.reverse) ht2).trans (TK.lst (o := .lst ((vs' ++ [.str SL]) ++ ys.reverse)) hl5))
      refine ⟨(toCome SL (st' ++ [none] ++ (items w').reverse)).length, ?_, acc ++ [t'], st' ++ [none] ++ (items w').reverse, _, _, rfl, ?_, ?_, upd_same, ?_, ?_, rfl⟩
      · rw [toCome_tree, toCome_snoc]
        show _ < (t' :: (words SL w' ++ [SL]) ++ toCome SL st').length
        simp only [List.length_append, List.length_cons, List.length_nil]
        (first | lia | omega)
      · exact (((sm2.upd_new hp).upd_new hl1).upd_new (sm.free ht5)).upd_new hl1
      · rw [upd_ne nlp.symm, upd_ne n2p.symm, upd_ne nlp.symm, upd_same, List.map_append]
        rfl
      · exact Paired.app (Paired.app (stk_mono k6 hstk) (.cons rfl .nil)) (stk_mono k6 (paired_rev h3.items))
      · rw [toCome_tree, ← hw]
        show _ = acc ++ (t' :: (words SL w' ++ [SL]) ++ toCome SL st')
        simp
def spClosK (K : PySem.W.Frag) : Sp := fun vs H Q _ => ∃ (a : Addr) (ws : List Str), vs = [.ref a] ∧ SqL K H a (ws.map V.str) ∧ Can SL 0 ws ∧ ws.length ≤ 1000 ∧ ∀ (d : Addr) (H' : Hp), Same H H' → H d = none → H' d = some (.dK (kvC (cst ws ws.length).2)) → Q (.ref d) H'
theorem snoc_lastV (l : List V) (x : V) : (l ++ [x])[(l ++ [x]).length - 1]? = some x := by
  rw [List.length_append, List.length_singleton, Nat.add_sub_cancel, List.getElem?_append_right (Nat.le_refl _), Nat.sub_self]
  rfl
set_option maxHeartbeats 1000000 in
theorem ok_closings (B : ∀ x ∈ blts, mg x = none) (F : Fun K "closings" "closings" s_closings f fd) : FnOk P w K mg base CX0 1 f fd ["words"] (spClosK K) := by
  refine F.ok sc_closings (fun vs H Q E h => ?_) (fun cdv A outer s H vs Q E hr h => ?_)
  · obtain ⟨a, ws, rfl, _⟩ := h
    rfl
  obtain ⟨a, ws, rfl, hS, hcan, hwl, q⟩ := h
  have hu1 : (A.deeper (PyProof.Rows.envOfC (Str.ofString "closings") (defScope s_closings) s.heap.objs.size f cdv)).units + 1 < cLine := by have := hr.un; (first | lia | omega)
  refine ⟨_, (pss_cons (ps_set (i := 1) sc_closings.nd rfl (Or.inl rfl) pe_dnewK)
    (pss_cons (ps_set (i := 2) sc_closings.nd rfl (Or.inl rfl) (pe_lst pa_nil))
    (pss_cons (ps_for PassesOwn.never rfl (pi_enum rfl (B "enumerate" (by decide)) (pa_cons (pv 0) pa_nil)) (pg_tup rfl (pgs_cons (pg_name (i := 3) sc_closings.nd rfl (Or.inl rfl)) (pgs_cons (pg_name (i := 4) sc_closings.nd rfl (Or.inl rfl)) pgs_nil)))
      (pss_one (ps_if (pt_cmpR op_eq (pv 4) pe_str (nomark _))
          (pss_one (ps_dput hu1 (pv 1) (pe_bm0 PySem.F.plainAttrs_list PySem.F.slot_list_pop PySem.F.type_list_pop mt_pop (pv 2)) (pv 3) rfl))
          (pss_one (ps_expr (pe_bm PySem.F.plainAttrs_list PySem.F.slot_list_append PySem.F.type_list_append mt_append (pv 2) (pa_cons (pv 3) pa_nil)))))))
    (pss_one (ps_ret (pv 1)))))), ?_⟩
  refine fun d hd => ⟨by decide, fun b hb => ?_⟩
  obtain ⟨nbd, hb0⟩ := upd_none hb
  have s2 : Same H (upd (upd H d (.dK [])) b (.lst [])) := (Same.new hd).upd_new hb0
  refine ⟨_, rfl, a, _, rfl, s2.seq hS, for_enum (K := K) (a := a) (xs := ws.map V.str) (fun i σ H1 => ∃ (v3 v4 : Option V), σ = [some (.ref a), some (.ref d), some (.ref b), v3, v4] ∧ Same H H1 ∧ H1 d = some (.dK (kvC (cst ws i).2)) ∧ H1 b = some (.lst ((cst ws i).1.reverse.map fun (o : Nat) => V.int (o : Int))))
    ⟨none, none, rfl, s2, by rw [upd_ne nbd.symm]; exact upd_same, upd_same⟩ ?_ ?_ ?_⟩
  · rintro i σ H1 _ ⟨v3, v4, _, sm, _⟩
    exact sm.seq hS
  · rintro i x p σ H0 hi ⟨v3, v4, rfl, sm0, hd0, hb1⟩ hp
    rw [List.getElem?_map] at hi
    obtain ⟨wd, hw, rfl⟩ := Option.map_eq_some_iff.mp hi
    have hil := (List.getElem?_eq_some_iff.mp hw).1
    have x := cst_ok hcan i (by (first | lia | omega))
    have s0 : Same H0 (upd H0 p (.tup [.int i, .str wd])) := Same.new hp
    have sm := sm0.trans s0
    have hd1 := s0 _ _ hd0
    have hb2 := s0 _ _ hb1
    refine ⟨p, _, rfl, SqT.of upd_same, rfl, _, _, rfl, _, _, rfl, rfl, ?_⟩
    generalize upd H0 p (.tup [.int i, .str wd]) = H1 at sm hd1 hb2 ⊢
    have nbd2 : d ≠ b := fun e => by rw [e, hb2] at hd1; cases hd1
    have hcl : (kvC (cst ws i).2).length ≤ 1000 := by
      have := x.cnt
      unfold kvC
      rw [List.length_map]
      (first | lia | omega)
    refine ⟨_, rfl, rfl, _, rfl, ite2 (fun c => ?_) (fun c => ?_)⟩
    · have e : wd = SL := by
        have := of_decide_eq_true c
        injection this
      subst e
      cases hs : (cst ws i).1 with
      | nil =>
        have := x.len
        rw [hs, drop_here hw, bk_sl] at this
        cases this
      | cons o os =>
        have hz := cst_end hw hs
        have hno : o ∉ (cst ws i).2.map (·.1) := fun h => by
          have := x.nd
          rw [hs, List.cons_append, List.nodup_cons] at this
          exact this.1 (List.mem_append_right _ h)
        rw [hs, List.reverse_cons, List.map_append] at hb2
        have hb3 : H1 b = some (.lst ((os.reverse.map fun (o : Nat) => V.int (o : Int)) ++ [.int (o : Int)])) := hb2
        refine ⟨_, rfl, _, rfl, _, rfl, .inl ⟨rfl, _, SqL.of hb3⟩, b, _, _, rfl, rfl, hb3, snoc_lastV _ _, ?_⟩
        rw [List.dropLast_concat]
        have hd2 : (upd H1 b (.lst (os.reverse.map fun (o : Nat) => V.int (o : Int)))) d = some (.dK (kvC (cst ws i).2)) := by rw [upd_ne nbd2]; exact hd1
        refine ⟨d, _, rfl, DPut.k (k := Sum.inl (o : Int)) hd2 (len1000' (by (first | lia | omega))), ?_⟩
        refine ⟨_, _, rfl, (sm.upd_new hb0).upd_new hd, ?_, ?_⟩
        · rw [upd_same, putK_new _ (kvC_none hno), hz]
          unfold kvC
          rw [List.map_append]
          rfl
        · rw [upd_ne nbd2.symm, upd_same, hz]
    · have e : wd ≠ SL := fun z => c (by rw [z]; exact decide_eq_true rfl)
      have hz := cst_tag hw e
      refine ⟨_, rfl, .inl ⟨rfl, _, SqL.of hb2⟩, _, rfl, b, _, _, rfl, rfl, hb2, len1000' (by rw [List.length_map, List.length_reverse]; have := x.cnt; (first | lia | omega)), ?_⟩
      refine ⟨_, _, rfl, sm.upd_new hb0, by rw [upd_ne nbd2, hz]; exact hd1, ?_⟩
      rw [upd_same, hz, List.reverse_cons, List.map_append]
      rfl
  · rintro σ H1 ⟨v3, v4, rfl, sm, hd1, hb1⟩
    rw [List.length_map] at hd1
    exact ⟨_, rfl, q d H1 sm hd hd1⟩
def spTreeV : Sp := fun vs H Q _ => ∃ (d : Addr) (ps : List (Nat × Nat)) (p e : Nat), vs = [.ref d, .int (p : Int)] ∧ H d = some (.dK (kvC ps)) ∧ (ps.map (·.1)).Nodup ∧ (p, e) ∈ ps ∧ Q (.int (((e : Int) + 1 - (p : Int)) / 2)) H
theorem ok_tree_size (B : ∀ x ∈ blts, mg x = none) (F : Fun K "tree_size" "tree_size" s_tree_size f fd) : FnOk P w K mg base CX0 1 f fd ["ended_at", "place"] spTreeV := by
  refine F.ok sc_tree_size (fun vs H Q E h => ?_) (fun cdv A outer s H vs Q E hr h => ?_)
  · obtain ⟨d, ps, p, e, rfl, _⟩ := h
    rfl
  obtain ⟨d, ps, p, e, rfl, hd, hn, hm, q⟩ := h
  have hu1 : (A.deeper (PyProof.Rows.envOfC (Str.ofString "tree_size") (defScope s_tree_size) s.heap.objs.size f cdv)).units + 1 < cLine := by have := hr.un; (first | lia | omega)
  refine ⟨_, (pss_one (ps_ret (pe_op op_fdiv (pe_op op_sub (pe_op op_add (pe_dget hu1 (pv 0) (pv 1) (fun _ _ => rfl)) pe_int) (pv 1)) pe_int))), ?_⟩
  have hcv : DGet H d (V.int (p : Int)) (some (.int (e : Int))) := by
    have := DGet.k (k := Sum.inl (p : Int)) hd
    rw [kvC_some hn hm] at this
    exact this
  exact ⟨_, rfl, _, rfl, d, _, rfl, hcv, _, _, rfl, rfl, _, rfl, _, _, rfl, rfl, _, _, rfl, rfl, ⟨by decide, by decide⟩, q⟩
def spDistV : Sp := fun vs H Q _ => ∃ (a b : Addr) (xs ys : List V) (g h : Gr Str), vs = [.ref a, .ref b] ∧ H a = some (.tup xs) ∧ RepG H xs g ∧ Clean SL g ∧ gsz g ≤ 400 ∧ H b = some (.tup ys) ∧ RepG H ys h ∧ Clean SL h ∧ gsz h ≤ 400 ∧ ∀ H', Same H H' → Q (.int (dst g h : Nat)) H'
/-- what the closings of a grove's words tell at a place -/
theorem cl_at {g : Gr Str} {p : Nat} (hn : ((prs 0 g).map (·.1)).Nodup) (hp : p ≤ 2 * gsz g) :
    ((∀ (H : Hp) d, H d = some (.dK (kvC (prs 0 g))) → DGet H d (.int (p : Int)) none) ∧ atG g p = .nil) ∨ ∃ (e : Nat) (t : Str) (w o : Gr Str), (∀ (H : Hp) d, H d = some (.dK (kvC (prs 0 g))) → DGet H d (.int (p : Int)) (some (.int (e : Int)))) ∧ (p, e) ∈ prs 0 g ∧ atG g p = .cons t w o ∧ e = p + 1 + 2 * gsz w ∧ atG g (p + 1) = w ∧ atG g (e + 1) = o ∧ (words SL g)[p]? = some t ∧ e + 1 ≤ 2 * gsz g := by
  by_cases c : p ∈ (prs 0 g).map (·.1)
  · obtain ⟨⟨p', e⟩, hm, rfl⟩ := List.mem_map.mp c
    obtain ⟨i, hi, t, w, o, h1, h2, h3, h4, h5, h6⟩ := prs_at g 0 p' e hm
    obtain rfl : p' = i := by (first | lia | omega)
    refine .inr ⟨e, t, w, o, fun H d hd => ?_, hm, h1, h2, h3, by rw [h2, show p' + 1 + 2 * gsz w + 1 = p' + 2 * gsz w + 2 by (first | lia | omega)]; exact h4, h5, by (first | lia | omega)⟩
    have := DGet.k (k := Sum.inl (p' : Int)) hd
    rw [kvC_some hn hm] at this
    exact this
  · refine .inl ⟨fun H d hd => ?_, prs_no g 0 p (by rw [Nat.zero_add]; exact c) hp⟩
    have := DGet.k (k := Sum.inl (p : Int)) hd
    rw [kvC_none c] at this
    exact this
theorem cst_all {g : Gr Str} (hc : Clean SL g) : (cst (words SL g) (words SL g).length).2 = prs 0 g := by
  have := cst_words g (words SL g) 0 hc fun j _ => by rw [Nat.zero_add]
  rw [Nat.zero_add] at this
  rw [gsz_words, this]
  rfl
set_option maxHeartbeats 2000000 in
theorem ok_distance (B : ∀ x ∈ blts, mg x = none) (g_words_of : Has P w K mg base "words_of" ["grove"] 1 (spWords K)) (g_closings : Has P w K mg base "closings" ["words"] 1 (spClosK K)) (g_tree_size : Has P w K mg base "tree_size" ["ended_at", "place"] 1 spTreeV)
    (F : Fun K "distance" "distance" s_distance f fd) : FnOk P w K mg base CX0 2 f fd ["one", "other"] spDistV := by
  refine F.ok sc_distance (fun vs H Q E h => ?_) (fun cdv A outer s H vs Q E hr h => ?_)
  · obtain ⟨a, b, xs, ys, g, h, rfl, _⟩ := h
    rfl
  obtain ⟨a, b, xs, ys, g, h, rfl, ha, hG, hgc, hg4, hb, hG', hhc, hh4, q⟩ := h
  have hu1 : (A.deeper (PyProof.Rows.envOfC (Str.ofString "distance") (defScope s_distance) s.heap.objs.size f cdv)).units + 1 < cLine := by have := hr.un; (first | lia | omega)
  have hu := hu_room hr
  refine hideI ((defBody s_distance).drop 6) (pss_one (ps_ret (pe_ix ix_list (pe_ix ix_list (pv 6) pe_int (fun _ _ => rfl)) pe_int (fun _ _ => rfl)))) (fun u6 h6 e6 => ?_)
  refine hideI ((sBody ((sBody ((defBody s_distance).getD 5 (.Pass ⟨0, 0, 0, 0⟩))).getD 0 (.Pass ⟨0, 0, 0, 0⟩))).drop 4) (pss_one (ps_asg (pe_min_d hu rfl rfl (B "min" (by decide)) (pa_cons (pv 9) pa_nil) pe_int) (pg_sub (pe_ix ix_list (pv 6) (pv 7) (fun _ _ => rfl)) (pv 8) set_list))) (fun u5_0_4 h5_0_4 e5_0_4 => ?_)
  refine hideI ((sBody ((sBody ((sBody ((defBody s_distance).getD 5 (.Pass ⟨0, 0, 0, 0⟩))).getD 0 (.Pass ⟨0, 0, 0, 0⟩))).getD 3 (.Pass ⟨0, 0, 0, 0⟩))).drop 1) (pss_one (ps_expr (pe_bm PySem.F.plainAttrs_list PySem.F.slot_list_append PySem.F.type_list_append mt_append (pv 9) (pa_cons (pe_op op_add (pv 10) (pe_ifExp (pt_cmpR op_eq (pe_ix ix_list (pv 2) (pv 7) (fun _ _ => rfl)) (pe_ix ix_list (pv 4) (pv 8) (fun _ _ => rfl)) (nomark _)) pe_int pe_int)) pa_nil)))) (fun u5_0_3t1 h5_0_3t1 e5_0_3t1 => ?_)
  refine hideI ((sBody ((sBody ((sBody ((defBody s_distance).getD 5 (.Pass ⟨0, 0, 0, 0⟩))).getD 0 (.Pass ⟨0, 0, 0, 0⟩))).getD 3 (.Pass ⟨0, 0, 0, 0⟩))).drop 0) (pss_cons (ps_set (i := 10) sc_distance.nd rfl (Or.inl rfl) (pe_op op_add (pe_ix ix_list (pe_ix ix_list (pv 6) (pe_op op_add (pv 7) pe_int) (fun _ _ => rfl)) (pe_op op_add (pv 8) pe_int) (fun _ _ => rfl)) (pe_ix ix_list (pe_ix ix_list (pv 6) (pe_op op_add (pe_dget hu1 (pv 3) (pv 7) (fun _ _ => rfl)) pe_int) (fun _ _ => rfl)) (pe_op op_add (pe_dget hu1 (pv 5) (pv 8) (fun _ _ => rfl)) pe_int) (fun _ _ => rfl)))) h5_0_3t1) (fun u5_0_3t0 h5_0_3t0 e5_0_3t0 => ?_)
  refine hideI ((sBody ((sBody ((defBody s_distance).getD 5 (.Pass ⟨0, 0, 0, 0⟩))).getD 0 (.Pass ⟨0, 0, 0, 0⟩))).drop 3) (pss_cons (ps_if (PW.pt (pw_and (pt_cmp (pc_din hu1 (pv 7) (pv 3))) (pw_and1 (pt_cmp (pc_din hu1 (pv 8) (pv 5))))))
      h5_0_3t0
      pss_nil) h5_0_4) (fun u5_0_3 h5_0_3 e5_0_3 => ?_)
  refine hideI ((sBody ((sBody ((defBody s_distance).getD 5 (.Pass ⟨0, 0, 0, 0⟩))).getD 0 (.Pass ⟨0, 0, 0, 0⟩))).drop 2) (pss_cons (ps_if (pt_cmp (pc_din hu1 (pv 8) (pv 5)))
      (pss_one (ps_expr (pe_bm PySem.F.plainAttrs_list PySem.F.slot_list_append PySem.F.type_list_append mt_append (pv 9) (pa_cons (pe_op op_add (pe_has g_tree_size hr rfl (pa_cons (pv 5) (pa_cons (pv 8) pa_nil))) (pe_ix ix_list (pe_ix ix_list (pv 6) (pv 7) (fun _ _ => rfl)) (pe_op op_add (pe_dget hu1 (pv 5) (pv 8) (fun _ _ => rfl)) pe_int) (fun _ _ => rfl))) pa_nil))))
      pss_nil) h5_0_3) (fun u5_0_2 h5_0_2 e5_0_2 => ?_)
  refine hideI ((sBody ((sBody ((defBody s_distance).getD 5 (.Pass ⟨0, 0, 0, 0⟩))).getD 0 (.Pass ⟨0, 0, 0, 0⟩))).drop 1) (pss_cons (ps_if (pt_cmp (pc_din hu1 (pv 7) (pv 3)))
      (pss_one (ps_expr (pe_bm PySem.F.plainAttrs_list PySem.F.slot_list_append PySem.F.type_list_append mt_append (pv 9) (pa_cons (pe_op op_add (pe_has g_tree_size hr rfl (pa_cons (pv 3) (pa_cons (pv 7) pa_nil))) (pe_ix ix_list (pe_ix ix_list (pv 6) (pe_op op_add (pe_dget hu1 (pv 3) (pv 7) (fun _ _ => rfl)) pe_int) (fun _ _ => rfl)) (pv 8) (fun _ _ => rfl))) pa_nil))))
      pss_nil) h5_0_2) (fun u5_0_1 h5_0_1 e5_0_1 => ?_)
  refine hideI ((sBody ((sBody ((defBody s_distance).getD 5 (.Pass ⟨0, 0, 0, 0⟩))).getD 0 (.Pass ⟨0, 0, 0, 0⟩))).drop 0) (pss_cons (ps_set (i := 9) sc_distance.nd rfl (Or.inl rfl) (pe_lst pa_nil)) h5_0_1) (fun u5_0_0 h5_0_0 e5_0_0 => ?_)
  refine hideI ((sBody ((defBody s_distance).getD 5 (.Pass ⟨0, 0, 0, 0⟩))).drop 0) (pss_one (ps_for PassesOwn.never rfl (pi_range3 rfl (B "range" (by decide)) (pa_cons (pe_callB call_len_seq rfl (B "len" (by decide)) PySem.boot_len (pa_cons (pv 4) pa_nil)) (pa_cons (pe_un un_neg pe_int) (pa_cons (pe_un un_neg pe_int) pa_nil)))) (pg_name (i := 8) sc_distance.nd rfl (Or.inl rfl))
      h5_0_0)) (fun u5_0 h5_0 e5_0 => ?_)
  refine hideI ((defBody s_distance).drop 5) (pss_cons (ps_for PassesOwn.never rfl (pi_range3 rfl (B "range" (by decide)) (pa_cons (pe_callB call_len_seq rfl (B "len" (by decide)) PySem.boot_len (pa_cons (pv 2) pa_nil)) (pa_cons (pe_un un_neg pe_int) (pa_cons (pe_un un_neg pe_int) pa_nil)))) (pg_name (i := 7) sc_distance.nd rfl (Or.inl rfl))
      h5_0) h6) (fun u5 h5 e5 => ?_)
  refine hideI ((defBody s_distance).drop 4) (pss_cons (ps_set_comp (cl := _) (n0 := 6) sc_distance.nd rfl (Or.inl rfl) ["place"] [("mates", 4)] (pi_range1 rfl (B "range" (by decide)) (pa_cons (pe_op op_add (pe_callB call_len_seq rfl (B "len" (by decide)) PySem.boot_len (pa_cons (pv 2) pa_nil)) pe_int) pa_nil)) (fun _ _ _ _ => (pg_name (i := 0) (show List.Nodup (["place", "mates"] : List Str) by decide) rfl (Or.inl rfl))) (fun _ _ _ _ => (pe_op op_rep (pe_lst (pa_cons pe_int pa_nil)) (pe_op op_add (pe_callB (call_len_seqK (K := K) rfl) rfl (B "len" (by decide)) PySem.boot_len (pa_cons (pv 1) pa_nil)) pe_int))) rfl rfl (by decide) rfl (by decide) (cap_cl (by (repeat' first | exact List.forall_mem_nil _ | refine List.forall_mem_cons.mpr ⟨?_, ?_⟩) <;> rfl)) (cap_has (by (repeat' first | exact List.forall_mem_nil _ | refine List.forall_mem_cons.mpr ⟨?_, ?_⟩) <;> first | (intro h; exact ⟨_, rfl⟩) | (intro h; exact absurd h (by decide)))) (fun _ => by (repeat' first | exact List.forall_mem_nil _ | refine List.forall_mem_cons.mpr ⟨?_, ?_⟩) <;> exact ⟨rfl, rfl, Or.inl rfl⟩) (fun _ => rfl) rfl) h5) (fun u4 h4 e4 => ?_)
  refine hideI ((defBody s_distance).drop 3) (pss_cons (ps_set (i := 5) sc_distance.nd rfl (Or.inl rfl) (pe_has g_closings hr rfl (pa_cons (pv 4) pa_nil))) h4) (fun u3 h3 e3 => ?_)
  refine hideI ((defBody s_distance).drop 2) (pss_cons (ps_set (i := 4) sc_distance.nd rfl (Or.inr rfl) (pe_has g_words_of hr rfl (pa_cons (pv 1) pa_nil))) h3) (fun u2 h2 e2 => ?_)
  refine hideI ((defBody s_distance).drop 1) (pss_cons (ps_set (i := 3) sc_distance.nd rfl (Or.inl rfl) (pe_has g_closings hr rfl (pa_cons (pv 2) pa_nil))) h2) (fun u1 h1 e1 => ?_)
  refine hideI ((defBody s_distance).drop 0) (pss_cons (ps_set (i := 2) sc_distance.nd rfl (Or.inl rfl) (pe_has g_words_of hr rfl (pa_cons (pv 0) pa_nil))) h1) (fun u0 h0 e0 => ?_)
  refine ⟨u0, h0, ?_⟩
  have gw := gsz_words g
  have hcg : Can SL 0 (words SL g) := by
    have := can_words (n := 0) (ws := []) hgc rfl
    rwa [List.append_nil] at this
  have hch : Can SL 0 (words SL h) := by
    have := can_words (n := 0) (ws := []) hhc rfl
    rwa [List.append_nil] at this
  have hw := gsz_words h
  refine by_eq e0 ?_
  refine ⟨_, rfl, a, xs, g, rfl, SqT.of ha, hG, by (first | lia | omega), fun W H1 s1 _ hW => ?_⟩
  refine by_eq e1 ?_
  refine ⟨_, rfl, W, _, rfl, SqL.of hW, hcg, by (first | lia | omega), fun D H2 s2 _ hD => ?_⟩
  rw [cst_all hgc] at hD
  refine by_eq e2 ?_
  refine ⟨_, rfl, b, ys, h, rfl, SqT.of (s2 _ _ (s1 _ _ hb)), hG'.mono (fun b ys e => s2 _ _ (s1 _ _ e)), by (first | lia | omega), fun M H3 s3 _ hM => ?_⟩
  refine by_eq e3 ?_
  refine ⟨_, rfl, M, _, rfl, SqL.of hM, hch, by (first | lia | omega), fun D' H4 s4 _ hD' => ?_⟩
  rw [cst_all hhc] at hD'
  have hW4 := s4 _ _ (s3 _ _ (s2 _ _ hW))
  have hD4 := s4 _ _ (s3 _ _ hD)
  have hM4 := s4 _ _ hM
  have s14 : Same H H4 := ((s1.trans s2).trans s3).trans s4
  have lg : (((words SL g).map V.str).length : Int) = ((2 * gsz g : Nat) : Int) := by rw [List.length_map, gw]
  have lh : (((words SL h).map V.str).length : Int) = ((2 * gsz h : Nat) : Int) := by rw [List.length_map, hw]
  have hng : ((prs 0 g).map (·.1)).Nodup := by
    have := (cst_ok hcg _ (Nat.le_refl _)).nd
    rw [cst_all hgc] at this
    exact (List.nodup_append.mp this).2.1
  have hnh : ((prs 0 h).map (·.1)).Nodup := by
    have := (cst_ok hch _ (Nat.le_refl _)).nd
    rw [cst_all hhc] at this
    exact (List.nodup_append.mp this).2.1
  refine by_eq e4 ?_
  refine ⟨_, rfl, W, _, rfl, .inl (SqL.of hW4), _, _, rfl, rfl, ((2 * gsz g + 1 : Nat) : Int), congrArg (fun z => [V.int z]) (by rw [lg]; rfl), by (first | lia | omega), by (first | lia | omega), fun L hL => ?_⟩
  refine comp_range (lo := 0) (n := 2 * gsz g + 1) (p := L) (fun i ys σ H2 => ∃ (v0 : Option V) (rs : List Addr), σ = [v0, some (.ref M)] ∧ Same H4 H2 ∧ H2 L = some (.lst ys) ∧ ys = rs.map V.ref ∧ rs.length = i ∧ (L :: rs).Nodup ∧ (∀ b ∈ L :: rs, H4 b = none) ∧ ∀ r ∈ rs, H2 r = some (.lst (rowV (2 * gsz h + 1) fun _ => 0)))
    ⟨none, [], rfl, Same.new hL, upd_same, rfl, rfl, by simp, fun b hb => by rw [List.mem_singleton.mp hb]; exact hL, fun _ h => (nomatch h)⟩ ?_ ?_ ?_
  · rintro i ys σ H2 _ ⟨v0, rs, _, _, h, _⟩
    exact h
  · rintro i ys σ H5 hi ⟨v0, rs, rfl, sm, hp, rfl, hrl, hnd, hfr, hrows⟩
    refine ⟨by decide, fun p0 hp0 => ?_⟩
    have k0 : Same H5 (upd H5 p0 (.lst [.int 0])) := Same.new hp0
    refine ⟨_, rfl, M, _, rfl, .inl (SqL.of (k0 _ _ (sm _ _ hM4))), _, _, rfl, rfl, p0, ((2 * gsz h + 1 : Nat) : Int), _, rfl, congrArg V.int (by rw [lh]; rfl), upd_same, by (first | lia | omega), by (first | lia | omega), len1000 (by show 1 * (2 * gsz h + 1) ≤ _; (first | lia | omega)), fun r hr' => ?_⟩
    obtain ⟨nrp, hr0⟩ := upd_none hr'
    have k1 : Same H5 (upd (upd H5 p0 (.lst [.int 0])) r (.lst (List.replicate ((2 * gsz h + 1 : Nat) : Int).toNat [V.int 0]).flatten)) := k0.upd_new hr0
    have nrL : L ≠ r := ne_of_none hp hr0
    have er : (List.replicate ((2 * gsz h + 1 : Nat) : Int).toNat [V.int 0]).flatten = rowV (2 * gsz h + 1) fun _ => 0 := by
      rw [Int.toNat_natCast]
      generalize 2 * gsz h + 1 = n
      unfold rowV
      apply List.ext_getElem?
      intro k
      rw [List.getElem?_map]
      by_cases hk : k < n
      · rw [List.getElem?_range hk, show (List.replicate n [V.int 0]).flatten = List.replicate n (V.int 0) by simp]
        simp [hk]
      · rw [List.getElem?_eq_none (by simp; (first | lia | omega)), List.getElem?_eq_none (by simp; (first | lia | omega))]
        rfl
    refine ⟨k1 _ _ hp, len1000' (by rw [List.length_map]; (first | lia | omega)), CW.next hi ⟨_, rs ++ [r], rfl, (sm.trans k1).upd_new hL, upd_same, by rw [List.map_append]; rfl, by rw [List.length_append, List.length_singleton]; (first | lia | omega), ?_, ?_, ?_⟩⟩
    · have hnr : r ∉ rs := fun hm => by
        have := hrows r hm
        rw [hr0] at this
        cases this
      obtain ⟨n1, n2⟩ := List.nodup_cons.mp hnd
      refine List.nodup_cons.mpr ⟨fun hm => ?_, List.nodup_append.mpr ⟨n2, by simp, fun x hx y hy e => ?_⟩⟩
      · rcases List.mem_append.mp hm with hm | hm
        · exact n1 hm
        · exact nrL (List.mem_singleton.mp hm)
      · rw [List.mem_singleton.mp hy] at e
        exact hnr (e ▸ hx)
    · intro b hb
      rcases List.mem_cons.mp hb with rfl | hb
      · exact hL
      · rcases List.mem_append.mp hb with hb | hb
        · exact hfr b (List.mem_cons_of_mem _ hb)
        · rw [List.mem_singleton.mp hb]
          exact sm.free hr0
    · intro b hb
      rcases List.mem_append.mp hb with hb | hb
      · have e := k1 _ _ (hrows b hb)
        rw [upd_ne (show b ≠ L from fun z => (List.nodup_cons.mp hnd).1 (by rw [← z]; exact hb))]
        exact e
      · rw [List.mem_singleton.mp hb, upd_ne nrL.symm, upd_same, er]
  rintro ys σ H5 ⟨v0, rs, rfl, sm5, hp5, rfl, hrl, hnd, hfr, hrows⟩
  have tb0 : Tb H5 L rs (2 * gsz h + 1) fun _ _ => 0 := ⟨hp5, hnd, fun i r hr => hrows r (List.mem_of_getElem? hr)⟩
  have hL0 := hfr L (List.mem_cons_self ..)
  refine by_eq e5 ?_
  refine ⟨_, rfl, W, _, rfl, .inl (SqL.of (sm5 _ _ hW4)), 1, rfl, 1, rfl, ((2 * gsz g : Nat) : Int), -1, -1, congrArg (fun z => [V.int z, V.int (-1), V.int (-1)]) lg, ⟨by (first | lia | omega), by (first | lia | omega), by (first | lia | omega), by (first | lia | omega)⟩, .inr rfl, ?_⟩
  rw [rng_down]
  refine for_steps (lo := ((2 * gsz g : Nat) : Int)) (c := -1) (n := 2 * gsz g + 1) (fun i σ H1 => ∃ (v7 v8 v9 v10 : Option V) (Fn : Nat → Nat → Int), σ = [some (.ref a), some (.ref b), some (.ref W), some (.ref D), some (.ref M), some (.ref D'), some (.ref L), v7, v8, v9, v10] ∧ Same H4 H1 ∧ Tb H1 L rs (2 * gsz h + 1) Fn ∧ ∀ p q, 2 * gsz g < p + i → p ≤ 2 * gsz g → q ≤ 2 * gsz h → Fn p q = (dst (atG g p) (atG h q) : Nat))
    ⟨_, _, _, _, _, rfl, sm5, tb0, fun p q h1 h2 _ => by (first | lia | omega)⟩ ?_ ?_
  · rintro i σ H6 hi ⟨v7, v8, v9, v10, Fn, rfl, sm6, tb6, hF⟩
    obtain ⟨p, hp, ep⟩ : ∃ p : Nat, p + i = 2 * gsz g ∧ ((2 * gsz g : Nat) : Int) + (i : Int) * -1 = (p : Int) := ⟨2 * gsz g - i, by (first | lia | omega), by (first | lia | omega)⟩
    rw [ep]
    refine by_eq e5_0 ?_
    refine ⟨_, rfl, M, _, rfl, .inl (SqL.of (sm6 _ _ hM4)), 1, rfl, 1, rfl, ((2 * gsz h : Nat) : Int), -1, -1, congrArg (fun z => [V.int z, V.int (-1), V.int (-1)]) lh, ⟨by (first | lia | omega), by (first | lia | omega), by (first | lia | omega), by (first | lia | omega)⟩, .inr rfl, ?_⟩
    rw [rng_down]
    refine for_steps (lo := ((2 * gsz h : Nat) : Int)) (c := -1) (n := 2 * gsz h + 1) (fun j σ H1 => ∃ (v8 v9 v10 : Option V) (Fn : Nat → Nat → Int), σ = [some (.ref a), some (.ref b), some (.ref W), some (.ref D), some (.ref M), some (.ref D'), some (.ref L), some (.int (p : Int)), v8, v9, v10] ∧ Same H4 H1 ∧ Tb H1 L rs (2 * gsz h + 1) Fn ∧ (∀ p' q, p < p' → p' ≤ 2 * gsz g → q ≤ 2 * gsz h → Fn p' q = (dst (atG g p') (atG h q) : Nat)) ∧ ∀ q, 2 * gsz h < q + j → q ≤ 2 * gsz h → Fn p q = (dst (atG g p) (atG h q) : Nat))
      ⟨_, _, _, _, rfl, sm6, tb6, fun p' q h1 h2 h3 => hF p' q (by (first | lia | omega)) h2 h3, fun q h1 h2 => by (first | lia | omega)⟩ ?_ ?_
    · rintro j σ H7 hj ⟨v8, v9, v10, Fn, rfl, sm7, tb7, hF1, hF2⟩
      obtain ⟨q', hq, eq⟩ : ∃ q : Nat, q + j = 2 * gsz h ∧ ((2 * gsz h : Nat) : Int) + (j : Int) * -1 = (q : Int) := ⟨2 * gsz h - j, by (first | lia | omega), by (first | lia | omega)⟩
      rw [eq]
      have hp2 : p ≤ 2 * gsz g := by (first | lia | omega)
      have hq2 : q' ≤ 2 * gsz h := by (first | lia | omega)
      refine by_eq e5_0_0 ?_
      refine ⟨by decide, fun pl hpl => ?_⟩
      have k0 : Same H7 (upd H7 pl (.lst [])) := Same.new hpl
      refine via (t := u5_0_4) (R := fun σ H8 => ∃ (v10 : Option V) (ps : List Int), σ = [some (.ref a), some (.ref b), some (.ref W), some (.ref D), some (.ref M), some (.ref D'), some (.ref L), some (.int (p : Int)), some (.int (q' : Int)), some (.ref pl), v10] ∧ Same H7 H8 ∧ H8 pl = some (.lst (ps.map V.int)) ∧ ∀ m : Int, (ps = [] → m = 0) → (ps ≠ [] → m ∈ ps ∧ ∀ x ∈ ps, m ≤ x) → m = (dst (atG g p) (atG h q') : Nat)) ?_ fun fin => ?_
      · rintro σ H8 ⟨v10, ps, rfl, s8, h8, hmin⟩
        refine by_eq e5_0_4 ?_
        refine ⟨_, rfl, pl, ps, rfl, SqL.of h8, fun pm hpm => ?_⟩
        have npm : pl ≠ pm := ne_of_none h8 hpm
        have s9 : Same H8 (upd H8 pm (.lst [])) := Same.new hpm
        have tb9 := tb7.same (s8.trans s9)
        obtain ⟨r, hr1, hr2, hr3⟩ := tb9.at1 (i := p) (by (first | lia | omega))
        refine ⟨fun o => SqL.of (by rw [upd_ne npm]; exact h8), fun e => ?_, fun m hm hle => ?_⟩
        all_goals
          first
          | have hm' := hmin m (fun z => by rw [z] at hm; cases hm) fun _ => ⟨hm, hle⟩
          | have hm' := hmin 0 (fun _ => rfl) fun z => absurd e z
          refine ⟨_, rfl, _, rfl, L, _, _, _, rfl, rfl, SqL.of tb9.hL, hr2, _, rfl, r, _, _, q', rfl, rfl, hr3, ix_nat (by rw [rowV_len]; (first | lia | omega)), ?_⟩
          refine ⟨_, _, _, _, rfl, ((sm7.trans (s8.trans s9)).upd_new (hfr r (List.mem_cons_of_mem _ (List.mem_of_getElem? hr1)))), tb9.put hr1, fun p' x h1 h2 h3 => ?_, fun x h1 h2 => ?_⟩
          · show (if p' = p ∧ x = q' then _ else Fn p' x) = _
            rw [if_neg (by (first | lia | omega))]
            exact hF1 p' x h1 h2 h3
          · show (if p = p ∧ x = q' then _ else Fn p x) = _
            by_cases c : x = q'
            · rw [if_pos ⟨rfl, c⟩, c]
              exact hm'
            · rw [if_neg (fun z => c z.2)]
              exact hF2 x (by (first | lia | omega)) h2
      -- the three prices
      have hD7 := sm7 _ _ hD4
      have hD7' := sm7 _ _ hD'
      have cell : ∀ (H8 : Hp), Same H7 H8 → ∀ x y : Nat, x ≤ 2 * gsz g → y ≤ 2 * gsz h → ∃ r, H8 L = some (.lst (rs.map V.ref)) ∧ atI (rs.map V.ref) (x : Int) = some (.ref r) ∧ H8 r = some (.lst (rowV (2 * gsz h + 1) (Fn x))) ∧ atI (rowV (2 * gsz h + 1) (Fn x)) (y : Int) = some (.int (Fn x y)) := fun H8 s8 x y hx hy => by
        have tb8 := tb7.same s8
        obtain ⟨r, _, h1, h2⟩ := tb8.at1 (i := x) (by (first | lia | omega))
        exact ⟨r, tb8.hL, h1, h2, rowV_atI (by (first | lia | omega))⟩
      have tz : ∀ (x e : Nat) (w : Gr Str), e = x + 1 + 2 * gsz w → ((e : Int) + 1 - (x : Int)) / 2 = ((1 + gsz w : Nat) : Int) := fun x e w he => by (first | lia | omega)
      rcases cl_at (p := p) hng hp2 with ⟨d1, n1⟩ | ⟨e, t, w, o, d1, m1, c1, x1, y1, z1, w1, b1⟩
      · refine by_eq e5_0_1 ?_
        refine ⟨_, rfl, _, rfl, D, _, rfl, d1 _ _ (k0 _ _ hD7), _, rfl, iteF ?_⟩
        rcases cl_at (p := q') hnh hq2 with ⟨d2, n2⟩ | ⟨e', t', w', o', d2, m2, c2, x2, y2, z2, w2, b2⟩
        · refine by_eq e5_0_2 ?_
          refine ⟨_, rfl, _, rfl, D', _, rfl, d2 _ _ (k0 _ _ hD7'), _, rfl, iteF ?_⟩
          refine by_eq e5_0_3 ?_
          refine ⟨_, rfl, _, rfl, D, _, rfl, d1 _ _ (k0 _ _ hD7), _, rfl, iteF ?_⟩
          refine fin _ _ ⟨_, [], rfl, k0, upd_same, fun m h1 _ => ?_⟩
          rw [h1 rfl, n1, n2, dst_nil]
          rfl
        · refine by_eq e5_0_2 ?_
          refine ⟨_, rfl, _, rfl, D', _, rfl, d2 _ _ (k0 _ _ hD7'), _, rfl, iteT ?_⟩
          obtain ⟨r, cL, ca, cr, cv⟩ := cell _ k0 p (e' + 1) hp2 b2
          refine ⟨_, rfl, .inl ⟨rfl, _, SqL.of upd_same⟩, _, rfl, _, rfl, D', prs 0 h, q', e', rfl, k0 _ _ hD7', hnh, m2, _, rfl, _, rfl, L, _, _, _, rfl, rfl, SqL.of cL, ca, _, rfl, _, rfl, D', _, rfl, d2 _ _ (k0 _ _ hD7'), _, _, rfl, rfl, r, _, ((e' + 1 : Nat) : Int), _, rfl, congrArg V.int (by (first | lia | omega)), SqL.of cr, cv, _, _, rfl, rfl, pl, _, _, rfl, rfl, upd_same, by decide, ?_⟩
          refine by_eq e5_0_3 ?_
          have k1 : Same H7 (upd (upd H7 pl (.lst [])) pl (.lst [.int (((e' : Int) + 1 - (q' : Int)) / 2 + Fn p (e' + 1))])) := k0.upd_new hpl
          refine ⟨_, rfl, _, rfl, D, _, rfl, d1 _ _ (k1 _ _ hD7), _, rfl, iteF ?_⟩
          refine fin _ _ ⟨_, [_], rfl, k1, upd_same, fun m _ h1 => ?_⟩
          rw [List.mem_singleton.mp (h1 (List.cons_ne_nil _ _)).1, tz q' e' w' x2, hF2 (e' + 1) (by (first | lia | omega)) b2, z2, n1, c2, dst_nil, dst_nil]
          simp only [gsz]
          (first | lia | omega)
      · refine by_eq e5_0_1 ?_
        refine ⟨_, rfl, _, rfl, D, _, rfl, d1 _ _ (k0 _ _ hD7), _, rfl, iteT ?_⟩
        obtain ⟨r, cL, ca, cr, cv⟩ := cell _ k0 (e + 1) q' b1 hq2
        refine ⟨_, rfl, .inl ⟨rfl, _, SqL.of upd_same⟩, _, rfl, _, rfl, D, prs 0 g, p, e, rfl, k0 _ _ hD7, hng, m1, _, rfl, _, rfl, _, rfl, D, _, rfl, d1 _ _ (k0 _ _ hD7), _, _, rfl, rfl, L, _, ((e + 1 : Nat) : Int), _, rfl, congrArg V.int (by (first | lia | omega)), SqL.of cL, ca, _, rfl, r, _, _, _, rfl, rfl, SqL.of cr, cv, _, _, rfl, rfl, pl, _, _, rfl, rfl, upd_same, by decide, ?_⟩
        have k1 : Same H7 (upd (upd H7 pl (.lst [])) pl (.lst [.int (((e : Int) + 1 - (p : Int)) / 2 + Fn (e + 1) q')])) := k0.upd_new hpl
        have hk1 : (upd (upd H7 pl (.lst [])) pl (.lst [.int (((e : Int) + 1 - (p : Int)) / 2 + Fn (e + 1) q')])) pl = some (.lst [.int (((e : Int) + 1 - (p : Int)) / 2 + Fn (e + 1) q')]) := upd_same
        have e9 : ((e : Int) + 1 - (p : Int)) / 2 + Fn (e + 1) q' = ((1 + gsz w : Nat) : Int) + ((dst o (atG h q') : Nat) : Int) := by rw [tz p e w x1, hF1 (e + 1) q' (by (first | lia | omega)) b1 hq2, z1]
        show u5_0_2 _ _ (upd (upd H7 pl (.lst [])) pl (.lst [.int (((e : Int) + 1 - (p : Int)) / 2 + Fn (e + 1) q')]))
        generalize upd (upd H7 pl (.lst [])) pl (.lst [.int (((e : Int) + 1 - (p : Int)) / 2 + Fn (e + 1) q')]) = H8 at k1 hk1 ⊢
        rw [e9] at hk1
        rcases cl_at (p := q') hnh hq2 with ⟨d2, n2⟩ | ⟨e', t', w', o', d2, m2, c2, x2, y2, z2, w2, b2⟩
        · refine by_eq e5_0_2 ?_
          refine ⟨_, rfl, _, rfl, D', _, rfl, d2 _ _ (k1 _ _ hD7'), _, rfl, iteF ?_⟩
          refine by_eq e5_0_3 ?_
          refine ⟨_, rfl, _, rfl, D, _, rfl, d1 _ _ (k1 _ _ hD7), _, rfl, iteT ?_⟩
          refine ⟨_, rfl, _, rfl, D', _, rfl, d2 _ _ (k1 _ _ hD7'), _, rfl, iteF ?_⟩
          refine fin _ _ ⟨_, [_], rfl, k1, hk1, fun m _ h1 => ?_⟩
          rw [List.mem_singleton.mp (h1 (List.cons_ne_nil _ _)).1, n2, c1, dst_nil_r, dst_nil_r]
          simp only [gsz]
          (first | lia | omega)
        · refine by_eq e5_0_2 ?_
          refine ⟨_, rfl, _, rfl, D', _, rfl, d2 _ _ (k1 _ _ hD7'), _, rfl, iteT ?_⟩
          obtain ⟨r2, cL2, ca2, cr2, cv2⟩ := cell _ k1 p (e' + 1) hp2 b2
          refine ⟨_, rfl, .inl ⟨rfl, _, SqL.of hk1⟩, _, rfl, _, rfl, D', prs 0 h, q', e', rfl, k1 _ _ hD7', hnh, m2, _, rfl, _, rfl, L, _, _, _, rfl, rfl, SqL.of cL2, ca2, _, rfl, _, rfl, D', _, rfl, d2 _ _ (k1 _ _ hD7'), _, _, rfl, rfl, r2, _, ((e' + 1 : Nat) : Int), _, rfl, congrArg V.int (by (first | lia | omega)), SqL.of cr2, cv2, _, _, rfl, rfl, pl, _, _, rfl, rfl, hk1, by show 1 < sizeLine; decide, ?_⟩
          have k2 := k1.upd_new (o := .lst [.int (((1 + gsz w : Nat) : Int) + ((dst o (atG h q') : Nat) : Int)), .int (((e' : Int) + 1 - (q' : Int)) / 2 + Fn p (e' + 1))]) hpl
          have hk2 : (upd H8 pl (.lst [.int (((1 + gsz w : Nat) : Int) + ((dst o (atG h q') : Nat) : Int)), .int (((e' : Int) + 1 - (q' : Int)) / 2 + Fn p (e' + 1))])) pl = some (.lst [.int (((1 + gsz w : Nat) : Int) + ((dst o (atG h q') : Nat) : Int)), .int (((e' : Int) + 1 - (q' : Int)) / 2 + Fn p (e' + 1))]) := upd_same
          have e8 : ((e' : Int) + 1 - (q' : Int)) / 2 + Fn p (e' + 1) = ((1 + gsz w' : Nat) : Int) + ((dst (atG g p) o' : Nat) : Int) := by rw [tz q' e' w' x2, hF2 (e' + 1) (by (first | lia | omega)) b2, z2]
          show u5_0_3 _ _ (upd H8 pl (.lst [.int (((1 + gsz w : Nat) : Int) + ((dst o (atG h q') : Nat) : Int)), .int (((e' : Int) + 1 - (q' : Int)) / 2 + Fn p (e' + 1))]))
          generalize upd H8 pl (.lst [.int (((1 + gsz w : Nat) : Int) + ((dst o (atG h q') : Nat) : Int)), .int (((e' : Int) + 1 - (q' : Int)) / 2 + Fn p (e' + 1))]) = H9 at k2 hk2 ⊢
          rw [e8] at hk2
          refine by_eq e5_0_3 ?_
          refine ⟨_, rfl, _, rfl, D, _, rfl, d1 _ _ (k2 _ _ hD7), _, rfl, iteT ?_⟩
          refine ⟨_, rfl, _, rfl, D', _, rfl, d2 _ _ (k2 _ _ hD7'), _, rfl, iteT ?_⟩
          obtain ⟨r3, cL3, ca3, cr3, cv3⟩ := cell _ k2 (p + 1) (q' + 1) (by (first | lia | omega)) (by (first | lia | omega))
          obtain ⟨r4, cL4, ca4, cr4, cv4⟩ := cell _ k2 (e + 1) (e' + 1) b1 b2
          refine by_eq e5_0_3t0 ?_
          refine ⟨_, rfl, _, rfl, _, _, rfl, rfl, L, _, ((p + 1 : Nat) : Int), _, rfl, congrArg V.int (by (first | lia | omega)), SqL.of cL3, ca3, _, rfl, _, _, rfl, rfl, r3, _, ((q' + 1 : Nat) : Int), _, rfl, congrArg V.int (by (first | lia | omega)), SqL.of cr3, cv3, _, rfl, _, rfl, _, rfl, D, _, rfl, d1 _ _ (k2 _ _ hD7), _, _, rfl, rfl, L, _, ((e + 1 : Nat) : Int), _, rfl, congrArg V.int (by (first | lia | omega)), SqL.of cL4, ca4, _, rfl, _, rfl, D', _, rfl, d2 _ _ (k2 _ _ hD7'), _, _, rfl, rfl, r4, _, ((e' + 1 : Nat) : Int), _, rfl, congrArg V.int (by (first | lia | omega)), SqL.of cr4, cv4, _, _, rfl, rfl, ?_⟩
          refine by_eq e5_0_3t1 ?_
          have hw1 : atI ((words SL g).map V.str) (p : Int) = some (.str t) := atI_nat (by rw [List.getElem?_map, w1]; rfl)
          have hw2 : atI ((words SL h).map V.str) (q' : Int) = some (.str t') := atI_nat (by rw [List.getElem?_map, w2]; rfl)
          have e7 : Fn (p + 1) (q' + 1) + Fn (e + 1) (e' + 1) = ((dst w w' : Nat) : Int) + ((dst o o' : Nat) : Int) := by
            rw [hF1 (p + 1) (q' + 1) (by (first | lia | omega)) (by (first | lia | omega)) (by (first | lia | omega)), hF1 (e + 1) (e' + 1) (by (first | lia | omega)) b1 b2, y1, y2, z1, z2]
          have e6 : (dst (atG g p) (atG h q') : Nat) = min (min (1 + gsz w + dst o (atG h q')) (1 + gsz w' + dst (atG g p) o')) (dst w w' + dst o o' + if t = t' then 0 else 1) := by rw [c1, c2, dst_cons]

          have hW9 := k2 _ _ (sm7 _ _ hW4)
          have hM9 := k2 _ _ (sm7 _ _ hM4)
          refine ⟨_, rfl, .inl ⟨rfl, _, SqL.of hk2⟩, _, rfl, _, rfl, _, rfl, W, _, _, _, rfl, rfl, SqL.of hW9, hw1, _, rfl, _, rfl, M, _, _, _, rfl, rfl, SqL.of hM9, hw2, rfl, _, rfl, ?_⟩
          have three : ∀ (c : Nat) (m : Int), m ∈ [((1 + gsz w : Nat) : Int) + ((dst o (atG h q') : Nat) : Int), ((1 + gsz w' : Nat) : Int) + ((dst (atG g p) o' : Nat) : Int), Fn (p + 1) (q' + 1) + Fn (e + 1) (e' + 1) + (c : Int)] ∧ (∀ x ∈ [((1 + gsz w : Nat) : Int) + ((dst o (atG h q') : Nat) : Int), ((1 + gsz w' : Nat) : Int) + ((dst (atG g p) o' : Nat) : Int), Fn (p + 1) (q' + 1) + Fn (e + 1) (e' + 1) + (c : Int)], m ≤ x) → (if t = t' then 0 else 1) = c → m = (dst (atG g p) (atG h q') : Nat) := fun c m ⟨hm, hle⟩ hc => by
            rw [e6, hc]
            rw [e7] at hm hle
            have l1 := hle _ (List.mem_cons_self ..)
            have l2 := hle _ (List.mem_cons_of_mem _ (List.mem_cons_self ..))
            have l3 := hle _ (List.mem_cons_of_mem _ (List.mem_cons_of_mem _ (List.mem_cons_self ..)))
            simp only [List.mem_cons, List.not_mem_nil, or_false] at hm
            (first | lia | omega)
          refine ite2 (fun c => ?_) (fun c => ?_)
          · have ec : t = t' := by
              have := of_decide_eq_true c
              injection this
            refine ⟨_, _, rfl, rfl, pl, _, _, rfl, rfl, hk2, by show 2 < sizeLine; decide, ?_⟩
            exact fin _ _ ⟨_, [_, _, _], rfl, k2.upd_new hpl, upd_same, fun m _ h1 => three 0 m (h1 (List.cons_ne_nil _ _)) (if_pos ec)⟩
          · have ec : t ≠ t' := fun z => c (by rw [z]; exact decide_eq_true rfl)
            refine ⟨_, _, rfl, rfl, pl, _, _, rfl, rfl, hk2, by show 2 < sizeLine; decide, ?_⟩
            exact fin _ _ ⟨_, [_, _, _], rfl, k2.upd_new hpl, upd_same, fun m _ h1 => three 1 m (h1 (List.cons_ne_nil _ _)) (if_neg ec)⟩
    · rintro σ H7 ⟨v8, v9, v10, Fn, rfl, sm7, tb7, hF1, hF2⟩
      refine ⟨_, _, _, _, Fn, rfl, sm7, tb7, fun p' q h1 h2 h3 => ?_⟩
      rcases Nat.lt_or_ge p p' with c | c
      · exact hF1 p' q c h2 h3
      · obtain rfl : p' = p := by (first | lia | omega)
        exact hF2 q (by (first | lia | omega)) h3
  · rintro σ H6 ⟨v7, v8, v9, v10, Fn, rfl, sm6, tb6, hF⟩
    obtain ⟨r, hr0, hr1, hr2⟩ := tb6.at1 (i := 0) (by (first | lia | omega))
    refine by_eq e6 ?_
    refine ⟨_, rfl, L, _, _, _, rfl, rfl, SqL.of tb6.hL, hr1, r, _, _, _, rfl, rfl, SqL.of hr2, rowV_atI (j := 0) (by (first | lia | omega)), ?_⟩
    rw [hF 0 0 (by (first | lia | omega)) (by (first | lia | omega)) (by (first | lia | omega)), atG_zero, atG_zero]
    exact q H6 (s14.trans sm6)
theorem ok_l_cell_at (B : ∀ x ∈ blts, mg x = none) (F : Fun K "_law_cell_at" "_law_cell_at" s_l_cell_at f fd) : FnOk P w K mg base CX0 1 f fd ["_law_script", "_law_k"] (spCell K) := by
  refine F.ok sc_l_cell_at (fun vs H Q E h => ?_) (fun cdv A outer s H vs Q E hr h => ?_)
  · obtain ⟨a, ns, k, rfl, _⟩ := h
    rfl
  obtain ⟨a, ns, k, rfl, hS, h63, h0, q⟩ := h
  refine ⟨_, (pss_cons (ps_if (pt_cmpR op_lt (pv 1) (pe_callB call_len_seq rfl (B "len" (by decide)) PySem.boot_len (pa_cons (pv 0) pa_nil)) (nomark _))
      (pss_one (ps_ret (pe_ix ix_list (pv 0) (pv 1) (fun _ _ => rfl))))
      pss_nil)
    (pss_one (ps_ret pe_int))), ?_⟩
  refine ⟨_, rfl, _, rfl, a, _, rfl, .inl hS, _, _, rfl, rfl, _, rfl, ?_⟩
  refine ite2 (fun c => ?_) (fun c => ?_)
  · have c' := of_decide_eq_true c
    rw [List.length_map] at c'
    obtain ⟨v, hv⟩ := ints_at (ns := ns) h0 c'
    exact ⟨_, rfl, _, rfl, a, _, k, _, rfl, rfl, hS, hv, q v⟩
  · exact q 0
def spWordV : Sp := fun vs H Q _ => ∃ c : Int, vs = [.int c] ∧ ∀ t : Str, Lets t → t.length ≤ 8 → Q (.str t) H
set_option maxHeartbeats 1000000 in
theorem ok_l_word (B : ∀ x ∈ blts, mg x = none) (F : Fun K "_law_word" "_law_word" s_l_word f fd) : FnOk P w K mg base CX0 1 f fd ["_law_cell"] spWordV := by
  refine F.ok sc_l_word (fun vs H Q E h => ?_) (fun cdv A outer s H vs Q E hr h => ?_)
  · obtain ⟨c, rfl, _⟩ := h
    rfl
  obtain ⟨c, rfl, q⟩ := h
  have m1 := Int.emod_nonneg c (by decide : (8 : Int) ≠ 0)
  have m2 := Int.emod_lt_of_pos c (by decide : (0 : Int) < 8)
  refine ⟨_, (pss_cons (ps_set (i := 1) sc_l_word.nd rfl (Or.inl rfl) pe_str)
    (pss_cons (ps_for PassesOwn.never rfl (pi_range1 rfl (B "range" (by decide)) (pa_cons (pe_op op_add pe_int (pe_op op_mod (pv 0) pe_int)) pa_nil)) (pg_name (i := 2) sc_l_word.nd rfl (Or.inl rfl))
      (pss_cons (ps_set (i := 3) sc_l_word.nd rfl (Or.inl rfl) (pe_op op_add (pe_op op_mul (pe_op op_fdiv (pe_op op_fdiv (pv 0) pe_int) (pe_op op_add (pv 2) pe_int)) pe_int) (pe_op op_mul pe_int (pv 2))))
        (pss_one (ps_set (i := 1) sc_l_word.nd rfl (Or.inl rfl) (pe_op op_add_str (pv 1) (pe_ix ix_str pe_str (pe_op op_mod (pe_op op_mod (pv 3) pe_int) pe_int) (fun _ _ => rfl)))))))
    (pss_one (ps_ret (pv 1))))), ?_⟩
  refine ⟨_, rfl, _, _, rfl, rfl, (by show (0 : Int) < 8; decide), _, _, rfl, rfl, _, rfl, (by show -2 ^ 62 ≤ 1 + c % 8; (first | lia | omega)), (by show 1 + c % 8 < 2 ^ 62; (first | lia | omega)), for_range (lo := 0) (n := (1 + c % 8).toNat) (fun i σ H1 => ∃ (t : Str) (v2 v3 : Option V), σ = [some (.int c), some (.str t), v2, v3] ∧ H1 = H ∧ t.length = i ∧ Let0 t) ⟨Str.empty, none, none, rfl, rfl, rfl, fun _ h => (nomatch h)⟩ ?_ ?_⟩
  · rintro i σ H1 hi ⟨t, v2, v3, rfl, rfl, hl, hlt⟩
    refine ⟨_, rfl, _, _, rfl, rfl, ⟨by decide, by decide⟩, _, rfl, _, _, rfl, rfl, _, _, rfl, rfl, ⟨by (first | lia | omega), by (first | lia | omega)⟩, _, _, rfl, rfl, .inr ⟨by decide, by decide⟩, _, rfl, _, _, rfl, rfl, .inl ⟨by decide, by decide⟩, _, _, rfl, rfl, ?_⟩
    obtain ⟨ch, hc, c1, c2⟩ := abc_at (i := (c / 8 / (0 + (i : Int) + 1) * 48271 + 31 * (0 + (i : Int))) % 65537 % 26) (Int.emod_nonneg _ (by decide)) (Int.emod_lt_of_pos _ (by decide))
    refine ⟨_, rfl, _, rfl, _, _, rfl, rfl, (by show (0 : Int) < 65537; decide), _, _, rfl, rfl, (by show (0 : Int) < 26; decide), _, _, ch, rfl, rfl, (by decide), hc, _, _, rfl, rfl, ?_, ?_⟩
    · show t.length + 1 ≤ sizeLine
      exact len1000 (by (first | lia | omega))
    · refine ⟨_, _, _, rfl, rfl, ?_, let0_app hlt fun x hx => ?_⟩
      · rw [app_len, hl]
        rfl
      · rw [List.mem_singleton.mp hx]
        exact ⟨c1, c2⟩
  · rintro σ H1 ⟨t, v2, v3, rfl, rfl, hl, hlt⟩
    refine ⟨_, rfl, q t ⟨fun z => ?_, hlt⟩ (by (first | lia | omega))⟩
    have : t.cps.toList.length = t.length := Array.length_toList
    rw [z, List.length_nil] at this
    (first | lia | omega)
def spPoolV : Sp := fun vs H Q _ => ∃ (c m : Int), vs = [.int c, .int m] ∧ 0 ≤ m ∧ m ≤ 10 ∧ ∀ (r : Addr) (ts : List Str) (H' : Hp), Same H H' → H r = none → H' r = some (.lst (ts.map V.str)) → (ts.length : Int) = m → (∀ t ∈ ts, Lets t ∧ t.length ≤ 8) → Q (.ref r) H'
/-- one sign put in another's place -/
theorem put_sign {t s1 : Str} {k : Int} (ht : Let0 t) (h0 : 0 ≤ k) (h1 : k < (t.length : Int)) (hs : Let0 s1) (hl : s1.length = 1) :
    (PySem.StrLaws.sliceText t none (some k)).length = k.toNat ∧ (PySem.StrLaws.sliceText t (some (k + 1)) none).length = t.length - (k.toNat + 1) ∧ Let0 (PySem.StrLaws.sliceText t none (some k) ++ s1 ++ PySem.StrLaws.sliceText t (some (k + 1)) none) := by
  have hlt : t.cps.toList.length = t.length := by rw [Array.length_toList]; rfl
  have E1 := PySem.StrLaws.sliceText_to (x := t) (j := k) ⟨h0, by rw [hlt]; (first | lia | omega)⟩
  have E2 := PySem.StrLaws.sliceText_from (x := t) (i := k + 1) ⟨by (first | lia | omega), by rw [hlt]; (first | lia | omega)⟩
  refine ⟨?_, ?_, let0_app (let0_app ?_ hs) ?_⟩
  · rw [E1]
    show ((t.cps.toList.drop 0).take _).toArray.size = _
    rw [List.size_toArray, List.length_take, List.length_drop, hlt]
    (first | lia | omega)
  · rw [E2, show ∀ l : List Nat, (⟨l.toArray⟩ : Str).length = l.length from fun l => List.size_toArray, List.length_take, List.length_drop, hlt]
    (first | lia | omega)
  · rw [E1]
    intro c hc
    have hc' : c ∈ (t.cps.toList.drop 0).take (k - 0).toNat := by simpa using hc
    exact ht c (List.mem_of_mem_drop (List.mem_of_mem_take hc'))
  · rw [E2]
    intro c hc
    refine ht c ?_
    simp only [List.toList_toArray] at hc
    exact List.mem_of_mem_drop (List.mem_of_mem_take hc)
set_option maxHeartbeats 2000000 in
theorem ok_l_pool (B : ∀ x ∈ blts, mg x = none) (g_l_word : Has P w K mg base "_law_word" ["_law_cell"] 1 spWordV) (F : Fun K "_law_pool" "_law_pool" s_l_pool f fd) : FnOk P w K mg base CX0 2 f fd ["_law_cell", "_law_many"] spPoolV := by
  refine F.ok sc_l_pool (fun vs H Q E h => ?_) (fun cdv A outer s H vs Q E hr h => ?_)
  · obtain ⟨c, m, rfl, _⟩ := h
    rfl
  obtain ⟨c, m, rfl, m0, m1, q⟩ := h
  refine ⟨_, (pss_cons (ps_set (i := 2) sc_l_pool.nd rfl (Or.inr rfl) (pe_has g_l_word hr rfl (pa_cons (pv 0) pa_nil)))
    (pss_cons (ps_set (i := 3) sc_l_pool.nd rfl (Or.inr rfl) (pe_op op_mod (pe_op op_fdiv (pv 0) pe_int) (pe_callB call_len_str rfl (B "len" (by decide)) PySem.boot_len (pa_cons (pv 2) pa_nil))))
    (pss_cons (ps_set (i := 4) sc_l_pool.nd rfl (Or.inr rfl) pe_str)
    (pss_one (ps_ret (pe_comp (cl := _) ["_law_k"] [("_law_cell", 0), ("_law_base", 2), ("_law_at", 3), ("_law_letters", 4)] (pi_range1 rfl (B "range" (by decide)) (pa_cons (pv 1) pa_nil)) (fun _ _ _ _ => (pg_name (i := 0) (show List.Nodup (["_law_k", "_law_cell", "_law_base", "_law_at", "_law_letters"] : List Str) by decide) rfl (Or.inl rfl))) (fun _ _ _ _ => (pe_op op_add_str (pe_op op_add_str (pe_slice sl_str (pv 2) po_none (po_some (pv 3))) (pe_ix ix_str (pv 4) (pe_op op_mod (pe_op op_add (pe_op op_fdiv (pv 1) pe_int) (pe_op op_mul pe_int (pv 0))) pe_int) (fun _ _ => rfl))) (pe_slice sl_str (pv 2) (po_some (pe_op op_add (pv 3) pe_int)) po_none))) rfl rfl (by decide) rfl (by decide) (cap_cl (by (repeat' first | exact List.forall_mem_nil _ | refine List.forall_mem_cons.mpr ⟨?_, ?_⟩) <;> rfl)) (cap_has (by (repeat' first | exact List.forall_mem_nil _ | refine List.forall_mem_cons.mpr ⟨?_, ?_⟩) <;> first | (intro h; exact ⟨_, rfl⟩) | (intro h; exact absurd h (by decide)))) (fun _ => by (repeat' first | exact List.forall_mem_nil _ | refine List.forall_mem_cons.mpr ⟨?_, ?_⟩) <;> exact ⟨rfl, rfl, Or.inl rfl⟩) (fun _ => rfl))))))), ?_⟩
  refine ⟨_, rfl, c, rfl, fun t hlt ht8 => ?_⟩
  have hlen : t.cps.toList.length = t.length := by rw [Array.length_toList]; rfl
  have ht1 : 0 < t.length := by
    rw [← hlen]
    exact List.length_pos_iff.mpr hlt.1
  have tp : (0 : Int) < (t.length : Int) := by (first | lia | omega)
  refine ⟨_, rfl, _, _, rfl, rfl, ⟨by decide, by decide⟩, _, rfl, t, rfl, len1000 (by (first | lia | omega)), _, _, rfl, rfl, tp, ?_⟩
  have k0 := Int.emod_nonneg (c / 64) (Int.ne_of_gt tp)
  have k1 := Int.emod_lt_of_pos (c / 64) tp
  refine ⟨_, rfl, m, rfl, by (first | lia | omega), by (first | lia | omega), fun pc hpc => ?_⟩
  refine comp_range (lo := 0) (n := m.toNat) (p := pc) (fun i ys σ H2 => ∃ (v0 : Option V) (ts : List Str), σ = [v0, some (.int c), some (.str t), some (.int (c / 64 % (t.length : Int))), some (.str ABC)] ∧ Same H H2 ∧ H2 pc = some (.lst ys) ∧ ys = ts.map V.str ∧ ts.length = i ∧ ∀ x ∈ ts, Lets x ∧ x.length ≤ 8)
    ⟨none, [], rfl, Same.new hpc, upd_same, rfl, rfl, fun _ h => (nomatch h)⟩ ?_ ?_ ?_
  · rintro i ys σ H2 _ ⟨v0, ts, _, _, h, _⟩
    exact h
  · rintro i ys σ H2 hi ⟨v0, ts, rfl, sm, hp, rfl, htl, hts⟩
    obtain ⟨ch, hc, c1, c2⟩ := abc_at (i := (c / 512 + 5 * (0 + (i : Int))) % 26) (Int.emod_nonneg _ (by decide)) (Int.emod_lt_of_pos _ (by decide))
    obtain ⟨L1, L2, L3⟩ := put_sign (s1 := ⟨#[ch]⟩) hlt.let0 k0 k1 (fun x hx => by rw [List.mem_singleton.mp hx]; exact ⟨c1, c2⟩) rfl
    refine ⟨_, rfl, _, rfl, _, rfl, _, rfl, len1000 (by (first | lia | omega)), _, rfl, _, rfl, _, _, rfl, rfl, ⟨by decide, by decide⟩, _, rfl, _, _, rfl, rfl, .inl ⟨by decide, by decide⟩, _, _, rfl, rfl, _, _, rfl, rfl, (by show (0 : Int) < 26; decide), _, _, ch, rfl, rfl, (by decide), hc, _, _, rfl, rfl, ?_, ?_⟩
    · rw [L1]
      show _ + 1 ≤ sizeLine
      exact len1000 (by (first | lia | omega))
    refine ⟨_, rfl, _, rfl, _, _, rfl, rfl, _, rfl, _, rfl, len1000 (by (first | lia | omega)), _, _, rfl, rfl, ?_, hp, len1000' (by rw [List.length_map]; (first | lia | omega)), CW.next hi ⟨_, ts ++ [_], rfl, sm.upd_new hpc, upd_same, by rw [List.map_append]; rfl, by rw [List.length_append, List.length_singleton]; (first | lia | omega), fun x hx => ?_⟩⟩
    · rw [app_len, L1, L2]
      show _ + 1 + _ ≤ sizeLine
      exact len1000 (by (first | lia | omega))
    rcases List.mem_append.mp hx with hx | hx
    · exact hts x hx
    · rw [List.mem_singleton.mp hx]
      refine ⟨⟨fun z => ?_, L3⟩, ?_⟩
      · have h1 := congrArg List.length z
        rw [app_cps, app_cps, List.length_append, List.length_append, List.length_nil] at h1
        have h2 : (1 : Nat) ≤ List.length (⟨#[ch]⟩ : Str).cps.toList := Nat.le_refl _
        (first | lia | omega)
      · rw [app_len, app_len, L1, L2]
        show _ + 1 + _ ≤ 8
        (first | lia | omega)
  · rintro ys σ H2 ⟨v0, ts, rfl, sm, hp, rfl, htl, hts⟩
    exact q pc ts H2 sm hpc hp (by (first | lia | omega)) hts
def spGroveV (K : PySem.W.Frag) : Sp := fun vs H Q _ => ∃ (a tg : Addr) (ns : List Int) (st m : Int) (ts : List Str), vs = [.ref a, .int st, .int m, .ref tg] ∧ SqL K H a (ns.map V.int) ∧ ns.length ≤ 63 ∧ 0 ≤ st ∧ 0 ≤ m ∧ m ≤ 400 ∧ H tg = some (.lst (ts.map V.str)) ∧ 0 < ts.length ∧ (∀ t ∈ ts, t ≠ SL) ∧
  ∀ (r : Addr) (xs : List V) (g : Gr Str) (H' : Hp), Same H H' → H r = none → H' r = some (.tup xs) → RepG H' xs g → Clean SL g → ((words SL g).length : Int) = 2 * m → (∀ x ∈ words SL g, x = SL ∨ x ∈ ts) → Q (.ref r) H'
set_option maxHeartbeats 2000000 in
theorem ok_l_grove (B : ∀ x ∈ blts, mg x = none) (g_l_cell_at : Has P w K mg base "_law_cell_at" ["_law_script", "_law_k"] 1 (spCell K)) (F : Fun K "_law_grove" "_law_grove" s_l_grove f fd) : FnOk P w K mg base CX0 2 f fd ["_law_script", "_law_start", "_law_many", "_law_tags"] (spGroveV K) := by
  refine F.ok sc_l_grove (fun vs H Q E h => ?_) (fun cdv A outer s H vs Q E hr h => ?_)
  · obtain ⟨a, tg, ns, st, m, ts, rfl, _⟩ := h
    rfl
  obtain ⟨a, tg, ns, st, m, ts, rfl, hS, h63, st0, m0, m4, htg, ht0, htn, q⟩ := h
  refine ⟨_, (pss_cons (ps_set (i := 4) sc_l_grove.nd rfl (Or.inl rfl) (pe_lst (pa_cons (pe_lst pa_nil) pa_nil)))
    (pss_cons (ps_set (i := 5) sc_l_grove.nd rfl (Or.inl rfl) (pe_lst pa_nil))
    (pss_cons (ps_for PassesOwn.never rfl (pi_range1 rfl (B "range" (by decide)) (pa_cons (pv 2) pa_nil)) (pg_name (i := 6) sc_l_grove.nd rfl (Or.inl rfl))
      (pss_cons (ps_set (i := 7) sc_l_grove.nd rfl (Or.inl rfl) (pe_has g_l_cell_at hr rfl (pa_cons (pv 0) (pa_cons (pe_op op_add (pv 1) (pe_op op_mod (pv 6) (pe_callB (call_max2 rfl) rfl (B "max" (by decide)) bt_max (pa_cons pe_int (pa_cons (pe_op op_sub (pe_callB call_len_seq rfl (B "len" (by decide)) PySem.boot_len (pa_cons (pv 0) pa_nil)) (pv 1)) pa_nil))))) pa_nil))))
        (pss_cons (ps_set (i := 8) sc_l_grove.nd rfl (Or.inl rfl) (pe_op op_mod (pe_op op_add (pe_op op_mul (pv 7) pe_int) (pe_op op_mul (pe_op op_mul (pv 6) (pv 6)) pe_int)) pe_int))
        (pss_cons (ps_for PassesOwn.never rfl (pi_range1 rfl (B "range" (by decide)) (pa_cons (pe_callB (call_min2 rfl) rfl (B "min" (by decide)) bt_min (pa_cons (pe_callB call_len_seq rfl (B "len" (by decide)) PySem.boot_len (pa_cons (pv 5) pa_nil)) (pa_cons (pe_op op_mod (pv 8) pe_int) pa_nil))) pa_nil)) (pg_name (i := 9) sc_l_grove.nd rfl (Or.inl rfl))
          (pss_cons (ps_set (i := 10) sc_l_grove.nd rfl (Or.inl rfl) (pe_callTy call_tuple_of rfl (B "tuple" (by decide)) bt_tuple (pa_cons (pe_bm0 PySem.F.plainAttrs_list PySem.F.slot_list_pop PySem.F.type_list_pop mt_pop (pv 4)) pa_nil)))
            (pss_one (ps_expr (pe_bm PySem.F.plainAttrs_list PySem.F.slot_list_append PySem.F.type_list_append mt_append (pe_ix ix_list (pv 4) (pe_un un_neg pe_int) (fun _ _ => rfl)) (pa_cons (pe_tup (pa_cons (pe_bm0 PySem.F.plainAttrs_list PySem.F.slot_list_pop PySem.F.type_list_pop mt_pop (pv 5)) (pa_cons (pv 10) pa_nil))) pa_nil))))))
        (pss_cons (ps_expr (pe_bm PySem.F.plainAttrs_list PySem.F.slot_list_append PySem.F.type_list_append mt_append (pv 5) (pa_cons (pe_ix ix_list (pv 3) (pe_op op_mod (pe_op op_fdiv (pv 8) pe_int) (pe_callB call_len_seq rfl (B "len" (by decide)) PySem.boot_len (pa_cons (pv 3) pa_nil))) (fun _ _ => rfl)) pa_nil)))
        (pss_one (ps_expr (pe_bm PySem.F.plainAttrs_list PySem.F.slot_list_append PySem.F.type_list_append mt_append (pv 4) (pa_cons (pe_lst pa_nil) pa_nil)))))))))
    (pss_cons (ps_while PassesOwn.never (pt_cmpR op_gt (pe_callB call_len_seq rfl (B "len" (by decide)) PySem.boot_len (pa_cons (pv 5) pa_nil)) pe_int (nomark _))
      (pss_cons (ps_set (i := 10) sc_l_grove.nd rfl (Or.inl rfl) (pe_callTy call_tuple_of rfl (B "tuple" (by decide)) bt_tuple (pa_cons (pe_bm0 PySem.F.plainAttrs_list PySem.F.slot_list_pop PySem.F.type_list_pop mt_pop (pv 4)) pa_nil)))
        (pss_one (ps_expr (pe_bm PySem.F.plainAttrs_list PySem.F.slot_list_append PySem.F.type_list_append mt_append (pe_ix ix_list (pv 4) (pe_un un_neg pe_int) (fun _ _ => rfl)) (pa_cons (pe_tup (pa_cons (pe_bm0 PySem.F.plainAttrs_list PySem.F.slot_list_pop PySem.F.type_list_pop mt_pop (pv 5)) (pa_cons (pv 10) pa_nil))) pa_nil))))))
    (pss_one (ps_ret (pe_callTy call_tuple_of rfl (B "tuple" (by decide)) bt_tuple (pa_cons (pe_ix ix_list (pv 4) pe_int (fun _ _ => rfl)) pa_nil)))))))), ?_⟩
  refine ⟨by decide, fun a0 h0 => ⟨(by show 1 ≤ sizeLine; decide), fun R hR => ?_⟩⟩
  refine ⟨by decide, fun T hT => ?_⟩
  have g0 := GvS.start h0 hR hT
  generalize upd (upd (upd H a0 (.lst [])) R (.lst [.ref a0])) T (.lst []) = H1 at g0 ⊢
  refine ⟨_, rfl, m, rfl, by (first | lia | omega), by (first | lia | omega), for_range (lo := 0) (n := m.toNat) (fun i σ H2 => ∃ (as : List Addr) (gs : List (Gr Str)) (os : List Str) (v6 v7 v8 v9 v10 : Option V), σ = [some (.ref a), some (.int st), some (.int m), some (.ref tg), some (.ref R), some (.ref T), v6, v7, v8, v9, v10] ∧ GvS H H2 R T as gs os ∧ (flatR SL gs os).length + os.length = 2 * i ∧ ∀ x ∈ flatR SL gs os, x = SL ∨ x ∈ ts)
    ⟨_, _, _, none, none, none, none, none, rfl, g0, rfl, fun _ h => (nomatch h)⟩ ?_ ?_⟩
  · rintro i σ H2 hi ⟨as, gs, os, v6, v7, v8, v9, v10, rfl, hg, hfl, hft⟩
    have hi4 : i < 400 := by (first | lia | omega)
    have hS2 := hg.sm.seq hS
    refine ⟨_, rfl, _, rfl, _, rfl, _, rfl, a, _, rfl, .inl hS2, _, rfl, _, _, rfl, rfl, _, _, rfl, _, _, rfl, rfl, ?_, _, _, rfl, rfl, a, ns, _, rfl, hS2, h63, ?_, fun v => ?_⟩
    · exact max_pos _
    · have := Int.emod_nonneg (0 + (i : Int)) (Int.ne_of_gt (max_pos (((ns.map V.int).length : Int) - st)))
      (first | lia | omega)
    refine ⟨_, rfl, _, _, rfl, rfl, .inr ⟨by decide, by decide⟩, _, rfl, _, rfl, _, _, rfl, rfl, .inl ⟨by (first | lia | omega), by (first | lia | omega)⟩, _, _, rfl, rfl, .inr ⟨by decide, by decide⟩, _, _, rfl, rfl, _, _, rfl, rfl, (by show (0 : Int) < 1000003; decide), ?_⟩
    have hm0 := Int.emod_nonneg ((v * 48271 + (0 + (i : Int)) * (0 + (i : Int)) * 69621) % 1000003) (by decide : (4 : Int) ≠ 0)
    have hm4 := Int.emod_lt_of_pos ((v * 48271 + (0 + (i : Int)) * (0 + (i : Int)) * 69621) % 1000003) (by decide : (0 : Int) < 4)
    have hlr : (((os.map V.str).reverse.length : Nat) : Int) = (os.length : Int) := by rw [List.length_reverse, List.length_map]
    obtain ⟨c, hc, c0, c1, c4⟩ : ∃ c : Int, (if ((v * 48271 + (0 + (i : Int)) * (0 + (i : Int)) * 69621) % 1000003) % 4 < (((os.map V.str).reverse.length : Nat) : Int) then ((v * 48271 + (0 + (i : Int)) * (0 + (i : Int)) * 69621) % 1000003) % 4 else (((os.map V.str).reverse.length : Nat) : Int)) = c ∧ 0 ≤ c ∧ c ≤ (os.length : Int) ∧ c ≤ 3 := by
      rw [hlr]
      by_cases z : ((v * 48271 + (0 + (i : Int)) * (0 + (i : Int)) * 69621) % 1000003) % 4 < (os.length : Int)
      · exact ⟨_, if_pos z, by (first | lia | omega), by (first | lia | omega), by (first | lia | omega)⟩
      · exact ⟨_, if_neg z, by (first | lia | omega), by (first | lia | omega), by (first | lia | omega)⟩
    have hol : os.length ≤ 2 * i := by (first | lia | omega)
    refine ⟨_, rfl, T, _, rfl, .inl (SqL.of hg.hT), _, rfl, _, _, rfl, rfl, (by show (0 : Int) < 4; decide), _, _, rfl, c, congrArg (fun z => [V.int z]) hc, by (first | lia | omega), by (first | lia | omega), for_range (lo := 0) (n := c.toNat) (fun j σ H3 => ∃ (as : List Addr) (gs : List (Gr Str)) (os' : List Str) (v9 v10 : Option V), σ = [some (.ref a), some (.int st), some (.int m), some (.ref tg), some (.ref R), some (.ref T), some (.int (0 + (i : Int))), some (.int v), some (.int ((v * 48271 + (0 + (i : Int)) * (0 + (i : Int)) * 69621) % 1000003)), v9, v10] ∧ GvS H H3 R T as gs os' ∧ (flatR SL gs os').length + os'.length = 2 * i ∧ (∀ x ∈ flatR SL gs os', x = SL ∨ x ∈ ts) ∧ os'.length + j = os.length)
      ⟨_, _, _, _, _, rfl, hg, hfl, hft, rfl⟩ ?_ ?_⟩
    · rintro j σ H3 hj ⟨as, gs, os', v9, v10, rfl, hg, hfl, hft, hoj⟩
      cases os' with
      | nil =>
        rw [List.length_nil] at hoj
        (first | lia | omega)
      | cons t os' =>
        obtain ⟨b0, b1, as, g0, g1, gs, vs0, vs1, rfl, rfl, hgs, h00, r00, h11, r11, hRs, hTs⟩ := hg.two
        obtain ⟨fs1, fs2, fs3⟩ := flat_shut (g0 := g0) (g1 := g1) (t := t) hgs
        have hv1 := r11.length
        rw [List.length_cons] at hfl hoj
        refine ⟨_, rfl, .inl ⟨rfl, _, SqL.of hRs⟩, R, _, _, rfl, rfl, hRs, snoc_last _ _, ?_⟩
        rw [snoc_drop]
        refine ⟨b0, vs0, rfl, .inl ⟨SqL.of (hg.f1 h00), fun l hl => ?_⟩⟩
        obtain ⟨hRb, h1b, hTb⟩ := hg.f2 (vs0 := vs0) h11 hl
        refine ⟨_, rfl, 1, rfl, R, _, -1, .ref b1, rfl, rfl, SqL.of hRb, atI_last _ _, .inl ⟨rfl, _, SqL.of h1b⟩, _, rfl, .inl ⟨rfl, _, SqL.of hTb⟩, T, _, _, rfl, rfl, hTb, snoc_last _ _, ?_⟩
        rw [snoc_drop]
        refine ⟨_, rfl, (by show 2 ≤ sizeLine; decide), fun l2 hl2 => ?_⟩
        refine ⟨b1, _, _, rfl, rfl, hg.f3 h11 hl hl2, len1000' (by (first | lia | omega)), ?_⟩
        refine ⟨_, _, _, _, _, rfl, hg.shut h00 r00 h11 r11 hl hl2, by (first | lia | omega), fun x hx => ?_, by (first | lia | omega)⟩
        rcases fs2 x hx with h | h
        · exact .inl h
        · exact hft x h
    · rintro σ H3 ⟨as, gs, os', v9, v10, rfl, hg, hfl, hft, hoj⟩
      have htg3 := hg.sm _ _ htg
      have lpos : (0 : Int) < ((ts.map V.str).length : Nat) := by
        rw [List.length_map]
        (first | lia | omega)
      obtain ⟨k, hk, hkl⟩ := modN (((v * 48271 + (0 + (i : Int)) * (0 + (i : Int)) * 69621) % 1000003) / 4) (n := (ts.map V.str).length) (by (first | lia | omega))
      rw [List.length_map] at hkl
      have hat := strs_at (ws := ts) (n := k) hkl
      have hol' : os'.length ≤ 800 := by (first | lia | omega)
      have hal : as.length = gs.length := Paired.length hg.rows
      have hgl := hg.gl
      have hw := htn _ (List.getElem_mem hkl)
      have hwm := List.getElem_mem hkl
      refine ⟨_, rfl, .inl ⟨rfl, _, SqL.of hg.hT⟩, _, rfl, _, rfl, _, _, rfl, rfl, ⟨by decide, by decide⟩, _, rfl, tg, _, rfl, .inl (SqL.of htg3), _, _, rfl, rfl, lpos, tg, _, _, _, rfl, rfl, SqL.of htg3, (by rw [hk]; exact hat), T, _, _, rfl, rfl, hg.hT, len1000' (by rw [List.length_reverse, List.length_map]; (first | lia | omega)), ?_⟩
      generalize ts[k]'hkl = wd at hw hwm
      have hRa2 : (upd H3 T (.lst ((os'.map V.str).reverse ++ [.str wd]))) R = some (.lst (as.map V.ref).reverse) := by
        rw [upd_ne hg.RT]
        exact hg.hR
      refine ⟨_, rfl, .inl ⟨rfl, _, SqL.of hRa2⟩, by decide, fun l hl => ?_⟩
      obtain ⟨_, hl1⟩ := upd_none hl
      have hRb : (upd (upd H3 T (.lst ((os'.map V.str).reverse ++ [.str wd]))) l (.lst [])) R = some (.lst (as.map V.ref).reverse) := by
        rw [upd_ne (ne_of_none hg.hR hl1)]
        exact hRa2
      refine ⟨R, _, _, rfl, rfl, hRb, len1000' (by rw [List.length_reverse, List.length_map]; (first | lia | omega)), ?_⟩
      refine ⟨_, _, _, _, _, _, _, _, rfl, hg.opened hw hl, ?_, ?_⟩
      · rw [flatR_open, List.length_append, List.length_singleton, List.length_cons]
        (first | lia | omega)
      · rw [flatR_open]
        intro x hx
        rcases List.mem_append.mp hx with hx | hx
        · exact hft x hx
        · rw [List.mem_singleton.mp hx]
          exact .inr hwm
  rintro σ H2 ⟨as, gs, os, v6, v7, v8, v9, v10, rfl, hg, hfl, hft⟩
  let W : Nat → St → Hp → Prop := fun n σ H3 => ∃ (as : List Addr) (gs : List (Gr Str)) (os : List Str) (v10 : Option V), σ = [some (.ref a), some (.int st), some (.int m), some (.ref tg), some (.ref R), some (.ref T), v6, v7, v8, v9, v10] ∧ GvS H H3 R T as gs os ∧ (flatR SL gs os).length + os.length = 2 * m.toNat ∧ (∀ x ∈ flatR SL gs os, x = SL ∨ x ∈ ts) ∧ n = os.length
  refine ⟨W, ⟨_, as, gs, os, v10, rfl, hg, hfl, hft, rfl⟩, ?_⟩
  rintro n σ H3 ⟨as, gs, os, v10, rfl, hg, hfl, hft, rfl⟩
  refine ⟨_, rfl, T, _, rfl, .inl (SqL.of hg.hT), _, _, rfl, rfl, _, rfl, ite2 (fun c => ?_) (fun c => ?_)⟩
  · cases os with
    | nil => exact absurd (of_decide_eq_true c) (by decide)
    | cons t os =>
      obtain ⟨b0, b1, as, g0, g1, gs, vs0, vs1, rfl, rfl, hgs, h00, r00, h11, r11, hRs, hTs⟩ := hg.two
      obtain ⟨fs1, fs2, fs3⟩ := flat_shut (g0 := g0) (g1 := g1) (t := t) hgs
      have hv1 := r11.length
      refine ⟨fun σ' H' => ∃ m', m' < (t :: os).length ∧ W m' σ' H', fun _ _ h => h, ?_⟩
      rw [List.length_cons] at hfl
      refine ⟨_, rfl, .inl ⟨rfl, _, SqL.of hRs⟩, R, _, _, rfl, rfl, hRs, snoc_last _ _, ?_⟩
      rw [snoc_drop]
      refine ⟨b0, vs0, rfl, .inl ⟨SqL.of (hg.f1 h00), fun l hl => ?_⟩⟩
      obtain ⟨hRb, h1b, hTb⟩ := hg.f2 (vs0 := vs0) h11 hl
      refine ⟨_, rfl, 1, rfl, R, _, -1, .ref b1, rfl, rfl, SqL.of hRb, atI_last _ _, .inl ⟨rfl, _, SqL.of h1b⟩, _, rfl, .inl ⟨rfl, _, SqL.of hTb⟩, T, _, _, rfl, rfl, hTb, snoc_last _ _, ?_⟩
      rw [snoc_drop]
      refine ⟨_, rfl, (by show 2 ≤ sizeLine; decide), fun l2 hl2 => ?_⟩
      refine ⟨b1, _, _, rfl, rfl, hg.f3 h11 hl hl2, len1000' (by (first | lia | omega)), ?_⟩
      refine ⟨os.length, by rw [List.length_cons]; (first | lia | omega), _, _, _, _, rfl, hg.shut h00 r00 h11 r11 hl hl2, by (first | lia | omega), fun x hx => ?_, rfl⟩
      rcases fs2 x hx with h | h
      · exact .inl h
      · exact hft x h
  · cases os with
    | cons t os =>
      refine absurd (decide_eq_true ?_) c
      show (0 : Int) < ((((t :: os).map V.str).reverse.length : Nat) : Int)
      rw [List.length_reverse, List.length_map, List.length_cons]
      (first | lia | omega)
    | nil =>
      have hgl := hg.gl
      have hrows := hg.rows
      cases gs with
      | nil => simp at hgl
      | cons g gs =>
        obtain rfl : gs = [] := List.eq_nil_of_length_eq_zero (by simpa using hgl)
        cases hrows with
        | @cons b _ _ _ r hrows =>
          cases hrows
          obtain ⟨vs, hb, hgr⟩ := r
          refine ⟨_, rfl, R, _, 0, .ref b, rfl, rfl, SqL.of hg.hR, rfl, b, vs, rfl, .inl ⟨SqL.of hb, fun r hr => ?_⟩⟩
          have hfl' : (words SL g).length + 0 = 2 * m.toNat := hfl
          exact q r vs g _ (hg.sm.upd_new (hg.sm.free hr)) (hg.sm.free hr) upd_same (hgr.mono (TK.new hr)) (hg.cl g (List.mem_cons_self ..)) (by (first | lia | omega)) hft
def spSizeV (d : Nat) : Sp := fun vs H Q _ => ∃ (p : Addr) (xs : List V) (g : Gr Str), vs = [.ref p] ∧ H p = some (.tup xs) ∧ RepG H xs g ∧ gdep g < d ∧ gsz g ≤ 1000 ∧ ∀ H', Same H H' → Q (.int (gsz g : Int)) H'
set_option maxHeartbeats 1000000 in
theorem ok_l_size (d : Nat) (B : ∀ x ∈ blts, mg x = none) (g_l_size : Has P w K mg base "_law_size" ["_law_row"] d (spSizeV d)) (F : Fun K "_law_size" "_law_size" s_l_size f fd) : FnOk P w K mg base CX0 (d + 1) f fd ["_law_row"] (spSizeV (d + 1)) := by
  refine F.ok sc_l_size (fun vs H Q E h => ?_) (fun cdv A outer s H vs Q E hr h => ?_)
  · obtain ⟨p, xs, g, rfl, _⟩ := h
    rfl
  obtain ⟨p, xs, g, rfl, hp, hG, hd, hz, q⟩ := h
  have hkl := hG.kids
  have hkz := kids_len g
  refine ⟨_, (pss_one (ps_ret (pe_callB (call_sumL rfl) rfl (B "sum" (by decide)) PyProof.Rows.boot_sum (pa_cons (pe_comp (cl := []) ["_law_tag", "_law_kidrow"] [] (pi_tup (pv 0)) (fun _ _ _ _ => (pg_tupK (K := K) (n := 2) rfl rfl (pgs_cons (pg_name (i := 0) (show List.Nodup (["_law_tag", "_law_kidrow"] : List Str) by decide) rfl (Or.inl rfl)) (pgs_cons (pg_name (i := 1) (show List.Nodup (["_law_tag", "_law_kidrow"] : List Str) by decide) rfl (Or.inl rfl)) pgs_nil)))) (fun _ _ _ _ => (pe_op op_add pe_int (pe_has g_l_size hr rfl (pa_cons (pv 1) pa_nil) (by (first | lia | omega))))) rfl rfl (by decide) rfl (by decide) (fun _ _ h => nomatch h) (nofree (by decide)) (fun _ _ h => nomatch h) (fun _ => rfl)) pa_nil)))), ?_⟩
  refine ⟨_, rfl, p, rfl, ⟨_, SqT.of hp⟩, fun pc hpc => comp_tup (K := K) (a := p) (p := pc) (xs := xs) (fun i ys σ H2 => ∃ (v0 v1 : Option V), σ = [v0, v1] ∧ Same H H2 ∧ H2 pc = some (.lst ys) ∧ ys = (((kidsG g).take i).map fun w => 1 + (gsz w : Int)).map V.int)
    ⟨none, none, rfl, Same.new hpc, upd_same, rfl⟩ ?_ ?_ ?_⟩
  · rintro i ys σ H2 _ ⟨v0, v1, _, sm, h, _⟩
    exact ⟨SqT.of (sm _ _ hp), h⟩
  · rintro i ys x σ H2 hi hx ⟨v0, v1, rfl, sm, hpp, rfl⟩
    obtain ⟨t, q', tg, zs, w', rfl, e1, e2, e3, e4⟩ := hG.kid i x hx
    have hm : w' ∈ kidsG g := List.mem_of_getElem? e4
    have h1 := kid_dep hm
    have h2 := kid_sz hm
    refine ⟨t, _, rfl, SqT.of (sm _ _ e1), rfl, _, _, rfl, _, _, rfl, rfl, ?_⟩
    refine ⟨_, rfl, q', zs, w', rfl, sm _ _ e2, e3.mono (fun b ys e => sm _ _ e), by (first | lia | omega), by (first | lia | omega), fun H3 s3 => ?_⟩
    refine ⟨_, _, rfl, rfl, s3 _ _ hpp, len1000' (by rw [List.length_map, List.length_map, List.length_take]; (first | lia | omega)), CW.next hi ⟨_, _, rfl, (sm.trans s3).upd_new hpc, upd_same, ?_⟩⟩
    rw [take_succ' e4, List.map_append, List.map_append]
    rfl
  rintro ys σ H2 ⟨v0, v1, rfl, sm, hpp, rfl⟩
  rw [hkl, List.take_length] at hpp
  refine ⟨pc, _, rfl, SqL.of hpp, ?_⟩
  rw [sum_kids]
  exact q H2 sm
/-- the rests of a grove at any depth -/
def subs : Gr Str → List (Gr Str)
  | .nil => [.nil]
  | .cons t w o => .cons t w o :: (subs w ++ subs o)
theorem subs_self (g : Gr Str) : g ∈ subs g := by cases g <;> simp [subs]
theorem subs_len : ∀ g : Gr Str, (subs g).length = 2 * gsz g + 1
  | .nil => rfl
  | .cons t w o => by
    have h1 := subs_len w
    have h2 := subs_len o
    simp only [subs, List.length_cons, List.length_append, gsz]
    (first | lia | omega)
theorem subs_kid : ∀ {g : Gr Str} {t : Str} {w o : Gr Str}, .cons t w o ∈ subs g → w ∈ subs g ∧ o ∈ subs g
  | .nil, _, _, _, h => by simp [subs] at h
  | .cons t' w' o', t, w, o, h => by
    simp only [subs, List.mem_cons, List.mem_append] at h ⊢
    rcases h with h | h | h
    · injection h with e1 e2 e3
      subst e2 e3
      exact ⟨.inr (.inl (subs_self _)), .inr (.inr (subs_self _))⟩
    · obtain ⟨h1, h2⟩ := subs_kid h
      exact ⟨.inr (.inl h1), .inr (.inl h2)⟩
    · obtain ⟨h1, h2⟩ := subs_kid h
      exact ⟨.inr (.inr h1), .inr (.inr h2)⟩
/-- a small grove of short tags of letters -/
structure Rt (g : Gr Str) : Prop where
  lt : LetG g
  sh : ShG g
  sz : gsz g ≤ 20
theorem Rt.kid {t : Str} {w o : Gr Str} (h : Rt (.cons t w o)) : Rt w ∧ Rt o := by
  have z : 1 + gsz w + gsz o ≤ 20 := h.sz
  exact ⟨⟨h.lt.2.1, h.sh.2.1, by (first | lia | omega)⟩, ⟨h.lt.2.2, h.sh.2.2, by (first | lia | omega)⟩⟩
theorem Rt.sub : ∀ {g x : Gr Str}, Rt g → x ∈ subs g → Rt x
  | .nil, x, h, hx => by
    simp only [subs, List.mem_singleton] at hx
    rw [hx]
    exact h
  | .cons t w o, x, h, hx => by
    simp only [subs, List.mem_cons, List.mem_append] at hx
    rcases hx with rfl | hx | hx
    · exact h
    · exact h.kid.1.sub hx
    · exact h.kid.2.sub hx
theorem let_ok : ∀ {g : Gr Str}, LetG g → OkW (words SL g)
  | .nil, _ => fun x hx => by cases hx
  | .cons t w o, h => fun x hx => by
    have hx' : x = t ∨ x ∈ words SL w ∨ x = SL ∨ x ∈ words SL o := by
      simp [words] at hx
      rcases hx with h | h | h | h <;> simp [h]
    rcases hx' with rfl | hx | rfl | hx
    · exact h.1.ok
    · exact let_ok h.2.1 x hx
    · exact sl_ok
    · exact let_ok h.2.2 x hx
theorem TgIn.rt {ts : List Str} (tl : ∀ t ∈ ts, Lets t ∧ t.length ≤ 8) : ∀ {g : Gr Str}, TgIn ts g → LetG g ∧ ShG g
  | .nil, _ => ⟨trivial, trivial⟩
  | .cons t w o, h => by
    have h1 := TgIn.rt tl h.2.1
    have h2 := TgIn.rt tl h.2.2
    exact ⟨⟨(tl t h.1).1.2, h1.1, h2.1⟩, (tl t h.1).2, h1.2, h2.2⟩
/-- what the law keeps of distances -/
def MM (g0 h0 : Gr Str) (kvs : List (Key × V)) : Prop := ∃ ks : List Str, kvs.map (·.1) = ks.map Sum.inr ∧ ks.Nodup ∧ (∀ k ∈ ks, ∃ x ∈ subs g0, ∃ y ∈ subs h0, k = shP x y) ∧ ∀ x ∈ subs g0, ∀ y ∈ subs h0, ∀ v, valV kvs (Sum.inr (shP x y)) = some v → v = .int (dst x y : Nat)
theorem MM.start (g0 h0 : Gr Str) : MM g0 h0 [] := ⟨[], rfl, List.nodup_nil, fun k hk => (nomatch hk), fun x _ y _ v h => (nomatch h)⟩
theorem MM.len {g0 h0 : Gr Str} {kvs : List (Key × V)} (m : MM g0 h0 kvs) (hg : Rt g0) (hh : Rt h0) : kvs.length < sizeLine := by
  obtain ⟨ks, h1, h2, h3, _⟩ := m
  have e : kvs.length = ks.length := by
    have := congrArg List.length h1
    rwa [List.length_map, List.length_map] at this
  have l1 := nodup_le (m := ((subs g0).map fun x => (subs h0).map fun y => shP x y).flatten) h2 fun k hk => by
    obtain ⟨x, hx, y, hy, rfl⟩ := h3 k hk
    exact List.mem_flatten.mpr ⟨_, List.mem_map.mpr ⟨x, hx, rfl⟩, List.mem_map.mpr ⟨y, hy, rfl⟩⟩
  have l2 : ∀ l : List (Gr Str), ((l.map fun x => (subs h0).map fun y => shP x y).flatten).length = l.length * (subs h0).length := by
    intro l
    induction l with
    | nil => simp
    | cons a l ih =>
      rw [List.map_cons, List.flatten_cons, List.length_append, ih, List.length_map, List.length_cons, Nat.succ_mul]
      (first | lia | omega)
  rw [l2, subs_len, subs_len] at l1
  have z1 := hg.sz
  have z2 := hh.sz
  have : (2 * gsz g0 + 1) * (2 * gsz h0 + 1) ≤ 41 * 41 := Nat.mul_le_mul (by (first | lia | omega)) (by (first | lia | omega))
  have z3 : 41 * 41 < sizeLine := by decide
  (first | lia | omega)
theorem MM.put {g0 h0 x y : Gr Str} {kvs : List (Key × V)} (m : MM g0 h0 kvs) (hg : Rt g0) (hh : Rt h0) (hx : x ∈ subs g0) (hy : y ∈ subs h0) (hn : valV kvs (Sum.inr (shP x y)) = none) : MM g0 h0 (putK kvs (Sum.inr (shP x y)) (.int (dst x y : Nat))) := by
  obtain ⟨ks, h1, h2, h3, h4⟩ := m
  refine ⟨ks ++ [shP x y], KS.new h1 _ hn, ?_, ?_, ?_⟩
  · have hk : shP x y ∉ ks := fun z => by
      have := KS.has h1 (shP x y)
      rw [hn, decide_eq_true z] at this
      cases this
    exact List.nodup_append.mpr ⟨h2, by simp, fun a ha b hb e => hk (by rw [List.mem_singleton.mp hb] at e; rw [← e]; exact ha)⟩
  · intro k hk
    rcases List.mem_append.mp hk with hk | hk
    · exact h3 k hk
    · exact ⟨x, hx, y, hy, List.mem_singleton.mp hk⟩
  · intro x' hx' y' hy' v hv
    rw [valV_put] at hv
    by_cases e : (Sum.inr (shP x' y') : Key) = Sum.inr (shP x y)
    · rw [if_pos e] at hv
      injection e with e
      obtain ⟨rfl, rfl⟩ := shP_inj (hg.sub hx').lt (hh.sub hy').lt (hg.sub hx).lt (hh.sub hy).lt e
      injection hv with hv
      exact hv.symm
    · rw [if_neg e] at hv
      exact h4 x' hx' y' hy' v hv
theorem keys_put {kvs : List (Key × V)} {k : Key} {v x : V} (h : valV kvs k = some x) : (putK kvs k v).map (·.1) = kvs.map (·.1) := by
  unfold putK
  rw [if_pos (by rw [valV_any, h]; rfl), List.map_map]
  refine List.map_congr_left fun kv _ => ?_
  show (if kv.1 = k then (kv.1, v) else kv).1 = kv.1
  split <;> rfl
theorem MM.puts {g0 h0 x y : Gr Str} {kvs : List (Key × V)} (m : MM g0 h0 kvs) (hg : Rt g0) (hh : Rt h0) (hx : x ∈ subs g0) (hy : y ∈ subs h0) : MM g0 h0 (putK kvs (Sum.inr (shP x y)) (.int (dst x y : Nat))) := by
  cases e : valV kvs (Sum.inr (shP x y)) with
  | none => exact m.put hg hh hx hy e
  | some z =>
    obtain ⟨ks, h1, h2, h3, h4⟩ := m
    refine ⟨ks, (keys_put e).trans h1, h2, h3, fun x' hx' y' hy' v hv => ?_⟩
    rw [valV_put] at hv
    by_cases c : (Sum.inr (shP x' y') : Key) = Sum.inr (shP x y)
    · rw [if_pos c] at hv
      injection c with c
      obtain ⟨rfl, rfl⟩ := shP_inj (hg.sub hx').lt (hh.sub hy').lt (hg.sub hx).lt (hh.sub hy).lt c
      injection hv with hv
      exact hv.symm
    · rw [if_neg c] at hv
      exact h4 x' hx' y' hy' v hv
theorem min3N (a b c : Int) (x y z : Nat) (h1 : a = x) (h2 : b = y) (h3 : c = z) : (if b < a then (if c < b then c else b) else (if c < a then c else a)) = ((min (min y z) x : Nat) : Int) := by
  subst h1 h2 h3
  rw [Nat.min_def, Nat.min_def]
  split <;> split <;> split <;> split <;> (first | lia | omega)
theorem MM.has {g0 h0 x y : Gr Str} {kvs : List (Key × V)} (m : MM g0 h0 kvs) (hx : x ∈ subs g0) (hy : y ∈ subs h0) : valV kvs (Sum.inr (shP x y)) = none ∨ valV kvs (Sum.inr (shP x y)) = some (.int (dst x y : Nat)) := by
  cases e : valV kvs (Sum.inr (shP x y)) with
  | none => exact .inl rfl
  | some v =>
    obtain ⟨ks, _, _, _, h4⟩ := m
    rw [h4 x hx y hy v e]
    exact .inr rfl
theorem RepG.split {H : Hp} : ∀ {xs : List V} {g : Gr Str}, RepG H xs g → ∀ i : Nat, ∃ g1 g2, RepG H (xs.take i) g1 ∧ RepG H (xs.drop i) g2 ∧ g = gapp g1 g2
  | _, _, .nil, i => ⟨.nil, .nil, by rw [List.take_nil]; exact .nil, by rw [List.drop_nil]; exact .nil, rfl⟩
  | _, _, .cons h1 h2 h3 h4, 0 => ⟨.nil, _, .nil, .cons h1 h2 h3 h4, rfl⟩
  | _, _, .cons h1 h2 h3 h4, i + 1 => by
    obtain ⟨g1, g2, k1, k2, rfl⟩ := RepG.split h4 i
    exact ⟨_, g2, .cons h1 h2 h3 k1, k2, rfl⟩
theorem TgIn.parts {ts : List Str} : ∀ {a b : Gr Str}, TgIn ts (gapp a b) → TgIn ts a ∧ TgIn ts b
  | .nil, _, h => ⟨trivial, h⟩
  | .cons t w o, b, h => by
    have := TgIn.parts h.2.2
    exact ⟨⟨h.1, h.2.1, this.1⟩, this.2⟩
theorem flt_in {ts : List Str} : ∀ {l : List Str}, (∀ t ∈ l, t ∈ ts) → TgIn ts (flt l)
  | [], _ => trivial
  | t :: l, h => ⟨h t (List.mem_cons_self ..), trivial, flt_in fun x hx => h x (List.mem_cons_of_mem _ hx)⟩
theorem flt_at {H : Hp} : ∀ {xs : List V} {l : List Str}, RepG H xs (flt l) → xs.length = l.length ∧ ∀ (i : Nat) z, xs[i]? = some z → ∃ p q t, z = V.ref p ∧ H p = some (.tup [.str t, .ref q]) ∧ l[i]? = some t
  | _, [], .nil => ⟨rfl, fun i z h => by simp at h⟩
  | _, t :: l, .cons h1 h2 h3 h4 => by
    obtain ⟨e1, e2⟩ := flt_at h4
    refine ⟨by rw [List.length_cons, List.length_cons, e1], fun i z hz => ?_⟩
    cases i with
    | zero =>
      injection hz with hz
      exact ⟨_, _, t, hz.symm, h1, rfl⟩
    | succ i => exact e2 i z hz
def spFarV (d : Nat) : Sp := fun vs H Q _ => ∃ (kd a b : Addr) (xs ys : List V) (kvs : List (Key × V)) (g h gR hR : Gr Str), vs = [.ref kd, .ref a, .ref b] ∧ gsz g + gsz h < d ∧ H kd = some (.dK kvs) ∧ H a = some (.tup xs) ∧ RepG H xs g ∧ H b = some (.tup ys) ∧ RepG H ys h ∧ g ∈ subs gR ∧ h ∈ subs hR ∧ Rt gR ∧ Rt hR ∧ MM gR hR kvs ∧
  ∀ (kvs' : List (Key × V)) (H' : Hp), KeepX [kd] H H' → H' kd = some (.dK kvs') → MM gR hR kvs' → Q (.int (dst g h : Nat)) H'
set_option maxHeartbeats 4000000 in
theorem ok_l_far (d : Nat) (B : ∀ x ∈ blts, mg x = none) (g_l_size : Has P w K mg base "_law_size" ["_law_row"] 70 (spSizeV 70)) (g_l_far : Has P w K mg base "_law_far" ["_law_kept", "_law_one", "_law_other"] (d + 72) (spFarV d)) (F : Fun K "_law_far" "_law_far" s_l_far f fd) : FnOk P w K mg base CX0 (d + 73) f fd ["_law_kept", "_law_one", "_law_other"] (spFarV (d + 1)) := by
  refine F.ok sc_l_far (fun vs H Q E h => ?_) (fun cdv A outer s H vs Q E hr h => ?_)
  · obtain ⟨kd, a, b, xs, ys, kvs, g, h, gR, hR, rfl, _⟩ := h
    rfl
  obtain ⟨kd, a, b, xs, ys, kvs, g, h, gR, hR, rfl, hd, hkd, ha, hG, hb, hG', sg, sh, rg, rh, mm, q⟩ := h
  have hu := hu_room hr
  have gd0 : (A.deeper (PyProof.Rows.envOfC (Str.ofString "_law_far") (defScope s_l_far) s.heap.objs.size f cdv)).guards = some [] := hr.gd
  have hu1 : (A.deeper (PyProof.Rows.envOfC (Str.ofString "_law_far") (defScope s_l_far) s.heap.objs.size f cdv)).units + 1 < cLine := by have := hr.un; (first | lia | omega)
  have rg1 := rg.sub sg
  have rh1 := rh.sub sh
  have zg := rg1.sz
  have zh := rh1.sz
  have dg := gdep_le g
  have dh := gdep_le h
  have og := let_ok rg1.lt
  have oh := let_ok rh1.lt
  refine hideI ((defBody s_l_far).drop 3) (pss_one (ps_ret (pe_dget hu1 (pv 0) (pv 3) (fun _ _ => rfl)))) (fun u3 h3 e3 => ?_)
  refine hideI ((sBody ((defBody s_l_far).getD 2 (.Pass ⟨0, 0, 0, 0⟩))).drop 3) (pss_one (ps_dput hu1 (pv 0) (pv 3) (pe_callB (call_min3 rfl) rfl (B "min" (by decide)) bt_min (pa_cons (pv 4) (pa_cons (pv 5) (pa_cons (pe_op op_add (pv 6) (pe_callTy call_intB rfl (B "int" (by decide)) bt_int (pa_cons (pe_cmpR op_ne (pe_ix ix_tup (pe_ix ix_tup (pv 1) pe_int (fun _ _ => rfl)) pe_int (fun _ _ => rfl)) (pe_ix ix_tup (pe_ix ix_tup (pv 2) pe_int (fun _ _ => rfl)) pe_int (fun _ _ => rfl)) (nomark _)) pa_nil))) pa_nil)))) rfl)) (fun u2t3 h2t3 e2t3 => ?_)
  refine hideI ((sBody ((defBody s_l_far).getD 2 (.Pass ⟨0, 0, 0, 0⟩))).drop 2) (pss_cons (ps_set (i := 6) sc_l_far.nd rfl (Or.inl rfl) (pe_op op_add (pe_has g_l_far hr rfl (pa_cons (pv 0) (pa_cons (pe_ix ix_tup (pe_ix ix_tup (pv 1) pe_int (fun _ _ => rfl)) pe_int (fun _ _ => rfl)) (pa_cons (pe_ix ix_tup (pe_ix ix_tup (pv 2) pe_int (fun _ _ => rfl)) pe_int (fun _ _ => rfl)) pa_nil))) (by (first | lia | omega))) (pe_has g_l_far hr rfl (pa_cons (pv 0) (pa_cons (pe_slice sl_tupU (pv 1) (po_some pe_int) po_none) (pa_cons (pe_slice sl_tupU (pv 2) (po_some pe_int) po_none) pa_nil))) (by (first | lia | omega))))) h2t3) (fun u2t2 h2t2 e2t2 => ?_)
  refine hideI ((sBody ((defBody s_l_far).getD 2 (.Pass ⟨0, 0, 0, 0⟩))).drop 1) (pss_cons (ps_set (i := 5) sc_l_far.nd rfl (Or.inl rfl) (pe_op op_add (pe_op op_add pe_int (pe_has g_l_size hr rfl (pa_cons (pe_ix ix_tup (pe_ix ix_tup (pv 2) pe_int (fun _ _ => rfl)) pe_int (fun _ _ => rfl)) pa_nil) (by (first | lia | omega)))) (pe_has g_l_far hr rfl (pa_cons (pv 0) (pa_cons (pv 1) (pa_cons (pe_slice sl_tupU (pv 2) (po_some pe_int) po_none) pa_nil))) (by (first | lia | omega))))) h2t2) (fun u2t1 h2t1 e2t1 => ?_)
  refine hideI ((sBody ((defBody s_l_far).getD 2 (.Pass ⟨0, 0, 0, 0⟩))).drop 0) (pss_cons (ps_set (i := 4) sc_l_far.nd rfl (Or.inl rfl) (pe_op op_add (pe_op op_add pe_int (pe_has g_l_size hr rfl (pa_cons (pe_ix ix_tup (pe_ix ix_tup (pv 1) pe_int (fun _ _ => rfl)) pe_int (fun _ _ => rfl)) pa_nil) (by (first | lia | omega)))) (pe_has g_l_far hr rfl (pa_cons (pv 0) (pa_cons (pe_slice sl_tupU (pv 1) (po_some pe_int) po_none) (pa_cons (pv 2) pa_nil))) (by (first | lia | omega))))) h2t1) (fun u2t0 h2t0 e2t0 => ?_)
  refine hideI ((defBody s_l_far).drop 2) (pss_cons (ps_if (pt_cmp (pc_dnotin hu1 (pv 3) (pv 0)))
      h2t0
      pss_nil) h3) (fun u2 h2 e2 => ?_)
  refine hideI ((defBody s_l_far).drop 1) (pss_cons (ps_set (i := 3) sc_l_far.nd rfl (Or.inl rfl) (pe_callTy (call_strD gd0 hu) rfl (B "str" (by decide)) bt_str (pa_cons (pe_tup (pa_cons (pv 1) (pa_cons (pv 2) pa_nil))) pa_nil))) h2) (fun u1 h1 e1 => ?_)
  refine hideI ((defBody s_l_far).drop 0) (pss_cons (ps_if (PW.pt (pw_or (pt_cmpR (op_eqD hu) (pv 1) (pe_tup pa_nil) (nomark _)) (pw_or1 (pt_cmpR (op_eqD hu) (pv 2) (pe_tup pa_nil) (nomark _)))))
      (pss_one (ps_ret (pe_op op_add (pe_has g_l_size hr rfl (pa_cons (pv 1) pa_nil) (by (first | lia | omega))) (pe_has g_l_size hr rfl (pa_cons (pv 2) pa_nil) (by (first | lia | omega))))))
      pss_nil) h1) (fun u0 h0 e0 => ?_)
  refine ⟨u0, h0, ?_⟩
  refine by_eq e0 ?_
  have ed : g = .nil ∨ h = .nil → dst g h = gsz g + gsz h := fun z => by
    rcases z with rfl | rfl
    · rw [dst_nil]
      show gsz h = 0 + gsz h
      (first | lia | omega)
    · rw [dst_nil_r]
      rfl
  refine ⟨_, rfl, by decide, fun p0 hp0 => eq_groves (g := g) (h := .nil) (SqT.of (Same.new hp0 _ _ ha)) (SqT.of upd_same) (hG.mono (TK.new hp0)) .nil og (fun x hx => (nomatch hx)) (by rw [gsz_words]; (first | lia | omega)) fun bb hbb => ⟨_, rfl, ?_⟩⟩
  have k0 : Same H (upd H p0 (.tup [])) := Same.new hp0
  generalize upd H p0 (.tup []) = H1 at k0 ⊢
  cases bb with
  | true =>
    refine iteT (iteT ?_)
    refine ⟨_, rfl, a, xs, g, rfl, k0 _ _ ha, hG.mono k0.tk, by (first | lia | omega), by (first | lia | omega), fun H2 s2 => ?_⟩
    have s3 := k0.trans s2
    refine ⟨_, rfl, b, ys, h, rfl, s3 _ _ hb, hG'.mono s3.tk, by (first | lia | omega), by (first | lia | omega), fun H3 s4 => ?_⟩
    have s5 := s3.trans s4
    refine ⟨_, _, rfl, rfl, ?_⟩
    have q' := q kvs H3 (Same.keepX s5) (s5 _ _ hkd) mm
    rw [ed (.inl (hbb.mp rfl)), Int.natCast_add] at q'
    exact q'
  | false =>
  refine iteF ?_
  refine ⟨_, rfl, by decide, fun p1 hp1 => eq_groves (g := h) (h := .nil) (SqT.of (Same.new hp1 _ _ (k0 _ _ hb))) (SqT.of upd_same) ((hG'.mono k0.tk).mono (TK.new hp1)) .nil oh (fun x hx => (nomatch hx)) (by rw [gsz_words]; (first | lia | omega)) fun bb2 hbb2 => ⟨_, rfl, ?_⟩⟩
  have k1 : Same H (upd H1 p1 (.tup [])) := k0.trans (Same.new hp1)
  generalize upd H1 p1 (.tup []) = H2 at k1 ⊢
  clear k0
  cases bb2 with
  | true =>
    refine iteT ?_
    refine ⟨_, rfl, a, xs, g, rfl, k1 _ _ ha, hG.mono k1.tk, by (first | lia | omega), by (first | lia | omega), fun H3 s2 => ?_⟩
    have s3 := k1.trans s2
    refine ⟨_, rfl, b, ys, h, rfl, s3 _ _ hb, hG'.mono s3.tk, by (first | lia | omega), by (first | lia | omega), fun H4 s4 => ?_⟩
    have s5 := s3.trans s4
    refine ⟨_, _, rfl, rfl, ?_⟩
    have q' := q kvs H4 (Same.keepX s5) (s5 _ _ hkd) mm
    rw [ed (.inr (hbb2.mp rfl)), Int.natCast_add] at q'
    exact q'
  | false =>
  refine iteF ?_
  clear ed
  show u1 _ _ _
  refine by_eq e1 ?_
  refine ⟨_, rfl, _, rfl, (by show 2 ≤ sizeLine; decide), fun p2 hp2 => ?_⟩
  have k2 : Same H (upd H2 p2 (.tup [.ref a, .ref b])) := k1.trans (Same.new hp2)
  have dz : (dataP g h).depth ≤ 190 := by
    have d1 := depthG g
    have d2 := depthG h
    rw [gsz_words] at d1 d2
    show max (PyData.depthAll (dataG g) + 1) (max (PyData.depthAll (dataG h) + 1) 0) + 1 ≤ 190
    (first | lia | omega)
  have lz := shP_len rg1.lt rh1.lt rg1.sh rh1.sh
  refine ⟨p2, dataP g h, rfl, .tup (SqT.of upd_same) (.cons (.tup (SqT.of (k2 _ _ ha)) (dpG (hG.mono k2.tk))) (.cons (.tup (SqT.of (k2 _ _ hb)) (dpG (hG'.mono k2.tk))) .nil)), ?_, ?_, dz, ?_, ?_⟩
  · show (PyData.showableAll (dataG g) && (PyData.showableAll (dataG h) && true)) = true
    rw [(showG g).1, (showG h).1]
    rfl
  · show (PyData.hasDictAll (dataG g) || (PyData.hasDictAll (dataG h) || false)) = false
    rw [(showG g).2, (showG h).2]
    rfl
  · have : (800 + 8 : Nat) ≤ sizeLine := by decide
    show (shP g h).length ≤ _
    (first | lia | omega)
  generalize upd H2 p2 (.tup [.ref a, .ref b]) = H3 at k2 ⊢
  clear k1 hp2 hp1 hp0
  show u2 _ _ _
  have hkd3 := k2 _ _ hkd
  have ink : ∀ {b : Addr} {z : List V}, H b = some (.tup z) → b ∉ [kd] := fun e z => by
    rw [List.mem_singleton.mp z, hkd] at e
    cases e
  refine via (t := u3) (R := fun σ H4 => ∃ (kvs' : List (Key × V)) (v4 v5 v6 : Option V), σ = [some (.ref kd), some (.ref a), some (.ref b), some (.str (shP g h)), v4, v5, v6] ∧ KeepX [kd] H H4 ∧ H4 kd = some (.dK kvs') ∧ MM gR hR kvs' ∧ valV kvs' (Sum.inr (shP g h)) = some (.int (dst g h : Nat))) ?_ fun fin => ?_
  · rintro σ H4 ⟨kvs', v4, v5, v6, rfl, k4, hk4, m4, e4⟩
    refine by_eq e3 ?_
    have dg4 := DGet.k (k := Sum.inr (shP g h)) hk4
    rw [e4] at dg4
    exact ⟨_, rfl, _, rfl, kd, _, rfl, dg4, q kvs' H4 k4 hk4 m4⟩
  refine by_eq e2 ?_
  refine ⟨_, rfl, _, rfl, kd, _, rfl, DGet.k (k := Sum.inr (shP g h)) hkd3, ?_⟩
  rcases mm.has sg sh with e | e
  rotate_left
  · rw [e]
    exact ⟨_, rfl, iteF (fin _ _ ⟨kvs, none, none, none, rfl, (Same.keepX k2), hkd3, mm, e⟩)⟩
  rw [e]
  refine ⟨_, rfl, iteT ?_⟩
  cases hG with
  | nil => exact absurd (hbb.mpr rfl) (by decide)
  | @cons p5 q5 t ys5 vs5 w5 o5 c1 c2 c3 c4 =>
  cases hG' with
  | nil => exact absurd (hbb2.mpr rfl) (by decide)
  | @cons p6 q6 t' ys6 vs6 w6 o6 c1' c2' c3' c4' =>
  have g1 : gsz (.cons t w5 o5) = 1 + gsz w5 + gsz o5 := rfl
  have g2 : gsz (.cons t' w6 o6) = 1 + gsz w6 + gsz o6 := rfl
  have d5 := gdep_le w5
  have d6 := gdep_le w6
  obtain ⟨sw5, so5⟩ := subs_kid sg
  obtain ⟨sw6, so6⟩ := subs_kid sh
  have tkx : ∀ {H1 : Hp}, KeepX [kd] H H1 → TK H H1 := fun k b ys e => k b _ (ink e) e
  have cf : ∀ xs : List V, cutV xs (some 1) none = xs.drop 1 := fun xs => cut_from xs 1
  have at0 : ∀ (x : V) (l : List V), atI (x :: l) 0 = some x := fun x l => atI_nat (j := 0) rfl
  refine by_eq e2t0 ?_
  have K3 : KeepX [kd] H H3 := Same.keepX k2
  refine ⟨_, rfl, a, _, 0, .ref p5, rfl, rfl, SqT.of (k2 _ _ ha), at0 _ _, p5, _, 1, .ref q5, rfl, rfl, SqT.of (k2 _ _ c1), rfl, q5, ys5, w5, rfl, k2 _ _ c2, c3.mono k2.tk, by (first | lia | omega), by (first | lia | omega), fun H4 s4 => ?_⟩
  have K4 := K3.trans (Same.keepX s4)
  have hkd4 := s4 _ _ hkd3
  refine ⟨_, _, rfl, rfl, _, rfl, _, rfl, 1, rfl, a, _, rfl, K4 _ _ (ink ha) ha, fun p7 H5 s5 hp7 => ?_⟩
  rw [cf] at hp7
  have K5 := K4.trans (Same.keepX s5)
  have hkd5 := s5 _ _ hkd4
  refine ⟨_, rfl, kd, p7, b, vs5, _, kvs, o5, _, gR, hR, rfl, by (first | lia | omega), hkd5, hp7, c4.mono (tkx K5), K5 _ _ (ink hb) hb, .cons (tkx K5 _ _ c1') (tkx K5 _ _ c2') (c3'.mono (tkx K5)) (c4'.mono (tkx K5)), so5, sh, rg, rh, mm, fun kvs6 H6 k6 hkd6 m6 => ?_⟩
  have K6 := K5.trans k6
  refine ⟨_, _, rfl, rfl, ?_⟩
  show u2t1 _ _ _
  refine by_eq e2t1 ?_
  refine ⟨_, rfl, b, _, 0, .ref p6, rfl, rfl, SqT.of (K6 _ _ (ink hb) hb), at0 _ _, p6, _, 1, .ref q6, rfl, rfl, SqT.of (tkx K6 _ _ c1'), rfl, q6, ys6, w6, rfl, tkx K6 _ _ c2', c3'.mono (tkx K6), by (first | lia | omega), by (first | lia | omega), fun H7 s7 => ?_⟩
  have K7 := K6.trans (Same.keepX s7)
  have hkd7 := s7 _ _ hkd6
  refine ⟨_, _, rfl, rfl, _, rfl, _, rfl, _, rfl, 1, rfl, b, _, rfl, K7 _ _ (ink hb) hb, fun p8 H8 s8 hp8 => ?_⟩
  rw [cf] at hp8
  have K8 := K7.trans (Same.keepX s8)
  have hkd8 := s8 _ _ hkd7
  refine ⟨kd, a, p8, _, vs6, kvs6, _, o6, gR, hR, rfl, by (first | lia | omega), hkd8, K8 _ _ (ink ha) ha, .cons (tkx K8 _ _ c1) (tkx K8 _ _ c2) (c3.mono (tkx K8)) (c4.mono (tkx K8)), hp8, c4'.mono (tkx K8), sg, so6, rg, rh, m6, fun kvs9 H9 k9 hkd9 m9 => ?_⟩
  have K9 := K8.trans k9
  refine ⟨_, _, rfl, rfl, ?_⟩
  show u2t2 _ _ _
  refine by_eq e2t2 ?_
  refine ⟨_, rfl, _, rfl, a, _, 0, .ref p5, rfl, rfl, SqT.of (K9 _ _ (ink ha) ha), at0 _ _, p5, _, 1, .ref q5, rfl, rfl, SqT.of (tkx K9 _ _ c1), rfl, _, rfl, b, _, 0, .ref p6, rfl, rfl, SqT.of (K9 _ _ (ink hb) hb), at0 _ _, p6, _, 1, .ref q6, rfl, rfl, SqT.of (tkx K9 _ _ c1'), rfl, ?_⟩
  refine ⟨kd, q5, q6, ys5, ys6, kvs9, w5, w6, gR, hR, rfl, by (first | lia | omega), hkd9, tkx K9 _ _ c2, c3.mono (tkx K9), tkx K9 _ _ c2', c3'.mono (tkx K9), sw5, sw6, rg, rh, m9, fun kvsA HA kA hkdA mA => ?_⟩
  have KA := K9.trans kA
  refine ⟨_, rfl, _, rfl, 1, rfl, a, _, rfl, KA _ _ (ink ha) ha, fun pB HB sB hpB => ?_⟩
  rw [cf] at hpB
  have KB := KA.trans (Same.keepX sB)
  refine ⟨_, rfl, 1, rfl, b, _, rfl, KB _ _ (ink hb) hb, fun pC HC sC hpC => ?_⟩
  rw [cf] at hpC
  have KC := KB.trans (Same.keepX sC)
  have hkdC := sC _ _ (sB _ _ hkdA)
  refine ⟨kd, pB, pC, vs5, vs6, kvsA, o5, o6, gR, hR, rfl, by (first | lia | omega), hkdC, sC _ _ hpB, c4.mono (tkx KC), hpC, c4'.mono (tkx KC), so5, so6, rg, rh, mA, fun kvsD HD kD hkdD mD => ?_⟩
  have KD := KC.trans kD
  refine ⟨_, _, rfl, rfl, ?_⟩
  show u2t3 _ _ _
  refine by_eq e2t3 ?_
  refine ⟨_, rfl, _, rfl, _, rfl, _, rfl, a, _, 0, .ref p5, rfl, rfl, SqT.of (KD _ _ (ink ha) ha), at0 _ _, p5, _, 0, .str t, rfl, rfl, SqT.of (tkx KD _ _ c1), rfl, _, rfl, b, _, 0, .ref p6, rfl, rfl, SqT.of (KD _ _ (ink hb) hb), at0 _ _, p6, _, 0, .str t', rfl, rfl, SqT.of (tkx KD _ _ c1'), rfl, rfl, _, rfl, _, _, rfl, rfl, _, _, _, rfl, ?_⟩
  have dc := dst_cons t t' w5 w6 o5 o6
  have ve := min3N (1 + (gsz w5 : Int) + (dst o5 (.cons t' w6 o6) : Nat)) (1 + (gsz w6 : Int) + (dst (.cons t w5 o5) o6 : Nat)) ((dst w5 w6 : Nat) + (dst o5 o6 : Nat) + if (!decide (V.str t = V.str t')) = true then 1 else 0) (1 + gsz w5 + dst o5 (.cons t' w6 o6)) (1 + gsz w6 + dst (.cons t w5 o5) o6) (dst w5 w6 + dst o5 o6 + if t = t' then 0 else 1) (by (first | lia | omega)) (by (first | lia | omega)) (by
    by_cases c : t = t'
    · simp [c]
    · simp [c])
  have vm : min (min (1 + gsz w6 + dst (.cons t w5 o5) o6) (dst w5 w6 + dst o5 o6 + if t = t' then 0 else 1)) (1 + gsz w5 + dst o5 (.cons t' w6 o6)) = dst (.cons t w5 o5) (.cons t' w6 o6) := by
    rw [dc]
    generalize (if t = t' then 0 else 1) = z
    (first | lia | omega)
  rw [vm] at ve
  refine ⟨_, rfl, _, rfl, kd, _, rfl, DPut.k (k := Sum.inr (shP (.cons t w5 o5) (.cons t' w6 o6))) hkdD (mD.len rg rh), ?_⟩
  rw [ve]
  exact fin _ _ ⟨_, _, _, _, rfl, KD.upd (List.mem_singleton.mpr rfl), upd_same, mD.puts rg rh sg sh, by rw [valV_put, if_pos rfl]⟩
def levV (ss ts : List Str) (i n : Nat) : List V := (List.range n).map fun j : Nat => V.int (lev (ss.take i) (ts.take j) : Nat)
theorem levV_at {ss ts : List Str} {i n j : Nat} (h : j < n) : atI (levV ss ts i n) (j : Int) = some (.int (lev (ss.take i) (ts.take j) : Nat)) := atI_nat (by
  unfold levV
  rw [List.getElem?_map, List.getElem?_range h]
  rfl)
theorem levV_succ (ss ts : List Str) (i n : Nat) : levV ss ts i n ++ [.int (lev (ss.take i) (ts.take n) : Nat)] = levV ss ts i (n + 1) := by
  unfold levV
  rw [List.range_succ, List.map_append]
  rfl
theorem levV_len (ss ts : List Str) (i n : Nat) : (levV ss ts i n).length = n := by
  unfold levV
  rw [List.length_map, List.length_range]
theorem lev_step {ss ts : List Str} {i j : Nat} {x y : Str} (hx : ss[i]? = some x) (hy : ts[j]? = some y) :
    lev (ss.take (i + 1)) (ts.take (j + 1)) = min (min (1 + lev (ss.take i) (ts.take (j + 1))) (1 + lev (ss.take (i + 1)) (ts.take j))) (lev (ss.take i) (ts.take j) + if x = y then 0 else 1) := by
  have e1 : ss.take (i + 1) = ss.take i ++ [x] := take_succ' hx
  have e2 : ts.take (j + 1) = ts.take j ++ [y] := take_succ' hy
  rw [e1, e2]
  exact lev_snoc x y _ _
def spFlatV : Sp := fun vs H Q _ => ∃ (a b : Addr) (ss ts : List Str), vs = [.ref a, .ref b] ∧ H a = some (.lst (ss.map V.str)) ∧ H b = some (.lst (ts.map V.str)) ∧ ss.length ≤ 50 ∧ ts.length ≤ 50 ∧ ∀ H', Same H H' → Q (.int (lev ss ts : Nat)) H'
set_option maxHeartbeats 2000000 in
theorem ok_l_flat_far (B : ∀ x ∈ blts, mg x = none) (F : Fun K "_law_flat_far" "_law_flat_far" s_l_flat_far f fd) : FnOk P w K mg base CX0 1 f fd ["_law_one", "_law_other"] spFlatV := by
  refine F.ok sc_l_flat_far (fun vs H Q E h => ?_) (fun cdv A outer s H vs Q E hr h => ?_)
  · obtain ⟨a, b, ss, ts, rfl, _⟩ := h
    rfl
  obtain ⟨a, b, ss, ts, rfl, ha, hb, l1, l2, q⟩ := h
  refine ⟨_, (pss_cons (ps_set (i := 2) sc_l_flat_far.nd rfl (Or.inl rfl) (pe_list_rng rfl rfl (B "list" (by decide)) rfl (B "range" (by decide)) (pa_cons (pe_op op_add (pe_callB call_len_seq rfl (B "len" (by decide)) PySem.boot_len (pa_cons (pv 1) pa_nil)) pe_int) pa_nil)))
    (pss_cons (ps_for PassesOwn.never rfl (pi_range1 rfl (B "range" (by decide)) (pa_cons (pe_callB call_len_seq rfl (B "len" (by decide)) PySem.boot_len (pa_cons (pv 0) pa_nil)) pa_nil)) (pg_name (i := 3) sc_l_flat_far.nd rfl (Or.inl rfl))
      (pss_cons (ps_set (i := 4) sc_l_flat_far.nd rfl (Or.inl rfl) (pe_lst (pa_cons (pe_op op_add (pv 3) pe_int) pa_nil)))
        (pss_cons (ps_for PassesOwn.never rfl (pi_range1 rfl (B "range" (by decide)) (pa_cons (pe_callB call_len_seq rfl (B "len" (by decide)) PySem.boot_len (pa_cons (pv 1) pa_nil)) pa_nil)) (pg_name (i := 5) sc_l_flat_far.nd rfl (Or.inl rfl))
          (pss_one (ps_expr (pe_bm PySem.F.plainAttrs_list PySem.F.slot_list_append PySem.F.type_list_append mt_append (pv 4) (pa_cons (pe_callB (call_min3 rfl) rfl (B "min" (by decide)) bt_min (pa_cons (pe_op op_add (pe_ix ix_list (pv 2) (pv 5) (fun _ _ => rfl)) (pe_callTy call_intB rfl (B "int" (by decide)) bt_int (pa_cons (pe_cmpR op_ne (pe_ix ix_list (pv 0) (pv 3) (fun _ _ => rfl)) (pe_ix ix_list (pv 1) (pv 5) (fun _ _ => rfl)) (nomark _)) pa_nil))) (pa_cons (pe_op op_add (pe_ix ix_list (pv 2) (pe_op op_add (pv 5) pe_int) (fun _ _ => rfl)) pe_int) (pa_cons (pe_op op_add (pe_ix ix_list (pv 4) (pv 5) (fun _ _ => rfl)) pe_int) pa_nil)))) pa_nil)))))
        (pss_one (ps_set (i := 2) sc_l_flat_far.nd rfl (Or.inl rfl) (pv 4))))))
    (pss_one (ps_ret (pe_ix ix_list (pv 2) (pe_un un_neg pe_int) (fun _ _ => rfl)))))), ?_⟩
  have sl : (((ts.map V.str).length : Nat) : Int) + 1 = ((ts.length + 1 : Nat) : Int) := by rw [List.length_map]; (first | lia | omega)
  refine ⟨_, rfl, b, _, rfl, .inl (SqL.of hb), _, _, rfl, rfl, ts.length + 1, congrArg V.int sl, by (first | lia | omega), fun L hL => ?_⟩
  have e0 : ((List.range (ts.length + 1)).map fun i : Nat => V.int (i : Int)) = levV ss ts 0 (ts.length + 1) := by
    unfold levV
    refine List.map_congr_left fun j hj => ?_
    have hj := List.mem_range.mp hj
    rw [List.take_zero, lev_nil, List.length_take]
    congr 2
    (first | lia | omega)
  rw [e0]
  have k0 : Same H (upd H L (.lst (levV ss ts 0 (ts.length + 1)))) := Same.new hL
  refine ⟨_, rfl, a, _, rfl, .inl (SqL.of (k0 _ _ ha)), _, rfl, by (first | lia | omega), by rw [List.length_map]; (first | lia | omega), for_range (lo := 0) (n := (((ss.map V.str).length : Nat) : Int).toNat) (fun i σ H1 => ∃ (L : Addr) (v3 v4 v5 : Option V), σ = [some (.ref a), some (.ref b), some (.ref L), v3, v4, v5] ∧ Same H H1 ∧ H1 L = some (.lst (levV ss ts i (ts.length + 1))))
    ⟨L, none, none, none, rfl, k0, upd_same⟩ ?_ ?_⟩
  · rintro i σ H1 hi ⟨L, v3, v4, v5, rfl, s1, hL1⟩
    have hi' : i < ss.length := by
      rw [List.length_map] at hi
      (first | lia | omega)
    have hx := List.getElem?_eq_getElem hi'
    generalize ss[i] = x at hx
    have hxa : atI (ss.map V.str) (0 + (i : Int)) = some (.str x) := by
      rw [Int.zero_add]
      exact atI_nat (by rw [List.getElem?_map, hx]; rfl)
    refine ⟨_, rfl, _, _, rfl, rfl, (by show 1 ≤ sizeLine; decide), fun W hW => ?_⟩
    have hW0 : H W = none := s1.free hW
    have nW : W ≠ L := (ne_of_none hL1 hW).symm
    have k1 : Same H1 (upd H1 W (.lst [.int (0 + (i : Int) + 1)])) := Same.new hW
    have e1 : [V.int (0 + (i : Int) + 1)] = levV ss ts (i + 1) 1 := by
      show _ = [V.int (lev (ss.take (i + 1)) [] : Nat)]
      rw [lev_nil_r, List.length_take]
      congr 2
      (first | lia | omega)
    rw [e1] at k1 ⊢
    refine ⟨_, rfl, b, _, rfl, .inl (SqL.of (k1 _ _ (s1 _ _ hb))), _, rfl, by (first | lia | omega), by rw [List.length_map]; (first | lia | omega), for_range (lo := 0) (n := (((ts.map V.str).length : Nat) : Int).toNat) (fun j σ H2 => ∃ (v5 : Option V), σ = [some (.ref a), some (.ref b), some (.ref L), some (.int (0 + (i : Int))), some (.ref W), v5] ∧ Same H1 H2 ∧ H2 W = some (.lst (levV ss ts (i + 1) (j + 1))))
      ⟨v5, rfl, k1, upd_same⟩ ?_ ?_⟩
    · rintro j σ H2 hj ⟨v5, rfl, s2, hW2⟩
      have hj' : j < ts.length := by
        rw [List.length_map] at hj
        (first | lia | omega)
      have hy := List.getElem?_eq_getElem hj'
      generalize ts[j] = y at hy
      have hyb : atI (ts.map V.str) (0 + (j : Int)) = some (.str y) := by
        rw [Int.zero_add]
        exact atI_nat (by rw [List.getElem?_map, hy]; rfl)
      have hL2 := s2 _ _ hL1
      have ha2 := s2 _ _ (s1 _ _ ha)
      have hb2 := s2 _ _ (s1 _ _ hb)
      have st := lev_step hx hy
      have a1 : atI (levV ss ts i (ts.length + 1)) (0 + (j : Int)) = some (.int (lev (ss.take i) (ts.take j) : Nat)) := by
        rw [Int.zero_add]
        exact levV_at (by (first | lia | omega))
      have a2 : atI (levV ss ts i (ts.length + 1)) (0 + (j : Int) + 1) = some (.int (lev (ss.take i) (ts.take (j + 1)) : Nat)) := by
        rw [Int.zero_add]
        exact levV_at (j := j + 1) (by (first | lia | omega))
      have a3 : atI (levV ss ts (i + 1) (j + 1)) (0 + (j : Int)) = some (.int (lev (ss.take (i + 1)) (ts.take j) : Nat)) := by
        rw [Int.zero_add]
        exact levV_at (by (first | lia | omega))
      refine ⟨_, rfl, .inl ⟨rfl, _, SqL.of hW2⟩, _, rfl, _, rfl, L, _, _, _, rfl, rfl, SqL.of hL2, a1, _, rfl, _, rfl, a, _, _, _, rfl, rfl, SqL.of ha2, hxa, _, rfl, _, rfl, b, _, _, _, rfl, rfl, SqL.of hb2, hyb, rfl, _, rfl, _, _, rfl, rfl, ?_⟩
      refine ⟨_, rfl, _, rfl, _, _, rfl, rfl, L, _, _, _, rfl, rfl, SqL.of hL2, a2, _, _, rfl, rfl, _, rfl, _, rfl, W, _, _, _, rfl, rfl, SqL.of hW2, a3, _, _, rfl, rfl, _, _, _, rfl, ?_⟩
      refine ⟨W, _, _, rfl, rfl, hW2, len1000' (by rw [levV_len]; (first | lia | omega)), ?_⟩
      refine ⟨_, rfl, s2.upd_new hW, ?_⟩
      rw [upd_same, ← levV_succ ss ts (i + 1) (j + 1)]
      congr 4
      rw [st]
      refine congrArg V.int (min3N _ _ _ _ _ _ ?_ (Int.add_comm _ _) (Int.add_comm _ _))
      by_cases c : x = y
      · simp [c]
      · simp [c]
    · rintro σ H2 ⟨v5, rfl, s2, hW2⟩
      rw [List.length_map, Int.toNat_natCast] at hW2
      exact ⟨_, rfl, W, _, _, _, rfl, s1.trans s2, hW2⟩
  · rintro σ H1 ⟨L, v3, v4, v5, rfl, s1, hL1⟩
    rw [List.length_map, Int.toNat_natCast, ← levV_succ] at hL1
    refine ⟨_, rfl, _, rfl, L, _, _, _, rfl, rfl, SqL.of hL1, atI_last _ _, ?_⟩
    rw [List.take_length, List.take_length]
    exact q _ s1
def spLikeV : Sp := fun vs H Q _ => ∃ (a tg : Addr) (xs : List V) (g : Gr Str) (c : Int) (ts : List Str), vs = [.ref a, .int c, .ref tg] ∧ H a = some (.tup xs) ∧ RepG H xs g ∧ TgIn ts g ∧ OkW (words SL g) ∧ gsz g ≤ 60 ∧ H tg = some (.lst (ts.map V.str)) ∧ ts.length = 4 ∧
  ∀ (r : Addr) (zs : List V) (g' : Gr Str) (H' : Hp), Same H H' → H' r = some (.tup zs) → RepG H' zs g' → TgIn ts g' → gsz g' ≤ gsz g + 1 → Q (.ref r) H'
theorem rep_one {H : Hp} {p q : Addr} {t : Str} {ys : List V} {w : Gr Str} (h1 : H p = some (.tup [.str t, .ref q])) (h2 : H q = some (.tup ys)) (h3 : RepG H ys w) : RepG H [.ref p] (.cons t w .nil) := .cons h1 h2 h3 .nil
theorem set3 {x y : Int} {i : Nat} {σ : St} {H : Hp} {R : St → Hp → Prop} (h : x = y) (g : gName i (.int y) σ H R) : gName i (.int x) σ H R := by rw [h]; exact g
set_option maxHeartbeats 2000000 in
theorem ok_l_like (B : ∀ x ∈ blts, mg x = none) (F : Fun K "_law_like" "_law_like" s_l_like f fd) : FnOk P w K mg base CX0 1 f fd ["_law_one", "_law_cell", "_law_tags"] spLikeV := by
  refine F.ok sc_l_like (fun vs H Q E h => ?_) (fun cdv A outer s H vs Q E hr h => ?_)
  · obtain ⟨a, tg, xs, g, c, ts, rfl, _⟩ := h
    rfl
  obtain ⟨a, tg, xs, g, c, ts, rfl, ha, hG, hT, hok, hz, htg, t4, q⟩ := h
  have hu := hu_room hr
  have hxl := hG.length
  rw [gsz_words] at hxl
  obtain ⟨j4, hj4, hj4l⟩ := modN (c / 64) (n := 4) (by decide)
  have hj4t : j4 < ts.length := by (first | lia | omega)
  have htag := strs_at (ws := ts) (n := j4) hj4t
  have htm := List.getElem_mem hj4t
  generalize ts[j4] = tt at htag htm
  refine ⟨_, (pss_cons (ps_set (i := 3) sc_l_like.nd rfl (Or.inl rfl) (pe_op op_mod (pe_op op_fdiv (pv 1) pe_int) (pe_op op_add (pe_callB call_len_seq rfl (B "len" (by decide)) PySem.boot_len (pa_cons (pv 0) pa_nil)) pe_int)))
    (pss_cons (ps_if (PW.pt (pw_or (pt_cmpR op_eq (pe_op op_mod (pv 1) pe_int) pe_int (nomark _)) (pw_or1 (pt_cmpR (op_eqD hu) (pv 0) (pe_tup pa_nil) (nomark _)))))
      (pss_one (ps_ret (pe_op op_catG (pe_op op_catG (pe_slice sl_tupU (pv 0) po_none (po_some (pv 3))) (pe_tup (pa_cons (pe_tup (pa_cons (pe_ix ix_list (pv 2) (pe_op op_mod (pe_op op_fdiv (pv 1) pe_int) pe_int) (fun _ _ => rfl)) (pa_cons (pe_tup pa_nil) pa_nil))) pa_nil))) (pe_slice sl_tupU (pv 0) (po_some (pv 3)) po_none))))
      pss_nil)
    (pss_cons (ps_set (i := 3) sc_l_like.nd rfl (Or.inl rfl) (pe_op op_mod (pe_op op_fdiv (pv 1) pe_int) (pe_callB call_len_seq rfl (B "len" (by decide)) PySem.boot_len (pa_cons (pv 0) pa_nil))))
    (pss_cons (ps_if (pt_cmpR op_eq (pe_op op_mod (pv 1) pe_int) pe_int (nomark _))
      (pss_one (ps_ret (pe_op op_catG (pe_slice sl_tupU (pv 0) po_none (po_some (pv 3))) (pe_slice sl_tupU (pv 0) (po_some (pe_op op_add (pv 3) pe_int)) po_none))))
      pss_nil)
    (pss_cons (ps_if (pt_cmpR op_eq (pe_op op_mod (pv 1) pe_int) pe_int (nomark _))
      (pss_one (ps_ret (pe_op op_catG (pe_op op_catG (pe_slice sl_tupU (pv 0) po_none (po_some (pv 3))) (pe_tup (pa_cons (pe_tup (pa_cons (pe_ix ix_list (pv 2) (pe_op op_mod (pe_op op_fdiv (pv 1) pe_int) pe_int) (fun _ _ => rfl)) (pa_cons (pe_ix ix_tup (pe_ix ix_tup (pv 0) (pv 3) (fun _ _ => rfl)) pe_int (fun _ _ => rfl)) pa_nil))) pa_nil))) (pe_slice sl_tupU (pv 0) (po_some (pe_op op_add (pv 3) pe_int)) po_none))))
      pss_nil)
    (pss_one (ps_ret (pe_op op_catG (pe_tup (pa_cons (pe_tup (pa_cons (pe_ix ix_list (pv 2) (pe_op op_mod (pe_op op_fdiv (pv 1) pe_int) pe_int) (fun _ _ => rfl)) (pa_cons (pe_slice sl_tupU (pv 0) po_none (po_some (pe_op op_add (pv 3) pe_int))) pa_nil))) pa_nil)) (pe_slice sl_tupU (pv 0) (po_some (pe_op op_add (pv 3) pe_int)) po_none))))))))), ?_⟩
  refine ⟨_, rfl, _, _, rfl, rfl, ⟨by decide, by decide⟩, _, rfl, a, xs, rfl, .inr (SqT.of ha), _, _, rfl, rfl, _, _, rfl, rfl, (by show (0 : Int) < (xs.length : Nat) + 1; (first | lia | omega)), ?_⟩
  obtain ⟨k, hk, hkl⟩ := modN (c / 4) (n := xs.length + 1) (by (first | lia | omega))
  have hk' : c / 4 % (((xs.length : Nat) : Int) + 1) = (k : Int) := by rw [← hk]; congr 1
  have hj4' : c / 64 % 4 = (j4 : Int) := hj4
  refine set3 hk' ?_
  obtain ⟨g1, g2, r1, r2, hge⟩ := RepG.split hG k
  obtain ⟨t1, t2⟩ := TgIn.parts (hge ▸ hT)
  have gz : gsz g = gsz g1 + gsz g2 := by rw [hge]; exact gsz_gapp g1 g2
  have S0 : Same H H := fun _ _ e => e
  refine ⟨_, rfl, _, _, rfl, rfl, (by show (0 : Int) < 4; decide), rfl, _, rfl, ite2 (fun c0 => ?_) (fun c0 => ?_)⟩
  · refine iteT ?_
    refine ⟨_, rfl, _, rfl, _, rfl, a, _, rfl, S0 _ _ ha, fun p1 H1 s1 hp1 => ?_⟩
    rw [cut_upto] at hp1
    have S1 := S0.trans s1
    refine ⟨_, rfl, _, rfl, _, _, rfl, rfl, ⟨by decide, by decide⟩, _, _, rfl, rfl, (by show (0 : Int) < 4; decide), tg, _, _, _, rfl, rfl, SqL.of (S1 _ _ htg), (by rw [hj4']; exact htag), by decide, fun pe hpe => ?_⟩
    refine ⟨(by show 2 ≤ sizeLine; decide), fun pp hpp => ⟨(by show 1 ≤ sizeLine; decide), fun pq hpq => ?_⟩⟩
    have S2 : Same H1 (upd (upd (upd H1 pe (.tup [])) pp (.tup [.str tt, .ref pe])) pq (.tup [.ref pp])) := ((Same.new hpe).trans (Same.new hpp)).trans (Same.new hpq)
    have e1 : (upd (upd (upd H1 pe (.tup [])) pp (.tup [.str tt, .ref pe])) pq (.tup [.ref pp])) pe = some (.tup []) := (Same.new hpq) _ _ ((Same.new hpp) _ _ upd_same)
    have e2 : (upd (upd (upd H1 pe (.tup [])) pp (.tup [.str tt, .ref pe])) pq (.tup [.ref pp])) pp = some (.tup [.str tt, .ref pe]) := (Same.new hpq) _ _ upd_same
    have e3 : (upd (upd (upd H1 pe (.tup [])) pp (.tup [.str tt, .ref pe])) pq (.tup [.ref pp])) pq = some (.tup [.ref pp]) := upd_same
    generalize upd (upd (upd H1 pe (.tup [])) pp (.tup [.str tt, .ref pe])) pq (.tup [.ref pp]) = H2 at S2 e1 e2 e3 ⊢
    refine ⟨p1, pq, _, _, rfl, rfl, S2 _ _ hp1, e3, len1000 (by rw [List.length_take, List.length_singleton]; (first | lia | omega)), fun pr H3 s3 hpr => ?_⟩
    have S3 := S1.trans (S2.trans s3)
    refine ⟨_, rfl, _, rfl, _, rfl, a, _, rfl, S3 _ _ ha, fun ps H4 s4 hps => ?_⟩
    rw [cut_from] at hps
    refine ⟨pr, ps, _, _, rfl, rfl, s4 _ _ hpr, hps, len1000 (by rw [List.length_append, List.length_take, List.length_drop, List.length_singleton]; (first | lia | omega)), fun pt H5 s5 hpt => ?_⟩
    have S5 := S3.trans (s4.trans s5)
    have k5 : Same H2 H5 := s3.trans (s4.trans s5)
    refine q pt _ (gapp (gapp g1 (.cons tt .nil .nil)) g2) _ S5 hpt (RepG.gapp (RepG.gapp (r1.mono S5.tk) (rep_one (k5 _ _ e2) (k5 _ _ e1) .nil)) (r2.mono S5.tk)) (TgIn.app (TgIn.app t1 ⟨htm, trivial, trivial⟩) t2) ?_
    rw [gsz_gapp, gsz_gapp]
    show gsz g1 + (1 + 0 + 0) + gsz g2 ≤ _
    (first | lia | omega)
  refine ⟨_, rfl, by decide, fun p0 hp0 => eq_groves (g := g) (h := .nil) (SqT.of (Same.new hp0 _ _ ha)) (SqT.of upd_same) (hG.mono (TK.new hp0)) .nil hok (fun x hx => (nomatch hx)) (by rw [gsz_words]; (first | lia | omega)) fun bb hbb => ⟨_, rfl, ?_⟩⟩
  have K0 : Same H (upd H p0 (.tup [])) := Same.new hp0
  generalize upd H p0 (.tup []) = H0 at K0 ⊢
  cases bb with
  | true =>
    refine iteT ?_
    refine ⟨_, rfl, _, rfl, _, rfl, a, _, rfl, K0 _ _ ha, fun p1 H1 s1 hp1 => ?_⟩
    rw [cut_upto] at hp1
    have S1 := K0.trans s1
    refine ⟨_, rfl, _, rfl, _, _, rfl, rfl, ⟨by decide, by decide⟩, _, _, rfl, rfl, (by show (0 : Int) < 4; decide), tg, _, _, _, rfl, rfl, SqL.of (S1 _ _ htg), (by rw [hj4']; exact htag), by decide, fun pe hpe => ?_⟩
    refine ⟨(by show 2 ≤ sizeLine; decide), fun pp hpp => ⟨(by show 1 ≤ sizeLine; decide), fun pq hpq => ?_⟩⟩
    have S2 : Same H1 (upd (upd (upd H1 pe (.tup [])) pp (.tup [.str tt, .ref pe])) pq (.tup [.ref pp])) := ((Same.new hpe).trans (Same.new hpp)).trans (Same.new hpq)
    have e1 : (upd (upd (upd H1 pe (.tup [])) pp (.tup [.str tt, .ref pe])) pq (.tup [.ref pp])) pe = some (.tup []) := (Same.new hpq) _ _ ((Same.new hpp) _ _ upd_same)
    have e2 : (upd (upd (upd H1 pe (.tup [])) pp (.tup [.str tt, .ref pe])) pq (.tup [.ref pp])) pp = some (.tup [.str tt, .ref pe]) := (Same.new hpq) _ _ upd_same
    have e3 : (upd (upd (upd H1 pe (.tup [])) pp (.tup [.str tt, .ref pe])) pq (.tup [.ref pp])) pq = some (.tup [.ref pp]) := upd_same
    generalize upd (upd (upd H1 pe (.tup [])) pp (.tup [.str tt, .ref pe])) pq (.tup [.ref pp]) = H2 at S2 e1 e2 e3 ⊢
    refine ⟨p1, pq, _, _, rfl, rfl, S2 _ _ hp1, e3, len1000 (by rw [List.length_take, List.length_singleton]; (first | lia | omega)), fun pr H3 s3 hpr => ?_⟩
    have S3 := S1.trans (S2.trans s3)
    refine ⟨_, rfl, _, rfl, _, rfl, a, _, rfl, S3 _ _ ha, fun ps H4 s4 hps => ?_⟩
    rw [cut_from] at hps
    refine ⟨pr, ps, _, _, rfl, rfl, s4 _ _ hpr, hps, len1000 (by rw [List.length_append, List.length_take, List.length_drop, List.length_singleton]; (first | lia | omega)), fun pt H5 s5 hpt => ?_⟩
    have S5 := S3.trans (s4.trans s5)
    have k5 : Same H2 H5 := s3.trans (s4.trans s5)
    refine q pt _ (gapp (gapp g1 (.cons tt .nil .nil)) g2) _ S5 hpt (RepG.gapp (RepG.gapp (r1.mono S5.tk) (rep_one (k5 _ _ e2) (k5 _ _ e1) .nil)) (r2.mono S5.tk)) (TgIn.app (TgIn.app t1 ⟨htm, trivial, trivial⟩) t2) ?_
    rw [gsz_gapp, gsz_gapp]
    show gsz g1 + (1 + 0 + 0) + gsz g2 ≤ _
    (first | lia | omega)
  | false =>
  refine iteF ?_
  have xn : 0 < xs.length := by
    cases hG with
    | nil => exact absurd (hbb.mpr rfl) (by decide)
    | cons _ _ _ _ => rw [List.length_cons]; (first | lia | omega)
  refine ⟨_, rfl, _, _, rfl, rfl, ⟨by decide, by decide⟩, _, rfl, a, xs, rfl, .inr (SqT.of (K0 _ _ ha)), _, _, rfl, rfl, (by show (0 : Int) < (xs.length : Nat); (first | lia | omega)), ?_⟩
  obtain ⟨k2, hk2, hk2l⟩ := modN (c / 4) xn
  refine set3 hk2 ?_
  clear r1 r2 t1 t2 gz hbb
  have cf1 : cutV xs (some ((k2 : Int) + 1)) none = xs.drop (k2 + 1) := cut_from xs (k2 + 1)
  have cu1 : cutV xs none (some ((k2 : Int) + 1)) = xs.take (k2 + 1) := cut_upto xs (k2 + 1)
  obtain ⟨h1, h2, r1, r2, hge2⟩ := RepG.split hG k2
  obtain ⟨t1, t2⟩ := TgIn.parts (hge2 ▸ hT)
  have gz : gsz g = gsz h1 + gsz h2 := by rw [hge2]; exact gsz_gapp h1 h2
  have dr := List.drop_eq_getElem_cons hk2l
  have atx : atI xs (k2 : Int) = some xs[k2] := atI_nat (List.getElem?_eq_getElem hk2l)
  rw [dr] at r2
  generalize xs[k2] = z at r2 atx
  cases r2 with
  | @cons pz qz tz ysz _ wz oz z1 z2 z3 z4 =>
  have gz2 : gsz (.cons tz wz oz) = 1 + gsz wz + gsz oz := rfl
  refine ⟨_, rfl, _, _, rfl, rfl, (by show (0 : Int) < 4; decide), rfl, _, rfl, ite2 (fun c1 => ?_) (fun c1 => ?_)⟩
  · refine ⟨_, rfl, _, rfl, _, rfl, a, _, rfl, K0 _ _ ha, fun p1 H1 s1 hp1 => ?_⟩
    rw [cut_upto] at hp1
    have S1 := K0.trans s1
    refine ⟨_, rfl, _, rfl, _, _, rfl, rfl, _, rfl, a, _, rfl, S1 _ _ ha, fun ps H4 s4 hps => ?_⟩
    rw [cf1] at hps
    refine ⟨p1, ps, _, _, rfl, rfl, s4 _ _ hp1, hps, len1000 (by rw [List.length_take, List.length_drop]; (first | lia | omega)), fun pt H5 s5 hpt => ?_⟩
    have S5 := S1.trans (s4.trans s5)
    refine q pt _ (gapp h1 oz) _ S5 hpt (RepG.gapp (r1.mono S5.tk) (z4.mono S5.tk)) (TgIn.app t1 t2.2.2) ?_
    rw [gsz_gapp]
    (first | lia | omega)
  refine ⟨_, rfl, _, _, rfl, rfl, (by show (0 : Int) < 4; decide), rfl, _, rfl, ite2 (fun c2 => ?_) (fun c2 => ?_)⟩
  · refine ⟨_, rfl, _, rfl, _, rfl, a, _, rfl, K0 _ _ ha, fun p1 H1 s1 hp1 => ?_⟩
    rw [cut_upto] at hp1
    have S1 := K0.trans s1
    refine ⟨_, rfl, _, rfl, _, _, rfl, rfl, ⟨by decide, by decide⟩, _, _, rfl, rfl, (by show (0 : Int) < 4; decide), tg, _, _, _, rfl, rfl, SqL.of (S1 _ _ htg), (by rw [hj4']; exact htag), _, rfl, _, rfl, a, _, _, _, rfl, rfl, SqT.of (S1 _ _ ha), atx, pz, _, 1, .ref qz, rfl, rfl, SqT.of (S1 _ _ z1), rfl, ?_⟩
    refine ⟨(by show 2 ≤ sizeLine; decide), fun pp hpp => ⟨(by show 1 ≤ sizeLine; decide), fun pq hpq => ?_⟩⟩
    have S2 : Same H1 (upd (upd H1 pp (.tup [.str tt, .ref qz])) pq (.tup [.ref pp])) := (Same.new hpp).trans (Same.new hpq)
    have e2 : (upd (upd H1 pp (.tup [.str tt, .ref qz])) pq (.tup [.ref pp])) pp = some (.tup [.str tt, .ref qz]) := (Same.new hpq) _ _ upd_same
    have e3 : (upd (upd H1 pp (.tup [.str tt, .ref qz])) pq (.tup [.ref pp])) pq = some (.tup [.ref pp]) := upd_same
    generalize upd (upd H1 pp (.tup [.str tt, .ref qz])) pq (.tup [.ref pp]) = H2 at S2 e2 e3 ⊢
    refine ⟨p1, pq, _, _, rfl, rfl, S2 _ _ hp1, e3, len1000 (by rw [List.length_take, List.length_singleton]; (first | lia | omega)), fun pr H3 s3 hpr => ?_⟩
    have S3 := S1.trans (S2.trans s3)
    refine ⟨_, rfl, _, rfl, _, _, rfl, rfl, _, rfl, a, _, rfl, S3 _ _ ha, fun ps H4 s4 hps => ?_⟩
    rw [cf1] at hps
    refine ⟨pr, ps, _, _, rfl, rfl, s4 _ _ hpr, hps, len1000 (by rw [List.length_append, List.length_take, List.length_drop, List.length_singleton]; (first | lia | omega)), fun pt H5 s5 hpt => ?_⟩
    have S5 := S3.trans (s4.trans s5)
    have k5 : Same H2 H5 := s3.trans (s4.trans s5)
    refine q pt _ (gapp (gapp h1 (.cons tt wz .nil)) oz) _ S5 hpt (RepG.gapp (RepG.gapp (r1.mono S5.tk) (rep_one (k5 _ _ e2) (S5 _ _ z2) (z3.mono S5.tk))) (z4.mono S5.tk)) (TgIn.app (TgIn.app t1 ⟨htm, t2.2.1, trivial⟩) t2.2.2) ?_
    rw [gsz_gapp, gsz_gapp]
    show gsz h1 + (1 + gsz wz + 0) + gsz oz ≤ _
    (first | lia | omega)
  · refine ⟨_, rfl, _, rfl, _, _, rfl, rfl, ⟨by decide, by decide⟩, _, _, rfl, rfl, (by show (0 : Int) < 4; decide), tg, _, _, _, rfl, rfl, SqL.of (K0 _ _ htg), (by rw [hj4']; exact htag), _, rfl, _, rfl, _, _, rfl, rfl, _, rfl, a, _, rfl, K0 _ _ ha, fun p1 H1 s1 hp1 => ?_⟩
    rw [cu1] at hp1
    have S1 := K0.trans s1
    refine ⟨(by show 2 ≤ sizeLine; decide), fun pp hpp => ⟨(by show 1 ≤ sizeLine; decide), fun pq hpq => ?_⟩⟩
    have S2 : Same H1 (upd (upd H1 pp (.tup [.str tt, .ref p1])) pq (.tup [.ref pp])) := (Same.new hpp).trans (Same.new hpq)
    have e2 : (upd (upd H1 pp (.tup [.str tt, .ref p1])) pq (.tup [.ref pp])) pp = some (.tup [.str tt, .ref p1]) := (Same.new hpq) _ _ upd_same
    have e3 : (upd (upd H1 pp (.tup [.str tt, .ref p1])) pq (.tup [.ref pp])) pq = some (.tup [.ref pp]) := upd_same
    generalize upd (upd H1 pp (.tup [.str tt, .ref p1])) pq (.tup [.ref pp]) = H2 at S2 e2 e3 ⊢
    have S3 := S1.trans S2
    refine ⟨_, rfl, _, rfl, _, _, rfl, rfl, _, rfl, a, _, rfl, S3 _ _ ha, fun ps H4 s4 hps => ?_⟩
    rw [cf1] at hps
    refine ⟨pq, ps, _, _, rfl, rfl, s4 _ _ e3, hps, len1000 (by rw [List.length_drop, List.length_singleton]; (first | lia | omega)), fun pt H5 s5 hpt => ?_⟩
    have k5 : Same H2 H5 := s4.trans s5
    have S5 := S3.trans k5
    obtain ⟨f1, f2, u1, u2, fge⟩ := RepG.split hG (k2 + 1)
    obtain ⟨x1, x2⟩ := TgIn.parts (fge ▸ hT)
    have fz : gsz g = gsz f1 + gsz f2 := by rw [fge]; exact gsz_gapp f1 f2
    refine q pt _ (gapp (.cons tt f1 .nil) f2) _ S5 hpt (RepG.gapp (rep_one (k5 _ _ e2) (k5 _ _ (S2 _ _ hp1)) (u1.mono S5.tk)) (u2.mono S5.tk)) (TgIn.app ⟨htm, x1, trivial⟩ x2) ?_
    rw [gsz_gapp]
    show 1 + gsz f1 + 0 + gsz f2 ≤ _
    (first | lia | omega)
def spIsV : Sp := fun vs H Q _ => ∃ (x y : Int), vs = [.int x, .int y] ∧ Q (.bl (decide (x = y))) H
theorem ok_l_is (B : ∀ x ∈ blts, mg x = none) (F : Fun K "_law_is" "_law_is" s_l_is f fd) : FnOk P w K mg base CX0 1 f fd ["_law_told", "_law_due"] spIsV := by
  refine F.ok sc_l_is (fun vs H Q E h => ?_) (fun cdv A outer s H vs Q E hr h => ?_)
  · obtain ⟨x, y, rfl, _⟩ := h
    rfl
  obtain ⟨x, y, rfl, q⟩ := h
  refine ⟨_, (pss_one (ps_ret (pe_and (pe_callB call_isinst rfl (B "isinstance" (by decide)) bt_isinstance (pa_cons (pv 0) (pa_cons (pe_ty rfl (B "int" (by decide)) bt_int) pa_nil))) (pe_and (pe_not (pe_callB call_isinst rfl (B "isinstance" (by decide)) bt_isinstance (pa_cons (pv 0) (pa_cons (pe_ty rfl (B "bool" (by decide)) bt_bool) pa_nil)))) (pe_one (pe_cmpR op_eq (pv 0) (pv 1) (nomark _))))))), ?_⟩
  refine ⟨_, rfl, .int x, "int", .type "int", true, rfl, .int x, rfl, true, rfl, iteT ?_⟩
  refine ⟨_, rfl, .int x, "bool", .type "int", false, rfl, .int x, rfl, false, rfl, true, rfl, iteT ?_⟩
  refine ⟨_, rfl, _, rfl, rfl, ?_⟩
  by_cases e : x = y
  · subst e
    rw [decide_eq_true rfl] at q
    rw [decide_eq_true rfl]
    exact q
  · rw [decide_eq_false e] at q
    rw [decide_eq_false (fun z => e (by injection z))]
    exact q
/-- a grove of the law -/
def GvB (H : Hp) (ts : List Str) (a : Addr) (g : Gr Str) : Prop := (∃ xs, H a = some (.tup xs) ∧ RepG H xs g) ∧ TgIn ts g ∧ gsz g ≤ 60
set_option maxHeartbeats 8000000 in
theorem ok_law (B : ∀ x ∈ blts, mg x = none) (g_l_cell_at : Has P w K mg base "_law_cell_at" ["_law_script", "_law_k"] 1 (spCell K)) (g_l_pool : Has P w K mg base "_law_pool" ["_law_cell", "_law_many"] 2 spPoolV) (g_l_flat_far : Has P w K mg base "_law_flat_far" ["_law_one", "_law_other"] 1 spFlatV) (g_l_grove : Has P w K mg base "_law_grove" ["_law_script", "_law_start", "_law_many", "_law_tags"] 2 (spGroveV K)) (g_l_like : Has P w K mg base "_law_like" ["_law_one", "_law_cell", "_law_tags"] 1 spLikeV) (g_l_far : Has P w K mg base "_law_far" ["_law_kept", "_law_one", "_law_other"] 113 (spFarV 41)) (g_l_is : Has P w K mg base "_law_is" ["_law_told", "_law_due"] 1 spIsV) (g_distance : Has P w K mg base "distance" ["one", "other"] 2 spDistV) (F : Fun K "law" "law" s_law f fd) : FnOk P w K mg base CX0 114 f fd ["_law_script"] (spLaw K) := by
  refine F.ok sc_law (fun vs H Q E h => ?_) (fun cdv A outer s H vs Q E hr h => ?_)
  · obtain ⟨a, ns, rfl, _⟩ := h
    rfl
  obtain ⟨a, ns, rfl, hS, h63, q⟩ := h
  have hu := hu_room hr
  refine hideI ((defBody s_law).drop 5) (pss_one (ps_ret (pe_and (pe_has g_l_is hr rfl (pa_cons (pe_has g_distance hr rfl (pa_cons (pv 4) (pa_cons (pv 4) pa_nil))) (pa_cons pe_int pa_nil))) (pe_one (pe_has g_l_is hr rfl (pa_cons (pe_has g_distance hr rfl (pa_cons (pv 4) (pa_cons (pv 5) pa_nil))) (pa_cons (pv 6) pa_nil))))))) (fun u5 h5 e5 => ?_)
  refine hideI ((defBody s_law).drop 4) (pss_cons (ps_if (PW.pt (pw_or (pt_not (pt_truth (pe_has g_l_is hr rfl (pa_cons (pe_has g_distance hr rfl (pa_cons (pv 4) (pa_cons (pv 5) pa_nil))) (pa_cons (pv 6) pa_nil))) (fun _ => rfl))) (pw_or1 (pt_not (pt_truth (pe_has g_l_is hr rfl (pa_cons (pe_has g_distance hr rfl (pa_cons (pv 5) (pa_cons (pv 4) pa_nil))) (pa_cons (pv 6) pa_nil))) (fun _ => rfl))))))
      (pss_one (ps_ret pe_bl))
      pss_nil) h5) (fun u4 h4 e4 => ?_)
  refine hideI ((sBody ((defBody s_law).getD 3 (.Pass ⟨0, 0, 0, 0⟩))).drop 2) (pss_one (ps_set (i := 6) sc_law.nd rfl (Or.inl rfl) (pe_has g_l_flat_far hr rfl (pa_cons (pe_comp (cl := []) ["_law_tag", "_law_kidrow"] [] (pi_tup (pv 4)) (fun _ _ _ _ => (pg_tupK (K := K) (n := 2) rfl rfl (pgs_cons (pg_name (i := 0) (show List.Nodup (["_law_tag", "_law_kidrow"] : List Str) by decide) rfl (Or.inl rfl)) (pgs_cons (pg_name (i := 1) (show List.Nodup (["_law_tag", "_law_kidrow"] : List Str) by decide) rfl (Or.inl rfl)) pgs_nil)))) (fun _ _ _ _ => (pv 0)) rfl rfl (by decide) rfl (by decide) (fun _ _ h => nomatch h) (nofree (by decide)) (fun _ _ h => nomatch h) (fun _ => rfl)) (pa_cons (pe_comp (cl := []) ["_law_tag", "_law_kidrow"] [] (pi_tup (pv 5)) (fun _ _ _ _ => (pg_tupK (K := K) (n := 2) rfl rfl (pgs_cons (pg_name (i := 0) (show List.Nodup (["_law_tag", "_law_kidrow"] : List Str) by decide) rfl (Or.inl rfl)) (pgs_cons (pg_name (i := 1) (show List.Nodup (["_law_tag", "_law_kidrow"] : List Str) by decide) rfl (Or.inl rfl)) pgs_nil)))) (fun _ _ _ _ => (pv 0)) rfl rfl (by decide) rfl (by decide) (fun _ _ h => nomatch h) (nofree (by decide)) (fun _ _ h => nomatch h) (fun _ => rfl)) pa_nil))))) (fun u3t2 h3t2 e3t2 => ?_)
  refine hideI ((sBody ((defBody s_law).getD 3 (.Pass ⟨0, 0, 0, 0⟩))).drop 1) (pss_cons (ps_set (i := 5) sc_law.nd rfl (Or.inl rfl) (pe_callTy call_tuple_of rfl (B "tuple" (by decide)) bt_tuple (pa_cons (pe_comp (cl := _) ["_law_k"] [("_law_script", 0), ("_law_tags", 3)] (pi_range1 rfl (B "range" (by decide)) (pa_cons (pe_op op_mod (pv 2) pe_int) pa_nil)) (fun _ _ _ _ => (pg_name (i := 0) (show List.Nodup (["_law_k", "_law_script", "_law_tags"] : List Str) by decide) rfl (Or.inl rfl))) (fun _ _ _ _ => (pe_tup (pa_cons (pe_ix (ix_listK (K := K) rfl) (pv 2) (pe_op op_mod (pe_op op_fdiv (pe_has g_l_cell_at hr rfl (pa_cons (pv 1) (pa_cons (pe_op op_add pe_int (pe_op op_mod (pv 0) pe_int)) pa_nil))) (pe_op op_add pe_int (pv 0))) pe_int) (fun _ _ => rfl)) (pa_cons (pe_tup pa_nil) pa_nil)))) rfl rfl (by decide) rfl (by decide) (cap_cl (by (repeat' first | exact List.forall_mem_nil _ | refine List.forall_mem_cons.mpr ⟨?_, ?_⟩) <;> rfl)) (cap_has (by (repeat' first | exact List.forall_mem_nil _ | refine List.forall_mem_cons.mpr ⟨?_, ?_⟩) <;> first | (intro h; exact ⟨_, rfl⟩) | (intro h; exact absurd h (by decide)))) (fun _ => by (repeat' first | exact List.forall_mem_nil _ | refine List.forall_mem_cons.mpr ⟨?_, ?_⟩) <;> exact ⟨rfl, rfl, Or.inl rfl⟩) (fun _ => rfl)) pa_nil))) h3t2) (fun u3t1 h3t1 e3t1 => ?_)
  refine hideI ((sBody ((defBody s_law).getD 3 (.Pass ⟨0, 0, 0, 0⟩))).drop 0) (pss_cons (ps_set (i := 4) sc_law.nd rfl (Or.inl rfl) (pe_callTy call_tuple_of rfl (B "tuple" (by decide)) bt_tuple (pa_cons (pe_comp (cl := _) ["_law_k"] [("_law_script", 0), ("_law_tags", 3)] (pi_range1 rfl (B "range" (by decide)) (pa_cons (pe_op op_mod (pe_op op_fdiv (pv 1) pe_int) pe_int) pa_nil)) (fun _ _ _ _ => (pg_name (i := 0) (show List.Nodup (["_law_k", "_law_script", "_law_tags"] : List Str) by decide) rfl (Or.inl rfl))) (fun _ _ _ _ => (pe_tup (pa_cons (pe_ix (ix_listK (K := K) rfl) (pv 2) (pe_op op_mod (pe_op op_fdiv (pe_has g_l_cell_at hr rfl (pa_cons (pv 1) (pa_cons (pe_op op_add pe_int (pe_op op_mod (pv 0) pe_int)) pa_nil))) (pe_op op_add pe_int (pv 0))) pe_int) (fun _ _ => rfl)) (pa_cons (pe_tup pa_nil) pa_nil)))) rfl rfl (by decide) rfl (by decide) (cap_cl (by (repeat' first | exact List.forall_mem_nil _ | refine List.forall_mem_cons.mpr ⟨?_, ?_⟩) <;> rfl)) (cap_has (by (repeat' first | exact List.forall_mem_nil _ | refine List.forall_mem_cons.mpr ⟨?_, ?_⟩) <;> first | (intro h; exact ⟨_, rfl⟩) | (intro h; exact absurd h (by decide)))) (fun _ => by (repeat' first | exact List.forall_mem_nil _ | refine List.forall_mem_cons.mpr ⟨?_, ?_⟩) <;> exact ⟨rfl, rfl, Or.inl rfl⟩) (fun _ => rfl)) pa_nil))) h3t1) (fun u3t0 h3t0 e3t0 => ?_)
  refine hideI ((sElse ((defBody s_law).getD 3 (.Pass ⟨0, 0, 0, 0⟩))).drop 4) (pss_one (ps_set (i := 6) sc_law.nd rfl (Or.inl rfl) (pe_has g_l_far hr rfl (pa_cons pe_dnewK (pa_cons (pv 4) (pa_cons (pv 5) pa_nil)))))) (fun u3e4 h3e4 e3e4 => ?_)
  refine hideI ((sElse ((defBody s_law).getD 3 (.Pass ⟨0, 0, 0, 0⟩))).drop 3) (pss_cons (ps_if (pt_cmpR op_gt (pe_op op_mod (pv 1) pe_int) pe_int (nomark _))
      (pss_one (ps_set (i := 5) sc_law.nd rfl (Or.inl rfl) (pe_has g_l_like hr rfl (pa_cons (pv 4) (pa_cons (pv 2) (pa_cons (pv 3) pa_nil))))))
      pss_nil) h3e4) (fun u3e3 h3e3 e3e3 => ?_)
  refine hideI ((sBody ((sElse ((defBody s_law).getD 3 (.Pass ⟨0, 0, 0, 0⟩))).getD 2 (.Pass ⟨0, 0, 0, 0⟩))).drop 1) (pss_one (ps_set (i := 5) sc_law.nd rfl (Or.inl rfl) (pe_has g_l_grove hr rfl (pa_cons (pv 0) (pa_cons pe_int (pa_cons (pe_op op_add pe_int (pe_op op_mod (pv 2) pe_int)) (pa_cons (pv 3) pa_nil))))))) (fun u3e2t1 h3e2t1 e3e2t1 => ?_)
  refine hideI ((sBody ((sElse ((defBody s_law).getD 3 (.Pass ⟨0, 0, 0, 0⟩))).getD 2 (.Pass ⟨0, 0, 0, 0⟩))).drop 0) (pss_cons (ps_set (i := 4) sc_law.nd rfl (Or.inl rfl) (pe_has g_l_grove hr rfl (pa_cons (pv 0) (pa_cons pe_int (pa_cons (pe_op op_add pe_int (pe_op op_mod (pe_op op_fdiv (pv 1) pe_int) pe_int)) (pa_cons (pv 3) pa_nil)))))) h3e2t1) (fun u3e2t0 h3e2t0 e3e2t0 => ?_)
  refine hideI ((sElse ((defBody s_law).getD 3 (.Pass ⟨0, 0, 0, 0⟩))).drop 2) (pss_cons (ps_if (pt_cmpR op_eq (pe_op op_mod (pv 1) pe_int) pe_int (nomark _))
      h3e2t0
      pss_nil) h3e3) (fun u3e2 h3e2 e3e2 => ?_)
  refine hideI ((sElse ((defBody s_law).getD 3 (.Pass ⟨0, 0, 0, 0⟩))).drop 1) (pss_cons (ps_set (i := 5) sc_law.nd rfl (Or.inl rfl) (pe_has g_l_grove hr rfl (pa_cons (pv 0) (pa_cons pe_int (pa_cons (pe_op op_mod (pv 2) pe_int) (pa_cons (pv 3) pa_nil)))))) h3e2) (fun u3e1 h3e1 e3e1 => ?_)
  refine hideI ((sElse ((defBody s_law).getD 3 (.Pass ⟨0, 0, 0, 0⟩))).drop 0) (pss_cons (ps_set (i := 4) sc_law.nd rfl (Or.inl rfl) (pe_has g_l_grove hr rfl (pa_cons (pv 0) (pa_cons pe_int (pa_cons (pe_op op_mod (pe_op op_fdiv (pv 1) pe_int) pe_int) (pa_cons (pv 3) pa_nil)))))) h3e1) (fun u3e0 h3e0 e3e0 => ?_)
  refine hideI ((defBody s_law).drop 3) (pss_cons (ps_if (pt_cmpR op_eq (pe_op op_mod (pv 1) pe_int) pe_int (nomark _))
      h3t0
      h3e0) h4) (fun u3 h3 e3 => ?_)
  refine hideI ((defBody s_law).drop 2) (pss_cons (ps_set (i := 3) sc_law.nd rfl (Or.inr rfl) (pe_has g_l_pool hr rfl (pa_cons (pe_has g_l_cell_at hr rfl (pa_cons (pv 0) (pa_cons pe_int pa_nil))) (pa_cons pe_int pa_nil)))) h3) (fun u2 h2 e2 => ?_)
  refine hideI ((defBody s_law).drop 1) (pss_cons (ps_set (i := 2) sc_law.nd rfl (Or.inl rfl) (pe_has g_l_cell_at hr rfl (pa_cons (pv 0) (pa_cons pe_int pa_nil)))) h2) (fun u1 h1 e1 => ?_)
  refine hideI ((defBody s_law).drop 0) (pss_cons (ps_set (i := 1) sc_law.nd rfl (Or.inl rfl) (pe_has g_l_cell_at hr rfl (pa_cons (pv 0) (pa_cons pe_int pa_nil)))) h1) (fun u0 h0 e0 => ?_)
  refine ⟨u0, h0, ?_⟩
  refine by_eq e0 ?_
  refine ⟨_, rfl, a, ns, 0, rfl, hS, h63, by decide, fun v => ?_⟩
  refine by_eq e1 ?_
  refine ⟨_, rfl, a, ns, 1, rfl, hS, h63, by decide, fun v1 => ?_⟩
  refine by_eq e2 ?_
  refine ⟨_, rfl, a, ns, 2, rfl, hS, h63, by decide, fun v2 => ⟨v2, 4, rfl, by decide, by decide, fun tg ts H1 s1 htg0 htg htl htt => ?_⟩⟩
  have tsl : ∀ t ∈ ts, t ≠ SL := fun t ht => (htt t ht).1.ne
  have ht4 : ts.length = 4 := by (first | lia | omega)
  show u3 _ _ _
  refine via (t := u4) (R := fun σ H2 => ∃ (x y : Addr) (g h : Gr Str), σ = [some (.ref a), some (.int v), some (.int v1), some (.ref tg), some (.ref x), some (.ref y), some (.int (dst g h : Nat))] ∧ GvB H2 ts x g ∧ GvB H2 ts y h) ?_ fun fin => ?_
  · rintro σ H2 ⟨x, y, g, h, rfl, hx, hy⟩
    obtain ⟨⟨xs, hx1, hx2⟩, hx3, hx4⟩ := hx
    obtain ⟨⟨ys, hy1, hy2⟩, hy3, hy4⟩ := hy
    have cg := hx3.clean tsl
    have ch := hy3.clean tsl
    refine by_eq e4 ?_
    refine ⟨_, rfl, _, rfl, x, y, xs, ys, g, h, rfl, hx1, hx2, cg, by (first | lia | omega), hy1, hy2, ch, by (first | lia | omega), fun H3 s3 => ?_⟩
    refine ⟨_, rfl, _, _, rfl, true, (decide_eq_true rfl).symm, iteF ?_⟩
    refine ⟨_, rfl, _, rfl, y, x, ys, xs, h, g, rfl, s3 _ _ hy1, hy2.mono s3.tk, ch, by (first | lia | omega), s3 _ _ hx1, hx2.mono s3.tk, cg, by (first | lia | omega), fun H4 s4 => ?_⟩
    have s5 := s3.trans s4
    refine ⟨_, rfl, _, _, rfl, true, (decide_eq_true (by rw [dst_symm])).symm, iteF ?_⟩
    show u5 _ _ _
    refine by_eq e5 ?_
    refine ⟨_, rfl, _, rfl, x, x, xs, xs, g, g, rfl, s5 _ _ hx1, hx2.mono s5.tk, cg, by (first | lia | omega), s5 _ _ hx1, hx2.mono s5.tk, cg, by (first | lia | omega), fun H5 s6 => ?_⟩
    have s7 := s5.trans s6
    refine ⟨_, _, rfl, true, congrArg V.bl (decide_eq_true (by rw [(dst_zero g g).mpr rfl]; rfl)), iteT ?_⟩
    refine ⟨_, rfl, _, rfl, x, y, xs, ys, g, h, rfl, s7 _ _ hx1, hx2.mono s7.tk, cg, by (first | lia | omega), s7 _ _ hy1, hy2.mono s7.tk, ch, by (first | lia | omega), fun H6 s8 => ?_⟩
    refine ⟨_, rfl, _, _, rfl, ?_⟩
    rw [decide_eq_true rfl]
    exact q _
  have hS1 := s1.seq hS
  have b0 := Int.emod_nonneg (v / 9) (by decide : (41 : Int) ≠ 0)
  have b1 := Int.emod_lt_of_pos (v / 9) (by decide : (0 : Int) < 41)
  have b2 := Int.emod_nonneg v1 (by decide : (41 : Int) ≠ 0)
  have b3 := Int.emod_lt_of_pos v1 (by decide : (0 : Int) < 41)
  have d0 := Int.emod_nonneg (v / 9) (by decide : (8 : Int) ≠ 0)
  have d1 := Int.emod_lt_of_pos (v / 9) (by decide : (0 : Int) < 8)
  have d2 := Int.emod_nonneg v1 (by decide : (8 : Int) ≠ 0)
  have d3 := Int.emod_lt_of_pos v1 (by decide : (0 : Int) < 8)
  have S0 : Same H1 H1 := fun _ _ e => e
  refine by_eq e3 ?_
  refine ⟨_, rfl, _, _, rfl, rfl, (by show (0 : Int) < 9; decide), rfl, _, rfl, ite2 (fun c0 => ?_) (fun c0 => ?_)⟩
  · refine by_eq e3t0 ?_
    refine ⟨_, rfl, _, _, rfl, rfl, ⟨by decide, by decide⟩, _, _, rfl, rfl, (by show (0 : Int) < 41; decide), _, rfl, by (first | lia | omega), by (first | lia | omega), fun pcA hpcA => ?_⟩
    refine comp_range (lo := 0) (n := (v / 9 % 41).toNat) (p := pcA) (fun i ys σ H2 => ∃ (v0 : Option V) (ss : List Str), σ = [v0, some (.ref a), some (.ref tg)] ∧ Same H1 H2 ∧ H2 pcA = some (.lst ys) ∧ RepG H2 ys (flt ss) ∧ ss.length = i ∧ ∀ t ∈ ss, t ∈ ts)
      ⟨none, [], rfl, Same.new hpcA, upd_same, .nil, rfl, fun _ h => (nomatch h)⟩ ?_ ?_ ?_
    · rintro i ys σ H2 _ ⟨v0, ss, _, _, h, _⟩
      exact h
    · rintro i ys σ H2 hi ⟨v0, ss, rfl, sm, hp, rp, hsl, hst⟩
      have rl := rp.length
      rw [gsz_words, gsz_flt] at rl
      have a1 := Int.emod_nonneg (0 + (i : Int)) (by decide : (60 : Int) ≠ 0)
      refine ⟨_, rfl, _, rfl, _, rfl, _, _, rfl, rfl, (by show (0 : Int) < 60; decide), _, _, rfl, rfl, a, ns, 3 + (0 + (i : Int)) % 60, rfl, (S0.trans sm).seq hS1, h63, by (first | lia | omega), fun c => ?_⟩
      refine ⟨_, rfl, _, _, rfl, rfl, _, _, rfl, rfl, ⟨by (first | lia | omega), by (first | lia | omega)⟩, _, _, rfl, rfl, (by show (0 : Int) < 4; decide), ?_⟩
      obtain ⟨j4, hj4, hj4l⟩ := modN (c / (1 + (0 + (i : Int)))) (n := 4) (by decide)
      have hj4t : j4 < ts.length := by (first | lia | omega)
      have htag := strs_at (ws := ts) (n := j4) hj4t
      have htm := List.getElem_mem hj4t
      generalize ts[j4] = tt at htag htm
      refine ⟨tg, _, _, _, rfl, rfl, SqL.of ((S0.trans sm) _ _ htg), (hj4.symm ▸ htag), by decide, fun pe hpe => ⟨(by show 2 ≤ sizeLine; decide), fun pp hpp => ?_⟩⟩
      have k2 : Same H2 (upd (upd H2 pe (.tup [])) pp (.tup [.str tt, .ref pe])) := (Same.new hpe).trans (Same.new hpp)
      have e1 : (upd (upd H2 pe (.tup [])) pp (.tup [.str tt, .ref pe])) pe = some (.tup []) := (Same.new hpp) _ _ upd_same
      have e2 : (upd (upd H2 pe (.tup [])) pp (.tup [.str tt, .ref pe])) pp = some (.tup [.str tt, .ref pe]) := upd_same
      generalize upd (upd H2 pe (.tup [])) pp (.tup [.str tt, .ref pe]) = H3 at k2 e1 e2 ⊢
      have hp3 := k2 _ _ hp
      have tl : TK H3 (upd H3 pcA (.lst (ys ++ [.ref pp]))) := TK.lst hp3
      refine ⟨hp3, len1000' (by (first | lia | omega)), CW.next hi ⟨_, ss ++ [tt], rfl, (sm.trans k2).upd_new hpcA, upd_same, ?_, by rw [List.length_append, List.length_singleton, hsl], fun x hx => ?_⟩⟩
      · rw [flt_app]
        exact RepG.gapp ((rp.mono k2.tk).mono tl) (rep_one (tl _ _ e2) (tl _ _ e1) .nil)
      · rcases List.mem_append.mp hx with hx | hx
        · exact hst x hx
        · rw [List.mem_singleton.mp hx]
          exact htm
    rintro ysA σ HA ⟨v0, ssA, rfl, smA, hpA, rpA, hslA, hstA⟩
    refine ⟨pcA, _, rfl, .inl ⟨SqL.of hpA, fun xA hxA => ?_⟩⟩
    have kA : Same H1 (upd HA xA (.tup ysA)) := smA.trans (Same.new hxA)
    have eA : (upd HA xA (.tup ysA)) xA = some (.tup ysA) := upd_same
    have rA := rpA.mono (Same.new (o := .tup ysA) hxA).tk
    show u3t1 _ _ _
    generalize upd HA xA (.tup ysA) = HX at kA eA rA ⊢
    refine by_eq e3t1 ?_
    refine ⟨_, rfl, _, _, rfl, rfl, (by show (0 : Int) < 41; decide), _, rfl, by (first | lia | omega), by (first | lia | omega), fun pcB hpcB => ?_⟩
    refine comp_range (lo := 0) (n := (v1 % 41).toNat) (p := pcB) (fun i ys σ H2 => ∃ (v0 : Option V) (ss : List Str), σ = [v0, some (.ref a), some (.ref tg)] ∧ Same HX H2 ∧ H2 pcB = some (.lst ys) ∧ RepG H2 ys (flt ss) ∧ ss.length = i ∧ ∀ t ∈ ss, t ∈ ts)
      ⟨none, [], rfl, Same.new hpcB, upd_same, .nil, rfl, fun _ h => (nomatch h)⟩ ?_ ?_ ?_
    · rintro i ys σ H2 _ ⟨v0, ss, _, _, h, _⟩
      exact h
    · rintro i ys σ H2 hi ⟨v0, ss, rfl, sm, hp, rp, hsl, hst⟩
      have rl := rp.length
      rw [gsz_words, gsz_flt] at rl
      have a1 := Int.emod_nonneg (0 + (i : Int)) (by decide : (58 : Int) ≠ 0)
      refine ⟨_, rfl, _, rfl, _, rfl, _, _, rfl, rfl, (by show (0 : Int) < 58; decide), _, _, rfl, rfl, a, ns, 5 + (0 + (i : Int)) % 58, rfl, (kA.trans sm).seq hS1, h63, by (first | lia | omega), fun c => ?_⟩
      refine ⟨_, rfl, _, _, rfl, rfl, _, _, rfl, rfl, ⟨by (first | lia | omega), by (first | lia | omega)⟩, _, _, rfl, rfl, (by show (0 : Int) < 4; decide), ?_⟩
      obtain ⟨j4, hj4, hj4l⟩ := modN (c / (2 + (0 + (i : Int)))) (n := 4) (by decide)
      have hj4t : j4 < ts.length := by (first | lia | omega)
      have htag := strs_at (ws := ts) (n := j4) hj4t
      have htm := List.getElem_mem hj4t
      generalize ts[j4] = tt at htag htm
      refine ⟨tg, _, _, _, rfl, rfl, SqL.of ((kA.trans sm) _ _ htg), (hj4.symm ▸ htag), by decide, fun pe hpe => ⟨(by show 2 ≤ sizeLine; decide), fun pp hpp => ?_⟩⟩
      have k2 : Same H2 (upd (upd H2 pe (.tup [])) pp (.tup [.str tt, .ref pe])) := (Same.new hpe).trans (Same.new hpp)
      have e1 : (upd (upd H2 pe (.tup [])) pp (.tup [.str tt, .ref pe])) pe = some (.tup []) := (Same.new hpp) _ _ upd_same
      have e2 : (upd (upd H2 pe (.tup [])) pp (.tup [.str tt, .ref pe])) pp = some (.tup [.str tt, .ref pe]) := upd_same
      generalize upd (upd H2 pe (.tup [])) pp (.tup [.str tt, .ref pe]) = H3 at k2 e1 e2 ⊢
      have hp3 := k2 _ _ hp
      have tl : TK H3 (upd H3 pcB (.lst (ys ++ [.ref pp]))) := TK.lst hp3
      refine ⟨hp3, len1000' (by (first | lia | omega)), CW.next hi ⟨_, ss ++ [tt], rfl, (sm.trans k2).upd_new hpcB, upd_same, ?_, by rw [List.length_append, List.length_singleton, hsl], fun x hx => ?_⟩⟩
      · rw [flt_app]
        exact RepG.gapp ((rp.mono k2.tk).mono tl) (rep_one (tl _ _ e2) (tl _ _ e1) .nil)
      · rcases List.mem_append.mp hx with hx | hx
        · exact hst x hx
        · rw [List.mem_singleton.mp hx]
          exact htm
    rintro ysB σ HB ⟨v0, ssB, rfl, smB, hpB, rpB, hslB, hstB⟩
    refine ⟨pcB, _, rfl, .inl ⟨SqL.of hpB, fun xB hxB => ?_⟩⟩
    have kB : Same HX (upd HB xB (.tup ysB)) := smB.trans (Same.new hxB)
    have eB : (upd HB xB (.tup ysB)) xB = some (.tup ysB) := upd_same
    have rB := rpB.mono (Same.new (o := .tup ysB) hxB).tk
    show u3t2 _ _ _
    generalize upd HB xB (.tup ysB) = HY at kB eB rB ⊢
    have eA2 := kB _ _ eA
    have rA2 := rA.mono kB.tk
    refine by_eq e3t2 ?_
    refine ⟨_, rfl, xA, rfl, ⟨_, SqT.of eA2⟩, fun pdC hpdC => comp_tup (K := K) (a := xA) (p := pdC) (xs := ysA) (fun i ys σ H2 => ∃ (v0 v1 : Option V), σ = [v0, v1] ∧ Same HY H2 ∧ H2 pdC = some (.lst ys) ∧ ys = (ssA.take i).map V.str)
      ⟨none, none, rfl, Same.new hpdC, upd_same, rfl⟩ ?_ ?_ ?_⟩
    · rintro i ys σ H2 _ ⟨v0, v1, _, sm, h, _⟩
      exact ⟨SqT.of (sm _ _ eA2), h⟩
    · rintro i ys x σ H2 hi hx ⟨v0, v1, rfl, sm, hp, rfl⟩
      obtain ⟨pt, qt, t, rfl, e1, e2⟩ := (flt_at rA2).2 i x hx
      refine ⟨pt, _, rfl, SqT.of (sm _ _ e1), rfl, _, _, rfl, _, _, rfl, rfl, ?_⟩
      refine ⟨_, rfl, hp, len1000' (by rw [List.length_map, List.length_take]; (first | lia | omega)), CW.next hi ⟨_, _, rfl, sm.upd_new hpdC, upd_same, ?_⟩⟩
      rw [take_succ' e2, List.map_append]
      rfl
    rintro zsC σ HEC ⟨v0, v1, rfl, sdC, hdC, rfl⟩
    rw [(flt_at rA2).1, List.take_length] at hdC
    have eB2 := sdC _ _ eB
    have rB2 := rB.mono sdC.tk
    refine ⟨_, rfl, xB, rfl, ⟨_, SqT.of eB2⟩, fun pdD hpdD => comp_tup (K := K) (a := xB) (p := pdD) (xs := ysB) (fun i ys σ H2 => ∃ (v0 v1 : Option V), σ = [v0, v1] ∧ Same HEC H2 ∧ H2 pdD = some (.lst ys) ∧ ys = (ssB.take i).map V.str)
      ⟨none, none, rfl, Same.new hpdD, upd_same, rfl⟩ ?_ ?_ ?_⟩
    · rintro i ys σ H2 _ ⟨v0, v1, _, sm, h, _⟩
      exact ⟨SqT.of (sm _ _ eB2), h⟩
    · rintro i ys x σ H2 hi hx ⟨v0, v1, rfl, sm, hp, rfl⟩
      obtain ⟨pt, qt, t, rfl, e1, e2⟩ := (flt_at rB2).2 i x hx
      refine ⟨pt, _, rfl, SqT.of (sm _ _ e1), rfl, _, _, rfl, _, _, rfl, rfl, ?_⟩
      refine ⟨_, rfl, hp, len1000' (by rw [List.length_map, List.length_take]; (first | lia | omega)), CW.next hi ⟨_, _, rfl, sm.upd_new hpdD, upd_same, ?_⟩⟩
      rw [take_succ' e2, List.map_append]
      rfl
    rintro zsD σ HED ⟨v0, v1, rfl, sdD, hdD, rfl⟩
    rw [(flt_at rB2).1, List.take_length] at hdD
    refine ⟨pdC, pdD, ssA, ssB, rfl, sdD _ _ hdC, hdD, by (first | lia | omega), by (first | lia | omega), fun HF sF => ?_⟩
    have kF := sdD.trans sF
    have kE := sdC.trans kF
    exact fin _ _ ⟨xA, xB, flt ssA, flt ssB, rfl, ⟨⟨_, kE _ _ eA2, rA2.mono kE.tk⟩, flt_in hstA, by rw [gsz_flt]; (first | lia | omega)⟩, ⟨_, kE _ _ eB, rB.mono kE.tk⟩, flt_in hstB, by rw [gsz_flt]; (first | lia | omega)⟩
  · refine by_eq e3e0 ?_
    refine ⟨_, rfl, _, rfl, _, _, rfl, rfl, ⟨by decide, by decide⟩, _, _, rfl, rfl, (by show (0 : Int) < 8; decide), _, rfl, a, tg, ns, 3, v / 9 % 8, ts, rfl, S0.seq hS1, h63, by decide, by (first | lia | omega), by (first | lia | omega), S0 _ _ htg, by (first | lia | omega), tsl, fun xA xsA gA HA sA hfA hxA rgA cgA wgA twA => ?_⟩
    have gzA : gsz gA ≤ 15 := by
      rw [gsz_words] at wgA
      (first | lia | omega)
    have gtA : TgIn ts gA := TgIn.of cgA twA
    have SA := S0.trans sA
    show u3e1 _ _ _
    refine by_eq e3e1 ?_
    refine ⟨_, rfl, _, rfl, _, _, rfl, rfl, (by show (0 : Int) < 8; decide), _, rfl, a, tg, ns, 10, v1 % 8, ts, rfl, SA.seq hS1, h63, by decide, by (first | lia | omega), by (first | lia | omega), SA _ _ htg, by (first | lia | omega), tsl, fun xB xsB gB HB sB hfB hxB rgB cgB wgB twB => ?_⟩
    have gzB : gsz gB ≤ 15 := by
      rw [gsz_words] at wgB
      (first | lia | omega)
    have gtB : TgIn ts gB := TgIn.of cgB twB
    have SB := SA.trans sB
    show u3e2 _ _ _
    refine via (t := u3e3) (R := fun σ H2 => ∃ (x y : Addr) (g h : Gr Str), σ = [some (.ref a), some (.int v), some (.int v1), some (.ref tg), some (.ref x), some (.ref y), none] ∧ Same H1 H2 ∧ GvB H2 ts x g ∧ GvB H2 ts y h ∧ gsz g ≤ 15 ∧ gsz h ≤ 15) ?_ fun fi2 => ?_
    rotate_left
    · refine by_eq e3e2 ?_
      refine ⟨_, rfl, _, _, rfl, rfl, (by show (0 : Int) < 9; decide), rfl, _, rfl, ite2 (fun c1 => ?_) (fun c1 => ?_)⟩
      · refine by_eq e3e2t0 ?_
        refine ⟨_, rfl, _, rfl, _, _, rfl, rfl, ⟨by decide, by decide⟩, _, _, rfl, rfl, (by show (0 : Int) < 8; decide), _, _, rfl, rfl, _, rfl, a, tg, ns, 3, 8 + v / 9 % 8, ts, rfl, SB.seq hS1, h63, by decide, by (first | lia | omega), by (first | lia | omega), SB _ _ htg, by (first | lia | omega), tsl, fun xC xsC gC HC sC hfC hxC rgC cgC wgC twC => ?_⟩
        have gzC : gsz gC ≤ 15 := by
          rw [gsz_words] at wgC
          (first | lia | omega)
        have gtC : TgIn ts gC := TgIn.of cgC twC
        have SC := SB.trans sC
        show u3e2t1 _ _ _
        refine by_eq e3e2t1 ?_
        refine ⟨_, rfl, _, rfl, _, _, rfl, rfl, (by show (0 : Int) < 8; decide), _, _, rfl, rfl, _, rfl, a, tg, ns, 19, 8 + v1 % 8, ts, rfl, SC.seq hS1, h63, by decide, by (first | lia | omega), by (first | lia | omega), SC _ _ htg, by (first | lia | omega), tsl, fun xD xsD gD HD sD hfD hxD rgD cgD wgD twD => ?_⟩
        have gzD : gsz gD ≤ 15 := by
          rw [gsz_words] at wgD
          (first | lia | omega)
        have gtD : TgIn ts gD := TgIn.of cgD twD
        have SD := SC.trans sD
        exact fi2 _ _ ⟨xC, xD, gC, gD, rfl, SD, ⟨⟨_, sD _ _ hxC, rgC.mono sD.tk⟩, gtC, by (first | lia | omega)⟩, ⟨⟨_, hxD, rgD⟩, gtD, by (first | lia | omega)⟩, gzC, gzD⟩
      · exact fi2 _ _ ⟨xA, xB, gA, gB, rfl, SB, ⟨⟨_, sB _ _ hxA, rgA.mono sB.tk⟩, gtA, by (first | lia | omega)⟩, ⟨⟨_, hxB, rgB⟩, gtB, by (first | lia | omega)⟩, gzA, gzB⟩
    clear rgA rgB gtA gtB cgA cgB twA twB wgA wgB
    rintro σ H2 ⟨x, y, g, h, rfl, S2, hx, hy, zx, zy⟩
    refine via (t := u3e4) (R := fun σ H3 => ∃ (y : Addr) (h : Gr Str), σ = [some (.ref a), some (.int v), some (.int v1), some (.ref tg), some (.ref x), some (.ref y), none] ∧ GvB H3 ts x g ∧ GvB H3 ts y h ∧ gsz h ≤ 16) ?_ fun fi3 => ?_
    rotate_left
    · refine by_eq e3e3 ?_
      refine ⟨_, rfl, _, _, rfl, rfl, (by show (0 : Int) < 9; decide), _, _, rfl, rfl, _, rfl, ite2 (fun c2 => ?_) (fun c2 => ?_)⟩
      · obtain ⟨⟨xs, hx1, hx2⟩, hx3, hx4⟩ := hx
        refine ⟨_, rfl, _, rfl, _, rfl, x, tg, xs, g, v1, ts, rfl, hx1, hx2, hx3, let_ok (TgIn.rt htt hx3).1, by (first | lia | omega), S2 _ _ htg, ht4, fun r zs g' H3 s3 hr3 rr3 tg3 z3 => ?_⟩
        exact fi3 _ _ ⟨r, g', rfl, ⟨⟨xs, s3 _ _ hx1, hx2.mono s3.tk⟩, hx3, hx4⟩, ⟨⟨zs, hr3, rr3⟩, tg3, by (first | lia | omega)⟩, by (first | lia | omega)⟩
      · exact fi3 _ _ ⟨y, h, rfl, hx, hy, by (first | lia | omega)⟩
    rintro σ H3 ⟨y2, h2, rfl, ⟨⟨xs, hx1, hx2⟩, hx3, hx4⟩, ⟨⟨ys, hy1, hy2⟩, hy3, hy4⟩, z2⟩
    refine by_eq e3e4 ?_
    have rtg : Rt g := ⟨(TgIn.rt htt hx3).1, (TgIn.rt htt hx3).2, by (first | lia | omega)⟩
    have rth : Rt h2 := ⟨(TgIn.rt htt hy3).1, (TgIn.rt htt hy3).2, by (first | lia | omega)⟩
    intro kd hkd
    have kk : Same H3 (upd H3 kd (.dK [])) := Same.new hkd
    have ek : (upd H3 kd (.dK [])) kd = some (.dK []) := upd_same
    generalize upd H3 kd (.dK []) = H4 at kk ek ⊢
    refine ⟨_, rfl, _, rfl, kd, x, y2, xs, ys, [], g, h2, g, h2, rfl, by (first | lia | omega), ek, kk _ _ hx1, hx2.mono kk.tk, kk _ _ hy1, hy2.mono kk.tk, subs_self g, subs_self h2, rtg, rth, MM.start g h2, fun kvs' H5 k5 _ _ => ?_⟩
    have ink : ∀ {b : Addr} {z : List V}, H4 b = some (.tup z) → b ∉ [kd] := fun e z => by
      rw [List.mem_singleton.mp z, ek] at e
      cases e
    have tk5 : TK H4 H5 := fun b ys e => k5 b _ (ink e) e
    have kt : TK H3 H5 := fun b ys e => tk5 _ _ (kk.tk _ _ e)
    exact fin _ _ ⟨x, y2, g, h2, rfl, ⟨⟨xs, kt _ _ hx1, hx2.mono kt⟩, hx3, hx4⟩, ⟨ys, kt _ _ hy1, hy2.mono kt⟩, hy3, hy4⟩
end
theorem all_mk {l : PySem.W.OpenLaw} {w : World} {K : PySem.W.Frag} {h : Heap} {mg : Str → Option Value} {fa f1 f2 f3 f4 f5 f6 f7 f8 f9 f10 f11 f12 f13 f14 : Addr} (X : K.In h) (G : h.Ns mainGlobals mg) (hfa : mg "law" = some (.ref fa))
    {od1 an1 od2 an2 od3 an3 od4 an4 od5 an5 od6 an6 od7 an7 od8 an8 od9 an9 od10 an10 od11 an11 od12 an12 od13 an13 od14 an14 : Option Addr} {sl1 sl2 sl3 sl4 sl5 sl6 sl7 sl8 sl9 sl10 sl11 sl12 sl13 sl14 : Array (Option Value)} {oc1 kV1 dc1 pm1 cd1 ct1 oc2 kV2 dc2 pm2 cd2 ct2 oc3 kV3 dc3 pm3 cd3 ct3 oc4 kV4 dc4 pm4 cd4 ct4 oc5 kV5 dc5 pm5 cd5 ct5 oc6 kV6 dc6 pm6 cd6 ct6 oc7 kV7 dc7 pm7 cd7 ct7 oc8 kV8 dc8 pm8 cd8 ct8 oc9 kV9 dc9 pm9 cd9 ct9 oc10 kV10 dc10 pm10 cd10 ct10 oc11 kV11 dc11 pm11 cd11 ct11 oc12 kV12 dc12 pm12 cd12 ct12 oc13 kV13 dc13 pm13 cd13 ct13 oc14 kV14 dc14 pm14 cd14 ct14 : Value}
    (a1 : PySem.W.nsIn K mainGlobals "_law_cell_at" = some (some (.ref f1))) (l1 : K.lookup f1 = some ⟨oc1, od1, .func (PySem.W.fnOf "_law_cell_at" "_law_cell_at" (defArgs s_l_cell_at) (defBody s_l_cell_at) (defScope s_l_cell_at) .none kV1 dc1 pm1 an1 cd1 ct1), sl1⟩) (c1 : PySem.W.codeIn K cd1 "_law_cell_at" = true) (k1 : PySem.W.keepIn K (.ref f1) = true)
    (a2 : PySem.W.nsIn K mainGlobals "_law_word" = some (some (.ref f2))) (l2 : K.lookup f2 = some ⟨oc2, od2, .func (PySem.W.fnOf "_law_word" "_law_word" (defArgs s_l_word) (defBody s_l_word) (defScope s_l_word) .none kV2 dc2 pm2 an2 cd2 ct2), sl2⟩) (c2 : PySem.W.codeIn K cd2 "_law_word" = true) (k2 : PySem.W.keepIn K (.ref f2) = true)
    (a3 : PySem.W.nsIn K mainGlobals "_law_pool" = some (some (.ref f3))) (l3 : K.lookup f3 = some ⟨oc3, od3, .func (PySem.W.fnOf "_law_pool" "_law_pool" (defArgs s_l_pool) (defBody s_l_pool) (defScope s_l_pool) .none kV3 dc3 pm3 an3 cd3 ct3), sl3⟩) (c3 : PySem.W.codeIn K cd3 "_law_pool" = true) (k3 : PySem.W.keepIn K (.ref f3) = true)
    (a4 : PySem.W.nsIn K mainGlobals "_law_flat_far" = some (some (.ref f4))) (l4 : K.lookup f4 = some ⟨oc4, od4, .func (PySem.W.fnOf "_law_flat_far" "_law_flat_far" (defArgs s_l_flat_far) (defBody s_l_flat_far) (defScope s_l_flat_far) .none kV4 dc4 pm4 an4 cd4 ct4), sl4⟩) (c4 : PySem.W.codeIn K cd4 "_law_flat_far" = true) (k4 : PySem.W.keepIn K (.ref f4) = true)
    (a5 : PySem.W.nsIn K mainGlobals "_law_grove" = some (some (.ref f5))) (l5 : K.lookup f5 = some ⟨oc5, od5, .func (PySem.W.fnOf "_law_grove" "_law_grove" (defArgs s_l_grove) (defBody s_l_grove) (defScope s_l_grove) .none kV5 dc5 pm5 an5 cd5 ct5), sl5⟩) (c5 : PySem.W.codeIn K cd5 "_law_grove" = true) (k5 : PySem.W.keepIn K (.ref f5) = true)
    (a6 : PySem.W.nsIn K mainGlobals "_law_like" = some (some (.ref f6))) (l6 : K.lookup f6 = some ⟨oc6, od6, .func (PySem.W.fnOf "_law_like" "_law_like" (defArgs s_l_like) (defBody s_l_like) (defScope s_l_like) .none kV6 dc6 pm6 an6 cd6 ct6), sl6⟩) (c6 : PySem.W.codeIn K cd6 "_law_like" = true) (k6 : PySem.W.keepIn K (.ref f6) = true)
    (a7 : PySem.W.nsIn K mainGlobals "_law_size" = some (some (.ref f7))) (l7 : K.lookup f7 = some ⟨oc7, od7, .func (PySem.W.fnOf "_law_size" "_law_size" (defArgs s_l_size) (defBody s_l_size) (defScope s_l_size) .none kV7 dc7 pm7 an7 cd7 ct7), sl7⟩) (c7 : PySem.W.codeIn K cd7 "_law_size" = true) (k7 : PySem.W.keepIn K (.ref f7) = true)
    (a8 : PySem.W.nsIn K mainGlobals "_law_far" = some (some (.ref f8))) (l8 : K.lookup f8 = some ⟨oc8, od8, .func (PySem.W.fnOf "_law_far" "_law_far" (defArgs s_l_far) (defBody s_l_far) (defScope s_l_far) .none kV8 dc8 pm8 an8 cd8 ct8), sl8⟩) (c8 : PySem.W.codeIn K cd8 "_law_far" = true) (k8 : PySem.W.keepIn K (.ref f8) = true)
    (a9 : PySem.W.nsIn K mainGlobals "_law_is" = some (some (.ref f9))) (l9 : K.lookup f9 = some ⟨oc9, od9, .func (PySem.W.fnOf "_law_is" "_law_is" (defArgs s_l_is) (defBody s_l_is) (defScope s_l_is) .none kV9 dc9 pm9 an9 cd9 ct9), sl9⟩) (c9 : PySem.W.codeIn K cd9 "_law_is" = true) (k9 : PySem.W.keepIn K (.ref f9) = true)
    (a10 : PySem.W.nsIn K mainGlobals "words_of" = some (some (.ref f10))) (l10 : K.lookup f10 = some ⟨oc10, od10, .func (PySem.W.fnOf "words_of" "words_of" (defArgs s_words_of) (defBody s_words_of) (defScope s_words_of) .none kV10 dc10 pm10 an10 cd10 ct10), sl10⟩) (c10 : PySem.W.codeIn K cd10 "words_of" = true) (k10 : PySem.W.keepIn K (.ref f10) = true)
    (a11 : PySem.W.nsIn K mainGlobals "closings" = some (some (.ref f11))) (l11 : K.lookup f11 = some ⟨oc11, od11, .func (PySem.W.fnOf "closings" "closings" (defArgs s_closings) (defBody s_closings) (defScope s_closings) .none kV11 dc11 pm11 an11 cd11 ct11), sl11⟩) (c11 : PySem.W.codeIn K cd11 "closings" = true) (k11 : PySem.W.keepIn K (.ref f11) = true)
    (a12 : PySem.W.nsIn K mainGlobals "tree_size" = some (some (.ref f12))) (l12 : K.lookup f12 = some ⟨oc12, od12, .func (PySem.W.fnOf "tree_size" "tree_size" (defArgs s_tree_size) (defBody s_tree_size) (defScope s_tree_size) .none kV12 dc12 pm12 an12 cd12 ct12), sl12⟩) (c12 : PySem.W.codeIn K cd12 "tree_size" = true) (k12 : PySem.W.keepIn K (.ref f12) = true)
    (a13 : PySem.W.nsIn K mainGlobals "distance" = some (some (.ref f13))) (l13 : K.lookup f13 = some ⟨oc13, od13, .func (PySem.W.fnOf "distance" "distance" (defArgs s_distance) (defBody s_distance) (defScope s_distance) .none kV13 dc13 pm13 an13 cd13 ct13), sl13⟩) (c13 : PySem.W.codeIn K cd13 "distance" = true) (k13 : PySem.W.keepIn K (.ref f13) = true)
    (a14 : PySem.W.nsIn K mainGlobals "law" = some (some (.ref f14))) (l14 : K.lookup f14 = some ⟨oc14, od14, .func (PySem.W.fnOf "law" "law" (defArgs s_law) (defBody s_law) (defScope s_law) .none kV14 dc14 pm14 an14 cd14 ct14), sl14⟩) (c14 : PySem.W.codeIn K cd14 "law" = true) (k14 : PySem.W.keepIn K (.ref f14) = true)
    (z0 : PySem.W.nsIn K mainGlobals "bool" = some none) (z1 : PySem.W.nsIn K mainGlobals "enumerate" = some none) (z2 : PySem.W.nsIn K mainGlobals "int" = some none) (z3 : PySem.W.nsIn K mainGlobals "isinstance" = some none) (z4 : PySem.W.nsIn K mainGlobals "len" = some none) (z5 : PySem.W.nsIn K mainGlobals "list" = some none) (z6 : PySem.W.nsIn K mainGlobals "max" = some none) (z7 : PySem.W.nsIn K mainGlobals "min" = some none) (z8 : PySem.W.nsIn K mainGlobals "range" = some none) (z9 : PySem.W.nsIn K mainGlobals "str" = some none) (z10 : PySem.W.nsIn K mainGlobals "sum" = some none) (z11 : PySem.W.nsIn K mainGlobals "tuple" = some none) :
    ∃ fd : FuncData, (∀ (s : Shared) (v : Value), BindsTo s fd ⟨[v], []⟩ [("_law_script", v)]) ∧ ∀ base : Heap, K.In base → base.Ns mainGlobals mg → FnOk l.prog w K mg base CX0 114 fa fd ["_law_script"] (Fg.spLaw K) := by
  have e := hfa.symm.trans (PySem.W.mg_of X G a14)
  cases e
  have B : ∀ x ∈ blts, mg x = none := List.forall_mem_cons.mpr ⟨PySem.W.mg_none_of X G z0, List.forall_mem_cons.mpr ⟨PySem.W.mg_none_of X G z1, List.forall_mem_cons.mpr ⟨PySem.W.mg_none_of X G z2, List.forall_mem_cons.mpr ⟨PySem.W.mg_none_of X G z3, List.forall_mem_cons.mpr ⟨PySem.W.mg_none_of X G z4, List.forall_mem_cons.mpr ⟨PySem.W.mg_none_of X G z5, List.forall_mem_cons.mpr ⟨PySem.W.mg_none_of X G z6, List.forall_mem_cons.mpr ⟨PySem.W.mg_none_of X G z7, List.forall_mem_cons.mpr ⟨PySem.W.mg_none_of X G z8, List.forall_mem_cons.mpr ⟨PySem.W.mg_none_of X G z9, List.forall_mem_cons.mpr ⟨PySem.W.mg_none_of X G z10, List.forall_mem_cons.mpr ⟨PySem.W.mg_none_of X G z11, List.forall_mem_nil _⟩⟩⟩⟩⟩⟩⟩⟩⟩⟩⟩⟩
  have F1 := fun_mk (st := s_l_cell_at) l1 c1 k1
  have b1 := F1.binds (ps := ["_law_script", "_law_k"]) fun _ _ _ _ _ _ us hl => by obtain ⟨_, _, rfl⟩ := len2 hl; rfl
  have F2 := fun_mk (st := s_l_word) l2 c2 k2
  have b2 := F2.binds (ps := ["_law_cell"]) fun _ _ _ _ _ _ us hl => by obtain ⟨_, rfl⟩ := len1 hl; rfl
  have F3 := fun_mk (st := s_l_pool) l3 c3 k3
  have b3 := F3.binds (ps := ["_law_cell", "_law_many"]) fun _ _ _ _ _ _ us hl => by obtain ⟨_, _, rfl⟩ := len2 hl; rfl
  have F4 := fun_mk (st := s_l_flat_far) l4 c4 k4
  have b4 := F4.binds (ps := ["_law_one", "_law_other"]) fun _ _ _ _ _ _ us hl => by obtain ⟨_, _, rfl⟩ := len2 hl; rfl
  have F5 := fun_mk (st := s_l_grove) l5 c5 k5
  have b5 := F5.binds (ps := ["_law_script", "_law_start", "_law_many", "_law_tags"]) fun _ _ _ _ _ _ us hl => by obtain ⟨_, _, _, _, rfl⟩ := len4 hl; rfl
  have F6 := fun_mk (st := s_l_like) l6 c6 k6
  have b6 := F6.binds (ps := ["_law_one", "_law_cell", "_law_tags"]) fun _ _ _ _ _ _ us hl => by obtain ⟨_, _, _, rfl⟩ := len3 hl; rfl
  have F7 := fun_mk (st := s_l_size) l7 c7 k7
  have b7 := F7.binds (ps := ["_law_row"]) fun _ _ _ _ _ _ us hl => by obtain ⟨_, rfl⟩ := len1 hl; rfl
  have F8 := fun_mk (st := s_l_far) l8 c8 k8
  have b8 := F8.binds (ps := ["_law_kept", "_law_one", "_law_other"]) fun _ _ _ _ _ _ us hl => by obtain ⟨_, _, _, rfl⟩ := len3 hl; rfl
  have F9 := fun_mk (st := s_l_is) l9 c9 k9
  have b9 := F9.binds (ps := ["_law_told", "_law_due"]) fun _ _ _ _ _ _ us hl => by obtain ⟨_, _, rfl⟩ := len2 hl; rfl
  have F10 := fun_mk (st := s_words_of) l10 c10 k10
  have b10 := F10.binds (ps := ["grove"]) fun _ _ _ _ _ _ us hl => by obtain ⟨_, rfl⟩ := len1 hl; rfl
  have F11 := fun_mk (st := s_closings) l11 c11 k11
  have b11 := F11.binds (ps := ["words"]) fun _ _ _ _ _ _ us hl => by obtain ⟨_, rfl⟩ := len1 hl; rfl
  have F12 := fun_mk (st := s_tree_size) l12 c12 k12
  have b12 := F12.binds (ps := ["ended_at", "place"]) fun _ _ _ _ _ _ us hl => by obtain ⟨_, _, rfl⟩ := len2 hl; rfl
  have F13 := fun_mk (st := s_distance) l13 c13 k13
  have b13 := F13.binds (ps := ["one", "other"]) fun _ _ _ _ _ _ us hl => by obtain ⟨_, _, rfl⟩ := len2 hl; rfl
  have F14 := fun_mk (st := s_law) l14 c14 k14
  refine ⟨PySem.W.fnOf "law" "law" (defArgs s_law) (defBody s_law) (defScope s_law) .none kV14 dc14 pm14 an14 cd14 ct14, fun s v => .of_eq rfl, fun base _ _ => ?_⟩
  have g_l_cell_at : Has l.prog w K mg base "_law_cell_at" ["_law_script", "_law_k"] 1 (Fg.spCell K) := ⟨⟨f1, _, ok_l_cell_at B  F1, b1, k1, PySem.W.mg_of X G a1⟩⟩
  have g_l_word : Has l.prog w K mg base "_law_word" ["_law_cell"] 1 (K83.spWordV) := ⟨⟨f2, _, ok_l_word B  F2, b2, k2, PySem.W.mg_of X G a2⟩⟩
  have g_l_pool : Has l.prog w K mg base "_law_pool" ["_law_cell", "_law_many"] 2 (K83.spPoolV) := ⟨⟨f3, _, ok_l_pool B g_l_word F3, b3, k3, PySem.W.mg_of X G a3⟩⟩
  have g_l_flat_far : Has l.prog w K mg base "_law_flat_far" ["_law_one", "_law_other"] 1 (K83.spFlatV) := ⟨⟨f4, _, ok_l_flat_far B  F4, b4, k4, PySem.W.mg_of X G a4⟩⟩
  have g_l_grove : Has l.prog w K mg base "_law_grove" ["_law_script", "_law_start", "_law_many", "_law_tags"] 2 (K83.spGroveV K) := ⟨⟨f5, _, ok_l_grove B g_l_cell_at F5, b5, k5, PySem.W.mg_of X G a5⟩⟩
  have g_l_like : Has l.prog w K mg base "_law_like" ["_law_one", "_law_cell", "_law_tags"] 1 (K83.spLikeV) := ⟨⟨f6, _, ok_l_like B  F6, b6, k6, PySem.W.mg_of X G a6⟩⟩
  have rs : ∀ d : Nat, Has l.prog w K mg base "_law_size" ["_law_row"] d (K83.spSizeV d) := by
    intro d
    induction d with
    | zero => exact ⟨⟨f7, _, FnOk.none (fun vs H Q E z => by obtain ⟨p, xs, g, _, _, _, hd, _⟩ := z; exact absurd hd (Nat.not_lt_zero _)), b7, k7, PySem.W.mg_of X G a7⟩⟩
    | succ d ih => exact ⟨⟨f7, _, ok_l_size d B ih F7, b7, k7, PySem.W.mg_of X G a7⟩⟩
  have g_l_size := rs 70
  have rf : ∀ d : Nat, Has l.prog w K mg base "_law_far" ["_law_kept", "_law_one", "_law_other"] (d + 72) (K83.spFarV d) := by
    intro d
    induction d with
    | zero => exact ⟨⟨f8, _, FnOk.none (fun vs H Q E z => by obtain ⟨_, _, _, _, _, _, _, _, _, _, _, hd, _⟩ := z; exact absurd hd (Nat.not_lt_zero _)), b8, k8, PySem.W.mg_of X G a8⟩⟩
    | succ d ih => exact ⟨⟨f8, _, ok_l_far d B g_l_size ih F8, b8, k8, PySem.W.mg_of X G a8⟩⟩
  have g_l_far := rf 41
  have g_l_is : Has l.prog w K mg base "_law_is" ["_law_told", "_law_due"] 1 (K83.spIsV) := ⟨⟨f9, _, ok_l_is B  F9, b9, k9, PySem.W.mg_of X G a9⟩⟩
  have g_words_of : Has l.prog w K mg base "words_of" ["grove"] 1 (Fg.spWords K) := ⟨⟨f10, _, ok_words_of B  F10, b10, k10, PySem.W.mg_of X G a10⟩⟩
  have g_closings : Has l.prog w K mg base "closings" ["words"] 1 (K83.spClosK K) := ⟨⟨f11, _, ok_closings B  F11, b11, k11, PySem.W.mg_of X G a11⟩⟩
  have g_tree_size : Has l.prog w K mg base "tree_size" ["ended_at", "place"] 1 (K83.spTreeV) := ⟨⟨f12, _, ok_tree_size B  F12, b12, k12, PySem.W.mg_of X G a12⟩⟩
  have g_distance : Has l.prog w K mg base "distance" ["one", "other"] 2 (K83.spDistV) := ⟨⟨f13, _, ok_distance B g_words_of g_closings g_tree_size F13, b13, k13, PySem.W.mg_of X G a13⟩⟩
  exact ok_law B g_l_cell_at g_l_pool g_l_flat_far g_l_grove g_l_like g_l_far g_l_is g_distance F14
theorem walk {l : PySem.W.OpenLaw} {q : Program} {loose : List Str} {XP : (Str → Option Value) → Heap → Prop} {YP : World → Heap → Prop} {d : DefRec} {K : Params → PySem.W.Frag} (hn : l.most = some 63) (hdf : d.params.defaults = [])
    (hY : ∀ (w : World) (h : Heap), YP w h → (K w.params).In h)
    (F : ∀ (w : World) (mg : Str → Option Value) (fa : Addr) (h : Heap), (K w.params).In h → h.Ns mainGlobals mg → mg d.name = some (.ref fa) →
      ∃ fd : FuncData, (∀ (s : Shared) (u : Value), BindsTo s fd ⟨[u], []⟩ [("_law_script", u)]) ∧ ∀ base : Heap, (K w.params).In base → base.Ns mainGlobals mg → FnOk l.prog w (K w.params) mg base CX0 114 fa fd ["_law_script"] (Fg.spLaw (K w.params))) :
    PySem.W.WalkO q loose XP YP l.row.toRowW d [] (fun f vs => PySem.call f vs) :=
  L2.walk_of (n := 63) (k := 114) (x := "_law_script") (CX := fun _ => CX0) (sp := fun w => Fg.spLaw (K w.params)) hn (by decide) hdf ⟨rfl, by decide, by decide, rfl⟩ hY F (fun _ _ a ns hl _ hS => ⟨a, ns, rfl, hS, hl, fun _ => rfl⟩) fun _ _ _ _ _ z => z
end K83
def PySem.W.Fast.tw16188974077451567249 := 0
def PySem.W.Fast.tw17277441834478869942 := 0
def PySem.W.Fast.tw2514280868454568062 := 0
def PySem.W.Fast.tw14946852523845027607 := 0
def PySem.W.Fast.tw4132522979111617909 := 0
def PySem.W.Fast.tw13569909924281132218 := 0
def PySem.W.Fast.tw13673296651369865033 := 0
def PySem.W.Fast.tw3442933122898557878 := 0
def PySem.W.Fast.tw15837160916443213714 := 0
def PySem.W.Fast.tw12764889475065019944 := 0
def PySem.W.Fast.tw15861161955155500462 := 0
def PySem.W.Fast.tw10288941038364514427 := 0
def PySem.W.Fast.tw863486554024245986 := 0
def PySem.W.Fast.tw6740614360866101949 := 0
def PySem.W.Fast.tw6628477134242766542 := 0
def PySem.W.Fast.tw1362811039460264777 := 0
def PySem.W.Fast.tw2596971285062786707 := 0
def PySem.W.Fast.tw4204375225530240822 := 0
def PySem.W.Fast.tw16294912221357631715 := 0
def PySem.W.Fast.tw11017542671418780045 := 0
def PySem.W.Fast.tw2885168061811657206 := 0
def PySem.W.Fast.tw8783503408844540740 := 0
def PySem.W.Fast.tw9894269062434086012 := 0
def PySem.W.Fast.tw10138144954317102269 := 0
def PySem.W.Fast.tw26795089296057407 := 0
def PySem.W.Fast.tw3585681637189787131 := 0
def PySem.W.Fast.tw9975314115355986498 := 0
def PySem.W.Fast.tw17096942952392631824 := 0
def PySem.W.Fast.tw8809797193519366144 := 0
def PySem.W.Fast.tw5512873229528688362 := 0
def PySem.W.Fast.tw1500616933734112843 := 0
def PySem.W.Fast.tw17169288844143813977 := 0
def PySem.W.Fast.tw15100821030104288164 := 0
def PySem.W.Fast.tw10715466834164638131 := 0
def PySem.W.Fast.tw10387282684507215421 := 0
def PySem.W.Fast.tw16176371744304765095 := 0
def PySem.W.Fast.tw10281861543240301768 := 0
def PySem.W.Fast.tw2709326742445933110 := 0
def PySem.W.Fast.tw8698230391739457853 := 0
def PySem.W.Fast.tw8037530048787178746 := 0
def PySem.W.Fast.tw7408908569727101631 := 0
def PySem.W.Fast.tw9307533654131592557 := 0
def PySem.W.Fast.tw6046954534997764040 := 0
def PySem.W.Fast.tw17303775635061893454 := 0
def PySem.W.Fast.tw14149272495974401447 := 0
def PySem.W.Fast.tw15080946687617079970 := 0
def PySem.W.Fast.tw9351411063991401331 := 0
def PySem.W.Fast.tw11450145231353030411 := 0
def PySem.W.Fast.tw15204566933159123709 := 0
def PySem.W.Fast.tw8663575588222872378 := 0
def PySem.W.Fast.tw15832714434383176186 := 0
def PySem.W.Fast.tw4364464547888132376 := 0
def PySem.W.Fast.tw17724802147715307202 := 0
def PySem.W.Fast.tw6147505407886509091 := 0
def PySem.W.Fast.tw2143723050650035325 := 0
def PySem.W.Fast.tw3363961544226034383 := 0
def PySem.W.Fast.tw13976943467177915923 := 0
def PySem.W.Fast.tw2967277422150481346 := 0
def PySem.W.Fast.tw4455954269038281926 := 0
def PySem.W.Fast.tw1665544212133521879 := 0
def PySem.W.Fast.tw1896687283367021648 := 0
def PySem.W.Fast.tw11904353601144580058 := 0
def PySem.W.Fast.tw8811219009182286293 := 0
def PySem.W.Fast.tw17073894658477070388 := 0
def PySem.W.Fast.tw1917907804423985149 := 0
def PySem.W.Fast.tw12182298786429814246 := 0
def PySem.W.Fast.tw9839745515735885962 := 0
def PySem.W.Fast.tw2407577873453239915 := 0
def PySem.W.Fast.tw4736664419129995049 := 0
def PySem.W.Fast.tw5287599492806524202 := 0
def PySem.W.Fast.tw2954709774083851096 := 0
def PySem.W.Fast.tw15618443717112349541 := 0
def PySem.W.Fast.tw15731870410811307362 := 0
def PySem.W.Fast.tw437422393770868402 := 0
def PySem.W.Fast.tw17371975968576261510 := 0
def PySem.W.Fast.tw17724628408860978953 := 0
def PySem.W.Fast.tw12977756129877639792 := 0
def PySem.W.Fast.tw12153953900512547022 := 0
def PySem.W.Fast.tw3097191183636565059 := 0
def PySem.W.Fast.tw10421231395092765690 := 0
def PySem.W.Fast.tw11379497364666000363 := 0
def PySem.W.Fast.tw2610858916079208499 := 0
def PySem.W.Fast.tw14040146940533929005 := 0
def PySem.W.Fast.tw3071252215887477331 := 0
def PySem.W.Fast.tw2355164932288749534 := 0
def PySem.W.Fast.tw7806773624767468349 := 0
def PySem.W.Fast.tw11747980523441136739 := 0
def PySem.W.Fast.tw11713327093349941828 := 0
def PySem.W.Fast.tw7194022798886543736 := 0
def PySem.W.Fast.tw17443176960861082411 := 0
def PySem.W.Fast.tw4698617680845668825 := 0
def PySem.W.Fast.tw4334505048434307430 := 0
def PySem.W.Fast.tw7969506873849163920 := 0
def PySem.W.Fast.tw3468137709044326435 := 0
def PySem.W.Fast.tw4089933095698182662 := 0
def PySem.W.Fast.tw1367691214474887595 := 0
def PySem.W.Fast.tw370781138997240568 := 0
def PySem.W.Fast.tw12691457392440651444 := 0
def PySem.W.Fast.tw6716224612740877124 := 0
def PySem.W.Fast.tw14757943001719972995 := 0
def PySem.W.Fast.tw1353304673909558225 := 0
def PySem.W.Fast.tw18245850780326192654 := 0
def PySem.W.Fast.tw11828309152470163447 := 0
def PySem.W.Fast.tw17582101150189551244 := 0
def PySem.W.Fast.tw12808673563001151084 := 0
def PySem.W.Fast.tw10993196136240468799 := 0
def PySem.W.Fast.tw3922364110272227396 := 0
def PySem.W.Fast.tw12585035569119805851 := 0
open PySem PySem.W PyProof.Rows
set_option maxRecDepth 100000 in
set_option maxHeartbeats 0 in
theorem PySem.Challenge.cw_formgrove_k83_distance_by_rests_holds : PySem.Challenge.rw_formgrove_k83_distance_by_rests.Holds := by
  w_on; o_law; k_head; (case hw => w_witness2)
  k_fill
  refine K83.walk (l := PySem.Challenge.rw_formgrove_k83_distance_by_rests) rfl rfl (fun w h Y => PySem.W.kIn_of Y) ?F
  case F =>
    intro w mg fa h KX G hmg
    refine' K83.all_mk KX G hmg ?a1 ?l1 ?c1 ?k1 ?a2 ?l2 ?c2 ?k2 ?a3 ?l3 ?c3 ?k3 ?a4 ?l4 ?c4 ?k4 ?a5 ?l5 ?c5 ?k5 ?a6 ?l6 ?c6 ?k6 ?a7 ?l7 ?c7 ?k7 ?a8 ?l8 ?c8 ?k8 ?a9 ?l9 ?c9 ?k9 ?a10 ?l10 ?c10 ?k10 ?a11 ?l11 ?c11 ?k11 ?a12 ?l12 ?c12 ?k12 ?a13 ?l13 ?c13 ?k13 ?a14 ?l14 ?c14 ?k14 ?z0 ?z1 ?z2 ?z3 ?z4 ?z5 ?z6 ?z7 ?z8 ?z9 ?z10 ?z11
    (case a1 => k_is)
    (case l1 => k_is)
    (case c1 => k_is)
    (case k1 => k_is)
    (case a2 => k_is)
    (case l2 => k_is)
    (case c2 => k_is)
    (case k2 => k_is)
    (case a3 => k_is)
    (case l3 => k_is)
    (case c3 => k_is)
    (case k3 => k_is)
    (case a4 => k_is)
    (case l4 => k_is)
    (case c4 => k_is)
    (case k4 => k_is)
    (case a5 => k_is)
    (case l5 => k_is)
    (case c5 => k_is)
    (case k5 => k_is)
    (case a6 => k_is)
    (case l6 => k_is)
    (case c6 => k_is)
    (case k6 => k_is)
    (case a7 => k_is)
    (case l7 => k_is)
    (case c7 => k_is)
    (case k7 => k_is)
    (case a8 => k_is)
    (case l8 => k_is)
    (case c8 => k_is)
    (case k8 => k_is)
    (case a9 => k_is)
    (case l9 => k_is)
    (case c9 => k_is)
    (case k9 => k_is)
    (case a10 => k_is)
    (case l10 => k_is)
    (case c10 => k_is)
    (case k10 => k_is)
    (case a11 => k_is)
    (case l11 => k_is)
    (case c11 => k_is)
    (case k11 => k_is)
    (case a12 => k_is)
    (case l12 => k_is)
    (case c12 => k_is)
    (case k12 => k_is)
    (case a13 => k_is)
    (case l13 => k_is)
    (case c13 => k_is)
    (case k13 => k_is)
    (case a14 => k_is)
    (case l14 => k_is)
    (case c14 => k_is)
    (case k14 => k_is)
    (case z0 => k_is)
    (case z1 => k_is)
    (case z2 => k_is)
    (case z3 => k_is)
    (case z4 => k_is)
    (case z5 => k_is)
    (case z6 => k_is)
    (case z7 => k_is)
    (case z8 => k_is)
    (case z9 => k_is)
    (case z10 => k_is)
    (case z11 => k_is)
