import PyProof.Rows.All
import Wide.All
import OpenK.AllK
import Wide.FinOn
import Lean
import PyProof.EqAt
import PyProof.EqKinds
import PyProof.TupleCall
import PySem.Challenge.RW_formgrove_k79_changers_written
set_option Elab.async false
set_option linter.all false
set_option maxRecDepth 100000
/-! THE HAND LAYER, for ints, bools, texts, own classes, LISTS and tuples (index, slices, in, append, pop ..), calls, loops. Paste it whole ahead of your own text; what your proof does not reach may be deleted. -/
namespace L2
open PySem PySem.Spec PyProof.Rows

/-- a key: an int or a str -/
abbrev Key := Sum Int Str
def keyIs : Key → Value → Bool
  | .inl k, v => Value.isInt k v
  | .inr x, v => Value.isStrOf x v
def keyH (w : World) : Key → Int
  | .inl k => hashInt k
  | .inr x => hashStr w x
theorem keyIs_shape : ∀ {k : Key} {v : Value}, keyIs k v = true → (∃ i t, k = Sum.inl i ∧ v = Value.int i t) ∨ (∃ x t, k = Sum.inr x ∧ v = Value.str x t)
  | .inl i, v, h => by
    obtain ⟨t, e⟩ := Value.isInt_shape (k := i) (v := v) h
    exact .inl ⟨i, t, rfl, e⟩
  | .inr x, v, h => by
    obtain ⟨t, e⟩ := Value.isStrOf_shape (x := x) (v := v) h
    exact .inr ⟨x, t, rfl, e⟩
theorem keyIs_int (i : Int) (t : Tok) : keyIs (.inl i) (.int i t) = true := by simp [keyIs, Value.isInt]
theorem keyIs_str (x : Str) (t : Tok) : keyIs (.inr x) (.str x t) = true := by simp [keyIs, Value.isStrOf]
theorem key_ll (a b : Int) : decide ((Sum.inl a : Key) = Sum.inl b) = (a == b) := by
  by_cases e : a = b
  · subst e; simp
  · have h : ¬ (Sum.inl a : Key) = Sum.inl b := fun q => e (Sum.inl.inj q)
    rw [decide_eq_false h]
    exact (beq_eq_false_iff_ne.mpr e).symm
theorem key_rr (a b : Str) : decide ((Sum.inr a : Key) = Sum.inr b) = decide (a = b) := by
  by_cases e : a = b
  · subst e; simp
  · have h : ¬ (Sum.inr a : Key) = Sum.inr b := fun q => e (Sum.inr.inj q)
    rw [decide_eq_false h, decide_eq_false e]
theorem key_lr (a : Int) (b : Str) : decide ((Sum.inl a : Key) = Sum.inr b) = false := decide_eq_false (fun q => nomatch q)
theorem key_rl (a : Str) (b : Int) : decide ((Sum.inr a : Key) = Sum.inl b) = false := decide_eq_false (fun q => nomatch q)

def mixKind (prog : Program) (w : World) : PySem.KeyKind prog w Key where
  is := keyIs
  hash := keyH w
  inj := fun v a b ha hb => by
    rcases keyIs_shape ha with ⟨i, t, rfl, rfl⟩ | ⟨x, t, rfl, rfl⟩
    · rcases keyIs_shape hb with ⟨j, u, rfl, e⟩ | ⟨y, u, rfl, e⟩
      · injection e with e1 _; rw [e1]
      · exact nomatch e
    · rcases keyIs_shape hb with ⟨j, u, rfl, e⟩ | ⟨y, u, rfl, e⟩
      · exact nomatch e
      · injection e with e1 _; rw [e1]
  byValue := fun k v h => by
    rcases keyIs_shape h with ⟨i, t, rfl, rfl⟩ | ⟨x, t, rfl, rfl⟩ <;> rfl
  pyHash := fun hv h => by
    rcases keyIs_shape hv with ⟨i, t, rfl, rfl⟩ | ⟨x, t, rfl, rfl⟩
    · exact wpAny_pyHash_int h
    · exact wpAny_pyHash_str h
  eqBool := fun hu hv h => by
    rcases keyIs_shape hu with ⟨i, t, rfl, rfl⟩ | ⟨x, t, rfl, rfl⟩
    · rcases keyIs_shape hv with ⟨j, u, rfl, rfl⟩ | ⟨y, u, rfl, rfl⟩
      · rw [key_ll] at h; exact wpAny_eqBool_int h
      · rw [key_lr] at h; exact SeqAt.EqAt.int_str i t y u _ _ _ _ h
    · rcases keyIs_shape hv with ⟨j, u, rfl, rfl⟩ | ⟨y, u, rfl, rfl⟩
      · rw [key_rl] at h; exact SeqAt.EqAt.str_int x t j u _ _ _ _ h
      · rw [key_rr] at h; exact wpAny_eqBool_str h
  «strs» := fun k x t v h => by
    rcases keyIs_shape h with ⟨i, u, rfl, e⟩ | ⟨y, u, rfl, e⟩
    · exact nomatch e
    · injection e with e1 _
      subst e1
      cases v <;> rfl

theorem mixKind_int (prog : Program) (w : World) (i : Int) (t : Tok) : (mixKind prog w).is (.inl i) (.int i t) = true := keyIs_int i t
theorem mixKind_str (prog : Program) (w : World) (x : Str) (t : Tok) : (mixKind prog w).is (.inr x) (.str x t) = true := keyIs_str x t
end L2

namespace L2
open PySem PySem.Spec PyProof.Rows

/-- a value, without the heap -/
inductive V where
  | non | bl (b : Bool) | int (i : Int) | str (x : Str) | byt (b : Array UInt8) | flt (b : UInt64) | ref (a : Addr) | ty (n : String)
  deriving DecidableEq

def RelV : V → Value → Prop
  | .non, u => u = Value.none
  | .bl b, u => u = Value.bool b
  | .int i, u => ∃ t, u = Value.int i t
  | .str x, u => ∃ t, u = Value.str x t
  | .byt b, u => ∃ t, u = Value.bytes b t
  | .flt b, u => ∃ t, u = Value.float b t
  | .ref a, u => u = Value.ref a
  | .ty n, u => u = Value.type n

abbrev Vals : List V → List Value → Prop := Paired RelV
theorem Vals.length {xs : List V} {us : List Value} (r : Vals xs us) : xs.length = us.length := Paired.length r
theorem Vals.get : ∀ {xs : List V} {us : List Value} {i : Nat} {x : V}, Vals xs us → xs[i]? = some x → ∃ u, us[i]? = some u ∧ RelV x u
  | _, _, _, _, .nil, e => by simp at e
  | _, _, 0, _, .cons r _, e => by simp at e; subst e; exact ⟨_, rfl, r⟩
  | _, _, i + 1, x, .cons _ t, e => by
    obtain ⟨u, h1, h2⟩ := Vals.get (i := i) (x := x) t (by simpa using e)
    exact ⟨u, by simpa using h1, h2⟩
theorem Vals.append : ∀ {xs ys : List V} {us ws : List Value}, Vals xs us → Vals ys ws → Vals (xs ++ ys) (us ++ ws)
  | _, _, _, _, .nil, s => s
  | _, _, _, _, .cons r t, s => .cons r (Vals.append t s)
theorem Vals.take : ∀ {xs : List V} {us : List Value} (n : Nat), Vals xs us → Vals (xs.take n) (us.take n)
  | _, _, 0, _ => .nil
  | _, _, _ + 1, .nil => .nil
  | _, _, n + 1, .cons r t => .cons r (Vals.take n t)
theorem Vals.drop : ∀ {xs : List V} {us : List Value} (n : Nat), Vals xs us → Vals (xs.drop n) (us.drop n)
  | _, _, 0, r => r
  | _, _, _ + 1, .nil => .nil
  | _, _, n + 1, .cons _ t => Vals.drop n t
def RelO : Option V → Option Value → Prop
  | some v, some u => RelV v u
  | none, none => True
  | _, _ => False
def KV {κ : Type} : List (κ × V) → List (κ × Value) → Prop := Paired fun (p : κ × V) (q : κ × Value) => p.1 = q.1 ∧ RelV p.2 q.2

/-- a key of a dict (00_mix): an int or a text -/
def kV : Key → V
  | .inl i => .int i
  | .inr x => .str x

/-- what stands at a tracked address -/
inductive HO where
  /-- a list -/
  | lst (xs : List V)
  /-- a tuple (never changes) -/
  | tup (xs : List V)
  /-- a dict whose keys are ints and texts; one whose keys are tuples of ints and texts (the empty one is both) -/
  | dK (kvs : List (Key × V)) | dT (kvs : List (List Key × V))
  /-- a set of ints: its members, its size -/
  | set (S : Int → Bool) (n : Nat)
  /-- an instance of the class at C, its dict at dx, its attributes -/
  | ins (C dx : Addr) (fs : List (Str × V))
  /-- the dict of the instance at x -/
  | own (x : Addr)
  /-- the dict of an exception -/
  | xd (fs : List (Str × V))
  /-- a bound method, f of x -/
  | met (f x : Addr)
  /-- a range object lo, lo + 1, .. below hi -/
  | rng (lo hi : Int)
  /-- a thing that is known to the object (the script; a dict while a loop walks it): read, never written while it is so -/
  | frz (o : Obj) (u : HO)
  /-- a code object's table -/
  | tbl (ps : Array Value)
  /-- any other thing, by what is true of its one object (a def of one's own: SetO a S n := HO.ext fun h => ..) -/
  | ext (φ : Heap → Prop)

abbrev Hp := Addr → Option HO
def upd (H : Hp) (a : Addr) (o : HO) : Hp := fun b => if b = a then some o else H b
theorem upd_same {H : Hp} {a : Addr} {o : HO} : upd H a o a = some o := by unfold upd; rw [if_pos rfl]
theorem upd_ne {H : Hp} {a b : Addr} {o : HO} (h : b ≠ a) : upd H a o b = H b := by unfold upd; rw [if_neg h]
/-- two objects of different content stand apart -/
theorem ne_of {H : Hp} {a b : Addr} {o u : HO} (h : H a = some o) (h' : H b = some u) (d : o ≠ u) : a ≠ b := by
  intro e; subst e; rw [h] at h'; exact d (Option.some.inj h')
theorem ne_of_none {H : Hp} {a b : Addr} {o : HO} (h : H a = some o) (h' : H b = none) : a ≠ b := by
  intro e; subst e; rw [h] at h'; cases h'

section
variable (P : Program) (w : World)
def ObjOk (H : Hp) (h : Heap) (a : Addr) : HO → Prop
  | .lst xs => xs.length ≤ sizeLine ∧ ∃ (its : List Value) (n : Nat), Vals xs its ∧ h.get? a = some { cls := .type "list", data := .seq its.toArray n }
  | .tup xs => xs.length ≤ sizeLine ∧ ∃ its : List Value, Vals xs its ∧ IsTup h a its.toArray
  | .dK kvs => kvs.length ≤ sizeLine ∧ (a == sysModules) = false ∧ ∃ vs, KV kvs vs ∧ h.DictOf (mixKind P w) a vs
  | .dT kvs => kvs.length ≤ sizeLine ∧ (a == sysModules) = false ∧ ∃ xs : List (List Key × Addr × Value),
      Paired (fun (p : List Key × V) (q : List Key × Addr × Value) => p.1 = q.1 ∧ H q.2.1 = some (.tup (p.1.map kV)) ∧ RelV p.2 q.2.2) kvs xs ∧
      ∃ o es ep, h.get? a = some o ∧ o.ExactDict ∧ o.data = .dict es ep ∧ es.toList = xs.map (entryOfKey (tupleKind (mixKind P w))) ∧ (xs.map (·.1)).Nodup
  | .set S n => h.SetOf (intKind P w) a S n
  | .ins C dx fs => H dx = some (.own a) ∧ fs.length ≤ 1000 ∧ dx ≠ a ∧ h.get? a = some (PySem.W.instObj C dx) ∧
      ∃ mA, h.Ns1 dx mA ∧ (∀ f, RelO (fs.lookup f) (mA f)) ∧ PySem.Within mA (fs.map (·.1))
  | .own _ => ∃ o, h.get? a = some o
  | .xd fs => ∃ mA, h.Ns1 a mA ∧ ∀ f, RelO (fs.lookup f) (mA f)
  | .rng lo hi => ∃ t u v, h.get? a = some { cls := .type "range", data := .fields #[.int lo t, .int hi u, .int 1 v] }
  | .frz o u => h.get? a = some o ∧ ObjOk H h a u
  | .tbl ps => h.get? a = some { cls := .none, data := .fields ps }
  | .met f x => h.get? a = some (PySem.W.methodObj (.ref f) (.ref x))
  | .ext φ => φ h ∧ (∃ o, h.get? a = some o) ∧ ∀ h1 h2 : Heap, φ h1 → (∀ o, h1.get? a = some o → h2.get? a = some o) → φ h2
/-- the abstract heap is held -/
def HOk (H : Hp) (h : Heap) : Prop := ∀ a o, H a = some o → ObjOk P w H h a o
end

section
variable {P : Program} {w : World} {H H' : Hp} {h h' : Heap} {a : Addr} {o : HO}
theorem ObjOk.lt (x : ObjOk P w H h a o) : a < h.objs.size := by
  cases o with
  | lst xs => obtain ⟨_, _, _, _, e⟩ := x; exact Heap.lt_size e
  | tup xs => obtain ⟨_, _, _, p⟩ := x; exact p.lt
  | dK kvs => obtain ⟨_, _, _, _, o, _, _, e, _⟩ := x; exact Heap.lt_size e
  | dT kvs => obtain ⟨_, _, _, _, o, _, _, e, _⟩ := x; exact Heap.lt_size e
  | set S n => obtain ⟨o, _, _, _, e, _⟩ := x; exact Heap.lt_size e
  | ins C dx fs => obtain ⟨_, _, _, e, _⟩ := x; exact Heap.lt_size e
  | own y => obtain ⟨_, e⟩ := x; exact Heap.lt_size e
  | xd fs => obtain ⟨_, ⟨_, _, _, e, _⟩, _⟩ := x; exact Heap.lt_size e
  | rng lo hi => obtain ⟨_, _, _, e⟩ := x; exact Heap.lt_size e
  | frz ob u => obtain ⟨e, _⟩ := x; exact Heap.lt_size e
  | tbl ps => exact Heap.lt_size (show h.get? a = some _ from x)
  | met f y => exact Heap.lt_size (show h.get? a = some _ from x)
  | ext φ => obtain ⟨_, ⟨_, e⟩, _⟩ := x; exact Heap.lt_size e
theorem Paired.mapP {α β : Type} {F G : α → β → Prop} : ∀ {l₁ : List α} {l₂ : List β}, Paired F l₁ l₂ → (∀ a b, F a b → G a b) → Paired G l₁ l₂
  | _, _, .nil, _ => .nil
  | _, _, .cons r t, f => .cons (f _ _ r) (Paired.mapP t f)
/-- what an object's description leans on: its own object, its own dict, the tuples -/
theorem ObjOk.stay (x : ObjOk P w H h a o) (k : ∀ b u, (b = a ∨ H b = some (.own a)) → h.get? b = some u → h'.get? b = some u)
    (ho : ∀ b, H b = some (.own a) → H' b = some (.own a)) (ht : ∀ b xs, H b = some (.tup xs) → H' b = some (.tup xs)) : ObjOk P w H' h' a o := by
  induction o with
  | lst xs => obtain ⟨z, its, n, r, e⟩ := x; exact ⟨z, its, n, r, k _ _ (.inl rfl) e⟩
  | tup xs => obtain ⟨z, its, r, ob, e, c⟩ := x; exact ⟨z, its, r, ob, k _ _ (.inl rfl) e, c⟩
  | dK kvs => obtain ⟨z, y, vs, r, ob, es, ep, e, c⟩ := x; exact ⟨z, y, vs, r, ob, es, ep, k _ _ (.inl rfl) e, c⟩
  | dT kvs =>
    obtain ⟨z, y, xs, r, ob, es, ep, e, c⟩ := x
    exact ⟨z, y, xs, Paired.mapP r fun p q z => ⟨z.1, ht _ _ z.2.1, z.2.2⟩, ob, es, ep, k _ _ (.inl rfl) e, c⟩
  | set S n => obtain ⟨ob, es, ep, t, e, c⟩ := x; exact ⟨ob, es, ep, t, k _ _ (.inl rfl) e, c⟩
  | ins C dx fs =>
    obtain ⟨d, z, ne, e, mA, ⟨od, es, ep, e2, c⟩, r⟩ := x
    exact ⟨ho _ d, z, ne, k _ _ (.inl rfl) e, mA, ⟨od, es, ep, k _ _ (.inr d) e2, c⟩, r⟩
  | own y => obtain ⟨ob, e⟩ := x; exact ⟨ob, k _ _ (.inl rfl) e⟩
  | xd fs => obtain ⟨mA, ⟨od, es, ep, e, c⟩, r⟩ := x; exact ⟨mA, ⟨od, es, ep, k _ _ (.inl rfl) e, c⟩, r⟩
  | rng lo hi => obtain ⟨t, u, v, e⟩ := x; exact ⟨t, u, v, k _ _ (.inl rfl) e⟩
  | frz ob u ih => obtain ⟨e, q⟩ := x; exact ⟨k _ _ (.inl rfl) e, ih q⟩
  | tbl ps =>
    have e : h.get? a = some { cls := .none, data := .fields ps } := x
    show h'.get? a = some { cls := .none, data := .fields ps }
    exact k a _ (.inl rfl) e
  | met f y =>
    have e : h.get? a = some (PySem.W.methodObj (.ref f) (.ref y)) := x
    show h'.get? a = some (PySem.W.methodObj (.ref f) (.ref y))
    exact k a _ (.inl rfl) e
  | ext φ => obtain ⟨p, ⟨o, e⟩, st⟩ := x; exact ⟨st _ _ p fun o q => k _ _ (.inl rfl) q, ⟨o, k _ _ (.inl rfl) e⟩, st⟩
theorem HOk.lt (x : HOk P w H h) (e : H a = some o) : a < h.objs.size := (x a o e).lt
theorem HOk.fresh (x : HOk P w H h) (e : h.objs.size ≤ a) : H a = none := by
  cases q : H a with
  | none => rfl
  | some u => exact absurd (Nat.lt_of_lt_of_le (x.lt q) e) (Nat.lt_irrefl _)
/-- every object of the heap is kept -/
theorem HOk.kept (x : HOk P w H h) (k : ∀ b u, h.get? b = some u → h'.get? b = some u) : HOk P w H h' := fun a o e =>
  (x a o e).stay (fun b u _ q => k b u q) (fun _ q => q) fun _ _ q => q
/-- a new object is laid and tracked -/
theorem HOk.laid (x : HOk P w H h) (k : ∀ b u, h.get? b = some u → h'.get? b = some u) (hp : h.objs.size ≤ a) (new : ObjOk P w (upd H a o) h' a o) : HOk P w (upd H a o) h' := fun b u e => by
  have hn := x.fresh hp
  by_cases hb : b = a
  · subst hb; rw [upd_same] at e; cases e; exact new
  · rw [upd_ne hb] at e
    exact (x b u e).stay (fun c v _ q => k c v q) (fun c q => by rw [upd_ne (ne_of_none q hn)]; exact q) fun c xs q => by rw [upd_ne (ne_of_none q hn)]; exact q
end

/-- what may be read as u: it is u, or a known u -/
def Rd (H : Hp) (a : Addr) (u : HO) : Prop := H a = some u ∨ ∃ o, H a = some (.frz o u)
theorem Rd.ok {P : Program} {w : World} {H : Hp} {h : Heap} {a : Addr} {u : HO} (r : Rd H a u) (x : HOk P w H h) : ObjOk P w H h a u := by
  rcases r with r | ⟨o, r⟩
  · exact x a u r
  · obtain ⟨_, q⟩ := x a _ r
    exact q
/-- what may be written -/
def Mut : Option HO → Prop
  | some (.lst _) => True
  | some (.dK _) => True
  | some (.dT _) => True
  | some (.set _ _) => True
  | some (.ins _ _ _) => True
  | some (.ext _) => True
  | _ => False
section
variable {P : Program} {w : World} {H : Hp} {h h' : Heap} {x e : Addr} {o' : HO}
/-- the object at e is changed: x itself, or the dict of the instance x -/
theorem HOk.write (ok : HOk P w H h) (mu : Mut (H x)) (he : e = x ∨ H e = some (.own x)) (k : ∀ b u, b ≠ e → h.get? b = some u → h'.get? b = some u) (heo : ∃ u, h'.get? e = some u)
    (new : ObjOk P w (upd H x o') h' x o') : HOk P w (upd H x o') h' := fun b u q => by
  have nown : ∀ c y, H c = some (.own y) → c ≠ x := fun c y r z => by subst z; rw [r] at mu; exact mu
  have ntup : ∀ c xs, H c = some (.tup xs) → c ≠ x := fun c xs r z => by subst z; rw [r] at mu; exact mu
  by_cases hb : b = x
  · subst hb; rw [upd_same] at q; cases q; exact new
  · rw [upd_ne hb] at q
    by_cases hbe : b = e
    · have q' : H b = some (.own x) := by
        rcases he with z | z
        · exact absurd (hbe.trans z) hb
        · rw [hbe]; exact z
      rw [q] at q'; cases q'
      obtain ⟨v, hv⟩ := heo
      exact ⟨v, by rw [hbe]; exact hv⟩
    · refine (ok b u q).stay (fun c v hc r => k c v ?_ r) (fun c r => by rw [upd_ne (nown c b r)]; exact r) fun c xs r => by rw [upd_ne (ntup c xs r)]; exact r
      rcases hc with rfl | hc
      · exact hbe
      · rintro rfl
        rcases he with z | z
        · exact nown c b hc z
        · rw [hc] at z; cases z; exact hb rfl
end

/-! ### kept unless tracked; of the frames at fs (the callers') the slots may change (an exception that passes writes there); of the records at ex (iterators) nothing is said -/
structure Un (fs ex : List Addr) (H H' : Hp) (h h' : Heap) : Prop where
  keep : ∀ b o, h.get? b = some o → H b = none → b ∉ fs → b ∉ ex → h'.get? b = some o
  slot : ∀ b o, h.get? b = some o → H b = none → b ∈ fs → b ∉ ex → ∃ sl, h'.get? b = some { o with slots := sl }
  free : ∀ b o, h.get? b = some o → H b = none → b ∉ ex → H' b = none
  there : ∀ b o, h.get? b = some o → b ∉ ex → ∃ o', h'.get? b = some o'
  tups : ∀ b xs, H b = some (.tup xs) → H' b = some (.tup xs)
  frzs : ∀ b o u, H b = some (.frz o u) → H' b = some (.frz o u)
  tbls : ∀ b ps, H b = some (.tbl ps) → ∃ more, H' b = some (.tbl (ps ++ more))
section
variable {fs fs' ex ex' : List Addr} {H H1 H2 : Hp} {h h1 h2 h' : Heap} {a x e : Addr} {o : HO}
theorem Un.any (u : Un fs ex H H1 h h1) {b : Addr} {ob : Obj} (q : h.get? b = some ob) (n : H b = none) (hx : b ∉ ex) : ∃ sl, h1.get? b = some { ob with slots := sl } := by
  by_cases hb : b ∈ fs
  · exact u.slot b ob q n hb hx
  · exact ⟨ob.slots, u.keep b ob q n hb hx⟩
theorem Un.kept (k : ∀ b u, h.get? b = some u → h'.get? b = some u) : Un fs ex H H h h' :=
  ⟨fun b ob q _ _ _ => k b ob q, fun b ob q _ _ _ => ⟨ob.slots, k b ob q⟩, fun _ _ _ n _ => n, fun b ob q _ => ⟨ob, k b ob q⟩, fun _ _ q => q, fun _ _ _ q => q, fun _ ps q => ⟨#[], by rw [q]; simp⟩⟩
theorem Un.refl : Un fs ex H H h h := Un.kept fun _ _ q => q
theorem Un.laid (k : ∀ b u, h.get? b = some u → h'.get? b = some u) (hp : h.objs.size ≤ a) (hn : H a = none) : Un fs ex H (upd H a o) h h' where
  keep := fun b u q _ _ _ => k b u q
  slot := fun b u q _ _ _ => ⟨u.slots, k b u q⟩
  free := fun b u q n _ => by rw [upd_ne (Nat.ne_of_lt (Nat.lt_of_lt_of_le (Heap.lt_size q) hp))]; exact n
  there := fun b u q _ => ⟨u, k b u q⟩
  tups := fun b xs q => by rw [upd_ne (ne_of_none q hn)]; exact q
  frzs := fun b u xs q => by rw [upd_ne (ne_of_none q hn)]; exact q
  tbls := fun b ps q => ⟨#[], by rw [upd_ne (ne_of_none q hn), q]; simp⟩
theorem Un.write (mu : Mut (H x)) (he : e = x ∨ H e = some (.own x)) (k : ∀ b u, b ≠ e → h.get? b = some u → h'.get? b = some u) (heo : ∃ u, h'.get? e = some u) : Un fs ex H (upd H x o) h h' := by
  have hx : ∀ b, H b = none → b ≠ x := fun b n z => by subst z; rw [n] at mu; exact mu
  have hb : ∀ b, H b = none → b ≠ e := fun b n z => by
    subst z
    rcases he with r | r
    · exact hx b n r
    · rw [n] at r; cases r
  have hm : ∀ b u, H b = some u → ¬ Mut (some u) → b ≠ x := fun b u q nm z => by subst z; rw [q] at mu; exact nm mu
  refine ⟨fun b u q n _ _ => k b u (hb b n) q, fun b u q n _ _ => ⟨u.slots, k b u (hb b n) q⟩, fun b u q n _ => by rw [upd_ne (hx b n)]; exact n, fun b u q _ => ?_,
    fun b xs q => by rw [upd_ne (hm b _ q fun z => z)]; exact q, fun b u xs q => by rw [upd_ne (hm b _ q fun z => z)]; exact q, fun b ps q => ⟨#[], by rw [upd_ne (hm b _ q fun z => z), q]; simp⟩⟩
  by_cases hbe : b = e
  · subst hbe; exact heo
  · exact ⟨u, k b u hbe q⟩
end

/-! ### the heap without what is tracked -/
def trk (h : Heap) (H : Hp) : List Addr := (List.range h.objs.size).filter fun a => (H a).isSome
def hidT (h : Heap) (H : Hp) : Heap := PySem.W.hideAll h (trk h H)
theorem hidT_size (h : Heap) (H : Hp) : (hidT h H).objs.size = h.objs.size := PySem.W.hideAll_size _ _
theorem hidT_get {h : Heap} {H : Hp} {b : Addr} {o : Obj} (e : h.get? b = some o) (n : H b = none) : (hidT h H).get? b = some o :=
  PySem.W.hideAll_get _ e fun hm => by
    have q : (H b).isSome = true := (List.mem_filter.mp hm).2
    rw [n] at q; simp at q
theorem of_hidT {h : Heap} {H : Hp} {b : Addr} {o : Obj} (e : (hidT h H).get? b = some o) : h.get? b = some o ∧ H b = none := by
  have e' : h.get? b = some o := PySem.W.of_hideAll (trk h H) e
  refine ⟨e', ?_⟩
  cases q : H b with
  | none => rfl
  | some x =>
    have hm : b ∈ trk h H := List.mem_filter.mpr ⟨List.mem_range.mpr (Heap.lt_size e'), by simp [q]⟩
    have z : (hidT h H).get? b = none := PySem.W.hideAll_none (trk h H) hm
    rw [z] at e; cases e

/-! ### OpenK's ledger, filled with every new object but one -/
end L2

namespace L2
open PySem PySem.Spec PyProof.Rows

/-- the module's facts, over the base: the heap at the law's entry without what is tracked there -/
structure Mod (K : PySem.W.Frag) (mg : Str → Option Value) (base : Heap) : Prop where
  kin : K.In base
  glob : base.Ns mainGlobals mg
  blt : ∃ mb, base.Ns builtinsNs mb ∧ ∀ x : Str, x ≠ "__name__" → mb x = bootBuiltins x
  nolimit : base.NoLimit

/-- the context: a def's body (or a comprehension's block) running. base: fixed through the whole law; s₀, H₀: the entry; outer: the frames whose slots others may change (a def's callers); stack: all frames that run;
   ex: iterators that were made ahead of the entry and are walked here (a comprehension's); fn: the names whose cells were made at the entry (a def: all; a comprehension's block: its own); calm: not within an except suite; pn: pins that every state bears; xe: what is wanted of an exception that leaves the code -/
structure Cx where
  prog : Program
  w : World
  K : PySem.W.Frag
  mg : Str → Option Value
  base : Heap
  A : Around
  N : List Str
  s₀ : Shared
  H₀ : Hp
  env : Env
  outer : List Env
  stack : List Env
  ex : List Addr
  fn : Str → Bool
  calm : Bool
  pn : List (Addr × Obj)
  xe : Value → Shared → Prop
/-- the callers' frames -/
def frs (l : List Env) : List Addr := l.filterMap (·.frame)
abbrev Cx.fs (X : Cx) : List Addr := frs X.outer

def Vis (sc : Scope) (x : Str) : Prop := sc.names.lookup x = some .local ∨ sc.names.lookup x = some .cell ∨ sc.names.lookup x = some .free
def Loc (sc : Scope) (x : Str) : Prop := sc.names.lookup x = some .local ∨ sc.names.lookup x = some .cell
def Look (env : Env) (h : Heap) (m : Str → Option Value) (x : Str) (u : Value) : Prop :=
  (env.kindOf x = some .local ∧ m x = some u) ∨ ((env.kindOf x = some .cell ∨ env.kindOf x = some .free) ∧ ∃ c, env.cells.lookup x = some c ∧ h.IsCell c (some u))

structure Cx.Ok (X : Cx) : Prop where
  mod : Mod X.K X.mg X.base
  kind : X.env.scope.kind = .function
  glob : X.env.globals = mainGlobals
  blt : X.env.builtins = builtinsNs
  above : X.s₀.heap.objs.size ≤ X.env.locals
  inj : ∀ x y c, X.env.cells.lookup x = some c → X.env.cells.lookup y = some c → x = y
  has : ∀ x, (X.env.kindOf x = some .cell ∨ X.env.kindOf x = some .free) → ∃ c, X.env.cells.lookup x = some c
  cab : ∀ x c, X.fn x = true → X.env.cells.lookup x = some c → X.s₀.heap.objs.size ≤ c
  hd : X.calm = true → X.A.handled = none
  frames : X.A.frames = some X.stack
  stk : X.stack = X.outer ∨ (X.stack = X.env :: X.outer ∧ X.env.frame = some X.env.locals)
  exf : ∀ b ∈ X.ex, b ≠ X.env.locals ∧ ∀ x c, X.env.cells.lookup x = some c → c ≠ b
  bs : ∀ b o, X.base.get? b = some o → X.s₀.heap.get? b = some o ∧ X.H₀ b = none
  bsz : X.base.objs.size ≤ X.s₀.heap.objs.size
  noex : ∀ b o, X.base.get? b = some o → b ∉ X.ex
  exfs : ∀ b ∈ X.ex, b ∉ X.fs
  funs : X.s₀.heap.FunFrames X.base X.outer
  frf : ∀ b ∈ X.fs, X.H₀ b = none

structure Inv (X : Cx) (pins : List (Addr × Obj)) (σ : List (Option V)) (H : Hp) (s : Shared) : Prop where
  ok : X.Ok
  os : s.os = X.s₀.os
  bare : AllBare s.gens
  base : Un X.fs X.ex X.H₀ H X.s₀.heap s.heap
  loc : ∃ m, s.heap.Ns X.env.locals m ∧ ∀ (i : Nat) (x : Str) (v : V), X.N[i]? = some x → σ[i]? = some (some v) → Vis X.env.scope x → ∃ u, RelV v u ∧ Look X.env s.heap m x u
  cell : ∀ x c, X.env.cells.lookup x = some c → ∃ v, s.heap.IsCell c v
  free : H X.env.locals = none
  freeC : ∀ x c, X.env.cells.lookup x = some c → H c = none
  pin : ∀ p ∈ X.pn ++ pins, s.heap.get? p.1 = some p.2 ∧ H p.1 = none ∧ p.1 ≠ X.env.locals ∧ p.1 ∉ X.fs ∧ ∀ v, p.2.data ≠ .cell v
  hok : HOk X.prog X.w H s.heap
  len : σ.length = X.N.length

section
variable {X : Cx} {pins : List (Addr × Obj)} {σ : List (Option V)} {H H' : Hp} {s : Shared} {h' : Heap}

theorem Cx.Ok.nofr (ok : X.Ok) {b : Addr} {o : Obj} (e : X.base.get? b = some o) : b ∉ X.fs := fun hb => by
  have := (ok.funs.mem hb).1
  rw [e] at this; cases this
theorem Inv.bs (I : Inv X pins σ H s) : ∀ b o, X.base.get? b = some o → s.heap.get? b = some o ∧ H b = none := fun b o e =>
  ⟨I.base.keep b o (I.ok.bs b o e).1 (I.ok.bs b o e).2 (I.ok.nofr e) (I.ok.noex b o e), I.base.free b o (I.ok.bs b o e).1 (I.ok.bs b o e).2 (I.ok.noex b o e)⟩
theorem Inv.bk (I : Inv X pins σ H s) : ∀ b o, X.base.get? b = some o → s.heap.get? b = some o := fun b o e => (I.bs b o e).1
theorem Inv.mod (I : Inv X pins σ H s) : Mod X.K X.mg X.base := I.ok.mod
theorem Inv.kIn (I : Inv X pins σ H s) : X.K.In s.heap := I.ok.mod.kin.keeps I.bk
theorem Inv.lt (I : Inv X pins σ H s) : X.env.locals < s.heap.objs.size := let ⟨_, hn, _⟩ := I.loc; hn.lt
theorem Inv.sz (I : Inv X pins σ H s) : X.s₀.heap.objs.size ≤ s.heap.objs.size := Nat.le_trans I.ok.above (Nat.le_of_lt I.lt)
theorem Inv.nofs (I : Inv X pins σ H s) {a : Addr} (h : s.heap.objs.size ≤ a) : a ∉ X.fs := fun hb => by
  obtain ⟨_, o, ho, _⟩ := I.ok.funs.mem hb
  exact absurd (Nat.lt_of_lt_of_le (Heap.lt_size ho) (Nat.le_trans I.sz h)) (Nat.lt_irrefl _)
theorem Inv.cne (I : Inv X pins σ H s) : ∀ x c, X.env.cells.lookup x = some c → c ≠ X.env.locals := fun x c e z => by
  obtain ⟨v, o, ho, hd⟩ := I.cell x c e
  obtain ⟨m, ⟨o', es, ep, ho', hd', _⟩, _⟩ := I.loc
  rw [z, ho'] at ho; cases ho; rw [hd'] at hd; cases hd
theorem Inv.funs (I : Inv X pins σ H s) : s.heap.FunFrames X.base X.outer := by
  have all : ∀ (l : List Env), (∀ b ∈ frs l, b ∈ X.fs) → X.s₀.heap.FunFrames X.base l → s.heap.FunFrames X.base l := by
    intro l
    induction l with
    | nil => intro _ _; trivial
    | cons env r ih =>
      intro hs hl
      obtain ⟨hk, ⟨L, o, hf, hn, ho, hd⟩, hr⟩ := hl
      have hL : L ∈ X.fs := hs L (by unfold frs; rw [List.filterMap_cons, hf]; exact List.mem_cons_self)
      obtain ⟨sl, e⟩ := I.base.slot L o ho (I.ok.frf L hL) hL fun z => I.ok.exfs L z hL
      exact ⟨hk, ⟨L, _, hf, hn, e, hd⟩, ih (fun b hb => hs b (by unfold frs; rw [List.filterMap_cons, hf]; exact List.mem_cons_of_mem _ hb)) hr⟩
  exact all X.outer (fun _ hb => hb) I.ok.funs

/-- the frames that run, for a call -/
theorem Inv.stack (I : Inv X pins σ H s) : s.heap.FunFrames X.base X.stack := by
  rcases I.ok.stk with e | ⟨e, hf⟩
  · rw [e]; exact I.funs
  · rw [e]
    obtain ⟨m, hn, _⟩ := I.loc
    refine .cons (by rw [I.ok.kind]; decide) hf hn ?_ I.funs
    exact Heap.get?_none_of_le (Nat.le_trans I.ok.bsz I.ok.above)
theorem Inv.stkSub (I : Inv X pins σ H s) : ∀ b ∈ frs X.stack, b ∈ X.env.locals :: X.fs := fun b hb => by
  rcases I.ok.stk with e | ⟨e, hf⟩
  · rw [e] at hb; exact List.mem_cons_of_mem _ hb
  · rw [e] at hb
    unfold frs at hb
    rw [List.filterMap_cons, hf] at hb
    exact hb
theorem Inv.stkFree (I : Inv X pins σ H s) : ∀ b ∈ frs X.stack, H b = none := fun b hb => by
  rcases List.mem_cons.mp (I.stkSub b hb) with e | hb
  · rw [e]; exact I.free
  · obtain ⟨_, o, ho, _⟩ := I.ok.funs.mem hb
    exact I.base.free b o ho (I.ok.frf b hb) fun z => I.ok.exfs b z hb

/-- THE STEP: the untracked objects but the frame and the records at ch are kept (the callers' frames up to slots), the frame's map is kept, the new abstract heap is held -/
theorem Inv.step {g' : Array GenState} {t' : Nat} {d' : Drawn} {ch : List Addr} (I : Inv X pins σ H s)
    (hch : ∀ b ∈ ch, (b ∈ X.ex ∨ X.s₀.heap.objs.size ≤ b) ∧ b ≠ X.env.locals ∧ (∀ x c, X.env.cells.lookup x = some c → c ≠ b) ∧ ∀ p ∈ X.pn ++ pins, p.1 ≠ b)
    (keep : ∀ b o, b ≠ X.env.locals → b ∉ X.fs → b ∉ ch → s.heap.get? b = some o → H b = none → h'.get? b = some o)
    (slot : ∀ b o, b ≠ X.env.locals → b ∈ X.fs → b ∉ ch → s.heap.get? b = some o → H b = none → ∃ sl, h'.get? b = some { o with slots := sl }) (free : ∀ b o, b ∉ ch → s.heap.get? b = some o → H b = none → H' b = none)
    (there : ∀ b o, b ∉ ch → s.heap.get? b = some o → ∃ o', h'.get? b = some o')
    (tups : ∀ b xs, H b = some (.tup xs) → H' b = some (.tup xs)) (frzs : ∀ b o u, H b = some (.frz o u) → H' b = some (.frz o u)) (tbls : ∀ b ps, H b = some (.tbl ps) → ∃ more, H' b = some (.tbl (ps ++ more)))
    (ns : ∀ m, s.heap.Ns X.env.locals m → h'.Ns X.env.locals m) (hok : HOk X.prog X.w H' h') (hg : AllBare g') :
    Inv X pins σ H' { s with heap := h', gens := g', drawn := d', toks := t' } := by
  have neL : ∀ b o, X.s₀.heap.get? b = some o → b ≠ X.env.locals := fun b o e => Nat.ne_of_lt (Nat.lt_of_lt_of_le (Heap.lt_size e) I.ok.above)
  have neC : ∀ b o, X.s₀.heap.get? b = some o → b ∉ X.ex → b ∉ ch := fun b o e hx hb => by
    rcases (hch b hb).1 with z | z
    · exact hx z
    · exact absurd (Nat.lt_of_lt_of_le (Heap.lt_size e) z) (Nat.lt_irrefl _)
  have cellK : ∀ x c, X.env.cells.lookup x = some c → ∀ v, s.heap.IsCell c v → h'.IsCell c v := fun x c e v ⟨o, ho, hd⟩ => by
    have nch : c ∉ ch := fun z => (hch c z).2.2.1 x c e rfl
    by_cases hc : c ∈ X.fs
    · obtain ⟨sl, q⟩ := slot c o (I.cne x c e) hc nch ho (I.freeC x c e)
      exact ⟨_, q, hd⟩
    · exact ⟨o, keep c o (I.cne x c e) hc nch ho (I.freeC x c e), hd⟩
  refine ⟨I.ok, I.os, hg, ⟨fun b o e n hb hx => ?_, fun b o e n hb hx => ?_, fun b o e n hx => ?_, fun b o e hx => ?_, fun b xs e => tups b xs (I.base.tups b xs e), fun b o xs e => frzs b o xs (I.base.frzs b o xs e), fun b ps e => ?_⟩, ?_, fun x c e => ?_, ?_, fun x c e => ?_, fun p hp => ?_, hok, I.len⟩
  · exact keep b o (neL b o e) hb (neC b o e hx) (I.base.keep b o e n hb hx) (I.base.free b o e n hx)
  · obtain ⟨sl, e1⟩ := I.base.slot b o e n hb hx
    obtain ⟨sl', e2⟩ := slot b _ (neL b o e) hb (neC b o e hx) e1 (I.base.free b o e n hx)
    exact ⟨sl', e2⟩
  · obtain ⟨o', e1⟩ := I.base.there b o e hx
    exact free b o' (neC b o e hx) e1 (I.base.free b o e n hx)
  · obtain ⟨o', e1⟩ := I.base.there b o e hx
    exact there b o' (neC b o e hx) e1
  · obtain ⟨m1, e1⟩ := I.base.tbls b ps e
    obtain ⟨m2, e2⟩ := tbls b _ e1
    exact ⟨m1 ++ m2, by rw [e2, Array.append_assoc]⟩
  · obtain ⟨m, hn, hl⟩ := I.loc
    refine ⟨m, ns m hn, fun i x v e1 e2 e3 => ?_⟩
    obtain ⟨u, r, l⟩ := hl i x v e1 e2 e3
    refine ⟨u, r, ?_⟩
    rcases l with l | ⟨k, c, e, z⟩
    · exact .inl l
    · exact .inr ⟨k, c, e, cellK x c e _ z⟩
  · obtain ⟨v, z⟩ := I.cell x c e
    exact ⟨v, cellK x c e v z⟩
  · obtain ⟨m, ⟨o, _, _, ho, _⟩, _⟩ := I.loc
    exact free _ o (fun z => (hch _ z).2.1 rfl) ho I.free
  · obtain ⟨v, o, ho, hd⟩ := I.cell x c e
    exact free c o (fun z => (hch c z).2.2.1 x c e rfl) ho (I.freeC x c e)
  · obtain ⟨e, n, ne, nf, d⟩ := I.pin p hp
    have nch : p.1 ∉ ch := fun z => (hch p.1 z).2.2.2 p hp rfl
    exact ⟨keep p.1 p.2 ne nf nch e n, free p.1 p.2 nch e n, ne, nf, d⟩
/-- .. where the frame's own object is kept too -/
theorem Inv.un {t' : Nat} (I : Inv X pins σ H s) (u : Un X.fs [] H H' s.heap h') (hok : HOk X.prog X.w H' h') : Inv X pins σ H' { s with heap := h', toks := t' } := by
  obtain ⟨m, ⟨o, es, ep, ho, r⟩, _⟩ := id I.loc
  obtain ⟨sl, hL⟩ := u.any ho I.free (by simp)
  exact I.step (g' := s.gens) (d' := s.drawn) (ch := []) (fun _ z => nomatch z) (fun b o _ hb _ e n => u.keep b o e n hb (by simp)) (fun b o _ hb _ e n => u.slot b o e n hb (by simp)) (fun b o _ e n => u.free b o e n (by simp)) (fun b o _ e => u.there b o e (by simp)) u.tups u.frzs u.tbls (fun m' hm => by
    obtain ⟨o', es', ep', ho', r'⟩ := hm
    rw [ho] at ho'; cases ho'
    exact ⟨_, es', ep', hL, r'⟩) hok I.bare
/-- behind a call (or a comprehension's block): the slots of this frame may have changed too, the records at ch may have turned -/
theorem Inv.call {g' : Array GenState} {t' : Nat} {d' : Drawn} {ch : List Addr} (I : Inv X pins σ H s) (u : Un (frs X.stack) ch H H' s.heap h') (hok : HOk X.prog X.w H' h') (hg : AllBare g')
    (hch : ∀ b ∈ ch, (b ∈ X.ex ∨ X.s₀.heap.objs.size ≤ b) ∧ b ≠ X.env.locals ∧ (∀ x c, X.env.cells.lookup x = some c → c ≠ b) ∧ ∀ p ∈ X.pn ++ pins, p.1 ≠ b) :
    Inv X pins σ H' { s with heap := h', gens := g', drawn := d', toks := t' } := by
  obtain ⟨m, ⟨o, es, ep, ho, r⟩, _⟩ := id I.loc
  obtain ⟨sl, hL⟩ := u.any ho I.free fun z => (hch _ z).2.1 rfl
  exact I.step (ch := ch) hch (fun b o hL hb hc e n => u.keep b o e n (fun z => (List.mem_cons.mp (I.stkSub b z)).elim hL hb) hc) (fun b o _ _ hc e n => u.any e n hc) (fun b o hc e n => u.free b o e n hc) (fun b o hc e => u.there b o e hc) u.tups u.frzs u.tbls (fun m' hm => by
    obtain ⟨o', es', ep', ho', r'⟩ := hm
    rw [ho] at ho'; cases ho'
    exact ⟨_, es', ep', hL, r'⟩) hok hg
/-- an untracked record of ours (an iterator) has turned -/
theorem Inv.turned {t' : Nat} {it : Addr} (I : Inv X pins σ H s) (k : ∀ b o, b ≠ it → s.heap.get? b = some o → h'.get? b = some o) (hn : H it = none) (hL : it ≠ X.env.locals)
    (h1 : it ∈ X.ex ∨ X.s₀.heap.objs.size ≤ it) (h2 : ∀ x c, X.env.cells.lookup x = some c → c ≠ it) (h3 : ∀ p ∈ X.pn ++ pins, p.1 ≠ it) : Inv X pins σ H { s with heap := h', toks := t' } := by
  have nit : ∀ b u, H b = some u → b ≠ it := fun b u e z => by rw [z, hn] at e; cases e
  refine I.step (g' := s.gens) (d' := s.drawn) (ch := [it]) (fun b hb => ?_) (fun b o _ _ hc e _ => k b o (fun z => hc (by simp [z])) e) (fun b o _ _ hc e _ => ⟨o.slots, k b o (fun z => hc (by simp [z])) e⟩) (fun _ _ _ _ n => n)
    (fun b o hc e => ⟨o, k b o (fun z => hc (by simp [z])) e⟩) (fun _ _ e => e) (fun _ _ _ e => e) (fun b ps e => ⟨#[], by rw [e]; simp⟩) (fun m hm => ?_) (fun b u e => ?_) I.bare
  · have e : b = it := by simpa using hb
    subst e
    exact ⟨h1, hL, h2, h3⟩
  · obtain ⟨o, es, ep, ho, r⟩ := hm
    exact ⟨o, es, ep, k _ o (Ne.symm hL) ho, r⟩
  · refine (I.hok b u e).stay (fun c v hc q => k c v ?_ q) (fun _ q => q) fun _ _ q => q
    rcases hc with z | z
    · rw [z]; exact nit b u e
    · exact nit c _ z
theorem Inv.tok (I : Inv X pins σ H s) (t : Nat) : Inv X pins σ H { s with toks := t } := I.un (h' := s.heap) (t' := t) Un.refl I.hok
/-- all objects kept -/
theorem Inv.kept {t' : Nat} (I : Inv X pins σ H s) (k : ∀ b u, s.heap.get? b = some u → h'.get? b = some u) : Inv X pins σ H { s with heap := h', toks := t' } := I.un (Un.kept k) (I.hok.kept k)
/-- a new object laid and tracked -/
theorem Inv.laid {a : Addr} {o : HO} {t' : Nat} (I : Inv X pins σ H s) (k : ∀ b u, s.heap.get? b = some u → h'.get? b = some u) (hp : s.heap.objs.size ≤ a) (new : ObjOk X.prog X.w (upd H a o) h' a o) :
    Inv X pins σ (upd H a o) { s with heap := h', toks := t' } := I.un (Un.laid k hp (I.hok.fresh hp)) (I.hok.laid k hp new)
/-- an object written -/
theorem Inv.write {x e : Addr} {o : HO} {t' : Nat} (I : Inv X pins σ H s) (mu : Mut (H x)) (he : e = x ∨ H e = some (.own x)) (k : ∀ b u, b ≠ e → s.heap.get? b = some u → h'.get? b = some u) (heo : ∃ u, h'.get? e = some u)
    (new : ObjOk X.prog X.w (upd H x o) h' x o) : Inv X pins σ (upd H x o) { s with heap := h', toks := t' } := I.un (Un.write mu he k heo) (I.hok.write mu he k heo new)
theorem Inv.pins_of {pins' : List (Addr × Obj)} (I : Inv X pins σ H s) (h : ∀ p ∈ pins', s.heap.get? p.1 = some p.2 ∧ H p.1 = none ∧ p.1 ≠ X.env.locals ∧ p.1 ∉ X.fs ∧ ∀ v, p.2.data ≠ .cell v) : Inv X pins' σ H s :=
  ⟨I.ok, I.os, I.bare, I.base, I.loc, I.cell, I.free, I.freeC, fun p hp => (List.mem_append.mp hp).elim (fun z => I.pin p (List.mem_append_left _ z)) (h p), I.hok, I.len⟩

theorem nodup_ix {N : List Str} (hN : N.Nodup) {i j : Nat} {x : Str} (a : N[i]? = some x) (b : N[j]? = some x) : i = j := by
  obtain ⟨h1, e1⟩ := List.getElem?_eq_some_iff.mp a
  obtain ⟨h2, e2⟩ := List.getElem?_eq_some_iff.mp b
  exact (List.getElem_inj hN).mp (e1.trans e2.symm)

/-- a name is stored; what changed -/
theorem store_ok2 {M : Model} {A : Around} {E : Value → Shared → Prop} {i : Nat} {x : Str} {v : V} {u : Value} {Q : Unit → Shared → Prop} (I : Inv X pins σ H s) (hN : X.N.Nodup) (hi : X.N[i]? = some x) (hx : Loc X.env.scope x) (r : RelV v u)
    (h : ∀ s', Inv X pins (σ.set i (some v)) H s' → (∃ a, Heap.SameBut a s.heap s'.heap ∧ (a = X.env.locals ∨ X.env.cells.lookup x = some a)) → Q () s') (hf : X.fn x = true ∨ X.env.scope.names.lookup x = some .local := by first | exact .inl rfl | exact .inr rfl | assumption) : wpAny M A (storeName X.env x u) Q E s := by
  obtain ⟨m, hn, hl⟩ := id I.loc
  have hcls : (X.env.scope.kind == .class || (X.env.scope.kind == .module && X.env.locals != X.env.globals)) = false := by rw [I.ok.kind]; rfl
  have hiσ : i < σ.length := by rw [I.len]; exact (List.getElem?_eq_some_iff.mp hi).1
  have cne := I.cne
  have tracked : ∀ {a : Addr} {h' : Heap}, (∃ o, s.heap.get? a = some o ∧ H a = none) → Heap.SameBut a s.heap h' → HOk X.prog X.w H h' := fun {a h'} ha hs b ob e => by
    obtain ⟨_, _, hfree⟩ := ha
    refine (I.hok b ob e).stay (fun c w' hc q => (hs.2 c ?_).trans q) (fun _ q => q) fun _ _ q => q
    rintro rfl
    rcases hc with rfl | hc
    · rw [hfree] at e; cases e
    · rw [hfree] at hc; cases hc
  rcases hx with hk | hk
  · refine wpAny_storeName_local hk hn (fun h' hn' hs => ?_) hcls
    obtain ⟨oL, _, _, hoL, _⟩ := id hn
    refine h _ ⟨I.ok, I.os, I.bare, ⟨fun b o e n hb hx => ?_, fun b o e n hb hx => ?_, I.base.free, fun b o e hx => ?_, I.base.tups, I.base.frzs, I.base.tbls⟩, ⟨_, hn', fun j y v' e1 e2 e3 => ?_⟩, fun y c e => ?_, I.free, I.freeC, fun p hp => ?_, tracked ⟨oL, hoL, I.free⟩ hs, by simpa using I.len⟩ ⟨_, hs, .inl rfl⟩
    · exact (hs.2 b (Nat.ne_of_lt (Nat.lt_of_lt_of_le (Heap.lt_size e) I.ok.above))).trans (I.base.keep b o e n hb hx)
    · obtain ⟨sl, e1⟩ := I.base.slot b o e n hb hx
      exact ⟨sl, (hs.2 b (Nat.ne_of_lt (Nat.lt_of_lt_of_le (Heap.lt_size e) I.ok.above))).trans e1⟩
    · obtain ⟨o', e1⟩ := I.base.there b o e hx
      exact ⟨o', (hs.2 b (Nat.ne_of_lt (Nat.lt_of_lt_of_le (Heap.lt_size e) I.ok.above))).trans e1⟩
    · by_cases hj : j = i
      · subst hj
        rw [hi] at e1; cases e1
        rw [List.getElem?_set_self hiσ] at e2
        cases e2
        exact ⟨u, r, .inl ⟨hk, by simp⟩⟩
      · rw [List.getElem?_set_ne (Ne.symm hj)] at e2
        obtain ⟨u', r', q⟩ := hl j y v' e1 e2 e3
        refine ⟨u', r', ?_⟩
        rcases q with ⟨k, e⟩ | ⟨k, c, e, z⟩
        · refine .inl ⟨k, ?_⟩
          have : y ≠ x := fun e => hj (nodup_ix hN e1 (e ▸ hi))
          simp [this, e]
        · exact .inr ⟨k, c, e, z.sameBut hs (cne y c e)⟩
    · obtain ⟨w', z⟩ := I.cell y c e
      exact ⟨w', z.sameBut hs (cne y c e)⟩
    · obtain ⟨e, n, ne, nf, d⟩ := I.pin p hp
      exact ⟨(hs.2 p.1 ne).trans e, n, ne, nf, d⟩
  · have hfn : X.fn x = true := by
      rcases hf with z | z
      · exact z
      · rw [z] at hk; cases hk
    obtain ⟨c, hc⟩ := I.ok.has x (.inl hk)
    obtain ⟨w', z⟩ := I.cell x c hc
    refine wpAny_storeName_cell I.ok.kind hk hc z (fun h' hc' hs => ?_)
    obtain ⟨oc, hoc, hocd⟩ := id z
    refine h { s with heap := h' } ⟨I.ok, I.os, I.bare, ⟨fun b o e n hb hx => ?_, fun b o e n hb hx => ?_, I.base.free, fun b o e hx => ?_, I.base.tups, I.base.frzs, I.base.tbls⟩, ⟨m, hn.sameBut hs (Ne.symm (cne x c hc)), fun j y v' e1 e2 e3 => ?_⟩, fun y c' e => ?_, I.free, I.freeC, fun p hp => ?_, tracked ⟨oc, hoc, I.freeC x c hc⟩ hs, by simpa using I.len⟩ ⟨c, hs, .inr hc⟩
    · exact (hs.2 b (Nat.ne_of_lt (Nat.lt_of_lt_of_le (Heap.lt_size e) (I.ok.cab x c hfn hc)))).trans (I.base.keep b o e n hb hx)
    · obtain ⟨sl, e1⟩ := I.base.slot b o e n hb hx
      exact ⟨sl, (hs.2 b (Nat.ne_of_lt (Nat.lt_of_lt_of_le (Heap.lt_size e) (I.ok.cab x c hfn hc)))).trans e1⟩
    · obtain ⟨o', e1⟩ := I.base.there b o e hx
      exact ⟨o', (hs.2 b (Nat.ne_of_lt (Nat.lt_of_lt_of_le (Heap.lt_size e) (I.ok.cab x c hfn hc)))).trans e1⟩
    · by_cases hj : j = i
      · subst hj
        rw [hi] at e1; cases e1
        rw [List.getElem?_set_self hiσ] at e2
        cases e2
        exact ⟨u, r, .inr ⟨.inl hk, c, hc, hc'⟩⟩
      · rw [List.getElem?_set_ne (Ne.symm hj)] at e2
        obtain ⟨u', r', q⟩ := hl j y v' e1 e2 e3
        refine ⟨u', r', ?_⟩
        rcases q with q | ⟨k, c', e, z'⟩
        · exact .inl q
        · refine .inr ⟨k, c', e, z'.sameBut hs ?_⟩
          rintro rfl
          exact hj (nodup_ix hN e1 (I.ok.inj _ _ _ e hc ▸ hi))
    · by_cases hcc : c' = c
      · subst hcc; exact ⟨_, hc'⟩
      · obtain ⟨w2, z2⟩ := I.cell y c' e
        exact ⟨w2, z2.sameBut hs hcc⟩
    · obtain ⟨e, n, ne, nf, d⟩ := I.pin p hp
      refine ⟨(hs.2 p.1 ?_).trans e, n, ne, nf, d⟩
      intro q
      rw [q, hoc] at e
      have q' : oc = p.2 := Option.some.inj e
      exact d w' (by rw [← q']; exact hocd)
theorem store_ok {M : Model} {A : Around} {E : Value → Shared → Prop} {i : Nat} {x : Str} {v : V} {u : Value} {Q : Unit → Shared → Prop} (I : Inv X pins σ H s) (hN : X.N.Nodup) (hi : X.N[i]? = some x) (hx : Loc X.env.scope x) (r : RelV v u)
    (h : ∀ s', Inv X pins (σ.set i (some v)) H s' → Q () s') (hf : X.fn x = true ∨ X.env.scope.names.lookup x = some .local := by first | exact .inl rfl | exact .inr rfl | assumption) : wpAny M A (storeName X.env x u) Q E s :=
  store_ok2 I hN hi hx r (fun s' I' _ => h s' I') hf
end

/-! ### the judgements -/
/-- an exception: its class, its own dict's address (where it has one), the abstract heap behind it -/
abbrev XK := Value → Option Addr → Hp → Prop
abbrev St := List (Option V)
abbrev VK := V → Hp → Prop
/-- an expression's reading; a test's; an argument list's -/
abbrev TE := St → Hp → VK → Prop
abbrev TT := St → Hp → (Bool → Hp → Prop) → Prop
abbrev TA := St → Hp → (List V → Hp → Prop) → Prop
/-- what is wanted behind a statement -/
structure Ends where
  nx : St → Hp → Prop
  rt : VK
  bk : St → Hp → Prop := fun _ _ => False
  ct : St → Hp → Prop := fun _ _ => False
abbrev TS := Ends → St → Hp → Prop

def EP (X : Cx) (pins : List (Addr × Obj)) (σ : St) (Q : VK) (u : Value) (s' : Shared) : Prop := ∃ v H', Inv X pins σ H' s' ∧ RelV v u ∧ Q v H'
def TP (X : Cx) (pins : List (Addr × Obj)) (σ : St) (Q : Bool → Hp → Prop) (b : Bool) (s' : Shared) : Prop := ∃ H', Inv X pins σ H' s' ∧ Q b H'
def AP (X : Cx) (pins : List (Addr × Obj)) (σ : St) (Q : List V → Hp → Prop) (us : List Value) (s' : Shared) : Prop := ∃ vs H', Inv X pins σ H' s' ∧ Vals vs us ∧ Q vs H'
def SP (X : Cx) (pins : List (Addr × Obj)) (D : Ends) (f : Flow) (s' : Shared) : Prop :=
  match f with
  | .next => ∃ σ' H', Inv X pins σ' H' s' ∧ D.nx σ' H'
  | .brk => ∃ σ' H', Inv X pins σ' H' s' ∧ D.bk σ' H'
  | .cont => ∃ σ' H', Inv X pins σ' H' s' ∧ D.ct σ' H'
  | .ret u => ∃ v σ' H', Inv X pins σ' H' s' ∧ RelV v u ∧ D.rt v H'

def PE (X : Cx) (e : Expr) (t : TE) : Prop :=
  ∀ (pins : List (Addr × Obj)) (s : Shared) (σ : St) (H : Hp) (Q : VK), Inv X pins σ H s → t σ H Q → wpAny (model X.prog X.w) X.A (eval e X.env) (EP X pins σ Q) X.xe s
def PT (X : Cx) (e : Expr) (t : TT) : Prop :=
  ∀ (pins : List (Addr × Obj)) (s : Shared) (σ : St) (H : Hp) (Q : Bool → Hp → Prop), Inv X pins σ H s → t σ H Q → wpAny (model X.prog X.w) X.A (isTrue e X.env (eval e X.env)) (TP X pins σ Q) X.xe s
/-- an argument list (no star), from the left -/
def PA (X : Cx) (es : List Expr) (t : TA) : Prop :=
  ∀ (pos : Pos) (pins : List (Addr × Obj)) (s : Shared) (σ : St) (H : Hp) (Q : List V → Hp → Prop), Inv X pins σ H s → t σ H Q → wpAny (model X.prog X.w) X.A (spliced (backTo pos (starEach es X.env))) (AP X pins σ Q) X.xe s
def PS (X : Cx) (st : Stmt) (t : TS) : Prop :=
  ∀ (pins : List (Addr × Obj)) (s : Shared) (σ : St) (H : Hp) (D : Ends), Inv X pins σ H s → t D σ H → wpAny (model X.prog X.w) X.A (exec st X.env) (SP X pins D) X.xe s
def PSs (X : Cx) (st : List Stmt) (t : TS) : Prop :=
  ∀ (pins : List (Addr × Obj)) (s : Shared) (σ : St) (H : Hp) (D : Ends), Inv X pins σ H s → t D σ H → wpAny (model X.prog X.w) X.A (execs st X.env) (SP X pins D) X.xe s
/-- weaken the end -/
theorem thn {α : Type} {t : Sem α} {Q Q' : α → Shared → Prop} {M : Model} {A : Around} {E : Value → Shared → Prop} {s : Shared} (h : wpAny M A t Q E s) (hQ : ∀ a s, Q a s → Q' a s) : wpAny M A t Q' E s := wpAny_mono h hQ fun _ _ x => x
end L2

namespace L2
open PySem PySem.Spec PyProof.Rows
section
variable {X : Cx}

/-! ### names and constants -/
def tVar (i : Nat) : TE := fun σ H Q => ∃ v, σ[i]? = some (some v) ∧ Q v H
def tC (v : V) : TE := fun _ H Q => Q v H
theorem pe_var {i : Nat} {x : Str} {pos : Pos} (hN : X.N[i]? = some x) (hv : Vis X.env.scope x) (hd : (x == ("__debug__" : Str)) = false := by decide) (hcd : (x == ("__classdict__" : Str)) = false := by decide) : PE X (.Name x pos) (tVar i) := by
  intro pins s σ H Q I h
  obtain ⟨v, e, h⟩ := h
  obtain ⟨m, hn, hl⟩ := I.loc
  obtain ⟨u, r, l⟩ := hl i x v hN e hv
  have fin : EP X pins σ Q u s := ⟨v, H, I, r, h⟩
  rcases l with ⟨hk, hm⟩ | ⟨hk, c, hc, hcell⟩
  · exact wpAny_Name (wpAny_loadName_local I.ok.kind hk hn hm fin) hd
  · rcases hk with hk | hk
    · exact wpAny_Name (wpAny_loadName_cell I.ok.kind hk hc hcell fin) hd
    · exact wpAny_Name (wpAny_loadName_free I.ok.kind hk hc hcell fin hcd) hd
theorem pe_int {i j pos} : PE X (.Constant (.int i) j pos) (tC (.int i)) := fun _ _ _ H _ I h => wpAny_Constant_int ⟨.int i, H, I.tok _, ⟨_, rfl⟩, h⟩
theorem pe_str {x j pos} : PE X (.Constant (.str x) j pos) (tC (.str x)) := fun _ _ _ H _ I h => Calls.Constant_str ⟨.str x, H, I.tok _, ⟨_, rfl⟩, h⟩

/-- a global name of the def -/
def Gl (X : Cx) (x : Str) : Prop := X.env.kindOf x = some .globalImplicit
theorem ld_glob {E : Value → Shared → Prop} {pins : List (Addr × Obj)} {s : Shared} {σ : St} {H : Hp} {x : Str} {u : Value} {pos : Pos} {Q : Value → Shared → Prop} (I : Inv X pins σ H s) (hg : Gl X x) (hm : X.mg x = some u) (h : Q u s)
    (hd : (x == ("__debug__" : Str)) = false := by decide) : wpAny (model X.prog X.w) X.A (eval (.Name x pos) X.env) Q E s :=
  Calls.Name_function_global I.ok.kind hg (Calls.loadGlobal_global (by rw [I.ok.glob]; exact I.mod.glob.keeps I.bk) hm h) hd
theorem ld_blt {E : Value → Shared → Prop} {pins : List (Addr × Obj)} {s : Shared} {σ : St} {H : Hp} {x : Str} {u : Value} {pos : Pos} {Q : Value → Shared → Prop} (I : Inv X pins σ H s) (hg : Gl X x) (hm : X.mg x = none) (hv : bootBuiltins x = some u) (h : Q u s)
    (hn : x ≠ "__name__" := by decide) (hd : (x == ("__debug__" : Str)) = false := by decide) : wpAny (model X.prog X.w) X.A (eval (.Name x pos) X.env) Q E s := by
  obtain ⟨mb, h1, h2⟩ := I.mod.blt
  exact Calls.Name_function_global I.ok.kind hg (Calls.loadGlobal_builtin (by rw [I.ok.glob]; exact I.mod.glob.keeps I.bk) hm (by rw [I.ok.blt]; exact h1.keeps I.bk) ((h2 x hn).trans hv) h) hd
theorem pe_bltn {x : Str} {v : V} {u : Value} {pos : Pos} (hg : Gl X x) (hm : X.mg x = none) (hv : bootBuiltins x = some u) (r : RelV v u) (hn : x ≠ "__name__" := by decide) (hd : (x == ("__debug__" : Str)) = false := by decide) : PE X (.Name x pos) (tC v) :=
  fun _ _ _ H _ I h => ld_blt I hg hm hv ⟨v, H, I, r, h⟩ hn hd

/-! ### arithmetic -/
variable {a b : Expr} {ta tb : TE} {pos : Pos}
/-! ### comparisons -/
/-! ### and, or, not -/
variable {tA tB' : TT} {rest : List Expr}
/-- .. as values (bools) -/
def tAndV (ta tb : TE) : TE := fun σ H Q => ta σ H fun x H1 => ∃ c, x = .bl c ∧ if c = true then tb σ H1 Q else Q (.bl false) H1
theorem pe_one {op} {t : TE} (h : PE X a t) : PE X (.BoolOp op [a] pos) t := fun pins s σ H Q I hw => BoolOp_one (h pins s σ H Q I hw)
theorem pe_and (ha : PE X a ta) (hb : PE X (.BoolOp .And (b :: rest) pos) tb) : PE X (.BoolOp .And (a :: b :: rest) pos) (tAndV ta tb) := by
  intro pins s σ H Q I h
  refine BoolOp_and (thn (ha pins s σ H _ I h) fun v s1 ⟨x, H1, I1, r1, q1⟩ => ?_)
  obtain ⟨c, rfl, q1⟩ := q1
  cases r1
  refine wpAny_truthy_bool ?_
  cases c with
  | true => exact hb pins s1 σ H1 Q I1 q1
  | false => exact ⟨.bl false, H1, I1, rfl, q1⟩
/-- a if t else b -/
def tIf (t : TT) (ta tb : TE) : TE := fun σ H Q => t σ H fun c H1 => if c = true then ta σ H1 Q else tb σ H1 Q
theorem pe_ifExp {c : Expr} (hc : PT X c tA) (ha : PE X a ta) (hb : PE X b tb) : PE X (.IfExp c a b pos) (tIf tA ta tb) := by
  intro pins s σ H Q I h
  refine wpAny_IfExp (thn (hc pins s σ H _ I h) fun d s1 ⟨H1, I1, q1⟩ => ?_)
  cases d with
  | true => exact ha pins s1 σ H1 Q I1 q1
  | false => exact hb pins s1 σ H1 Q I1 q1
end
end L2

namespace L2
open PySem PySem.Spec PyProof.Rows

/-! ### a list, a tuple that is read: tracked, frozen, or an object of the module -/
def SqL (K : PySem.W.Frag) (H : Hp) (a : Addr) (xs : List V) : Prop :=
  Rd H a (.lst xs) ∨
    ∃ (o : Obj) (its : Array Value) (n : Nat), K.lookup a = some o ∧ o.cls = .type "list" ∧ o.dict = none ∧ o.data = .seq its n ∧ its.size ≤ sizeLine ∧ Vals xs its.toList
def SqT (K : PySem.W.Frag) (H : Hp) (a : Addr) (xs : List V) : Prop :=
  Rd H a (.tup xs) ∨
    ∃ (o : Obj) (its : Array Value) (n : Nat), K.lookup a = some o ∧ o.cls = .type "tuple" ∧ o.data = .seq its n ∧ its.size ≤ sizeLine ∧ Vals xs its.toList
def absV : Value → Option V
  | .none => some .non
  | .bool b => some (.bl b)
  | .int i _ => some (.int i)
  | .str x _ => some (.str x)
  | .bytes b _ => some (.byt b)
  | .float b _ => some (.flt b)
  | .ref a => some (.ref a)
  | .type n => some (.ty n)
  | _ => none
theorem RelV.abs {x : V} {u : Value} (r : RelV x u) : absV u = some x := by
  cases x with
  | non => cases r; rfl
  | bl _ => cases r; rfl
  | int _ => obtain ⟨t, rfl⟩ := r; rfl
  | str _ => obtain ⟨t, rfl⟩ := r; rfl
  | byt _ => obtain ⟨t, rfl⟩ := r; rfl
  | flt _ => obtain ⟨t, rfl⟩ := r; rfl
  | ref _ => cases r; rfl
  | ty _ => cases r; rfl
theorem RelV.inj {x y : V} {u : Value} (r : RelV x u) (q : RelV y u) : x = y := Option.some.inj (r.abs.symm.trans q.abs)
theorem Vals.inj : ∀ {xs ys : List V} {us : List Value}, Vals xs us → Vals ys us → xs = ys
  | _, _, _, .nil, .nil => rfl
  | _, _, _, .cons r t, .cons r' t' => by rw [r.inj r', Vals.inj t t']
section
variable {X : Cx} {pins : List (Addr × Obj)} {σ : St} {H : Hp} {s : Shared} {a : Addr} {xs ys : List V}
theorem SqL.of {K : PySem.W.Frag} (h : H a = some (.lst xs)) : SqL K H a xs := .inl (.inl h)
theorem SqT.of {K : PySem.W.Frag} (h : H a = some (.tup xs)) : SqT K H a xs := .inl (.inl h)
theorem Inv.list (I : Inv X pins σ H s) (h : SqL X.K H a xs) : ∃ its : List Value, Vals xs its ∧ PlainL s.heap a its.toArray ∧ xs.length ≤ sizeLine := by
  rcases h with h | ⟨o, its, n, hk, hc, hd, hs, hz, r⟩
  · obtain ⟨z, its, n, r, e⟩ := h.ok I.hok
    exact ⟨its, r, ⟨_, n, e, rfl, rfl, rfl⟩, z⟩
  · refine ⟨its.toList, r, ⟨o, n, I.kIn a o hk, hc, hd, by simpa using hs⟩, ?_⟩
    have e := r.length
    simp only [Array.length_toList] at e
    omega
theorem Inv.tuple (I : Inv X pins σ H s) (h : SqT X.K H a xs) : ∃ its : List Value, Vals xs its ∧ IsTup s.heap a its.toArray ∧ xs.length ≤ sizeLine := by
  rcases h with h | ⟨o, its, n, hk, hc, hs, hz, r⟩
  · obtain ⟨z, its, r, p⟩ := h.ok I.hok
    exact ⟨its, r, p, z⟩
  · refine ⟨its.toList, r, ⟨o, I.kIn a o hk, hc, n, by simpa using hs⟩, ?_⟩
    have e := r.length
    simp only [Array.length_toList] at e
    omega
theorem Inv.list_inj (I : Inv X pins σ H s) (h : SqL X.K H a xs) (h' : SqL X.K H a ys) : xs = ys := by
  obtain ⟨its, r, ⟨o, n, e, _, _, d⟩, _⟩ := I.list h
  obtain ⟨its', r', ⟨o', n', e', _, _, d'⟩, _⟩ := I.list h'
  rw [e] at e'; cases e'
  rw [d] at d'
  injection d' with d1 _
  have : its = its' := by simpa using congrArg Array.toList d1
  subst this
  exact r.inj r'
theorem Inv.tuple_inj (I : Inv X pins σ H s) (h : SqT X.K H a xs) (h' : SqT X.K H a ys) : xs = ys := by
  obtain ⟨its, r, ⟨o, e, _, n, d⟩, _⟩ := I.tuple h
  obtain ⟨its', r', ⟨o', e', _, n', d'⟩, _⟩ := I.tuple h'
  rw [e] at e'; cases e'
  rw [d] at d'
  injection d' with d1 _
  have : its = its' := by simpa using congrArg Array.toList d1
  subst this
  exact r.inj r'
end

/-! ### another wish about exceptions -/
abbrev Cx.wish (X : Cx) (E : Value → Shared → Prop) : Cx := { X with xe := E }
/-- no exception leaves -/
abbrev Cx.nox (X : Cx) : Cx := X.wish fun _ _ => False
theorem Cx.Ok.wish {X : Cx} (ok : X.Ok) (E : Value → Shared → Prop) : (X.wish E).Ok :=
  ⟨ok.mod, ok.kind, ok.glob, ok.blt, ok.above, ok.inj, ok.has, ok.cab, ok.hd, ok.frames, ok.stk, ok.exf, ok.bs, ok.bsz, ok.noex, ok.exfs, ok.funs, ok.frf⟩
theorem Cx.Ok.unwish {X : Cx} {E : Value → Shared → Prop} (ok : (X.wish E).Ok) : X.Ok :=
  ⟨ok.mod, ok.kind, ok.glob, ok.blt, ok.above, ok.inj, ok.has, ok.cab, ok.hd, ok.frames, ok.stk, ok.exf, ok.bs, ok.bsz, ok.noex, ok.exfs, ok.funs, ok.frf⟩
section
variable {X : Cx} {pins : List (Addr × Obj)} {σ : St} {H : Hp} {s : Shared} {E : Value → Shared → Prop}
theorem Inv.wish (I : Inv X pins σ H s) (E : Value → Shared → Prop) : Inv (X.wish E) pins σ H s := ⟨I.ok.wish E, I.os, I.bare, I.base, I.loc, I.cell, I.free, I.freeC, I.pin, I.hok, I.len⟩
theorem Inv.unwish (I : Inv (X.wish E) pins σ H s) : Inv X pins σ H s := ⟨I.ok.unwish, I.os, I.bare, I.base, I.loc, I.cell, I.free, I.freeC, I.pin, I.hok, I.len⟩
theorem SP.unwish {D : Ends} {f : Flow} {s' : Shared} (h : SP (X.wish E) pins D f s') : SP X pins D f s' := by
  cases f with
  | next => obtain ⟨σ', H', I, q⟩ := h; exact ⟨σ', H', I.unwish, q⟩
  | brk => obtain ⟨σ', H', I, q⟩ := h; exact ⟨σ', H', I.unwish, q⟩
  | cont => obtain ⟨σ', H', I, q⟩ := h; exact ⟨σ', H', I.unwish, q⟩
  | ret u => obtain ⟨v, σ', H', I, r, q⟩ := h; exact ⟨v, σ', H', I.unwish, r, q⟩
theorem PSs.nox {st : List Stmt} {t : TS} (h : PSs X.nox st t) : PSs X st t := fun pins s σ H D I hw =>
  wpAny_mono (h pins s σ H D (I.wish _) hw) (fun _ _ q => q.unwish) fun _ _ z => False.elim z
end

/-! ### blocks and small statements -/
section
variable {X : Cx} {st : Stmt} {rest : List Stmt} {t u : TS} {e : Expr} {te : TE} {pos : Pos}
def tNext : TS := fun D σ H => D.nx σ H
def tSeq (t u : TS) : TS := fun D σ H => t { D with nx := u D } σ H
theorem pss_nil : PSs X [] tNext := fun _ _ σ H _ I h => wpAny_execs_nil ⟨σ, H, I, h⟩
theorem pss_cons (h1 : PS X st t) (h2 : PSs X rest u) : PSs X (st :: rest) (tSeq t u) := by
  intro pins s σ H D I h
  refine wpAny_execs_cons (thn (h1 pins s σ H { D with nx := u D } I h) fun f s1 q => ?_)
  cases f with
  | next =>
    obtain ⟨σ', H', I', q⟩ := q
    exact h2 pins s1 σ' H' D I' q
  | ret v => exact q
  | brk => exact q
  | cont => exact q
theorem pss_one (h1 : PS X st t) : PSs X [st] t := by
  intro pins s σ H D I h
  refine wpAny_execs_cons (thn (h1 pins s σ H D I h) fun f s1 q => ?_)
  cases f with
  | next => exact wpAny_execs_nil q
  | ret v => exact q
  | brk => exact q
  | cont => exact q
/-- in a def's body nothing is shown -/
theorem Inv.quiet {pins : List (Addr × Obj)} {σ : St} {H : Hp} {s : Shared} (I : Inv X pins σ H s) : interactive X.env = false := by simp [interactive, I.ok.kind]
/-- an expression whose value is dropped -/
def tDrop (te : TE) : TS := fun D σ H => te σ H fun _ H1 => D.nx σ H1
theorem ps_expr (he : PE X e te) (hs : swapsWith e none pos.line X.env = pure false := by rfl) : PS X (.Expr e pos) (tDrop te) := by
  intro pins s σ H D I h
  exact wpAny_Expr_any (thn (he pins s σ H _ I h) fun v s1 ⟨x, H1, I1, r1, q1⟩ => ⟨σ, H1, I1, q1⟩) I.quiet hs
def tRet (te : TE) : TS := fun D σ H => te σ H D.rt
theorem ps_ret (he : PE X e te) : PS X (.Return (some e) pos) (tRet te) := by
  intro pins s σ H D I h
  exact wpAny_Return_some (thn (he pins s σ H _ I h) fun v s1 ⟨x, H1, I1, r1, q1⟩ => ⟨x, σ, H1, I1, r1, q1⟩)
def tIfS (c : TT) (t u : TS) : TS := fun D σ H => c σ H fun b H1 => if b = true then t D σ H1 else u D σ H1
theorem ps_if {c : Expr} {a b : List Stmt} {tc : TT} (hc : PT X c tc) (ha : PSs X a t) (hb : PSs X b u) : PS X (.If c a b pos) (tIfS tc t u) := by
  intro pins s σ H D I h
  refine wpAny_If (thn (hc pins s σ H _ I h) fun d s1 ⟨H1, I1, q1⟩ => ?_)
  cases d with
  | true => exact ha pins s1 σ H1 D I1 q1
  | false => exact hb pins s1 σ H1 D I1 q1
end

/-! ### targets -/
abbrev TG := V → St → Hp → (St → Hp → Prop) → Prop
abbrev TGs := List V → St → Hp → (St → Hp → Prop) → Prop
def PG (X : Cx) (target : Expr) (t : TG) : Prop :=
  ∀ (pins : List (Addr × Obj)) (s : Shared) (σ : St) (H : Hp) (v : V) (u : Value) (Q : St → Hp → Prop), Inv X pins σ H s → RelV v u → t v σ H Q →
    wpAny (model X.prog X.w) X.A (assign target X.env u) (fun _ s' => ∃ σ' H', Inv X pins σ' H' s' ∧ Q σ' H') X.xe s
/-- several targets, one after another -/
def PGs (X : Cx) (ts : List Expr) (t : TGs) : Prop :=
  ∀ (pins : List (Addr × Obj)) (s : Shared) (σ : St) (H : Hp) (vs : List V) (us : List Value) (Q : St → Hp → Prop), Inv X pins σ H s → Vals vs us → t vs σ H Q →
    wpAny (model X.prog X.w) X.A (assignInOrder ((assignEach ts X.env).map (·.2)) us) (fun _ s' => ∃ σ' H', Inv X pins σ' H' s' ∧ Q σ' H') X.xe s
section
variable {X : Cx} {pos : Pos}
def gName (i : Nat) : TG := fun v σ H Q => Q (σ.set i (some v)) H
theorem pg_name {i : Nat} {x : Str} (hN : X.N.Nodup) (hi : X.N[i]? = some x) (hx : Loc X.env.scope x) (hf : X.fn x = true ∨ X.env.scope.names.lookup x = some .local := by first | exact .inl rfl | exact .inr rfl | assumption) : PG X (.Name x pos) (gName i) := by
  intro pins s σ H v u Q I r h
  exact wpAny_assign_Name (store_ok I hN hi hx r (fun s' I' => ⟨_, H, I', h⟩) hf)
def gNil : TGs := fun vs σ H Q => vs = [] ∧ Q σ H
def gCons (t : TG) (u : TGs) : TGs := fun vs σ H Q => ∃ v r, vs = v :: r ∧ t v σ H fun σ' H' => u r σ' H' Q
theorem pgs_nil : PGs X [] gNil := by
  intro pins s σ H vs us Q I r h
  obtain ⟨e, h⟩ := h
  subst e
  cases r
  exact assignInOrder_nil ⟨σ, H, I, h⟩
theorem pgs_cons {e : Expr} {es : List Expr} {t : TG} {u : TGs} (h1 : PG X e t) (h2 : PGs X es u)
    (hs : (assignEach (e :: es) X.env).map (·.2) = assign e X.env :: (assignEach es X.env).map (·.2) := by rfl) : PGs X (e :: es) (gCons t u) := by
  intro pins s σ H vs us Q I r h
  obtain ⟨v, vr, e1, h⟩ := h
  subst e1
  cases r with
  | cons r rr =>
    rw [hs]
    refine assignInOrder_cons (thn (h1 pins s σ H _ _ _ I r h) fun _ s1 ⟨σ1, H1, I1, q1⟩ => ?_)
    exact h2 pins s1 σ1 H1 _ _ Q I1 rr q1
/-- (a, b, ..) = a tuple of that length -/
def gTup (K : PySem.W.Frag) (n : Nat) (t : TGs) : TG := fun v σ H Q => ∃ a xs, v = .ref a ∧ SqT K H a xs ∧ xs.length = n ∧ t xs σ H Q
theorem pg_tup {es : List Expr} {k : Nat} {t : TGs} {n : Nat} (hc : X.calm = true) (h : PGs X es t)
    (hn : (assignEach es X.env).length = n := by rfl) (hst : (assignEach es X.env).findIdx? (·.1) = none := by rfl) : PG X (.Tuple es k pos) (gTup X.K n t) := by
  intro pins s σ H v u Q I r hw
  obtain ⟨a, xs, e1, hq, hl, hw⟩ := hw
  subst e1
  cases r
  obtain ⟨its, rv, ht, hz⟩ := I.tuple hq
  refine assign_Tuple_tuple (I.ok.hd hc) ht (by simp [hn, ← hl, rv.length]) hst fun h' hx => ?_
  have I1 : Inv X pins σ H { s with heap := h' } := I.kept (t' := s.toks) fun b o e => hx b o (Nat.ne_of_lt (Heap.lt_size e)) e
  exact h pins _ σ H xs _ Q I1 (by simpa using rv) hw
/-- target = value -/
def tAsg (te : TE) (g : TG) : TS := fun D σ H => te σ H fun x H1 => g x σ H1 D.nx
/-- name = value -/
theorem ps_set {i : Nat} {x : Str} {e : Expr} {te : TE} {pos' : Pos} (hN : X.N.Nodup) (hi : X.N[i]? = some x) (hx : Loc X.env.scope x) (he : PE X e te) (hs : swapsWith e (some (.Name x pos')) pos.line X.env = pure false := by rfl) (hf : X.fn x = true ∨ X.env.scope.names.lookup x = some .local := by first | exact .inl rfl | exact .inr rfl | assumption) :
    PS X (.Assign [.Name x pos'] e pos) (tAsg te (gName i)) := by
  intro pins s σ H D I h
  refine wpAny_Assign_Name (thn (he pins s σ H _ I h) fun v s1 ⟨y, H1, I1, r1, q1⟩ => ?_) hs
  exact store_ok I1 hN hi hx r1 (fun s2 I2 => ⟨_, H1, I2, q1⟩) hf
end

/-! ### while -/
section
variable {X : Cx} {pos : Pos}
/-- the invariant W with its measure -/
def tWhile (c : TT) (tb : TS) : TS := fun D σ H => ∃ W : Nat → St → Hp → Prop, (∃ m, W m σ H) ∧ ∀ m σ H, W m σ H →
  c σ H fun b H1 => if b = true then ∃ N : St → Hp → Prop, (∀ σ' H', N σ' H' → ∃ m', m' < m ∧ W m' σ' H') ∧ tb { D with nx := N, ct := N, bk := D.nx } σ H1 else D.nx σ H1
theorem ps_while {c : Expr} {body : List Stmt} {tc : TT} {tb : TS} (hp : PassesOwn (model X.prog X.w) X.A X.env X.xe) (hc : PT X c tc) (hb : PSs X body tb) : PS X (.While c body [] pos) (tWhile tc tb) := by
  intro pins s σ H D I h
  obtain ⟨W, ⟨m0, w0⟩, turn⟩ := h
  refine wpAny_While (codeAny_whileLoop (fun n s' => ∃ σ' H', Inv X pins σ' H' s' ∧ W n σ' H') ?_ m0 ⟨σ, H, I, w0⟩)
  rintro n s1 ⟨σ1, H1, I1, w1⟩
  refine wpAny_passesOwn hp (thn (hc pins s1 σ1 H1 _ I1 (turn n σ1 H1 w1)) fun b s2 ⟨H2, I2, q2⟩ => ?_)
  cases b with
  | true =>
    obtain ⟨N, hN, q2⟩ := q2
    rw [if_pos rfl]
    refine wpAny_passesOwn hp (thn (hb pins s2 σ1 H2 _ I2 q2) fun f s3 q3 => ?_)
    cases f with
    | next =>
      obtain ⟨σ3, H3, I3, n3⟩ := q3
      obtain ⟨m', hm, w3⟩ := hN σ3 H3 n3
      exact ⟨m', hm, σ3, H3, I3, w3⟩
    | cont =>
      obtain ⟨σ3, H3, I3, n3⟩ := q3
      obtain ⟨m', hm, w3⟩ := hN σ3 H3 n3
      exact ⟨m', hm, σ3, H3, I3, w3⟩
    | brk => exact q3
    | ret v => exact q3
  | false =>
    rw [if_neg Bool.false_ne_true]
    exact wpAny_execs_nil ⟨σ1, H2, I2, q2⟩
end

/-! ### what a loop or a comprehension walks -/
/-- at turn i: it yields x (the heap may grow), or it stops -/
structure It where
  go : Nat → Hp → Prop
  yld : Nat → Hp → V → Hp → Prop
  stop : Nat → Hp → Prop
/-- the iterator's own objects may turn: they are not the frame's, not pinned, younger than the entry (or a comprehension's own) -/
def FpOk (X : Cx) (pins : List (Addr × Obj)) (H : Hp) (b : Addr) : Prop :=
  H b = none ∧ b ≠ X.env.locals ∧ b ∉ X.fs ∧ (b ∈ X.ex ∨ X.s₀.heap.objs.size ≤ b) ∧ (∀ x c, X.env.cells.lookup x = some c → c ≠ b) ∧ ∀ p ∈ X.pn ++ pins, p.1 ≠ b
theorem Inv.fpOk {X : Cx} {pins : List (Addr × Obj)} {σ : St} {H H' : Hp} {s : Shared} {b : Addr} (I : Inv X pins σ H s) (hb : s.heap.objs.size ≤ b) (hn : H' b = none) : FpOk X pins H' b := by
  refine ⟨hn, Nat.ne_of_gt (Nat.lt_of_lt_of_le I.lt hb), I.nofs hb, .inr (Nat.le_trans I.sz hb), fun x c e z => ?_, fun p hp z => ?_⟩
  · obtain ⟨v, q⟩ := I.cell x c e
    exact absurd (Nat.lt_of_lt_of_le q.lt (by rw [z]; exact hb)) (Nat.lt_irrefl _)
  · exact absurd (Nat.lt_of_lt_of_le (Heap.lt_size (I.pin p hp).1) (by rw [z]; exact hb)) (Nat.lt_irrefl _)
structure Turn (P : Program) (w : World) (K : PySem.W.Frag) (tg : Expr) (J : It) (fp : List Addr) (it : Addr) (tn : Nat → Heap → Prop) : Prop where
  mem : it ∈ fp
  obj : ∀ i h, tn i h → ∀ b ∈ fp, ∃ o, h.get? b = some o ∧ ∀ v, o.data ≠ .cell v
  keep : ∀ i h h', tn i h → (∀ b ∈ fp, ∀ o, h.get? b = some o → h'.get? b = some o) → tn i h'
  item : ∀ (X : Cx), X.prog = P → X.w = w → X.K = K → X.calm = true → ∀ (i : Nat) (pins : List (Addr × Obj)) (s : Shared) (σ : St) (H : Hp) (E : Value → Shared → Prop), Inv X pins σ H s → (∀ b ∈ fp, FpOk X pins H b) → tn i s.heap → J.go i H →
    wpAny (model P w) X.A (pyNext (.ref it)) (fun r s1 => ∃ u, r = some u ∧
      wpAny (model P w) X.A (letOwnedTupleGo tg (.ref it) u) (fun _ s2 => ∃ x H', Inv X pins σ H' s2 ∧ RelV x u ∧ J.yld i H x H' ∧ tn (i + 1) s2.heap ∧ ∀ b ∈ fp, H' b = none) E s1) E s
  done : ∀ (X : Cx), X.prog = P → X.w = w → X.K = K → X.calm = true → ∀ (i : Nat) (pins : List (Addr × Obj)) (s : Shared) (σ : St) (H : Hp) (E : Value → Shared → Prop), Inv X pins σ H s → (∀ b ∈ fp, FpOk X pins H b) → tn i s.heap → J.stop i H →
    wpAny (model P w) X.A (pyNext (.ref it)) (fun r s1 => r = none ∧ Inv X pins σ H s1) E s
  self : ∀ (A : Around) (i : Nat) (s : Shared) (Q : Value → Shared → Prop) (E : Value → Shared → Prop), tn i s.heap → Q (.ref it) s → wpAny (model P w) A (pyIter (.ref it)) Q E s
abbrev TI := St → Hp → (It → Hp → Prop) → Prop
/-- an iterator has come -/
def PIE (X : Cx) (pins : List (Addr × Obj)) (σ : St) (tg : Expr) (R : It → Hp → Prop) (itv : Value) (s2 : Shared) : Prop :=
  ∃ (it : Addr) (fp : List Addr) (tn : Nat → Heap → Prop) (J : It) (H' : Hp), itv = .ref it ∧ Inv X pins σ H' s2 ∧ Turn X.prog X.w X.K tg J fp it tn ∧ tn 0 s2.heap ∧ (∀ b ∈ fp, FpOk X pins H' b) ∧ R J H'
def PI (X : Cx) (tg iter : Expr) (wi : TI) : Prop :=
  ∀ (pins : List (Addr × Obj)) (s : Shared) (σ : St) (H : Hp) (R : It → Hp → Prop), Inv X pins σ H s → wi σ H R →
    wpAny (model X.prog X.w) X.A (eval iter X.env) (fun v s1 => wpAny (model X.prog X.w) X.A (pyIter v) (PIE X pins σ tg R) X.xe s1) X.xe s

/-- the step ahead of the store is nothing for an iterator that keeps no tuple -/
theorem go_of {M : Model} {A : Around} {E : Value → Shared → Prop} {s : Shared} {tg : Expr} {it : Addr} {u : Value} {o : Obj} {n : String} {vs : Array Value} {Q : Unit → Shared → Prop} (ho : s.heap.get? it = some o) (hc : o.cls = .type n) (hd : o.data = .fields vs)
    (hn : ["enumerate", "zip", "dict_itemiterator", "dict_reverseitemiterator", "odict_iterator", "itertools.zip_longest", "itertools.pairwise"].contains n = false) (hQ : Q () s) : wpAny M A (letOwnedTupleGo tg (.ref it) u) Q E s := by
  unfold letOwnedTupleGo
  cases tg <;> first
    | exact wpAny_pure hQ
    | (cases u <;> first
        | exact wpAny_pure hQ
        | (refine wpAny_bind (wpAny_load ho ?_)
           rw [hc, hd]
           show wpAny M A (if (["enumerate", "zip", "dict_itemiterator", "dict_reverseitemiterator", "odict_iterator", "itertools.zip_longest", "itertools.pairwise"].contains n && vs[0]? == some (rawInt _)) = true then _ else _) Q E s
           rw [if_neg (by intro h; rw [hn, Bool.false_and] at h; cases h)]
           exact wpAny_pure hQ))

/-- the list at a, as it stands at each turn (a loop may append to it) -/
def Itl (K : PySem.W.Frag) (a : Addr) : It :=
  ⟨fun i H => ∃ xs x, SqL K H a xs ∧ xs[i]? = some x, fun i H x H' => H' = H ∧ ∀ xs, SqL K H a xs → xs[i]? = some x, fun i H => ∃ xs, SqL K H a xs ∧ xs.length ≤ i⟩
def Itt (K : PySem.W.Frag) (a : Addr) : It :=
  ⟨fun i H => ∃ xs x, SqT K H a xs ∧ xs[i]? = some x, fun i H x H' => H' = H ∧ ∀ xs, SqT K H a xs → xs[i]? = some x, fun i H => ∃ xs, SqT K H a xs ∧ xs.length ≤ i⟩
/-- lo, lo + 1, .. (n of them) -/
def Itr (lo : Int) (n : Nat) : It := ⟨fun i _ => i < n, fun i H x H' => H' = H ∧ x = .int (lo + i), fun i _ => n ≤ i⟩
theorem turn_list {P : Program} {w : World} {K : PySem.W.Frag} {tg : Expr} (a it : Addr) : Turn P w K tg (Itl K a) [it] it (fun i h => h.IsListIter it a i) where
  mem := by simp
  obj := fun i h st b hb => by
    have e : b = it := by simpa using hb
    subst e
    obtain ⟨o, e, c, d⟩ := st
    exact ⟨o, e, fun v z => by rw [d] at z; cases z⟩
  keep := fun i h h' st k => st.at fun o e => k it (by simp) o e
  item := by
    intro X hP hw hK hc i pins s σ H E I hf st hg
    subst hP hw hK
    obtain ⟨xs, x, hq, hx⟩ := hg
    obtain ⟨its, rv, p, hz⟩ := I.list hq
    obtain ⟨u, hu, ru⟩ := rv.get hx
    obtain ⟨f0, f1, f2, f3, f4, f5⟩ := hf it (by simp)
    refine wpAny_pyNext_list_item st p.isList (x := u) (by simpa using hu) fun h' st' sb => ?_
    have I1 : Inv X pins σ H { s with heap := h' } := I.turned (t' := s.toks) (fun b o hb e => (sb.2 b hb).trans e) f0 f1 f3 f4 f5
    obtain ⟨o, e, c, d⟩ := id st'
    exact ⟨u, rfl, go_of (s := { s with heap := h' }) e c d (by decide) ⟨x, H, I1, ru, ⟨rfl, fun ys hy => by rw [I.list_inj hy hq]; exact hx⟩, st', fun b hb => (hf b hb).1⟩⟩
  done := by
    intro X hP hw hK hc i pins s σ H E I hf st hg
    subst hP hw hK
    obtain ⟨xs, hq, hx⟩ := hg
    obtain ⟨its, rv, p, hz⟩ := I.list hq
    obtain ⟨f0, f1, f2, f3, f4, f5⟩ := hf it (by simp)
    have hl := rv.length
    exact wpAny_pyNext_list_end (I.ok.hd hc) st p.isList (by simp; omega) fun h' eb => ⟨rfl, I.turned (t' := s.toks) (fun b o hb e => eb b o hb e) f0 f1 f3 f4 f5⟩
  self := fun _ _ _ _ _ st h => wpAny_pyIter_listiter st h
theorem turn_tuple {P : Program} {w : World} {K : PySem.W.Frag} {tg : Expr} (a it : Addr) : Turn P w K tg (Itt K a) [it] it (fun i h => h.IsTupleIter it a i) where
  mem := by simp
  obj := fun i h st b hb => by
    have e : b = it := by simpa using hb
    subst e
    obtain ⟨o, e, c, d⟩ := st
    exact ⟨o, e, fun v z => by rw [d] at z; cases z⟩
  keep := fun i h h' st k => st.at fun o e => k it (by simp) o e
  item := by
    intro X hP hw hK hc i pins s σ H E I hf st hg
    subst hP hw hK
    obtain ⟨xs, x, hq, hx⟩ := hg
    obtain ⟨its, rv, p, hz⟩ := I.tuple hq
    obtain ⟨u, hu, ru⟩ := rv.get hx
    obtain ⟨f0, f1, f2, f3, f4, f5⟩ := hf it (by simp)
    refine wpAny_pyNext_tuple_item st (show s.heap.IsTuple a its.toArray from p) (x := u) (by simpa using hu) fun h' st' sb => ?_
    have I1 : Inv X pins σ H { s with heap := h' } := I.turned (t' := s.toks) (fun b o hb e => (sb.2 b hb).trans e) f0 f1 f3 f4 f5
    obtain ⟨o, e, c, d⟩ := id st'
    exact ⟨u, rfl, go_of (s := { s with heap := h' }) e c d (by decide) ⟨x, H, I1, ru, ⟨rfl, fun ys hy => by rw [I.tuple_inj hy hq]; exact hx⟩, st', fun b hb => (hf b hb).1⟩⟩
  done := by
    intro X hP hw hK hc i pins s σ H E I hf st hg
    subst hP hw hK
    obtain ⟨xs, hq, hx⟩ := hg
    obtain ⟨its, rv, p, hz⟩ := I.tuple hq
    obtain ⟨f0, f1, f2, f3, f4, f5⟩ := hf it (by simp)
    have hl := rv.length
    exact wpAny_pyNext_tuple_end (I.ok.hd hc) st (show s.heap.IsTuple a its.toArray from p) (by simp; omega) fun h' eb => ⟨rfl, I.turned (t' := s.toks) (fun b o hb e => eb b o hb e) f0 f1 f3 f4 f5⟩
  self := fun _ _ _ _ _ st h => wpAny_pyIter_tupleiter st h
theorem turn_range {P : Program} {w : World} {K : PySem.W.Frag} {tg : Expr} (it : Addr) (lo : Int) (n : Nat) : Turn P w K tg (Itr lo n) [it] it (fun i h => IsRangeIter h it (lo + (i : Nat) * 1) ((n : Int) - (i : Nat)) 1) where
  mem := by simp
  obj := fun i h st b hb => by
    have e : b = it := by simpa using hb
    subst e
    exact ⟨_, st, fun v z => by
      have z' : Data.fields _ = Data.cell v := z
      cases z'⟩
  keep := fun i h h' st k => k it (by simp) _ st
  item := by
    intro X hP hw hK hc i pins s σ H E I hf st hg
    subst hP hw hK
    obtain ⟨f0, f1, f2, f3, f4, f5⟩ := hf it (by simp)
    have W := Walks.range (prog := X.prog) (w := X.w) (I.ok.hd hc) it lo 1 n
    refine W.item i s _ _ hg st fun v h' tk hv st' kk => ?_
    obtain ⟨t, rfl⟩ := hv
    have I1 : Inv X pins σ H { s with heap := h', toks := tk } := I.turned (fun b o hb e => kk b o (by simpa using hb) e) f0 f1 f3 f4 f5
    refine ⟨_, rfl, go_of (s := { s with heap := h', toks := tk }) (n := "range_iterator") st' rfl rfl (by decide) ⟨.int (lo + i), H, I1, ⟨t, ?_⟩, ⟨rfl, rfl⟩, st', fun b hb => (hf b hb).1⟩⟩
    rw [Int.mul_one]
  done := by
    intro X hP hw hK hc i pins s σ H E I hf st hg
    subst hP hw hK
    obtain ⟨f0, f1, f2, f3, f4, f5⟩ := hf it (by simp)
    exact wpAny_pyNext_range_end (I.ok.hd hc) st (by have : n ≤ i := hg; omega) fun h' eb => ⟨rfl, I.turned (t' := s.toks) (fun b o hb e => eb b o hb e) f0 f1 f3 f4 f5⟩
  self := fun _ _ _ _ _ st h => wpAny_pyIter_rangeiter st h
end L2

namespace L2
open PySem PySem.Spec PyProof.Rows
section
variable {X : Cx} {tg : Expr}
def iList (K : PySem.W.Frag) (tl : TE) : TI := fun σ H R => tl σ H fun x H1 => ∃ a, x = .ref a ∧ (∃ xs, SqL K H1 a xs) ∧ R (Itl K a) H1
def iTup (K : PySem.W.Frag) (tl : TE) : TI := fun σ H R => tl σ H fun x H1 => ∃ a, x = .ref a ∧ (∃ xs, SqT K H1 a xs) ∧ R (Itt K a) H1
theorem pi_list {l : Expr} {tl : TE} (hl : PE X l tl) : PI X tg l (iList X.K tl) := by
  intro pins s σ H R I h
  refine thn (hl pins s σ H _ I h) fun v s1 ⟨x, H1, I1, r1, q1⟩ => ?_
  obtain ⟨a, e, ⟨xs, hq⟩, q⟩ := q1
  subst e
  cases r1
  obtain ⟨its, rv, p, hz⟩ := I1.list hq
  refine wpAny_pyIter_list p.isList ?_
  refine ⟨s1.heap.objs.size, [s1.heap.objs.size], _, _, H1, rfl, I1.kept (t' := s1.toks) fun b o e => Heap.get?_push_of_some _ e, turn_list a _, ⟨_, Heap.get?_push_size _ rfl, rfl, rfl⟩, fun b hb => ?_, q⟩
  have e : b = s1.heap.objs.size := by simpa using hb
  subst e
  exact I1.fpOk (Nat.le_refl _) (I1.hok.fresh (Nat.le_refl _))
theorem pi_tup {l : Expr} {tl : TE} (hl : PE X l tl) : PI X tg l (iTup X.K tl) := by
  intro pins s σ H R I h
  refine thn (hl pins s σ H _ I h) fun v s1 ⟨x, H1, I1, r1, q1⟩ => ?_
  obtain ⟨a, e, ⟨xs, hq⟩, q⟩ := q1
  subst e
  cases r1
  obtain ⟨its, rv, p, hz⟩ := I1.tuple hq
  refine wpAny_pyIter_tuple (show s1.heap.IsTuple a its.toArray from p) ?_
  refine ⟨s1.heap.objs.size, [s1.heap.objs.size], _, _, H1, rfl, I1.kept (t' := s1.toks) fun b o e => Heap.get?_push_of_some _ e, turn_tuple a _, ⟨_, Heap.get?_push_size _ rfl, rfl, rfl⟩, fun b hb => ?_, q⟩
  have e : b = s1.heap.objs.size := by simpa using hb
  subst e
  exact I1.fpOk (Nat.le_refl _) (I1.hok.fresh (Nat.le_refl _))
/-- a range object just made, walked -/
theorem range_it {pins : List (Addr × Obj)} {σ : St} {H : Hp} {s : Shared} {R : It → Hp → Prop} {E : Value → Shared → Prop} {lo hi : Int} {t u v : Tok} {tk : Nat} (I : Inv X pins σ H s) (h1 : -(2 ^ 62) ≤ lo) (h2 : lo < 2 ^ 62) (h3 : -(2 ^ 62) ≤ hi) (h4 : hi < 2 ^ 62)
    (q : R (Itr lo (hi - lo).toNat) H) : wpAny (model X.prog X.w) X.A (pyIter (.ref s.heap.objs.size)) (PIE X pins σ tg R) E { s with heap := s.heap.push { cls := .type "range", data := .fields #[.int lo t, .int hi u, .int 1 v] }, toks := tk } := by
  refine wpAny_pyIter_range (IsRange.new ..) (small_one h1 h2 h3 h4) ?_
  have I1 : Inv X pins σ H { s with heap := s.heap.push { cls := .type "range", data := .fields #[.int lo t, .int hi u, .int 1 v] }, toks := tk } := I.kept fun b o e => Heap.get?_push_of_some _ e
  refine ⟨(s.heap.push { cls := .type "range", data := .fields #[.int lo t, .int hi u, .int 1 v] }).objs.size, [(s.heap.push { cls := .type "range", data := .fields #[.int lo t, .int hi u, .int 1 v] }).objs.size], _, _, H, rfl,
    I1.kept (t' := tk) fun b o e => Heap.get?_push_of_some _ e, turn_range _ lo (hi - lo).toNat, ?_, fun b hb => ?_, q⟩
  · have e1 : lo + ((0 : Nat) : Int) * 1 = lo := by simp
    have e2 : (((hi - lo).toNat : Nat) : Int) - ((0 : Nat) : Int) = Builtin.Range.rangeSize lo hi 1 := by rw [rangeSize_one]; split <;> omega
    show IsRangeIter _ _ (lo + ((0 : Nat) : Int) * 1) ((((hi - lo).toNat : Nat) : Int) - ((0 : Nat) : Int)) 1
    rw [e1, e2]
    exact Heap.get?_push_size _ rfl
  · have e : b = (s.heap.push { cls := .type "range", data := .fields #[.int lo t, .int hi u, .int 1 v] }).objs.size := by simpa using hb
    subst e
    exact I1.fpOk (Nat.le_refl _) (I1.hok.fresh (Nat.le_refl _))
def iRng1 (ta : TA) : TI := fun σ H R => ta σ H fun vs H1 => ∃ j : Int, vs = [.int j] ∧ -(2 ^ 62) ≤ j ∧ j < 2 ^ 62 ∧ R (Itr 0 j.toNat) H1
theorem pi_range1 {a : Expr} {ta : TA} {p pos : Pos} (hg : Gl X "range") (hm : X.mg "range" = none) (ha : PA X [a] ta) (hs : starEach [a] X.env = [(false, eval a X.env)] := by rfl) : PI X tg (.Call (.Name "range" p) [a] [] pos) (iRng1 ta) := by
  intro pins s σ H R I h
  refine Call_ (ld_blt I hg hm boot_range (PyProof.Rows.callWith_type1 (thn (ha pos pins s σ H _ I h) fun us s1 ⟨vs, H1, I1, r1, q1⟩ => ?_) hs rfl))
  obtain ⟨j, e, q1, q2, q⟩ := q1
  subst e
  cases r1 with
  | cons r rr =>
    cases rr
    obtain ⟨t, rfl⟩ := r
    exact call_range_1 (range_it I1 (by omega) (by omega) q1 q2 (by simpa using q))
/-! ### for -/
/-- W: the invariant by the turn and a measure; N: what the body is to reach -/
def tFor (wi : TI) (g : TG) (tb : TS) : TS := fun D σ H => wi σ H fun J H1 => ∃ W : Nat → Nat → St → Hp → Prop, (∃ m, W 0 m σ H1) ∧ ∀ i m σ H, W i m σ H →
  (J.stop i H ∧ D.nx σ H) ∨ (J.go i H ∧ ∃ N : St → Hp → Prop, (∀ σ' H', N σ' H' → ∃ m', m' < m ∧ W (i + 1) m' σ' H') ∧ ∀ x H', J.yld i H x H' → g x σ H' fun σ2 H2 => tb { D with nx := N, ct := N, bk := D.nx } σ2 H2)
/-- the records at fp as they stand -/
def pinsAt (fp : List Addr) (h : Heap) : List (Addr × Obj) := fp.filterMap fun b => (h.get? b).map fun o => (b, o)
theorem mem_pinsAt {fp : List Addr} {h : Heap} {b : Addr} {o : Obj} (hb : b ∈ fp) (e : h.get? b = some o) : (b, o) ∈ pinsAt fp h := List.mem_filterMap.mpr ⟨b, hb, by rw [e]; rfl⟩
theorem of_pinsAt {fp : List Addr} {h : Heap} {p : Addr × Obj} (hp : p ∈ pinsAt fp h) : p.1 ∈ fp ∧ h.get? p.1 = some p.2 := by
  obtain ⟨b, hb, e⟩ := List.mem_filterMap.mp hp
  cases q : h.get? b with
  | none => rw [q] at e; cases e
  | some o =>
    rw [q] at e
    have e' : (b, o) = p := Option.some.inj e
    subst e'
    exact ⟨hb, q⟩
theorem Inv.pinned {pins : List (Addr × Obj)} {σ : St} {H : Hp} {s : Shared} {fp : List Addr} (I : Inv X pins σ H s) (hf : ∀ b ∈ fp, FpOk X pins H b) (ho : ∀ b ∈ fp, ∃ o, s.heap.get? b = some o ∧ ∀ v, o.data ≠ .cell v) : Inv X (pins ++ pinsAt fp s.heap) σ H s :=
  I.pins_of fun p hp => (List.mem_append.mp hp).elim (fun z => I.pin p (List.mem_append_right _ z)) fun z => by
    obtain ⟨hb, e⟩ := of_pinsAt z
    obtain ⟨f0, f1, f2, _⟩ := hf p.1 hb
    obtain ⟨o, e', d⟩ := ho p.1 hb
    rw [e] at e'; cases e'
    exact ⟨e, f0, f1, f2, d⟩
theorem Inv.unpinned {pins pl : List (Addr × Obj)} {σ : St} {H : Hp} {s : Shared} (I : Inv X (pins ++ pl) σ H s) : Inv X pins σ H s := I.pins_of fun p hp => I.pin p (List.mem_append_right _ (List.mem_append_left _ hp))
theorem ps_for {iter : Expr} {body : List Stmt} {wi : TI} {g : TG} {tb : TS} {pos : Pos} (hp : PassesOwn (model X.prog X.w) X.A X.env X.xe) (hc : X.calm = true) (hi : PI X tg iter wi) (hg : PG X tg g) (hb : PSs X body tb)
    (hs : ∀ x, foldedSetIterable iter X.env x = pure x := by intro _; rfl) : PS X (.For tg iter body [] pos) (tFor wi g tb) := by
  intro pins s σ H D I h
  refine wpAny_For (thn (hi pins s σ H _ I h) fun v s1 h1 => thn h1 fun itv s2 h2 => ?_) hs
  obtain ⟨it, fp, tn, J, H2, e, I2, T, st2, f2, W, ⟨m0, w0⟩, turn⟩ := h2
  subst e
  -- what stays true of the iterator's objects through the loop
  have stat : ∀ {H' : Hp}, (∀ b ∈ fp, H' b = none) → ∀ b ∈ fp, FpOk X pins H' b := fun hn b hb => ⟨hn b hb, (f2 b hb).2⟩
  refine codeAny_forLoop_any (fun n s' => ∃ i σ' H', Inv X pins σ' H' s' ∧ tn i s'.heap ∧ (∀ b ∈ fp, H' b = none) ∧ W i n σ' H') ?_ m0 ⟨0, σ, H2, I2, st2, fun b hb => (f2 b hb).1, w0⟩
  rintro n s3 ⟨i, σ3, H3, I3, st3, fr3, w3⟩
  rcases turn i n σ3 H3 w3 with ⟨stop, qn⟩ | ⟨go, N, hN, step⟩
  · refine wpAny_passesOwn hp (thn (T.done X rfl rfl rfl hc i pins s3 σ3 H3 X.xe I3 (stat fr3) st3 stop) fun r s4 ⟨hr, I4⟩ => ?_)
    subst hr
    exact wpAny_execs_nil ⟨σ3, H3, I4, qn⟩
  · refine wpAny_passesOwn hp (thn (T.item X rfl rfl rfl hc i pins s3 σ3 H3 X.xe I3 (stat fr3) st3 go) fun r s4 ⟨u, hr, h4⟩ => ?_)
    subst hr
    refine wpAny_passesOwn hp (thn h4 fun _ s5 ⟨x, H5, I5, r5, y5, st5, fr5⟩ => ?_)
    have I5' := I5.pinned (stat fr5) (T.obj _ _ st5)
    refine wpAny_passesOwn hp (thn (hg _ s5 σ3 H5 x u _ I5' r5 (step x H5 y5)) fun _ s6 ⟨σ6, H6, I6, q6⟩ => ?_)
    refine wpAny_passesOwn hp (thn (hb _ s6 σ6 H6 _ I6 q6) fun f s7 q7 => ?_)
    have again : ∀ {σ7 : St} {H7 : Hp}, Inv X (pins ++ pinsAt fp s5.heap) σ7 H7 s7 → N σ7 H7 → ∃ m, m < n ∧ ∃ i σ' H', Inv X pins σ' H' s7 ∧ tn i s7.heap ∧ (∀ b ∈ fp, H' b = none) ∧ W i m σ' H' := fun {σ7 H7} I7 n7 => by
      obtain ⟨m', hm, w7⟩ := hN σ7 H7 n7
      refine ⟨m', hm, i + 1, σ7, H7, I7.unpinned, T.keep _ _ _ st5 fun b hb o e => (I7.pin (b, o) (List.mem_append_right _ (List.mem_append_right _ (mem_pinsAt hb e)))).1, fun b hb => ?_, w7⟩
      obtain ⟨o, e, d⟩ := T.obj _ _ st5 b hb
      exact (I7.pin (b, o) (List.mem_append_right _ (List.mem_append_right _ (mem_pinsAt hb e)))).2.1
    cases f with
    | next => obtain ⟨σ7, H7, I7, n7⟩ := q7; exact again I7 n7
    | cont => obtain ⟨σ7, H7, I7, n7⟩ := q7; exact again I7 n7
    | brk => obtain ⟨σ7, H7, I7, q7⟩ := q7; exact ⟨σ7, H7, I7.unpinned, q7⟩
    | ret v => obtain ⟨x7, σ7, H7, I7, r7, q7⟩ := q7; exact ⟨x7, σ7, H7, I7.unpinned, r7, q7⟩
end

/-! ### the forms one uses -/
/-- over a list that the body leaves as it is -/
theorem for_list {K : PySem.W.Frag} {a : Addr} {xs : List V} {g : TG} {tb : TS} {D : Ends} {σ : St} {H : Hp} (Pv : Nat → St → Hp → Prop) (h0 : Pv 0 σ H) (hl : ∀ i σ H, i ≤ xs.length → Pv i σ H → SqL K H a xs)
    (hs : ∀ i x σ H, xs[i]? = some x → Pv i σ H → g x σ H fun σ2 H2 => tb { D with nx := Pv (i + 1), ct := Pv (i + 1), bk := D.nx } σ2 H2) (hd : ∀ σ H, Pv xs.length σ H → D.nx σ H) :
    ∃ W : Nat → Nat → St → Hp → Prop, (∃ m, W 0 m σ H) ∧ ∀ i m σ H, W i m σ H →
      ((Itl K a).stop i H ∧ D.nx σ H) ∨ ((Itl K a).go i H ∧ ∃ N : St → Hp → Prop, (∀ σ' H', N σ' H' → ∃ m', m' < m ∧ W (i + 1) m' σ' H') ∧ ∀ x H', (Itl K a).yld i H x H' → g x σ H' fun σ2 H2 => tb { D with nx := N, ct := N, bk := D.nx } σ2 H2) := by
  refine ⟨fun i m σ H => m = xs.length - i ∧ i ≤ xs.length ∧ Pv i σ H, ⟨xs.length, by simp, Nat.zero_le _, h0⟩, ?_⟩
  rintro i m σ H ⟨rfl, hi, p⟩
  have q := hl i σ H hi p
  by_cases hlt : i < xs.length
  · refine .inr ⟨⟨xs, xs[i], q, by simp [hlt]⟩, Pv (i + 1), fun σ' H' p' => ⟨xs.length - (i + 1), by omega, rfl, hlt, p'⟩, fun x H' y => ?_⟩
    obtain ⟨e, y⟩ := y
    subst e
    exact hs i x σ _ (y xs q) p
  · have e : i = xs.length := by omega
    subst e
    exact .inl ⟨⟨xs, q, Nat.le_refl _⟩, hd σ H p⟩
theorem for_tup {K : PySem.W.Frag} {a : Addr} {xs : List V} {g : TG} {tb : TS} {D : Ends} {σ : St} {H : Hp} (Pv : Nat → St → Hp → Prop) (h0 : Pv 0 σ H) (hl : ∀ i σ H, i ≤ xs.length → Pv i σ H → SqT K H a xs)
    (hs : ∀ i x σ H, xs[i]? = some x → Pv i σ H → g x σ H fun σ2 H2 => tb { D with nx := Pv (i + 1), ct := Pv (i + 1), bk := D.nx } σ2 H2) (hd : ∀ σ H, Pv xs.length σ H → D.nx σ H) :
    ∃ W : Nat → Nat → St → Hp → Prop, (∃ m, W 0 m σ H) ∧ ∀ i m σ H, W i m σ H →
      ((Itt K a).stop i H ∧ D.nx σ H) ∨ ((Itt K a).go i H ∧ ∃ N : St → Hp → Prop, (∀ σ' H', N σ' H' → ∃ m', m' < m ∧ W (i + 1) m' σ' H') ∧ ∀ x H', (Itt K a).yld i H x H' → g x σ H' fun σ2 H2 => tb { D with nx := N, ct := N, bk := D.nx } σ2 H2) := by
  refine ⟨fun i m σ H => m = xs.length - i ∧ i ≤ xs.length ∧ Pv i σ H, ⟨xs.length, by simp, Nat.zero_le _, h0⟩, ?_⟩
  rintro i m σ H ⟨rfl, hi, p⟩
  have q := hl i σ H hi p
  by_cases hlt : i < xs.length
  · refine .inr ⟨⟨xs, xs[i], q, by simp [hlt]⟩, Pv (i + 1), fun σ' H' p' => ⟨xs.length - (i + 1), by omega, rfl, hlt, p'⟩, fun x H' y => ?_⟩
    obtain ⟨e, y⟩ := y
    subst e
    exact hs i x σ _ (y xs q) p
  · have e : i = xs.length := by omega
    subst e
    exact .inl ⟨⟨xs, q, Nat.le_refl _⟩, hd σ H p⟩
theorem for_range {lo : Int} {n : Nat} {g : TG} {tb : TS} {D : Ends} {σ : St} {H : Hp} (Pv : Nat → St → Hp → Prop) (h0 : Pv 0 σ H)
    (hs : ∀ i σ H, i < n → Pv i σ H → g (.int (lo + i)) σ H fun σ2 H2 => tb { D with nx := Pv (i + 1), ct := Pv (i + 1), bk := D.nx } σ2 H2) (hd : ∀ σ H, Pv n σ H → D.nx σ H) :
    ∃ W : Nat → Nat → St → Hp → Prop, (∃ m, W 0 m σ H) ∧ ∀ i m σ H, W i m σ H →
      ((Itr lo n).stop i H ∧ D.nx σ H) ∨ ((Itr lo n).go i H ∧ ∃ N : St → Hp → Prop, (∀ σ' H', N σ' H' → ∃ m', m' < m ∧ W (i + 1) m' σ' H') ∧ ∀ x H', (Itr lo n).yld i H x H' → g x σ H' fun σ2 H2 => tb { D with nx := N, ct := N, bk := D.nx } σ2 H2) := by
  refine ⟨fun i m σ H => m = n - i ∧ i ≤ n ∧ Pv i σ H, ⟨n, by simp, Nat.zero_le _, h0⟩, ?_⟩
  rintro i m σ H ⟨rfl, hi, p⟩
  by_cases hlt : i < n
  · refine .inr ⟨hlt, Pv (i + 1), fun σ' H' p' => ⟨n - (i + 1), by omega, rfl, hlt, p'⟩, fun x H' y => ?_⟩
    obtain ⟨e, y⟩ := y
    subst e y
    exact hs i σ _ hlt p
  · have e : i = n := by omega
    subst e
    exact .inl ⟨Nat.le_refl _, hd σ H p⟩
end L2

namespace L2
open PySem PySem.Spec PyProof.Rows

abbrev R2 := V → V → Hp → VK → Prop
/-- a two-place operation on values: f is binaryOp op, inplaceOp op or compareOp op -/
def OpR (X : Cx) (f : Value → Value → Sem Value) (r : R2) : Prop :=
  ∀ (pins : List (Addr × Obj)) (s : Shared) (σ : St) (H : Hp) (x y : V) (v u : Value) (Q : VK), Inv X pins σ H s → RelV x v → RelV y u → r x y H Q →
    wpAny (model X.prog X.w) X.A (f v u) (EP X pins σ Q) X.xe s
/-- a one-place operation -/
def UnR (X : Cx) (f : Value → Sem Value) (r : V → Hp → VK → Prop) : Prop :=
  ∀ (pins : List (Addr × Obj)) (s : Shared) (σ : St) (H : Hp) (x : V) (v : Value) (Q : VK), Inv X pins σ H s → RelV x v → r x H Q →
    wpAny (model X.prog X.w) X.A (f v) (EP X pins σ Q) X.xe s
/-- a call of a value that is known (a builtin, a type) with values -/
def CallR (X : Cx) (f : Value) (r : List V → Hp → VK → Prop) : Prop :=
  ∀ (pins : List (Addr × Obj)) (s : Shared) (σ : St) (H : Hp) (xs : List V) (us : List Value) (Q : VK), Inv X pins σ H s → Vals xs us → r xs H Q →
    wpAny (model X.prog X.w) X.A (call f us) (EP X pins σ Q) X.xe s
/-- a value's truth -/
def TruR (X : Cx) (r : V → Hp → (Bool → Hp → Prop) → Prop) : Prop :=
  ∀ (pins : List (Addr × Obj)) (s : Shared) (σ : St) (H : Hp) (x : V) (v : Value) (Q : Bool → Hp → Prop), Inv X pins σ H s → RelV x v → r x H Q →
    wpAny (model X.prog X.w) X.A (truthy v) (TP X pins σ Q) X.xe s

def tOp (r : R2) (ta tb : TE) : TE := fun σ H Q => ta σ H fun x H1 => tb σ H1 fun y H2 => r x y H2 Q
def tUn (r : V → Hp → VK → Prop) (ta : TE) : TE := fun σ H Q => ta σ H fun x H1 => r x H1 Q
/-- ints in, under C, and a value out -/
def rI (C : Int → Int → Prop) (g : Int → Int → V) : R2 := fun x y H Q => ∃ i j, x = .int i ∧ y = .int j ∧ C i j ∧ Q (g i j) H
def rI0 (g : Int → Int → V) : R2 := fun x y H Q => ∃ i j, x = .int i ∧ y = .int j ∧ Q (g i j) H
def rU (g : Int → V) : V → Hp → VK → Prop := fun x H Q => ∃ i, x = .int i ∧ Q (g i) H

section
variable {X : Cx} {a b c : Expr} {ta tb tc : TE} {pos : Pos}

theorem binT (ha : PE X a ta) (hb : PE X b tb) {pins : List (Addr × Obj)} {s : Shared} {σ : St} {H : Hp} {R : V → V → Hp → Prop} (I : Inv X pins σ H s)
    (h : ta σ H fun x H1 => tb σ H1 fun y H2 => R x y H2) {Q : Value → Shared → Prop} {f : Value → Value → Sem Value}
    (hf : ∀ v u s2 x y H2, Inv X pins σ H2 s2 → RelV x v → RelV y u → R x y H2 → wpAny (model X.prog X.w) X.A (f v u) Q X.xe s2) :
    wpAny (model X.prog X.w) X.A (eval a X.env) (fun v s₁ => wpAny (model X.prog X.w) X.A (eval b X.env) (fun u s₂ => wpAny (model X.prog X.w) X.A (f v u) Q X.xe s₂) X.xe s₁) X.xe s := by
  refine thn (ha pins s σ H _ I h) fun v s1 ⟨x, H1, I1, r1, q1⟩ => ?_
  refine thn (hb pins s1 σ H1 _ I1 q1) fun u s2 ⟨y, H2, I2, r2, q2⟩ => ?_
  exact hf v u s2 x y H2 I2 r1 r2 q2

theorem pe_op {op : Operator} {r : R2} (ho : OpR X (binaryOp op) r) (ha : PE X a ta) (hb : PE X b tb) : PE X (.BinOp a op b pos) (tOp r ta tb) := by
  intro pins s σ H Q I h
  exact wpAny_BinOp (binT ha hb I h fun v u s2 x y H2 I2 rx ry q => ho pins s2 σ H2 x y v u Q I2 rx ry q)
theorem pe_un {op : UnaryOp} {r : V → Hp → VK → Prop} (ho : UnR X (unaryOp op) r) (ha : PE X a ta) : PE X (.UnaryOp op a pos) (tUn r ta) := by
  intro pins s σ H Q I h
  exact UnaryOp_ (thn (ha pins s σ H _ I h) fun v s1 ⟨x, H1, I1, r1, q1⟩ => ho pins s1 σ H1 x v Q I1 r1 q1)
/-! ### ints -/
theorem opI {f : Value → Value → Sem Value} {C : Int → Int → Prop} {g : Int → Int → Int}
    (rule : ∀ (i j : Int) (t u : Tok) (s : Shared) (Q : Value → Shared → Prop) (E : Value → Shared → Prop), C i j → Q (.int (g i j) s.toks) { s with toks := s.toks + 1 } → wpAny (model X.prog X.w) X.A (f (.int i t) (.int j u)) Q E s) :
    OpR X f (rI C fun i j => .int (g i j)) := by
  intro pins s σ H x y v u Q I rx ry h
  obtain ⟨i, j, rfl, rfl, hc, q⟩ := h
  obtain ⟨t, rfl⟩ := rx
  obtain ⟨t', rfl⟩ := ry
  exact rule i j t t' s _ _ hc ⟨.int (g i j), H, I.tok _, ⟨_, rfl⟩, q⟩
theorem opI0 {f : Value → Value → Sem Value} {g : Int → Int → Int}
    (rule : ∀ (i j : Int) (t u : Tok) (s : Shared) (Q : Value → Shared → Prop) (E : Value → Shared → Prop), Q (.int (g i j) s.toks) { s with toks := s.toks + 1 } → wpAny (model X.prog X.w) X.A (f (.int i t) (.int j u)) Q E s) :
    OpR X f (rI0 fun i j => .int (g i j)) := by
  intro pins s σ H x y v u Q I rx ry h
  obtain ⟨i, j, rfl, rfl, q⟩ := h
  obtain ⟨t, rfl⟩ := rx
  obtain ⟨t', rfl⟩ := ry
  exact rule i j t t' s _ _ ⟨.int (g i j), H, I.tok _, ⟨_, rfl⟩, q⟩
theorem opB0 {f : Value → Value → Sem Value} {g : Int → Int → Bool}
    (rule : ∀ (i j : Int) (t u : Tok) (s : Shared) (Q : Value → Shared → Prop) (E : Value → Shared → Prop), Q (.bool (g i j)) s → wpAny (model X.prog X.w) X.A (f (.int i t) (.int j u)) Q E s) :
    OpR X f (rI0 fun i j => .bl (g i j)) := by
  intro pins s σ H x y v u Q I rx ry h
  obtain ⟨i, j, rfl, rfl, q⟩ := h
  obtain ⟨t, rfl⟩ := rx
  obtain ⟨t', rfl⟩ := ry
  exact rule i j t t' s _ _ ⟨.bl (g i j), H, I, rfl, q⟩

def CDiv (i j : Int) : Prop := 0 < j ∧ j < 1073741824
def CMul (i j : Int) : Prop := (-(2 ^ 64) < i ∧ i < 2 ^ 64) ∨ (-(2 ^ 64) < j ∧ j < 2 ^ 64)
theorem CMul.ok {i j : Int} (h : CMul i j) : IntMulOk i j := by
  rcases h with ⟨h1, h2⟩ | ⟨h1, h2⟩
  · exact .of_left (intBits_le_64 h1 h2)
  · exact .of_right (intBits_le_64 h1 h2)
theorem op_add : OpR X (binaryOp .Add) (rI0 fun i j => .int (i + j)) := opI0 fun _ _ _ _ _ _ _ q => add_int q
theorem op_sub : OpR X (binaryOp .Sub) (rI0 fun i j => .int (i - j)) := opI0 fun _ _ _ _ _ _ _ q => sub_int q
theorem op_mul : OpR X (binaryOp .Mult) (rI CMul fun i j => .int (i * j)) := opI fun _ _ _ _ _ _ _ hc q => mul_int q hc.ok
/-- // by a positive divisor -/
theorem op_fdiv : OpR X (binaryOp .FloorDiv) (rI CDiv fun i j => .int (i / j)) := opI fun i j _ _ _ _ _ hc q => by
  have h1 : (0 : Int) < j := hc.1
  have h2 : j < 1073741824 := hc.2
  exact floordiv_int (by omega) (by rw [Int.fdiv_eq_ediv_of_nonneg i (by omega)]; exact q) (.inl (PyProof.noPylong_small (by omega)))
/-- % by a positive divisor of any size -/
theorem op_mod : OpR X (binaryOp .Mod) (rI (fun _ j => 0 < j) fun i j => .int (i % j)) := opI fun i j _ _ _ _ _ hc q => by
  have h1 : (0 : Int) < j := hc
  exact mod_int' (by omega) (by rw [Int.fmod_eq_emod_of_nonneg i (by omega)]; exact q)
theorem unI {f : Value → Sem Value} {g : Int → Int}
    (rule : ∀ (i : Int) (t : Tok) (s : Shared) (Q : Value → Shared → Prop) (E : Value → Shared → Prop), Q (.int (g i) s.toks) { s with toks := s.toks + 1 } → wpAny (model X.prog X.w) X.A (f (.int i t)) Q E s) :
    UnR X f (rU fun i => .int (g i)) := by
  intro pins s σ H x v Q I rx h
  obtain ⟨i, rfl, q⟩ := h
  obtain ⟨t, rfl⟩ := rx
  exact rule i t s _ _ ⟨.int (g i), H, I.tok _, ⟨_, rfl⟩, q⟩
theorem un_neg : UnR X (unaryOp .USub) (rU fun i => .int (-i)) := unI fun _ _ _ _ _ q => neg_int q
/-! ### bools among ints: n += (a < b) -/
end

/-! ### comparisons -/
/-- the scalars that == tells apart as data does -/
def scal : V → V → Bool
  | .non, .non => true | .non, .int _ => true | .int _, .non => true | .non, .bl _ => true | .bl _, .non => true | .non, .str _ => true | .str _, .non => true
  | .int _, .int _ => true | .bl _, .bl _ => true | .str _, .str _ => true | .byt _, .byt _ => true
  | .int _, .str _ => true | .str _, .int _ => true | .bl _, .str _ => true | .str _, .bl _ => true
  | _, _ => false
def rEq : R2 := fun x y H Q => scal x y = true ∧ Q (.bl (decide (x = y))) H
theorem dec_int {i j : Int} : decide (V.int i = V.int j) = (i == j) := by
  rw [Bool.eq_iff_iff]
  simp
theorem dec_bl {i j : Bool} : decide (V.bl i = V.bl j) = (i == j) := by
  rw [Bool.eq_iff_iff]
  simp
theorem dec_str {i j : Str} : decide (V.str i = V.str j) = (i == j) := by
  rw [Bool.eq_iff_iff]
  simp
theorem dec_byt {i j : Array UInt8} : decide (V.byt i = V.byt j) = (i.toList == j.toList) := by
  rw [Bool.eq_iff_iff]
  cases i
  cases j
  simp

section
variable {X : Cx} {a b c : Expr} {ta tb tc : TE} {pos : Pos}
theorem fin_bl {pins : List (Addr × Obj)} {σ : St} {H : Hp} {s : Shared} {Q : VK} {k k' : Bool} (I : Inv X pins σ H s) (q : Q (.bl k) H) (e : k = k') : EP X pins σ Q (.bool k') s := by
  subst e
  exact ⟨.bl k, H, I, rfl, q⟩
theorem op_eq : OpR X (compareOp .Eq) rEq := by
  intro pins s σ H x y v u Q I rx ry h
  obtain ⟨hs, q⟩ := h
  cases x with
  | non =>
    cases rx
    cases y with
    | non => cases ry; exact PySem.EqNone.eq_none_none (fin_bl I q (by simp))
    | bl j => cases ry; exact PySem.EqNone.eq_none_bool (fin_bl I q (by simp))
    | int j => obtain ⟨t', rfl⟩ := ry; exact PySem.EqNone.eq_none_int (fin_bl I q (by simp))
    | str j => obtain ⟨t', rfl⟩ := ry; exact PySem.EqNone.eq_none_str (fin_bl I q (by simp))
    | _ => exact absurd (show false = true from hs) Bool.false_ne_true
  | bl i =>
    cases rx
    cases y with
    | non => cases ry; exact PySem.EqNone.eq_bool_none (fin_bl I q (by simp))
    | bl j => cases ry; exact eq_bool (fin_bl I q dec_bl)
    | str j => obtain ⟨t', rfl⟩ := ry; exact PySem.EqMixed.eq_bool_str (fin_bl I q (by simp))
    | _ => exact absurd (show false = true from hs) Bool.false_ne_true
  | int i =>
    obtain ⟨t, rfl⟩ := rx
    cases y with
    | non => cases ry; exact PySem.EqNone.eq_int_none (fin_bl I q (by simp))
    | int j => obtain ⟨t', rfl⟩ := ry; exact eq_int (fin_bl I q dec_int)
    | str j => obtain ⟨t', rfl⟩ := ry; exact PySem.EqMixed.eq_int_str (fin_bl I q (by simp))
    | _ => exact absurd (show false = true from hs) Bool.false_ne_true
  | str i =>
    obtain ⟨t, rfl⟩ := rx
    cases y with
    | non => cases ry; exact PySem.EqNone.eq_str_none (fin_bl I q (by simp))
    | bl j => cases ry; exact PySem.EqMixed.eq_str_bool (fin_bl I q (by simp))
    | int j => obtain ⟨t', rfl⟩ := ry; exact PySem.EqMixed.eq_str_int (fin_bl I q (by simp))
    | str j => obtain ⟨t', rfl⟩ := ry; exact eq_str (fin_bl I q dec_str)
    | _ => exact absurd (show false = true from hs) Bool.false_ne_true
  | byt i =>
    obtain ⟨t, rfl⟩ := rx
    cases y with
    | byt j => obtain ⟨t', rfl⟩ := ry; exact PySem.W.eq_bytes (fin_bl I q dec_byt)
    | _ => exact absurd (show false = true from hs) Bool.false_ne_true
  | _ => cases y <;> exact absurd (show false = true from hs) Bool.false_ne_true
theorem op_lt : OpR X (compareOp .Lt) (rI0 fun i j => .bl (decide (i < j))) := opB0 fun _ _ _ _ _ _ _ q => lt_int q
theorem op_gt : OpR X (compareOp .Gt) (rI0 fun i j => .bl (decide (j < i))) := opB0 fun _ _ _ _ _ _ _ q => gt_int q
theorem nomark (b : Expr) {op : CmpOp} (h : op ≠ .In := by decide) (h2 : op ≠ .NotIn := by decide) : behindInMarks op b = false := by
  have e1 : (op == CmpOp.In) = false := by cases op <;> first | rfl | exact absurd rfl h
  have e2 : (op == CmpOp.NotIn) = false := by cases op <;> first | rfl | exact absurd rfl h2
  cases b <;> simp [behindInMarks, e1, e2]
/-- a comparison as a value; hm: nomark b, or (for in, not in) by with_unfolding_all rfl -/
theorem pe_cmpR {op : CmpOp} {r : R2} (ho : OpR X (compareOp op) r) (ha : PE X a ta) (hb : PE X b tb) (hm : behindInMarks op b = false) : PE X (.Compare a [op] [b] pos) (tOp r ta tb) := by
  intro pins s σ H Q I h
  exact wpAny_Compare1 (binT ha hb I h fun v u s2 x y H2 I2 rx ry q => ho pins s2 σ H2 x y v u Q I2 rx ry q) hm
/-- a reading of a value as a test -/
def tTest (t : TE) : TT := fun σ H Q => t σ H fun x H' => ∃ k, x = .bl k ∧ Q k H'
theorem pt_cmpR {op : CmpOp} {r : R2} (ho : OpR X (compareOp op) r) (ha : PE X a ta) (hb : PE X b tb) (hm : behindInMarks op b = false) : PT X (.Compare a [op] [b] pos) (tTest (tOp r ta tb)) := by
  intro pins s σ H Q I h
  refine wpAny_isTrue_Compare1 (thn (ha pins s σ H _ I h) fun v s1 ⟨x, H1, I1, r1, q1⟩ => thn (hb pins s1 σ H1 _ I1 q1) fun u s2 ⟨y, H2, I2, r2, q2⟩ =>
    thn (ho pins s2 σ H2 x y v u _ I2 r1 r2 q2) fun c s3 ⟨z, H3, I3, r3, k, e, q3⟩ => ?_) hm
  subst e
  cases r3
  exact wpAny_truthy_bool ⟨H3, I3, q3⟩
/-! ### truth -/
/-- a value's truth by the abstract heap -/
def TruV (K : PySem.W.Frag) (x : V) (H : Hp) (k : Bool) : Prop :=
  match x with
  | .non => k = false
  | .bl b => k = b
  | .int i => k = (i != 0)
  | .str y => y.length ≤ sizeLine ∧ k = ((y.length : Int) != 0)
  | .byt y => y.size ≤ sizeLine ∧ k = ((y.size : Int) != 0)
  | .ref p => (∃ xs, SqL K H p xs ∧ k = !xs.isEmpty) ∨ (∃ xs, SqT K H p xs ∧ k = !xs.isEmpty) ∨ ∃ kvs, H p = some (.dK kvs) ∧ k = !kvs.isEmpty
  | _ => False
theorem isEmpty_kv {κ : Type} {kvs : List (κ × V)} {vs : List (κ × Value)} (r : KV kvs vs) : (!vs.isEmpty) = !kvs.isEmpty := by
  cases r <;> rfl
theorem isEmpty_of {xs : List V} {its : List Value} (r : Vals xs its) : (!its.toArray.isEmpty) = !xs.isEmpty := by
  cases r <;> simp
theorem line63 : (sizeLine : Nat) < 2 ^ 63 := by rw [sizeLine_eq]; decide
theorem tru_ok : TruR X (fun x H Q => ∃ k, TruV X.K x H k ∧ Q k H) := by
  intro pins s σ H x v Q I rx h
  obtain ⟨k, e, q⟩ := h
  have hl := line63
  have hs : sizeLine = 16777216 := sizeLine_eq
  cases x with
  | non =>
    cases rx
    have e' : k = false := e
    subst e'
    exact truthy_none ⟨H, I, q⟩
  | bl b =>
    cases rx
    have e' : k = b := e
    subst e'
    exact wpAny_truthy_bool ⟨H, I, q⟩
  | int i =>
    obtain ⟨t, rfl⟩ := rx
    have e' : k = (i != 0) := e
    subst e'
    exact PySem.P.truthy_int ⟨H, I, q⟩
  | str y =>
    obtain ⟨t, rfl⟩ := rx
    obtain ⟨hy, e'⟩ : y.length ≤ sizeLine ∧ k = ((y.length : Int) != 0) := e
    subst e'
    exact PySem.P.truthy_str (by omega) ⟨H, I.tok _, q⟩
  | byt y =>
    obtain ⟨t, rfl⟩ := rx
    obtain ⟨hy, e'⟩ : y.size ≤ sizeLine ∧ k = ((y.size : Int) != 0) := e
    subst e'
    exact PySem.W.truthy_bytes (by omega) ⟨H, I.tok _, q⟩
  | ref p =>
    cases rx
    have e' : (∃ xs, SqL X.K H p xs ∧ k = !xs.isEmpty) ∨ (∃ xs, SqT X.K H p xs ∧ k = !xs.isEmpty) ∨ ∃ kvs, H p = some (.dK kvs) ∧ k = !kvs.isEmpty := e
    rcases e' with ⟨xs, hx, e'⟩ | ⟨xs, hx, e'⟩ | ⟨kvs, hx, e'⟩
    · subst e'
      obtain ⟨its, r, pl, hz⟩ := I.list hx
      have hlen := r.length
      exact wpAny_truthy_list pl.isList (by simp only [List.size_toArray]; omega) ⟨H, I.tok _, by rw [isEmpty_of r]; exact q⟩
    · subst e'
      obtain ⟨its, r, pl, hz⟩ := I.tuple hx
      have hlen := r.length
      exact truthy_tuple pl (by simp only [List.size_toArray]; omega) ⟨H, I.tok _, by rw [isEmpty_of r]; exact q⟩
    · subst e'
      obtain ⟨hz, hS, vs, r, m⟩ : kvs.length ≤ sizeLine ∧ (p == sysModules) = false ∧ ∃ vs, KV kvs vs ∧ s.heap.DictOf (mixKind X.prog X.w) p vs := I.hok p _ hx
      have hlen : kvs.length = vs.length := Paired.length r
      exact wpAny_truthy_dict hS m (by omega) ⟨H, I.tok _, by rw [isEmpty_kv r]; exact q⟩
  | _ => exact (show False from e).elim
/-- any expression whose test is its value's truth (a name, a call, a subscript, a field ..: he by fun _ => rfl) -/
theorem pt_truth (ha : PE X a ta) (he : ∀ whole, isTrue a X.env whole = (do let v ← whole; standAt a.pos; holding [v] (truthy v))) :
    PT X a (fun σ H Q => ta σ H fun x H' => ∃ k, TruV X.K x H' k ∧ Q k H') := by
  intro pins s σ H Q I h
  exact isTrue_plain (thn (ha pins s σ H _ I h) fun v s1 ⟨x, H1, I1, r1, q1⟩ => tru_ok pins s1 σ H1 x v Q I1 r1 q1) (he _)

/-! ### strs and bytes -/
theorem op_add_str : OpR X (binaryOp .Add) (fun x y H Q => ∃ i j, x = .str i ∧ y = .str j ∧ i.length + j.length ≤ sizeLine ∧ Q (.str (i ++ j)) H) := by
  intro pins s σ H x y v u Q I rx ry h
  obtain ⟨i, j, rfl, rfl, hz, q⟩ := h
  obtain ⟨t, rfl⟩ := rx
  obtain ⟨t', rfl⟩ := ry
  exact add_str (fun t' tk => ⟨.str (i ++ j), H, I.tok _, ⟨_, rfl⟩, q⟩) hz
/-! ### scalar builtins, by CallR -/
theorem vals1 {x : V} {us : List Value} (r : Vals [x] us) : ∃ u, us = [u] ∧ RelV x u := by
  cases r with
  | cons r1 r2 => cases r2; exact ⟨_, rfl, r1⟩
theorem vals2 {x y : V} {us : List Value} (r : Vals [x, y] us) : ∃ u w', us = [u, w'] ∧ RelV x u ∧ RelV y w' := by
  cases r with
  | cons r1 r2 =>
    cases r2 with
    | cons r3 r4 => cases r4; exact ⟨_, _, rfl, r1, r3⟩
theorem call_max2 (hc : X.calm = true) : CallR X (.builtin "max") (fun xs H Q => ∃ i j, xs = [.int i, .int j] ∧ Q (.int (if j > i then j else i)) H) := by
  intro pins s σ H xs us Q I r h
  obtain ⟨i, j, rfl, q⟩ := h
  obtain ⟨u, w', rfl, ⟨t, rfl⟩, ⟨t', rfl⟩⟩ := vals2 r
  refine max_two_ints (I.ok.hd hc) fun h' tk k => ⟨_, H, I.kept k, ?_, q⟩
  by_cases hj : j > i
  · rw [if_pos hj, if_pos hj]; exact ⟨_, rfl⟩
  · rw [if_neg hj, if_neg hj]; exact ⟨_, rfl⟩
theorem call_min2 (hc : X.calm = true) : CallR X (.builtin "min") (fun xs H Q => ∃ i j, xs = [.int i, .int j] ∧ Q (.int (if j < i then j else i)) H) := by
  intro pins s σ H xs us Q I r h
  obtain ⟨i, j, rfl, q⟩ := h
  obtain ⟨u, w', rfl, ⟨t, rfl⟩, ⟨t', rfl⟩⟩ := vals2 r
  refine min_two_ints (I.ok.hd hc) fun h' tk k => ⟨_, H, I.kept k, ?_, q⟩
  by_cases hj : j < i
  · rw [if_pos hj, if_pos hj]; exact ⟨_, rfl⟩
  · rw [if_neg hj, if_neg hj]; exact ⟨_, rfl⟩
theorem call_str_int : CallR X (.type "str") (fun xs H Q => ∃ i, xs = [.int i] ∧ i.natAbs.log2 < 1920 ∧ Q (.str (toString i)) H) := by
  intro pins s σ H xs us Q I r h
  obtain ⟨i, rfl, hz, q⟩ := h
  obtain ⟨u, rfl, t, rfl⟩ := vals1 r
  exact PySem.P.str_of_int hz ⟨.str _, H, I.tok _, ⟨_, rfl⟩, q⟩
end
end L2

namespace L2
open PySem PySem.Spec PyProof.Rows

/-! ### an instance, its attributes a map -/
structure ObjM (h : Heap) (x dx C : Addr) (mA : Str → Option Value) : Prop where
  obj : h.get? x = some (PySem.W.instObj C dx)
  ns : h.Ns1 dx mA
  ne : dx ≠ x

theorem lookIn_ns {h : Heap} {dx : Addr} {mA : Str → Option Value} (n : h.Ns1 dx mA) : ∃ od, h.get? dx = some od ∧ ∀ name, PySem.W.lookIn name od = some (mA name) := by
  obtain ⟨o, es, ep, ho, hd, hk, _, hm⟩ := n
  refine ⟨o, ho, fun name => ?_⟩
  have e := hm name
  unfold nsFind findBy at e
  rw [← Array.find?_toList] at e
  unfold PySem.W.lookIn
  rw [hd]
  dsimp only
  split
  · rename_i y q
    rw [q] at e
    exact congrArg some e
  · rename_i q
    rw [q] at e
    have a : es.toList.any (·.refKey) = false := by
      rw [List.any_eq_false]
      intro y hy
      obtain ⟨z, t, hkey⟩ := hk y (Array.mem_toList_iff.mp hy)
      simp [DictEntry.refKey, hkey]
    have a' : ¬ es.toList.any (·.refKey) = true := by rw [a]; exact Bool.false_ne_true
    rw [if_neg a']
    exact congrArg some e

theorem ObjM.look {h : Heap} {x dx C : Addr} {mA : Str → Option Value} (I : ObjM h x dx C mA) : ∃ od, PySem.W.InstAt h x (PySem.W.instObj C dx) C (some od) ∧ ∀ name, PySem.W.lookIn name od = some (mA name) :=
  let ⟨od, ho, hl⟩ := lookIn_ns I.ns
  ⟨od, ⟨I.obj, rfl, rfl, ho⟩, hl⟩

section
variable {prog : Program} {w : World} {A : Around} {E : Value → Shared → Prop} {s : Shared} {K : PySem.W.Frag} {x dx C f : Addr} {mA : Str → Option Value} {name : Str} {v : Value}

end

/-! ### the attributes as a list of pairs -/
theorem RelO.some_of {v : V} {o : Option Value} (r : RelO (some v) o) : ∃ u, o = some u ∧ RelV v u := by
  cases o with
  | none => exact (show False from r).elim
  | some u => exact ⟨u, rfl, r⟩
section
variable {P : Program} {w : World} {H H' : Hp} {h h' : Heap} {a C dx : Addr} {fs fs' : List (Str × V)}
theorem ins_get (hok : HOk P w H h) (e : H a = some (.ins C dx fs)) : ∃ mA, ObjM h a dx C mA ∧ (∀ f, RelO (fs.lookup f) (mA f)) ∧ PySem.Within mA (fs.map (·.1)) ∧ fs.length ≤ 1000 ∧ H dx = some (.own a) := by
  obtain ⟨d, z, ne, ob, mA, n, r, q⟩ := (show ObjOk P w H h a (.ins C dx fs) from hok a _ e)
  exact ⟨mA, ⟨ob, n, ne⟩, r, q, z, d⟩
end

/-! ### what of the text a class must have -/
structure Cls (K : PySem.W.Frag) (C : Addr) : Prop where
  pg : PySem.W.plainGet K C Str.empty = true
  hd : PySem.W.hasDictIn K C = true
  po : PySem.W.plainOver K C = true
  sa : PySem.W.findIn K (.ref C) "__setattr__" = some (some (.builtin "object.__setattr__"))
theorem Cls.get {K : PySem.W.Frag} {C : Addr} (c : Cls K C) (f : Str) : PySem.W.plainGet K C f = true := c.pg
section
variable {X : Cx} {pins : List (Addr × Obj)} {σ : St} {H : Hp} {s : Shared} {a C dx : Addr} {fs : List (Str × V)} {f : Str} {v : V} {A : Around} {E : Value → Shared → Prop}

end

/-! ### readings and rules -/
section
variable {X : Cx} {o e value : Expr} {f : Str} {pos pos' tpos : Pos} {ta tv : TE}
end

/-! ### isinstance -/
section
variable {X : Cx} {pins : List (Addr × Obj)} {σ : St} {H : Hp} {s : Shared} {A : Around} {E : Value → Shared → Prop} {Q : Value → Shared → Prop} {c : Value} {b : Bool}
/-- the type of a value, as the fragment's deciders take it; for an instance its class -/
inductive TyOf (K : PySem.W.Frag) (H : Hp) : V → Value → Prop where
  | non : TyOf K H .non (.type "NoneType")
  | bl (x : Bool) : TyOf K H (.bl x) (.type "bool")
  | int (i : Int) : TyOf K H (.int i) (.type "int")
  | str (x : Str) : TyOf K H (.str x) (.type "str")
  | flt (x : UInt64) : TyOf K H (.flt x) (.type "float")
  | lst {a : Addr} {xs : List V} (e : H a = some (.lst xs)) : TyOf K H (.ref a) (.type "list")
  | frz {a : Addr} {o : Obj} {xs : List V} (e : H a = some (.frz o (.lst xs))) : TyOf K H (.ref a) (.type "list")
  | tup {a : Addr} {xs : List V} (e : H a = some (.tup xs)) : TyOf K H (.ref a) (.type "tuple")
  | dK {a : Addr} {kvs : List (Key × V)} (e : H a = some (.dK kvs)) : TyOf K H (.ref a) (.type "dict")
  | dT {a : Addr} {kvs : List (List Key × V)} (e : H a = some (.dT kvs)) : TyOf K H (.ref a) (.type "dict")
  | ins {a C dx : Addr} {fs : List (Str × V)} (e : H a = some (.ins C dx fs)) (cl : Cls K C) (ha : PySem.W.findIn K (.ref C) "__class__" = some (some (.builtin "object.__class__")))
      (hn : PySem.W.specialIn K (.builtin "object.__class__") "__get__" = some (some (.builtin "getset_descriptor.__get__"))) (htk : PySem.W.takesIn K (.builtin "object.__class__") = some true)
      (hm : PySem.W.mroIn K C (.type "object") = some true) : TyOf K H (.ref a) (.ref C)
/-- isinstance(x, c) for one class c, a built-in or an own one: kitOne's answer -/
theorem isinst_ok {x : V} {u t : Value} (I : Inv X pins σ H s) (rx : RelV x u) (ty : TyOf X.K H x t) (e : PySem.W.kitOne X.K t c = some b) (h : ∀ tk, Q (.bool b) { s with toks := tk }) :
    wpAny (model X.prog X.w) A (call (.builtin "isinstance") [u, c]) Q E s := by
  cases ty with
  | non => cases (show u = Value.none from rx); exact PySem.W.kia_one PySem.W.kitx_none I.kIn True.intro e (fun z => nomatch z) h
  | bl y => cases (show u = Value.bool y from rx); exact PySem.W.kia_one PySem.W.kitx_bool I.kIn True.intro e (fun z => nomatch z) h
  | int i => obtain ⟨t, q⟩ := (show ∃ t, u = Value.int i t from rx); cases q; exact PySem.W.kia_one PySem.W.kitx_int I.kIn True.intro e (fun z => nomatch z) h
  | str y => obtain ⟨t, q⟩ := (show ∃ t, u = Value.str y t from rx); cases q; exact PySem.W.kia_one PySem.W.kitx_str I.kIn True.intro e (fun z => nomatch z) h
  | flt y => obtain ⟨t, q⟩ := (show ∃ t, u = Value.float y t from rx); cases q; exact PySem.W.kia_one PySem.W.kitx_float I.kIn True.intro e (fun z => nomatch z) h
  | @lst a xs ea =>
    cases (show u = Value.ref a from rx)
    obtain ⟨_, _, n, _, h1⟩ := (show ObjOk X.prog X.w H s.heap a (.lst xs) from I.hok a _ ea)
    exact PySem.W.kia_one PySem.W.kitx_list I.kIn ⟨_, h1, rfl⟩ e (fun z => nomatch z) h
  | @frz a ob xs ea =>
    cases (show u = Value.ref a from rx)
    obtain ⟨_, _, _, n, _, h1⟩ := (show ObjOk X.prog X.w H s.heap a (.frz ob (.lst xs)) from I.hok a _ ea)
    exact PySem.W.kia_one PySem.W.kitx_list I.kIn ⟨_, h1, rfl⟩ e (fun z => nomatch z) h
  | @tup a xs ea =>
    cases (show u = Value.ref a from rx)
    obtain ⟨_, _, _, p⟩ := (show ObjOk X.prog X.w H s.heap a (.tup xs) from I.hok a _ ea)
    obtain ⟨o, h1, h2, _⟩ := p
    exact PySem.W.kia_one PySem.W.kitx_tuple I.kIn ⟨o, h1, h2⟩ e (fun z => nomatch z) h
  | @dK a kvs ea =>
    cases (show u = Value.ref a from rx)
    obtain ⟨_, _, vs, _, p⟩ := (show ObjOk X.prog X.w H s.heap a (.dK kvs) from I.hok a _ ea)
    obtain ⟨o, es, ep, h1, h2, _⟩ := p
    exact PySem.W.kia_one PySem.W.kitx_dict I.kIn ⟨o, h1, h2.1⟩ e (fun z => nomatch z) h
  | @dT a kvs ea =>
    cases (show u = Value.ref a from rx)
    obtain ⟨_, _, xs, _, o, es, ep, h1, h2, _⟩ := (show ObjOk X.prog X.w H s.heap a (.dT kvs) from I.hok a _ ea)
    exact PySem.W.kia_one PySem.W.kitx_dict I.kIn ⟨o, h1, h2.1⟩ e (fun z => nomatch z) h
  | @ins a C dx fs ea cl ha hn htk hm =>
    cases (show u = Value.ref a from rx)
    obtain ⟨mA, O, _⟩ := ins_get I.hok ea
    obtain ⟨od, J, _⟩ := O.look
    exact PySem.W.kia_one (PySem.W.kitx_own (cl.get _) cl.hd ha hn htk hm) I.kIn J e (fun z => nomatch z) h
end
end L2

namespace L2
open PySem PySem.Spec PyProof.Rows

/-! ### room -/
structure Room (k : Nat) (A : Around) : Prop where
  hd : A.handled = none
  dp : A.depth + 3 * k + 5 < recursionLimit
  un : A.units + 16 * k + 200 < cLine
theorem Room.mono {j k : Nat} {A : Around} (r : Room k A) (h : j ≤ k) : Room j A := ⟨r.hd, by have := r.dp; omega, by have := r.un; omega⟩
theorem Room.deeper {k : Nat} {A : Around} (r : Room (k + 1) A) (env : Env) : Room k (A.deeper env) :=
  ⟨r.hd, by have := r.dp; show A.depth + 1 + 3 * k + 5 < _; omega, by have := r.un; show A.units + 3 + 16 * k + 200 < _; omega⟩
theorem Room.depth {k : Nat} {A : Around} (r : Room k A) : A.depth < recursionLimit := by have := r.dp; omega
/-! ### argument lists and displays -/
def tNil : TA := fun _ H Q => Q [] H
def tCons (ta : TE) (tr : TA) : TA := fun σ H Q => ta σ H fun x H1 => tr σ H1 fun xs H2 => Q (x :: xs) H2
section
variable {X : Cx} {e : Expr} {es : List Expr} {te : TE} {t : TA} {pos : Pos}
theorem pa_nil : PA X [] tNil := fun _ _ _ _ H Q I h => Calls.spliced_nil ⟨[], H, I, .nil, h⟩
theorem pa_cons (ha : PE X e te) (hr : PA X es t) (hs : starEach (e :: es) X.env = (false, eval e X.env) :: starEach es X.env := by rfl) : PA X (e :: es) (tCons te t) := by
  intro pos pins s σ H Q I h
  rw [hs]
  show wpAny _ _ (spliced ((false, eval e X.env) :: backTo pos (starEach es X.env))) _ _ s
  refine Calls.spliced_cons (thn (ha pins s σ H _ I h) fun u s1 ⟨x, H1, I1, r1, q1⟩ => ?_)
  exact thn (hr pos pins s1 σ H1 _ I1 q1) fun us s2 ⟨xs, H2, I2, r2, q2⟩ => ⟨x :: xs, H2, I2, .cons r1 r2, q2⟩

/-- a tuple, a list of written items -/
def tTup (t : TA) : TE := fun σ H Q => t σ H fun xs H1 => xs.length ≤ sizeLine ∧ ∀ p, H1 p = none → Q (.ref p) (upd H1 p (.tup xs))
def tLst (t : TA) : TE := fun σ H Q => t σ H fun xs H1 => xs.length ≤ sizeLine ∧ ∀ p, H1 p = none → Q (.ref p) (upd H1 p (.lst xs))
theorem pe_tup {x1} (h : PA X es t) : PE X (.Tuple es x1 pos) (tTup t) := by
  intro pins s σ H Q I hq
  refine wpAny_Tuple_spliced (thn (h pos pins s σ H _ I hq) fun us s1 ⟨xs, H1, I1, r, z, q⟩ => ⟨by rw [← r.length]; exact z, ?_⟩)
  have hf : H1 s1.heap.objs.size = none := I1.hok.fresh (Nat.le_refl _)
  refine ⟨.ref s1.heap.objs.size, upd H1 s1.heap.objs.size (.tup xs), I1.laid (t' := s1.toks) (fun b u e => Heap.get?_push_of_some _ e) (Nat.le_refl _) ?_, rfl, q _ hf⟩
  exact ⟨z, us, r, ⟨_, Heap.get?_push_size _ rfl, rfl, _, rfl⟩⟩
theorem pe_lst (h : PA X es t) : PE X (.List es pos) (tLst t) := by
  intro pins s σ H Q I hq
  refine wpAny_List_spliced (thn (h pos pins s σ H _ I hq) fun us s1 ⟨xs, H1, I1, r, z, q⟩ => ⟨by rw [← r.length]; exact z, ?_⟩)
  have hf : H1 s1.heap.objs.size = none := I1.hok.fresh (Nat.le_refl _)
  refine ⟨.ref s1.heap.objs.size, upd H1 s1.heap.objs.size (.lst xs), I1.laid (t' := s1.toks) (fun b u e => Heap.get?_push_of_some _ e) (Nat.le_refl _) ?_, rfl, q _ hf⟩
  exact ⟨z, us, 0, r, Heap.get?_push_size _ rfl⟩
end

/-! ### what a def promises -/
/-- a def's promise: the bound arguments in the parameters' order, the heap, the wanted end, the wanted exception -/
abbrev Sp := List V → Hp → VK → XK → Prop
/-- how an exception lies behind a call (file 08 gives it): the callers' frames, abstract heap and state ahead of the call, the wish, the exception, the state -/
abbrev CXT := List Env → Hp → Shared → XK → Value → Shared → Prop

/-- the state at a call -/
structure Env0 (P : Program) (w : World) (K : PySem.W.Frag) (mg : Str → Option Value) (base : Heap) (A : Around) (outer : List Env) (s : Shared) (H : Hp) : Prop where
  frames : A.frames = some outer
  mod : Mod K mg base
  bs : ∀ b o, base.get? b = some o → s.heap.get? b = some o ∧ H b = none
  bsz : base.objs.size ≤ s.heap.objs.size
  funs : s.heap.FunFrames base outer
  frf : ∀ b ∈ frs outer, H b = none
  hok : HOk P w H s.heap
  bare : AllBare s.gens
/-- a call's end -/
def CE (outer : List Env) (P : Program) (w : World) (H : Hp) (s : Shared) (Q : VK) (u : Value) (s' : Shared) : Prop :=
  ∃ v H', s'.os = s.os ∧ AllBare s'.gens ∧ Un (frs outer) [] H H' s.heap s'.heap ∧ HOk P w H' s'.heap ∧ RelV v u ∧ Q v H'
def CR (CX : CXT) (outer : List Env) (P : Program) (w : World) (H : Hp) (s : Shared) (Q : VK) (E : XK) (r : Result) (s' : Shared) : Prop :=
  match r with
  | .ok (.ret u) => CE outer P w H s Q u s'
  | .ok _ => False
  | .error e => CX outer H s E e s'
structure FnOk (P : Program) (w : World) (K : PySem.W.Frag) (mg : Str → Option Value) (base : Heap) (CX : CXT) (k : Nat) (f : Addr) (fd : FuncData) (ps : List Str) (sp : Sp) : Prop where
  len : ∀ vs H Q E, sp vs H Q E → vs.length = ps.length
  run : ∀ (A : Around) (outer : List Env) (s : Shared) (H : Hp) (args : Args) (us : List Value) (vs : List V) (Q : VK) (E : XK), Room k A → Env0 P w K mg base A outer s H → BindsTo s fd args (ps.zip us) → Vals vs us → sp vs H Q E →
    codeAny (model P w) A (.call (.ref f) args) (CR CX outer P w H s Q E) s
section
variable {X : Cx} {pins : List (Addr × Obj)} {σ : St} {H : Hp} {s s' : Shared}
/-- from a body: what a callee wants -/
theorem Inv.env0 (I : Inv X pins σ H s) : Env0 X.prog X.w X.K X.mg X.base X.A X.stack s H :=
  ⟨I.ok.frames, I.ok.mod, I.bs, Nat.le_trans I.ok.bsz I.sz, I.stack, I.stkFree, I.hok, I.bare⟩
/-- behind a call -/
theorem Inv.after {Q : VK} {u : Value} (I : Inv X pins σ H s) (h : CE X.stack X.prog X.w H s Q u s') : EP X pins σ Q u s' := by
  obtain ⟨v, H', os, bare, un, hok, r, q⟩ := h
  obtain ⟨hh, g, d, t, os'⟩ := s'
  obtain rfl : os' = s.os := os
  exact ⟨v, H', I.call (h' := hh) (g' := g) (d' := d) (t' := t) (ch := []) un hok bare (fun b z => absurd z (by simp)), r, q⟩
end

/-! ### calls -/
/-- f(..): the written arguments, then the defaults dvs; E: what is wanted of an exception -/
def tCall (sp : Sp) (dvs : List V) (E : XK) (t : TA) : TE := fun σ H Q => t σ H fun vs H1 => sp (vs ++ dvs) H1 Q E
/-- how the parameters are bound: us the positional arguments, kw the keywords' values by name, ds the defaults that fill up -/
def Binds (K : PySem.W.Frag) (fd : FuncData) (ps : List Str) (ds : List Value) : Prop :=
  ∀ (s : Shared) (us : List Value), K.In s.heap → (us ++ ds).length = ps.length → BindsTo s fd ⟨us, []⟩ (ps.zip (us ++ ds))
/-- every parameter is given -/
theorem Binds.all {K : PySem.W.Frag} {fd : FuncData} {ps : List Str} (h : ∀ us : List Value, us.length = ps.length → bindArgs fd ⟨us, []⟩ = pure (ps.zip us)) : Binds K fd ps [] := fun s us _ hl => by
  rw [List.append_nil] at hl ⊢
  exact .of_eq (h us hl)

/-- an exception of a callee reaches what this body wants of exceptions -/
def Passes (CX : CXT) (X : Cx) (E : XK) : Prop := ∀ (pins : List (Addr × Obj)) (σ : St) (H : Hp) (s : Shared) (e : Value) (s' : Shared), Inv X pins σ H s → CX X.stack H s E e s' → X.xe e s'

section
variable {X : Cx} {CX : CXT} {k : Nat} {f C : Addr} {fd : FuncData} {ps : List Str} {sp : Sp} {dvs : List V} {ds : List Value} {E : XK} {x m : Str} {p pos apos : Pos} {e o : Expr} {es : List Expr} {ta : TE} {t : TA}

/-- the callee runs -/
theorem run_fn {pins : List (Addr × Obj)} {σ : St} {H : Hp} {s : Shared} {Q : VK} {us : List Value} {vs : List V} (F : FnOk X.prog X.w X.K X.mg X.base CX k f fd ps sp) (hr : Room k X.A) (hb : Binds X.K fd ps ds) (hd : Vals dvs ds) (hx : Passes CX X E)
    (I : Inv X pins σ H s) (r : Vals vs us) (h : sp (vs ++ dvs) H Q E) : wpAny (model X.prog X.w) X.A (call (.ref f) us) (EP X pins σ Q) X.xe s := by
  have r2 : Vals (vs ++ dvs) (us ++ ds) := r.append hd
  have hl : (us ++ ds).length = ps.length := by rw [← r2.length]; exact F.len _ _ _ _ h
  refine wpAny_call (codeAny_mono (F.run X.A X.stack s H ⟨us, []⟩ (us ++ ds) (vs ++ dvs) Q E hr I.env0 (hb s us I.kIn hl) r2 h) fun r s' hq => ?_)
  cases r with
  | error e => exact hx pins σ H s e s' I hq
  | ok fl =>
    cases fl with
    | ret u => exact I.after hq
    | next => exact False.elim hq
    | brk => exact False.elim hq
    | cont => exact False.elim hq

theorem pe_call (F : FnOk X.prog X.w X.K X.mg X.base CX k f fd ps sp) (hr : Room k X.A) (hg : Gl X x) (hm : X.mg x = some (.ref f)) (hk : PySem.W.keepIn X.K (.ref f) = true) (hb : Binds X.K fd ps ds) (hd : Vals dvs ds) (hx : Passes CX X E)
    (ha : PA X (e :: es) t) (hdb : (x == ("__debug__" : Str)) = false := by decide) (he : starEach (e :: es) X.env = (false, eval e X.env) :: starEach es X.env := by rfl) (hpl : (backTo pos (starEach es X.env)).any (·.1) = false := by rfl) :
    PE X (.Call (.Name x p) (e :: es) [] pos) (tCall sp dvs E t) := by
  intro pins s σ H Q I h
  refine wpAny_Call_Name_kw (ld_glob I hg hm ?_ hdb)
  refine PySem.W.callWith_K (h₀ := X.base) I.ok.mod.kin hk (thn (ha pos pins s σ H _ I h) fun us s1 ⟨vs, H1, I1, r, q⟩ => ⟨I1.kIn, ?_⟩) he hpl
  exact run_fn F hr hb hd hx I1 r q
end

/-! ### keywords -/
section
variable {X : Cx} {CX : CXT} {k : Nat} {f C : Addr} {fd : FuncData} {ps ks : List Str} {sp : Sp} {E : XK} {x m : Str} {p pos apos kpos : Pos} {e o : Expr} {es : List Expr} {kws : List Keyword} {te ta : TE} {t tk : TA} {nm : Option Str}
variable {g : List Value → List Value → List Value} {gV : List V → List V → List V}
end

/-! ### a def's body keeps its promise -/
/-- names: the parameters first -/
structure FnScope (N P : List Str) (sc : Scope) : Prop where
  kind : sc.kind = .function
  co : sc.isCoroutine = false
  gen : sc.isGenerator = false
  nd : N.Nodup
  pre : N.take P.length = P
  par : ∀ x ∈ P, sc.names.lookup x = some .local ∨ sc.names.lookup x = some .cell
  nofree : ∀ y ∈ sc.names, y.2 ≠ .free

theorem bindL_out {kindOf : Str → Option NameKind} {x : Str} : ∀ {binds : List (Str × Value)} {m : Str → Option Value}, (∀ v, (x, v) ∉ binds) → bindL kindOf binds m x = m x
  | [], _, _ => rfl
  | (n, v) :: r, m, h => by
    unfold bindL
    rw [bindL_out fun w hw => h w (List.mem_cons_of_mem _ hw)]
    split
    · have : x ≠ n := by rintro rfl; exact h v List.mem_cons_self
      simp [this]
    · rfl
theorem bindC_out {kindOf : Str → Option NameKind} {x : Str} : ∀ {binds : List (Str × Value)} {m : Str → Option Value}, (∀ v, (x, v) ∉ binds) → bindC kindOf binds m x = m x
  | [], _, _ => rfl
  | (n, v) :: r, m, h => by
    unfold bindC
    rw [bindC_out fun w hw => h w (List.mem_cons_of_mem _ hw)]
    split
    · rfl
    · have : x ≠ n := by rintro rfl; exact h v List.mem_cons_self
      simp [this]
theorem bindL_get {kindOf : Str → Option NameKind} {x : Str} {v : Value} : ∀ {P : List Str} {vs : List Value} {i : Nat} {m : Str → Option Value}, P.Nodup → P[i]? = some x → vs[i]? = some v → kindOf x = some .local →
    bindL kindOf (P.zip vs) m x = some v
  | [], _, _, _, _, h, _, _ => by simp at h
  | _ :: _, [], _, _, _, _, h, _ => by simp at h
  | p :: P, w :: vs, 0, m, nd, h1, h2, hk => by
    simp at h1 h2; subst h1; subst h2
    show bindL kindOf ((p, w) :: P.zip vs) m p = _
    unfold bindL
    rw [bindL_out fun v hv => (List.nodup_cons.mp nd).1 (List.of_mem_zip hv).1, if_pos hk]
    simp
  | p :: P, w :: vs, i + 1, m, nd, h1, h2, hk => by
    show bindL kindOf ((p, w) :: P.zip vs) m x = _
    unfold bindL
    exact bindL_get (i := i) (List.nodup_cons.mp nd).2 (by simpa using h1) (by simpa using h2) hk
theorem bindC_get {kindOf : Str → Option NameKind} {x : Str} {v : Value} : ∀ {P : List Str} {vs : List Value} {i : Nat} {m : Str → Option Value}, P.Nodup → P[i]? = some x → vs[i]? = some v → kindOf x ≠ some .local →
    bindC kindOf (P.zip vs) m x = some v
  | [], _, _, _, _, h, _, _ => by simp at h
  | _ :: _, [], _, _, _, _, h, _ => by simp at h
  | p :: P, w :: vs, 0, m, nd, h1, h2, hk => by
    simp at h1 h2; subst h1; subst h2
    show bindC kindOf ((p, w) :: P.zip vs) m p = _
    unfold bindC
    rw [bindC_out fun v hv => (List.nodup_cons.mp nd).1 (List.of_mem_zip hv).1, if_neg hk]
    simp
  | p :: P, w :: vs, i + 1, m, nd, h1, h2, hk => by
    show bindC kindOf ((p, w) :: P.zip vs) m x = _
    unfold bindC
    exact bindC_get (i := i) (List.nodup_cons.mp nd).2 (by simpa using h1) (by simpa using h2) hk

/-- the names' values at the entry -/
def start (N : List Str) (vs : List V) : St := vs.map some ++ List.replicate (N.length - vs.length) none

/-- the context of a def's body, at its entry; an exception leaves the frame, then lies as CX says -/
def cxOf (CX : CXT) (P : Program) (w : World) (K : PySem.W.Frag) (mg : Str → Option Value) (base : Heap) (N : List Str) (qual : Str) (scope : Scope) (f : Addr) (cd : Value) (A : Around) (outer : List Env) (s : Shared) (H : Hp) (E : XK) : Cx where
  prog := P
  w := w
  K := K
  mg := mg
  base := base
  A := A.deeper (envOfC qual scope s.heap.objs.size f cd)
  N := N
  s₀ := s
  H₀ := H
  env := envOfC qual scope s.heap.objs.size f cd
  outer := outer
  stack := envOfC qual scope s.heap.objs.size f cd :: outer
  ex := []
  calm := true
  fn := fun _ => true
  pn := []
  xe := fun e s' => wpAny (model P w) (A.deeper (envOfC qual scope s.heap.objs.size f cd)) (leaving (envOfC qual scope s.heap.objs.size f cd) e) (fun _ s'' => CX outer H s E e s'') (fun e' s'' => CX outer H s E e' s'') s'

theorem cell_has {sc : Scope} {n : Nat} {x : Str} (h : sc.names.lookup x = some .cell) : ∃ c, (cellsFrom n sc.names []).lookup x = some c := by
  have q := PySem.W.cellsFrom_some sc.names n [] (.inl h)
  exact Option.isSome_iff_exists.mp q

theorem inv_start {CX : CXT} {P : Program} {w : World} {K : PySem.W.Frag} {mg : Str → Option Value} {base : Heap} {N ps : List Str} {qual : Str} {scope : Scope} {f : Addr} {cd : Value} {A : Around} {outer : List Env} {s s1 : Shared} {H : Hp} {E : XK} {us : List Value} {vs : List V}
    (S : FnScope N ps scope) (hd : A.handled = none) (e0 : Env0 P w K mg base A outer s H) (hl : vs.length = ps.length) (r : Vals vs us)
    (x : InCallC s s.heap.objs.size (bindL (envOfC qual scope s.heap.objs.size f cd).kindOf (ps.zip us) fun _ => none) (cellsFrom (s.heap.objs.size + 1) scope.names []) (bindC (envOfC qual scope s.heap.objs.size f cd).kindOf (ps.zip us) fun _ => none) s1) :
    Inv (cxOf CX P w K mg base N qual scope f cd A outer s H E) [] (start N vs) H s1 := by
  have hpl : ps.length ≤ N.length := by have := congrArg List.length S.pre; rw [List.length_take] at this; omega
  obtain ⟨h1, tk, rfl, hk⟩ := x.done
  have noA : ∀ b : Addr, b ∉ (cxOf CX P w K mg base N qual scope f cd A outer s H E).ex := fun b z => absurd (show b ∈ ([] : List Addr) from z) (by simp)
  refine ⟨⟨e0.mod, S.kind, rfl, rfl, Nat.le_refl _, fun y z c h1 h2 => ?_, fun y hy => ?_, fun y c _ h => ?_, fun _ => hd, Around.frames_deeper e0.frames, .inr ⟨rfl, rfl⟩, fun b z => absurd z (noA b), e0.bs, e0.bsz, fun b _ _ => noA b, fun b z => absurd z (noA b), e0.funs, e0.frf⟩,
    rfl, e0.bare, Un.kept hk, ⟨_, x.toInCall.ns, fun i y v h1 h2 h3 => ?_⟩, fun y c h => ⟨_, x.cell y c h⟩, e0.hok.fresh (Nat.le_refl _), fun y c h => ?_, fun p hp => absurd (show p ∈ ([] : List (Addr × Obj)) from hp) (by simp), e0.hok.kept hk, ?_⟩
  · exact name_of_addr x.apart (PySem.mem_of_lookup h1) (PySem.mem_of_lookup h2)
  · have hy : scope.names.lookup y = some .cell ∨ scope.names.lookup y = some .free := hy
    rcases hy with hy | hy
    · exact cell_has hy
    · exact absurd rfl (S.nofree _ (PySem.mem_of_lookup hy))
  · exact Nat.le_of_lt (x.above y c (PySem.mem_of_lookup h))
  · have hi : i < vs.length := by
      unfold start at h2
      by_cases hi : i < vs.length
      · exact hi
      · rw [List.getElem?_append_right (by simpa using hi)] at h2
        rw [List.getElem?_replicate] at h2
        split at h2 <;> cases h2
    have ha : vs[i]? = some v := by
      unfold start at h2
      rw [List.getElem?_append_left (by simpa using hi), List.getElem?_map] at h2
      cases e : vs[i]? with
      | none => rw [e] at h2; cases h2
      | some a => rw [e] at h2; cases h2; rfl
    obtain ⟨u, hu, rv⟩ := r.get ha
    have hp : ps[i]? = some y := by
      rw [← S.pre, List.getElem?_take_of_lt (by omega)]; exact h1
    have ndP : ps.Nodup := by rw [← S.pre]; exact S.nd.sublist (List.take_sublist _ _)
    refine ⟨u, rv, ?_⟩
    rcases S.par y (List.mem_of_getElem? hp) with k | k
    · exact .inl ⟨k, bindL_get ndP hp hu k⟩
    · obtain ⟨c, e⟩ := cell_has (n := s.heap.objs.size + 1) k
      refine .inr ⟨.inl k, c, e, ?_⟩
      have q := x.cell y c e
      rw [bindC_get ndP hp hu (by show scope.names.lookup y ≠ _; rw [k]; decide)] at q
      exact q
  · exact e0.hok.fresh (Nat.le_of_lt (x.above y c (PySem.mem_of_lookup h)))
  · unfold start
    show _ = N.length
    rw [List.length_append, List.length_map, List.length_replicate]
    omega

/-- THE RULE: a def (or a method) of the text, by its body. The body's reading t is chosen for each entry; it is run at the parameters' values -/
theorem fn_of {CX : CXT} {P : Program} {w : World} {K : PySem.W.Frag} {mg : Str → Option Value} {base : Heap} {k : Nat} {f : Addr} {name qual : Str} {params : Arguments} {body : List Stmt} {scope : Scope} {dV kV doc pm cdv ct oc : Value} {an od : Option Addr}
    {osl : Array (Option Value)} {N ps : List Str} {sp : Sp} (lk : K.lookup f = some ⟨oc, od, .func (PySem.W.fnOf name qual params body scope dV kV doc pm an cdv ct), osl⟩) (hcd : PySem.W.codeIn K cdv qual = true) (S : FnScope N ps scope)
    (len : ∀ vs H Q E, sp vs H Q E → vs.length = ps.length)
    (hbody : ∀ (A : Around) (outer : List Env) (s : Shared) (H : Hp) (vs : List V) (Q : VK) (E : XK), Room k (A.deeper (envOfC qual scope s.heap.objs.size f cdv)) → sp vs H Q E →
      ∃ t, PSs (cxOf CX P w K mg base N qual scope f cdv A outer s H E) body t ∧ t { nx := fun _ H' => Q .non H', rt := Q } (start N vs) H) :
    FnOk P w K mg base CX (k + 1) f (PySem.W.fnOf name qual params body scope dV kV doc pm an cdv ct) ps sp := by
  refine ⟨len, fun A outer s H args us vs Q E hr e0 hb r hsp => ?_⟩
  have hl := len _ _ _ _ hsp
  have KX : K.In s.heap := e0.mod.kin.keeps fun b o e => (e0.bs b o e).1
  have lim : s.heap.NoLimit := e0.mod.nolimit.keeps fun b o e => (e0.bs b o e).1
  have hkind : ∀ y ∈ ps.zip us, scope.names.lookup y.1 = some .local ∨ (scope.names.lookup y.1 = some .cell ∧ ((cellsFrom (s.heap.objs.size + 1) scope.names []).lookup y.1).isSome = true) := fun ⟨n, v⟩ hy => by
    rcases S.par n (List.of_mem_zip hy).1 with q | q
    · exact .inl q
    · exact .inr ⟨q, PySem.W.cellsFrom_some _ _ _ (.inl q)⟩
  refine codeAny_call_function hr.depth (KX _ _ lk) rfl S.co S.gen rfl (PySem.W.codeRec_of KX hcd) (hb _ _ _ _ ?_)
  refine wpAny_newFunctionEnv_cells S.kind hkind fun env he s1 x => ?_
  subst he
  refine ⟨lim.keeps x.toInCall.keep, codeAny_func ?_⟩
  obtain ⟨t, ht, hq⟩ := hbody A outer s H vs Q E (hr.deeper _) hsp
  have I : Inv (cxOf CX P w K mg base N qual scope f cdv A outer s H E) [] (start N vs) H s1 := inv_start S hr.hd e0 hl r x
  refine wpAny_mono (ht [] s1 (start N vs) H _ I hq) (fun fl s' hs => ?_) fun e s' hs => hs
  have fin : ∀ {σ' : St} {H' : Hp} {v : V} {u : Value}, Inv (cxOf CX P w K mg base N qual scope f cdv A outer s H E) [] σ' H' s' → RelV v u → Q v H' → CE outer P w H s Q u s' :=
    fun {σ' H' v u} J rv q => ⟨v, H', J.os, J.bare, J.base, J.hok, rv, q⟩
  cases fl with
  | ret u =>
    obtain ⟨v, σ', H', J, rv, q⟩ := hs
    exact fin J rv q
  | next =>
    obtain ⟨σ', H', J, q⟩ := hs
    exact fin (v := V.non) (u := Value.none) J rfl q
  | brk =>
    obtain ⟨_, _, _, q⟩ := hs
    exact False.elim q
  | cont =>
    obtain ⟨_, _, _, q⟩ := hs
    exact False.elim q
end L2

namespace L2
open PySem PySem.Spec PyProof.Rows
section
variable {X : Cx} {x : Str} {p pos : Pos} {e : Expr} {es : List Expr} {t : TA} {id T : String} {r : List V → Hp → VK → Prop}

def tCB (r : List V → Hp → VK → Prop) (t : TA) : TE := fun σ H Q => t σ H fun vs H1 => r vs H1 Q
/-- f(e, ..), f a built-in function -/
theorem pe_callB (hc : CallR X (.builtin id) r) (hg : Gl X x) (hm : X.mg x = none) (hv : bootBuiltins x = some (.builtin id)) (ha : PA X (e :: es) t) (hn : x ≠ "__name__" := by decide) (hdb : (x == ("__debug__" : Str)) = false := by decide)
    (he : starEach (e :: es) X.env = (false, eval e X.env) :: starEach es X.env := by rfl) (hpl : (backTo pos (starEach es X.env)).any (·.1) = false := by rfl) : PE X (.Call (.Name x p) (e :: es) [] pos) (tCB r t) := by
  intro pins s σ H Q I h
  refine wpAny_Call_Name_kw (ld_blt I hg hm hv ?_ hn hdb)
  exact PyProof.Rows.callWith_builtin1 (thn (ha pos pins s σ H _ I h) fun us s1 ⟨vs, H1, I1, r1, q1⟩ => hc pins s1 σ H1 vs us Q I1 r1 q1) he hpl
/-- T(e, ..), T a built-in type -/
theorem pe_callTy (hc : CallR X (.type T) r) (hg : Gl X x) (hm : X.mg x = none) (hv : bootBuiltins x = some (.type T)) (ha : PA X (e :: es) t) (hn : x ≠ "__name__" := by decide) (hdb : (x == ("__debug__" : Str)) = false := by decide)
    (he : starEach (e :: es) X.env = (false, eval e X.env) :: starEach es X.env := by rfl) (hpl : (backTo pos (starEach es X.env)).any (·.1) = false := by rfl) : PE X (.Call (.Name x p) (e :: es) [] pos) (tCB r t) := by
  intro pins s σ H Q I h
  refine wpAny_Call_Name_kw (ld_blt I hg hm hv ?_ hn hdb)
  exact PyProof.Rows.callWith_type1 (thn (ha pos pins s σ H _ I h) fun us s1 ⟨vs, H1, I1, r1, q1⟩ => hc pins s1 σ H1 vs us Q I1 r1 q1) he hpl
end
end L2

namespace HT
open PySem PyProof.Rows

section
open PySem.SeqAt
open PySem.AutoSeq1 (wpAny_loadPart')
open PySem.MeetsSeq PySem.MeetsSeq2 PySem.MeetsSeq3

end

section
variable {prog : Program} {w : World} {A : Around} {E : Value → Shared → Prop} {s : Shared}

/-! ### t[a:b], not the whole -/
/-- a slice's bound as a place among n (d where it is left out) -/
def sIx (n d : Nat) : Option Int → Nat
  | none => d
  | some v => if v < 0 then (v + (n : Int)).toNat else min v.toNat n
end
end HT

namespace L2
open PySem PySem.Spec PyProof.Rows

/-! ### the parts of a slice -/
abbrev TO := St → Hp → (Option Int → Hp → Prop) → Prop
/-- a slice's part (left out, or an int) -/
def PO (X : Cx) (e : Option Expr) (t : TO) : Prop :=
  ∀ (pins : List (Addr × Obj)) (s : Shared) (σ : St) (H : Hp) (Q : Option Int → Hp → Prop), Inv X pins σ H s → t σ H Q →
    wpAny (model X.prog X.w) X.A (evalPart e X.env) (fun u s' => ∃ o H', Inv X pins σ H' s' ∧ IsPart u o ∧ Q o H') X.xe s
def tNoPart : TO := fun _ H Q => Q none H
def tPart (t : TE) : TO := fun σ H Q => t σ H fun x H1 => ∃ i, x = .int i ∧ Q (some i) H1

section
variable {X : Cx} {e : Expr} {te : TE} {lo hi : Option Expr} {tl th : TO} {pos p2 : Pos}

theorem po_none : PO X none tNoPart := by
  intro pins s σ H Q I h
  rw [evalPart_none]
  exact wpAny_pure ⟨none, H, I, .none, h⟩
theorem po_some (h : PE X e te) : PO X (some e) (tPart te) := by
  intro pins s σ H Q I hw
  rw [evalPart_some]
  refine thn (h pins s σ H _ I hw) fun u s1 ⟨x, H1, I1, r1, q1⟩ => ?_
  obtain ⟨i, rfl, q⟩ := q1
  obtain ⟨t, rfl⟩ := r1
  exact ⟨some i, H1, I1, .int i t, q⟩

/-- what a slice of a value is, by values: the slice object stands at sl -/
def SlR (X : Cx) (r : V → Option Int → Option Int → Hp → VK → Prop) : Prop :=
  ∀ (pins : List (Addr × Obj)) (s : Shared) (σ : St) (H : Hp) (x : V) (v vl vu : Value) (lo hi : Option Int) (sl : Addr) (Q : VK), Inv X pins σ H s → RelV x v → s.heap.IsSliceOf sl vl vu .none → IsPart vl lo → IsPart vu hi → r x lo hi H Q →
    ∃ T id, typeLookup (.type T) "__getitem__" = pure (some (.builtin id)) ∧ s.TypeIs v T ∧ wpAny (model X.prog X.w) X.A (getItem v (.ref sl)) (EP X pins σ Q) X.xe s
def tSl (r : V → Option Int → Option Int → Hp → VK → Prop) (te : TE) (tl th : TO) : TE := fun σ H Q => te σ H fun x H1 => tl σ H1 fun l H2 => th σ H2 fun u H3 => r x l u H3 Q
/-- a[lo:hi], any a -/
theorem pe_slice {r : V → Option Int → Option Int → Hp → VK → Prop} (hr : SlR X r) (he : PE X e te) (hl : PO X lo tl) (hu : PO X hi th) : PE X (.Subscript e (.Slice lo hi none p2) pos) (tSl r te tl th) := by
  intro pins s σ H Q I h
  refine Subscript_ (thn (he pins s σ H _ I h) fun v s1 ⟨x, H1, I1, r1, q1⟩ => ?_)
  refine wpAny_Slice (thn (hl pins s1 σ H1 _ I1 q1) fun vl s2 ⟨l, H2, I2, pl, q2⟩ => thn (hu pins s2 σ H2 _ I2 q2) fun vu s3 ⟨u, H3, I3, pu, q3⟩ => ?_)
  rw [evalPart_none]
  refine wpAny_pure ?_
  have I4 : Inv X pins σ H3 { s3 with heap := s3.heap.push { cls := .type "slice", data := .fields #[vl, vu, .none] } } := I3.kept (t' := s3.toks) fun b ob q => Heap.get?_push_of_some _ q
  obtain ⟨T, id, hT, ht, hg⟩ := hr pins { s3 with heap := s3.heap.push { cls := .type "slice", data := .fields #[vl, vu, .none] } } σ H3 x v vl vu l u s3.heap.objs.size Q I4 r1 (Heap.IsSliceOf.new ..) pl pu q3
  show wpAny (model X.prog X.w) X.A (subscriptTail e (.Slice lo hi none p2) v (.ref s3.heap.objs.size)) (EP X pins σ Q) X.xe { s3 with heap := s3.heap.push { cls := .type "slice", data := .fields #[vl, vu, .none] } }
  exact tail_any (ops := [.ref s3.heap.objs.size, v]) ht hT hg (by with_unfolding_all rfl)

/-- the items of xs[lo:hi] -/
def cutV (xs : List V) (lo hi : Option Int) : List V := (xs.drop (HT.sIx xs.length 0 lo)).take (HT.sIx xs.length xs.length hi - HT.sIx xs.length 0 lo)
theorem cutV_length (xs : List V) (lo hi : Option Int) : (cutV xs lo hi).length ≤ xs.length := by
  unfold cutV
  rw [List.length_take, List.length_drop]
  omega
/-! ### t < u, t + u -/
end
end L2

namespace L2
open PySem PySem.Spec PyProof.Rows

/-! ### places -/
/-- the place that an index of any sign means -/
def ixN (n : Nat) (i : Int) : Option Nat := if 0 ≤ i then (if i < n then some i.toNat else none) else if -(n : Int) ≤ i then some (i + n).toNat else none
def atI {α : Type} (xs : List α) (i : Int) : Option α := (ixN xs.length i).bind fun j => xs[j]?
theorem ixN_seq {n : Nat} {i : Int} {j : Nat} (h : ixN n i = some j) : seqIndex? i n = some j ∧ j < n ∧ -(n : Int) ≤ i ∧ i < n := by
  unfold ixN at h
  by_cases h0 : 0 ≤ i
  · rw [if_pos h0] at h
    by_cases h1 : i < n
    · rw [if_pos h1] at h
      have e : i.toNat = j := Option.some.inj h
      exact ⟨by rw [seqIndex_of h0 h1, e], by omega, by omega, h1⟩
    · rw [if_neg h1] at h; cases h
  · rw [if_neg h0] at h
    by_cases h1 : -(n : Int) ≤ i
    · rw [if_pos h1] at h
      have e : (i + n).toNat = j := Option.some.inj h
      exact ⟨by rw [seqIndex_neg (by omega) h1, e], by omega, h1, by omega⟩
    · rw [if_neg h1] at h; cases h
theorem atI_get {α : Type} {xs : List α} {i : Int} {v : α} (h : atI xs i = some v) : ∃ j, seqIndex? i xs.length = some j ∧ xs[j]? = some v ∧ j < xs.length ∧ -(xs.length : Int) ≤ i ∧ i < xs.length := by
  unfold atI at h
  cases e : ixN xs.length i with
  | none => rw [e] at h; cases h
  | some j =>
    rw [e] at h
    obtain ⟨h1, h2, h3, h4⟩ := ixN_seq e
    exact ⟨j, h1, h, h2, h3, h4⟩
theorem atI_nat {α : Type} {xs : List α} {j : Nat} {v : α} (h : xs[j]? = some v) : atI xs (j : Int) = some v := by
  have hj : j < xs.length := (List.getElem?_eq_some_iff.mp h).1
  have e : ixN xs.length (j : Int) = some j := by
    unfold ixN
    rw [if_pos (by omega), if_pos (by omega)]; simp
  unfold atI; rw [e]; exact h
theorem atI_last {α : Type} (xs : List α) (v : α) : atI (xs ++ [v]) (-1) = some v := by
  have hl : (xs ++ [v]).length = xs.length + 1 := by simp
  have e : ixN (xs ++ [v]).length (-1) = some xs.length := by
    unfold ixN
    rw [hl, if_neg (by decide), if_pos (by omega)]
    congr 1
    omega
  unfold atI
  rw [e]
  show (xs ++ [v])[xs.length]? = some v
  simp

/-! ### what may be subscripted -/
/-- what stands as an index of a plain subscript -/
def PlainIx (b : Expr) : Prop := ∀ o i, subscripted b false o i = operate [o, i] (getItem o i)
/-- a subscript by values -/
def IxR (X : Cx) (r : R2) : Prop :=
  ∀ (value slice : Expr) (pins : List (Addr × Obj)) (s : Shared) (σ : St) (H : Hp) (x y : V) (v u : Value) (Q : VK), Inv X pins σ H s → RelV x v → RelV y u → r x y H Q →
    subscripted slice false v u = operate [v, u] (getItem v u) → wpAny (model X.prog X.w) X.A (subscriptTail value slice v u) (EP X pins σ Q) X.xe s
/-- a call of a builtin's method by values: the receiver, the arguments -/
def MtR (X : Cx) (id : String) (r : V → List V → Hp → VK → Prop) : Prop :=
  ∀ (pins : List (Addr × Obj)) (s : Shared) (σ : St) (H : Hp) (x : V) (xs : List V) (v : Value) (us : List Value) (Q : VK), Inv X pins σ H s → RelV x v → Vals xs us → r x xs H Q →
    wpAny (model X.prog X.w) X.A (call (.builtin id) (v :: us)) (EP X pins σ Q) X.xe s
section
variable {X : Cx} {a b : Expr} {ta tb : TE} {pos : Pos}
/-- a[b] -/
theorem pe_ix {r : R2} (hr : IxR X r) (ha : PE X a ta) (hb : PE X b tb) (hs : PlainIx b) : PE X (.Subscript a b pos) (tOp r ta tb) := by
  intro pins s σ H Q I h
  exact Subscript_ (binT ha hb I h fun v u s2 x y H2 I2 rx ry q => hr a b pins s2 σ H2 x y v u Q I2 rx ry q (hs _ _))

def rIxL (K : PySem.W.Frag) : R2 := fun x y H Q => ∃ p xs i v, x = .ref p ∧ y = .int i ∧ SqL K H p xs ∧ atI xs i = some v ∧ Q v H
def rIxT (K : PySem.W.Frag) : R2 := fun x y H Q => ∃ p xs i v, x = .ref p ∧ y = .int i ∧ SqT K H p xs ∧ atI xs i = some v ∧ Q v H
def rIxS : R2 := fun x y H Q => ∃ z i c, x = .str z ∧ y = .int i ∧ z.length ≤ sizeLine ∧ atI z.cps.toList i = some c ∧ Q (.str ⟨#[c]⟩) H
theorem ix_list : IxR X (rIxL X.K) := by
  intro value slice pins s σ H x y v u Q I rx ry h hs
  obtain ⟨p, xs, i, z, rfl, rfl, hq, he, q⟩ := h
  cases rx
  obtain ⟨t, rfl⟩ := ry
  obtain ⟨its, r, pl, hz⟩ := I.list hq
  obtain ⟨j, h1, h2, h3, h4, h5⟩ := atI_get he
  obtain ⟨w, ew, rw'⟩ := r.get h2
  have hl := r.length
  have hn := line63
  have fin : EP X pins σ Q w s := ⟨z, H, I, rw', q⟩
  by_cases h0 : 0 ≤ i
  · have hj : i.toNat = j := by
      rw [seqIndex_of h0 h5] at h1
      exact Option.some.inj h1
    exact item_listR pl.isList h0 (by omega) (by rw [hj]; simpa using ew) fin hs
  · have hj : (i + (its.toArray.size : Int)).toNat = j := by
      rw [seqIndex_neg (by omega) h4] at h1
      rw [List.size_toArray, ← hl]
      exact Option.some.inj h1
    exact subscriptTail_builtinR (x := w) pl.isList.typeIs slot_list_getitem.lookup
      (wpAny_getItem_list_neg (Q := fun r s' => r = w ∧ EP X pins σ Q r s') pl.isList (by omega) (by rw [List.size_toArray] <;> omega) (by omega) (by rw [hj]; simpa using ew) ⟨rfl, fin⟩) hs
theorem ix_tup : IxR X (rIxT X.K) := by
  intro value slice pins s σ H x y v u Q I rx ry h hs
  obtain ⟨p, xs, i, z, rfl, rfl, hq, he, q⟩ := h
  cases rx
  obtain ⟨t, rfl⟩ := ry
  obtain ⟨its, r, pl, hz⟩ := I.tuple hq
  obtain ⟨j, h1, h2, h3, h4, h5⟩ := atI_get he
  obtain ⟨w, ew, rw'⟩ := r.get h2
  have hl := r.length
  have hn := line63
  have fin : EP X pins σ Q w s := ⟨z, H, I, rw', q⟩
  exact subscriptTail_builtinR (x := w) pl.typeIs slot_tuple_getitem.lookup
    (getItem_tuple (j := j) (Q := fun r s' => r = w ∧ EP X pins σ Q r s') pl (by omega) (by omega) (by rw [List.size_toArray, ← hl]; exact h1) (by simpa using ew) ⟨rfl, fin⟩) hs
theorem ix_str : IxR X rIxS := by
  intro value slice pins s σ H x y v u Q I rx ry h hs
  obtain ⟨z, i, c, rfl, rfl, hz, he, q⟩ := h
  obtain ⟨t, rfl⟩ := rx
  obtain ⟨t', rfl⟩ := ry
  obtain ⟨j, h1, h2, h3, h4, h5⟩ := atI_get he
  have hl : z.cps.toList.length = z.length := by simp [Str.length]
  rw [hl] at h1 h4 h5
  have hn := line63
  exact tail_any (typeIs_str s z t) slot_str_getitem.lookup (getItem_str (c := c) (by
    have e1 : decide (i < -(2 ^ 63 : Int)) = false := decide_eq_false (by omega)
    have e2 : decide (i ≥ 2 ^ 63) = false := decide_eq_false (by omega)
    rw [e1, e2, Bool.or_false]) (by rw [h1]; simpa using h2) ⟨.str ⟨#[c]⟩, H, I.tok _, ⟨_, rfl⟩, q⟩) hs
/-! ### xs[i] = v, any sign -/
/-! ### slices -/
theorem slice_bounds (lo hi : Option Int) (n : Nat) : (sliceBounds lo hi none n).1 = ((HT.sIx n 0 lo : Nat) : Int) ∧ (sliceBounds lo hi none n).2.1 = ((HT.sIx n n hi : Nat) : Int) ∧ (sliceBounds lo hi none n).2.2 = 1 := by
  refine ⟨?_, ?_, rfl⟩
  · cases lo with
    | none => simp [sliceBounds, HT.sIx]
    | some i =>
      simp only [sliceBounds, HT.sIx, Option.getD_none, show (1 : Int) > 0 by decide, if_true]
      by_cases h : i < 0
      · simp only [h, if_true] <;> omega
      · simp only [h, if_false] <;> omega
  · cases hi with
    | none => simp [sliceBounds, HT.sIx]
    | some i =>
      simp only [sliceBounds, HT.sIx, Option.getD_none, show (1 : Int) > 0 by decide, if_true]
      by_cases h : i < 0
      · simp only [h, if_true] <;> omega
      · simp only [h, if_false] <;> omega
theorem slicePick_cut (its : List Value) (lo hi : Option Int) : slicePick its.toArray lo hi none = ((its.drop (HT.sIx its.length 0 lo)).take (HT.sIx its.length its.length hi - HT.sIx its.length 0 lo)).toArray := by
  obtain ⟨h1, h2, h3⟩ := slice_bounds lo hi its.toArray.size
  unfold slicePick
  rw [h1, h2, h3]
  simp only [sliceRange_one, pick_run, List.size_toArray] <;> rfl
/-- xs[lo:hi] of a list: a new list -/
def rSlL (K : PySem.W.Frag) : V → Option Int → Option Int → Hp → VK → Prop := fun x lo hi H Q => ∃ a xs, x = .ref a ∧ SqL K H a xs ∧ ∀ p, H p = none → Q (.ref p) (upd H p (.lst (cutV xs lo hi)))
theorem sl_list : SlR X (rSlL X.K) := by
  intro pins s σ H x v vl vu lo hi sl Q I rx hs pl pu h
  obtain ⟨a, xs, rfl, hx, q⟩ := h
  cases rx
  obtain ⟨its, r, ht, hz⟩ := I.list hx
  have hlen := r.length
  refine ⟨"list", _, slot_list_getitem.lookup, ht.isList.typeIs, ?_⟩
  refine wpAny_getItem_list_slice ht.isList hs pl pu .none (by simp) ?_ (by rw [List.size_toArray] <;> omega)
  rw [slicePick_cut, ← hlen]
  refine ⟨.ref s.heap.objs.size, _, I.laid (t' := s.toks) (o := .lst (cutV xs lo hi)) (fun b ob q => Heap.get?_push_of_some _ q) (Nat.le_refl _) ?_, rfl, q _ (I.hok.fresh (Nat.le_refl _))⟩
  exact ⟨Nat.le_trans (cutV_length xs lo hi) hz, _, 0, (r.drop (HT.sIx xs.length 0 lo)).take (HT.sIx xs.length xs.length hi - HT.sIx xs.length 0 lo), Heap.get?_push_size _ rfl⟩

/-! ### in, not in: flat items -/
/-! ### len, list(x), tuple(x) of any list or tuple that is read -/
theorem call_len_seq : CallR X (.builtin "len") (fun xs H Q => ∃ p ys, xs = [.ref p] ∧ (SqL X.K H p ys ∨ SqT X.K H p ys) ∧ Q (.int ys.length) H) := by
  intro pins s σ H xs us Q I r h
  obtain ⟨p, ys, rfl, hq, q⟩ := h
  obtain ⟨u, rfl, rx⟩ := vals1 r
  cases rx
  have hn := line63
  rcases hq with hq | hq
  · obtain ⟨its, r', pl, hz⟩ := I.list hq
    have hlen := r'.length
    exact Calls.call_len_list pl.isList (by simp only [List.size_toArray] <;> omega) ⟨.int ys.length, H, I.tok _, ⟨s.toks + 1, by rw [List.size_toArray, hlen]⟩, q⟩
  · obtain ⟨its, r', pl, hz⟩ := I.tuple hq
    have hlen := r'.length
    exact len_tuple pl (by simp only [List.size_toArray] <;> omega) ⟨.int ys.length, H, I.tok _, ⟨s.toks + 1, by rw [List.size_toArray, hlen]⟩, q⟩
theorem call_tuple_of : CallR X (.type "tuple") (fun xs H Q => ∃ p ys, xs = [.ref p] ∧ ((SqL X.K H p ys ∧ ∀ l, H l = none → Q (.ref l) (upd H l (.tup ys))) ∨ (SqT X.K H p ys ∧ Q (.ref p) H))) := by
  intro pins s σ H xs us Q I r h
  obtain ⟨p, ys, rfl, h⟩ := h
  obtain ⟨u, rfl, rx⟩ := vals1 r
  cases rx
  rcases h with ⟨hq, q⟩ | ⟨hq, q⟩
  · obtain ⟨its, r', pl, hz⟩ := I.list hq
    have hlen := r'.length
    refine call_tuple_list pl.isList (fun h' kp => ?_) (by simp only [List.size_toArray] <;> omega)
    have I1 : Inv X pins σ H { s with heap := h' } := I.kept (t' := s.toks) kp
    have I2 : Inv X pins σ (upd H h'.objs.size (.tup ys)) { s with heap := h'.push { cls := .type "tuple", data := .seq its.toArray } } :=
      I1.laid (t' := s.toks) (fun b o e => Heap.get?_push_of_some _ e) (Nat.le_refl _) (show ObjOk X.prog X.w _ _ _ (.tup ys) from ⟨hz, its, r', IsTup.new _ _⟩)
    exact ⟨.ref h'.objs.size, _, I2, rfl, q _ (I1.hok.fresh (Nat.le_refl _))⟩
  · obtain ⟨its, r', pl, hz⟩ := I.tuple hq
    exact call_tuple_same pl ⟨.ref p, H, I, rfl, q⟩

/-! ### the call of a builtin's method: o.m(..) -/
/-- the value is of that builtin type -/
def tyV (K : PySem.W.Frag) (T : String) (x : V) (H : Hp) : Prop := match x with
  | .str _ => T = "str"
  | .int _ => T = "int"
  | .ref p => (T = "list" ∧ ∃ xs, SqL K H p xs) ∨ (T = "tuple" ∧ ∃ o, K.lookup p = some o ∧ o.cls = .type "tuple" ∧ o.dict = none) ∨
      (T = "dict" ∧ ((∃ kvs, H p = some (.dK kvs)) ∨ ∃ kvs, H p = some (.dT kvs))) ∨ (T = "set" ∧ ∃ S n, H p = some (.set S n))
  | _ => False
theorem tyV_is {pins : List (Addr × Obj)} {σ : St} {H : Hp} {s : Shared} {T : String} {x : V} {v : Value} (I : Inv X pins σ H s) (r : RelV x v) (ty : tyV X.K T x H) :
    s.TypeIs v T ∧ ∀ a, v = .ref a → ∃ ob, s.heap.get? a = some ob ∧ ob.dict = none := by
  cases x with
  | str z =>
    obtain ⟨t, rfl⟩ := r
    cases (show T = "str" from ty)
    exact ⟨typeIs_str s z t, fun _ e => nomatch e⟩
  | int i =>
    obtain ⟨t, rfl⟩ := r
    cases (show T = "int" from ty)
    exact ⟨typeIs_int s i t, fun _ e => nomatch e⟩
  | ref p =>
    cases r
    rcases ty with ⟨rfl, xs, hq⟩ | ⟨rfl, o, hk, hc, hd⟩ | ⟨rfl, hk⟩ | ⟨rfl, S, n, hk⟩
    · obtain ⟨its, _, pl, _⟩ := I.list hq
      refine ⟨pl.isList.typeIs, fun a e => ?_⟩
      cases e
      obtain ⟨o, n, e, c, hd, _⟩ := pl
      exact ⟨o, e, hd⟩
    · refine ⟨⟨o, I.kIn p o hk, hc⟩, fun a e => ?_⟩
      cases e
      exact ⟨o, I.kIn _ o hk, hd⟩
    · have z : ∃ o, s.heap.get? p = some o ∧ o.ExactDict := by
        rcases hk with ⟨kvs, hk⟩ | ⟨kvs, hk⟩
        · obtain ⟨_, _, _, _, o, _, _, e, ex, _⟩ := I.hok p _ hk
          exact ⟨o, e, ex⟩
        · obtain ⟨_, _, _, _, o, _, _, e, ex, _⟩ := I.hok p _ hk
          exact ⟨o, e, ex⟩
      obtain ⟨o, e, ex⟩ := z
      refine ⟨⟨o, e, ex.1⟩, fun a e2 => ?_⟩
      cases e2
      exact ⟨o, e, ex.2.1⟩
    · obtain ⟨o, _, _, _, e, ex, _⟩ := I.hok p _ hk
      refine ⟨⟨o, e, ex.1⟩, fun a e2 => ?_⟩
      cases e2
      exact ⟨o, e, ex.2.1⟩
  | _ => exact False.elim ty
def tBM0 (K : PySem.W.Frag) (T : String) (r : V → List V → Hp → VK → Prop) (to : TE) : TE := fun σ H Q => to σ H fun x H1 => tyV K T x H1 ∧ r x [] H1 Q
def tBM (K : PySem.W.Frag) (T : String) (r : V → List V → Hp → VK → Prop) (to : TE) (t : TA) : TE := fun σ H Q => to σ H fun x H1 => tyV K T x H1 ∧ t σ H1 fun xs H2 => r x xs H2 Q
variable {o e : Expr} {es : List Expr} {to : TE} {t : TA} {name : Str} {apos cpos : Pos} {T id : String} {r : V → List V → Hp → VK → Prop}
theorem pe_bm0 (pa : PlainAttrs T) (slot : Slot T name id) (hty : typeOf (.builtin id) = pure (.type "method_descriptor")) (hm : MtR X id r) (ho : PE X o to)
    (hbase : attributeBase o name X.env (eval o X.env) = eval o X.env := by rfl) (hline : (apos.endLine == cpos.line) = true := by rfl) : PE X (.Call (.Attribute o name apos) [] [] cpos) (tBM0 X.K T r to) := by
  intro pins s σ H Q I h
  refine wpAny_Call_method0_late hbase hline (thn (ho pins s σ H _ I h) fun v s1 ⟨x, H1, I1, r1, ty, q1⟩ => ?_)
  obtain ⟨h1, h2⟩ := tyV_is I1 r1 ty
  exact ⟨T, id, pa, slot, hty, h1, h2, Calls.callWith_builtin rfl (PySem.evalArgs_none (hm pins s1 σ H1 x [] v [] Q I1 r1 .nil q1))⟩
theorem pe_bm (pa : PlainAttrs T) (slot : Slot T name id) (hty : typeOf (.builtin id) = pure (.type "method_descriptor")) (hm : MtR X id r) (ho : PE X o to) (ha : PA X (e :: es) t)
    (hbase : attributeBase o name X.env (eval o X.env) = eval o X.env := by rfl)
    (hfew : ((backTo cpos (starEach (e :: es) X.env)).all (fun x => !x.1) && (backToKw cpos (keywordEach [] X.env)).all (fun x => x.1.isSome)
      && decide ((e :: es).length + ([] : List Keyword).length + (if ([] : List Keyword).isEmpty then 0 else 1) < 30)) = true := by rfl)
    (hline : (apos.endLine == cpos.line) = true := by rfl) (hs : starEach (e :: es) X.env = (false, eval e X.env) :: starEach es X.env := by rfl) (hplain : (backTo cpos (starEach es X.env)).any (·.1) = false := by rfl) :
    PE X (.Call (.Attribute o name apos) (e :: es) [] cpos) (tBM X.K T r to t) := by
  intro pins s σ H Q I h
  refine wpAny_Call_method_late hbase hfew hline rfl (thn (ho pins s σ H _ I h) fun v s1 ⟨x, H1, I1, r1, ty, q1⟩ => ?_)
  obtain ⟨h1, h2⟩ := tyV_is I1 r1 ty
  refine ⟨T, id, pa, slot, hty, h1, h2, ?_⟩
  have hA := ha cpos pins s1 σ H1 _ I1 q1
  rw [hs] at hA ⊢
  refine Calls.callWith_builtin (by show (false || (backTo cpos (starEach es X.env)).any (·.1)) = false; rw [hplain] <;> rfl) (Calls.evalArgs_plain ?_)
  exact thn hA fun us s2 ⟨vs, H2, I2, r2, q2⟩ => hm pins s2 σ H2 x vs v us Q I2 r1 r2 q2
/- xs.append(e), list.index on a module's tuple .. are MtR facts of 06m -/
end
end L2

namespace L2
open PySem PySem.Spec PyProof.Rows

def MtM (X : Cx) (id : String) (r : V → List V → Hp → VK → Prop) : Prop :=
  ∀ (pins : List (Addr × Obj)) (s : Shared) (σ : St) (H : Hp) (x : V) (xs : List V) (v : Value) (us : List Value) (Q : VK), Inv X pins σ H s → RelV x v → Vals xs us → r x xs H Q →
    wpAny (model X.prog X.w) X.A (call (.builtin id) (v :: us)) (EP X pins σ Q) X.xe s

/-! ### lists of values -/
theorem Vals.one : ∀ {x : V} {us : List Value}, Vals [x] us → ∃ u, us = [u] ∧ RelV x u
  | _, _, .cons r .nil => ⟨_, rfl, r⟩
theorem Vals.two : ∀ {x y : V} {us : List Value}, Vals [x, y] us → ∃ u v, us = [u, v] ∧ RelV x u ∧ RelV y v
  | _, _, _, .cons r (.cons q .nil) => ⟨_, _, rfl, r, q⟩
theorem Vals.zero : ∀ {us : List Value}, Vals [] us → us = []
  | _, .nil => rfl
theorem Vals.dropLast {xs : List V} {us : List Value} (h : Vals xs us) : Vals xs.dropLast us.dropLast := by
  induction h with
  | nil => exact .nil
  | cons r t ih =>
    cases t with
    | nil => exact .nil
    | cons q t' => exact .cons r ih
theorem erase_last {α : Type} (l : List α) : l.eraseIdx (l.length - 1) = l.dropLast := by
  induction l with
  | nil => rfl
  | cons a r ih =>
    cases r with
    | nil => rfl
    | cons b r =>
      have e : (a :: b :: r).length - 1 = ((b :: r).length - 1) + 1 := by
        have h1 : (a :: b :: r).length = r.length + 2 := rfl
        have h2 : (b :: r).length = r.length + 1 := rfl
        omega
      rw [e, List.eraseIdx_cons_succ, ih]
      all_goals rfl
section
variable {X : Cx} {pins : List (Addr × Obj)} {σ : St} {H : Hp} {s : Shared} {l b : Addr} {xs ys zs : List V}

/-! ### the two steps: a tracked list is rewritten, a new list is laid -/
theorem Inv.lset {its its' : List Value} {n : Nat} {f : Array Value → Array Value} {t' : Nat} (I : Inv X pins σ H s) (hH : H l = some (.lst xs))
    (e : s.heap.get? l = some { cls := .type "list", data := .seq its.toArray n }) (hf : f its.toArray = its'.toArray) (hv : Vals ys its') (hz : ys.length ≤ sizeLine) :
    Inv X pins σ (upd H l (.lst ys)) { s with heap := s.heap.update l (Obj.mapSeq f), toks := t' } := by
  have q := PySem.IsL.update e f
  rw [hf] at q
  refine I.write (x := l) (e := l) (by rw [hH]; exact trivial) (.inl rfl) (fun b' u hb hu => (Heap.get?_update_other s.heap (Obj.mapSeq f) (Ne.symm hb)).trans hu) ⟨_, q⟩ ?_
  exact ⟨hz, its', _, hv, q⟩
theorem Inv.lnew {its : List Value} {t' : Nat} (I : Inv X pins σ H s) (hv : Vals ys its) (hz : ys.length ≤ sizeLine) :
    Inv X pins σ (upd H s.heap.objs.size (.lst ys)) { s with heap := s.heap.push { cls := .type "list", data := .seq its.toArray }, toks := t' } :=
  I.laid (fun _ _ q => Heap.get?_push_of_some _ q) (Nat.le_refl _) ⟨hz, its, 0, hv, Heap.get?_push_size _ rfl⟩
theorem Inv.fresh (I : Inv X pins σ H s) : H s.heap.objs.size = none := I.hok.fresh (Nat.le_refl _)
theorem Inv.lstM (I : Inv X pins σ H s) (hH : H l = some (.lst xs)) : xs.length ≤ sizeLine ∧ ∃ (its : List Value) (n : Nat), Vals xs its ∧ xs.length = its.length ∧ s.heap.get? l = some { cls := .type "list", data := .seq its.toArray n } := by
  obtain ⟨z, its, n, r, e⟩ := I.hok l _ hH
  exact ⟨z, its, n, r, r.length, e⟩

end

section
variable {X : Cx}

/-! ### methods -/
def rAppend : V → List V → Hp → VK → Prop := fun x vs H Q => ∃ l xs y, x = .ref l ∧ vs = [y] ∧ H l = some (.lst xs) ∧ xs.length < sizeLine ∧ Q .non (upd H l (.lst (xs ++ [y])))
theorem mt_append : MtM X "list.append" rAppend := by
  intro pins s σ H x vs v us Q I rx rv h
  obtain ⟨l, xs, y, rfl, rfl, hH, hz, q⟩ := h
  cases rx
  obtain ⟨u, rfl, ru⟩ := rv.one
  obtain ⟨z, its, n, r, hl, e⟩ := I.lstM hH
  refine call_meets F.slot_list_append ⟨_, e, rfl⟩ F.entry_list_append (F.args_list_append_2 _ _) (PySem.list_append l its.toArray n u (by rw [List.size_toArray]; omega)) ⟨e, ?_⟩
  refine ⟨.non, _, I.lset (its' := its ++ [u]) hH e (by simp) (r.append (.cons ru .nil)) ?_, rfl, q⟩
  rw [List.length_append, List.length_singleton]
  omega

def rPop : V → List V → Hp → VK → Prop := fun x vs H Q => ∃ l xs y, x = .ref l ∧ vs = [] ∧ H l = some (.lst xs) ∧ xs[xs.length - 1]? = some y ∧ Q y (upd H l (.lst xs.dropLast))
theorem mt_pop : MtM X "list.pop" rPop := by
  intro pins s σ H x vs v us Q I rx rv h
  obtain ⟨l, xs, y, rfl, rfl, hH, hy, q⟩ := h
  cases rx
  have hus := rv.zero
  subst hus
  obtain ⟨z, its, n, r, hl, e⟩ := I.lstM hH
  obtain ⟨u, hu, ru⟩ := r.get hy
  have hy' : its.toArray[its.toArray.size - 1]? = some u := by
    show its.toArray[its.length - 1]? = some u
    rw [← Array.getElem?_toList, ← hl]
    exact hu
  refine call_meets F.slot_list_pop ⟨_, e, rfl⟩ F.entry_list_pop (F.args_list_pop_1 _) (MeetsSeq.list_pop_last l its.toArray n u hy' (by rw [List.size_toArray]; omega)) ⟨e, ?_⟩
  refine ⟨y, _, I.lset (its' := its.dropLast) hH e ?_ r.dropLast ?_, ru, q⟩
  · show its.toArray.eraseIdxIfInBounds (its.toArray.size - 1) = its.dropLast.toArray
    rw [List.size_toArray, List.eraseIdxIfInBounds_toArray, erase_last]
  · rw [List.length_dropLast]
    omega

/-! ### list + list, list += list, list * int -/
def rCat : R2 := fun x y H Q => ∃ l b xs zs, x = .ref l ∧ y = .ref b ∧ H l = some (.lst xs) ∧ H b = some (.lst zs) ∧ xs.length + zs.length ≤ sizeLine ∧ ∀ p, H p = none → Q (.ref p) (upd H p (.lst (xs ++ zs)))
theorem op_cat : OpR X (binaryOp .Add) rCat := by
  intro pins s σ H x y v u Q I rx ry h
  obtain ⟨l, b, xs, zs, rfl, rfl, hH, hB, hz, q⟩ := h
  cases rx
  cases ry
  obtain ⟨z, its, n, r, hl, e⟩ := I.lstM hH
  obtain ⟨z2, its2, n2, r2, hl2, e2⟩ := I.lstM hB
  refine PySem.P.add_list e e2 ?_ (by rw [List.size_toArray, List.size_toArray]; omega)
  have ea : its.toArray ++ its2.toArray = (its ++ its2).toArray := by simp
  rw [ea]
  exact ⟨.ref _, _, I.lnew (t' := s.toks) (r.append r2) (by rw [List.length_append]; omega), rfl, q _ I.fresh⟩
/-! ### del xs[i] -/
end

/-! ### xs[a:b] = ys -/
section
variable {prog : Program} {w : World} {A : Around} {E : Value → Shared → Prop} {s : Shared}
end

section
variable {X : Cx}
end
end L2

namespace Att
open PySem PySem.W PySem.Calls PyProof.Rows

/-! ### the script -/
theorem ints_of_wellAll {P : Params} {h : Heap} : ∀ (ns : List Int) (vs : List Value), WellAll P h vs (ns.map WData.int) → IntsAre vs ns := by
  intro ns
  induction ns with
  | nil =>
    intro vs w
    rw [List.map_nil] at w
    cases w
    exact .nil
  | cons n ns ih =>
    intro vs w
    rw [List.map_cons] at w
    cases w with
    | cons a b =>
      cases a
      exact .cons _ _ (ih _ b)

theorem script_of {l : OpenLaw} {n : Nat} (hn : l.most = some n) {P : Params} {h : Heap} {args : List WData} {vals : List Value}
    (hpre : l.row.toRowW.claim.pre args = true) (hwl : WellAll P h vals args) :
    ∃ a vs ns, vals = [Value.ref a] ∧ args = [WData.list (ns.map WData.int)] ∧ h.get? a = some { cls := .type "list", data := .seq vs.toArray } ∧ IntsAre vs ns ∧ ns.length ≤ n := by
  have hsh : WShape.hasAll [] args [.list .int] = true := (pre_splitW hpre).1
  have hc : l.pre.holds [] { args := args } = true := (pre_splitW hpre).2
  obtain ⟨d, r, rfl, h1, h2⟩ := hasAllW_cons hsh
  obtain rfl := hasAllW_nil h2
  obtain ⟨xs, rfl, h3⟩ := hasW_list h1
  obtain ⟨ns, rfl⟩ := items_int h3
  have hlen : ns.length ≤ n := by
    unfold OpenLaw.pre at hc
    have h4 : (WTm.not (.lt (.lit (.int (n : Int))) (.len (.arg 0)))).holds [] { args := [.list (ns.map .int)] } = true := by
      have h4 := (holds_andW hc).1
      rw [hn] at h4
      exact h4
    have h5 := condW_of h4 (w_not (w_lt w_lit (w_len_list (w_arg rfl))))
    rw [List.length_map] at h5
    refine Nat.le_of_not_lt fun q => ?_
    have q' : (n : Int) < ((ns.length : Nat) : Int) := by omega
    first
      | (rw [decide_eq_true q'] at h5; exact absurd h5 (by decide))
      | (simp at h5; omega)
  cases hwl with
  | cons w1 w2 =>
    cases w2
    cases w1 with
    | list ho hall => exact ⟨_, _, ns, rfl, rfl, ho, ints_of_wellAll ns _ hall, hlen⟩

theorem post_true (l : OpenLaw) (args : List WData) : l.row.toRowW.claim.post args (.bool true) args = true :=
  postW_of (r := l.row.toRowW) (X := (true == true))
    (show WShape.has [] (.bool true) .bool = true by first | rfl | decide | simp [WShape.has, WShape.arms, WShape.armsAll])
    (show (WTm.eq .res (.lit (.bool true))).value [] { args := args, res := some (.bool true), after := args } = some (.bool (true == true)) from w_eq_bool (w_res rfl) w_lit) rfl

/-! ### the attachment: holds_open's last premise (the goal 'hc' behind k_head) from a wpAny of the law's body -/
/-- the same from a codeAny of the CALL (for a layer whose function contracts speak of calls) -/
theorem attach_call {l : OpenLaw} {n : Nat} {q : Program} {loose : List Str} {XP : (Str → Option Value) → Heap → Prop} {YP : World → Heap → Prop} {d : DefRec}
    (hn : l.most = some n) (hdf : d.params.defaults = [])
    (call : ∀ (w : World) (s₀ s₁ : Shared) (mg mb : Str → Option Value) (fa : Addr) (o : Obj) (pm cd doc : Value) (a : Addr) (vs : List Value) (ns : List Int),
      Ground q loose [] XP w s₀ mg mb s₁.heap → YP w s₁.heap →
      s₁.heap.get? fa = some o → o.data = .func (docDef d.name d.params d.body d.scope pm cd doc) → s₁.heap.CodeRec cd d.name → mg d.name = some (.ref fa) →
      s₁.heap.get? a = some { cls := .type "list", data := .seq vs.toArray } → IntsAre vs ns → ns.length ≤ n → s₁.gens = #[] →
      codeAny (model l.prog w) callerA (.call (.ref fa) ⟨[.ref a], []⟩) (fun r s' => r = .ok (.ret (.bool true)) ∧ OldK s₁.heap s'.heap ∧ s'.os = s₁.os ∧ AllBare s'.gens) s₁) :
    WalkO q loose XP YP l.row.toRowW d [] (fun f vs => PySem.call f vs) := by
  intro w s₀ s₁ mg mb G Y fa o pm cd doc dV kV ho hd hcd hD hmg hg args vals as hpre hlay hrd hwl hlo
  obtain rfl : dV = .none := Dflts.none hD hdf
  obtain rfl : kV = .none := Dflts.noKw hD
  obtain ⟨a, vs, ns, rfl, rfl, hobj, hints, hlen⟩ := script_of hn hpre hwl
  refine enter_call (codeAny_mono (call w s₀ s₁ mg mb fa o pm cd doc a vs ns G Y ho (fd_plain hd) hcd hmg hobj hints hlen hg) fun r s' hq => ?_)
  obtain ⟨rfl, h2, h3, h4⟩ := hq
  exact ⟨.inl ⟨.bool true, .bool true, [], rfl, fun _ => rfl, .bool true, post_true l _, fun _ => ⟨List.Pairwise.nil, fun _ hm => (nomatch hm)⟩⟩, h2, h3, h4⟩

/-! ### rules over ANY heap (no ledger) from facts about the written part K: the library's own take a ledger (News) for what they write -/
section
variable {prog : Program} {w : World} {A : Around} {E : Value → Shared → Prop} {s : Shared} {K : Frag}

/-! the whole heap as the ledger: makes every rule that writes through a ledger a rule over any heap -/
end
end Att

namespace L2
open PySem PySem.Spec PyProof.Rows

theorem vals_ints : ∀ {vs : List Value} {ns : List Int}, IntsAre vs ns → Vals (ns.map V.int) vs
  | _, _, .nil => .nil
  | _, _, .cons n t h => .cons ⟨t, rfl⟩ (vals_ints h)

/-- nothing is tracked but the script, known to the object (or it is an object of the module) -/
def Only (H : Hp) : Prop := ∀ b, H b = none ∨ ∃ o xs, H b = some (.frz o (.lst xs))

/-- THE HEAD: the law's promise, at the heap behind the top. F, the promise of the law's def, may use that base is part of the heap (so K.In base, base.Ns mainGlobals mg stand in Mod) -/
theorem law_call {P : Program} {w : World} {K : PySem.W.Frag} {mg mb : Str → Option Value} {CX : CXT} {k : Nat} {fa a : Addr} {fd : FuncData} {x : Str} {sp : Sp} {s₁ : Shared} {vs : List Value} {ns : List Int}
    (KX : K.In s₁.heap) (hns : s₁.heap.Ns mainGlobals mg) (hb : s₁.heap.Ns builtinsNs mb) (hbb : ∀ x : Str, x ≠ "__name__" → mb x = bootBuiltins x) (hlim : s₁.heap.NoLimit) (hg : s₁.gens = #[])
    (ha : s₁.heap.get? a = some { cls := .type "list", data := .seq vs.toArray }) (hi : IntsAre vs ns) (hl : ns.length ≤ sizeLine) (hr : Room k callerA)
    (F : ∀ base : Heap, K.In base → base.Ns mainGlobals mg → FnOk P w K mg base CX k fa fd [x] sp) (hbind : ∀ (s : Shared) (u : Value), BindsTo s fd ⟨[u], []⟩ [(x, u)])
    (hsp : ∀ H : Hp, Only H → SqL K H a (ns.map V.int) → sp [.ref a] H (fun v _ => v = .bl true) fun _ _ _ => False)
    (hCX : ∀ H e s', CX [] H s₁ (fun _ _ _ => False) e s' → False) :
    codeAny (model P w) callerA (.call (.ref fa) ⟨[.ref a], []⟩) (fun r s' => r = .ok (.ret (.bool true)) ∧ OldK s₁.heap s'.heap ∧ s'.os = s₁.os ∧ AllBare s'.gens) s₁ := by
  have rv := vals_ints hi
  have lenV := hi.length
  -- from an abstract heap in which nothing but the script may be tracked
  have core : ∀ H : Hp, Only H → SqL K H a (ns.map V.int) → HOk P w H s₁.heap → (∀ b, H b ≠ none → b = a) → (H a ≠ none → K.lookup a = none) →
      codeAny (model P w) callerA (.call (.ref fa) ⟨[.ref a], []⟩) (fun r s' => r = .ok (.ret (.bool true)) ∧ OldK s₁.heap s'.heap ∧ s'.os = s₁.os ∧ AllBare s'.gens) s₁ := by
    intro H hO hS hok hA hK
    have base_of : ∀ {b : Addr} {o : Obj}, s₁.heap.get? b = some o → H b = none → (hidT s₁.heap H).get? b = some o := fun e n => hidT_get e n
    have noA : ∀ {b : Addr} {o : Obj} {es : Array DictEntry} {ep : Nat}, s₁.heap.get? b = some o → o.data = .dict es ep → H b = none := fun {b o es ep} e d => by
      cases q : H b with
      | none => rfl
      | some u =>
        have e' : b = a := hA b (by rw [q]; simp)
        subst e'
        rw [ha] at e; cases e
        have d' : Data.seq vs.toArray _ = Data.dict es ep := d
        cases d'
    have nsK : ∀ {b : Addr} {m : Str → Option Value}, s₁.heap.Ns b m → (hidT s₁.heap H).Ns b m := fun {b m} ⟨o, es, ep, e, d, r⟩ => ⟨o, es, ep, base_of e (noA e d), d, r⟩
    have hKb : K.In (hidT s₁.heap H) := fun b o e => base_of (KX b o e) (by
      cases q : H b with
      | none => rfl
      | some u =>
        have e' : b = a := hA b (by rw [q]; simp)
        subst e'
        rw [hK (by rw [q]; simp)] at e; cases e)
    have hM : Mod K mg (hidT s₁.heap H) := ⟨hKb, nsK hns, ⟨mb, nsK hb, hbb⟩, let ⟨mc, h1, h2⟩ := hlim; ⟨mc, nsK h1, h2⟩⟩
    have e0 : Env0 P w K mg (hidT s₁.heap H) callerA [] s₁ H := ⟨rfl, hM, fun b o e => of_hidT e, Nat.le_of_eq (hidT_size _ _), trivial, fun b hb => absurd (show b ∈ ([] : List Addr) from hb) (by simp), hok, .of_eq hg⟩
    refine codeAny_mono ((F _ hKb (nsK hns)).run callerA [] s₁ H ⟨[.ref a], []⟩ [.ref a] [.ref a] _ _ hr e0 (hbind s₁ (.ref a)) (.cons rfl .nil) (hsp H hO hS)) fun r s' h => ?_
    cases r with
    | error e => exact (hCX H e s' h).elim
    | ok fl =>
      cases fl with
      | next => exact False.elim h
      | brk => exact False.elim h
      | cont => exact False.elim h
      | ret u =>
        obtain ⟨v, H', os, bare, un, hok', r', q⟩ := h
        have q' : v = .bl true := q
        subst q'
        obtain rfl : u = Value.bool true := r'
        refine ⟨rfl, OldK.of_keep fun b o e => ?_, os, bare⟩
        cases q : H b with
        | none => exact un.keep b o e q (by intro z; exact absurd (show b ∈ ([] : List Addr) from z) (by simp)) (by simp)
        | some u =>
          rcases hO b with z | ⟨ob, xs, z⟩
          · rw [q] at z; cases z
          · have z2 := un.frzs b ob _ z
            obtain ⟨e1, _⟩ := hok b _ z
            obtain ⟨e2, _⟩ := hok' b _ z2
            rw [e] at e1; cases e1
            exact e2
  cases hk : K.lookup a with
  | some o =>
    -- the script is one of the module's own objects
    have e := KX a o hk
    rw [ha] at e
    cases e
    refine core (fun _ => none) (fun _ => .inl rfl) (.inr ⟨_, vs.toArray, _, hk, rfl, rfl, rfl, by rw [List.size_toArray, lenV]; exact hl, by simpa using rv⟩) (fun b u z => by have z' : (none : Option HO) = some u := z; cases z') (fun b z => absurd rfl z) fun z => absurd rfl z
  | none =>
    refine core (fun b => if b = a then some (.frz { cls := .type "list", data := .seq vs.toArray } (.lst (ns.map V.int))) else none) (fun b => ?_) (.inl (.inr ⟨{ cls := .type "list", data := .seq vs.toArray }, if_pos rfl⟩)) (fun b u z => ?_) (fun b z => ?_) fun _ => hk
    · by_cases hb : b = a
      · exact .inr ⟨_, _, if_pos hb⟩
      · exact .inl (if_neg hb)
    · by_cases hb : b = a
      · have z' := (if_pos hb).symm.trans z
        cases z'
        subst hb
        exact ⟨ha, by rw [List.length_map]; exact hl, vs, _, rv, ha⟩
      · have z' := (if_neg hb).symm.trans z
        cases z'
    · by_cases hb : b = a
      · exact hb
      · exact absurd (if_neg hb) z
end L2

namespace L2
open PySem PySem.Spec PyProof.Rows

/-- the goal that k_head leaves (case hc), from the law's promise. F gives the function object fd (K's own) once, then the promise over every base -/
theorem walk_of {l : PySem.W.OpenLaw} {n k : Nat} {q : Program} {loose : List Str} {XP : (Str → Option Value) → Heap → Prop} {YP : World → Heap → Prop} {d : DefRec} {K : Params → PySem.W.Frag} {CX : World → CXT} {sp : World → Sp} {x : Str}
    (hn : l.most = some n) (hn2 : n ≤ sizeLine) (hdf : d.params.defaults = []) (hr : Room k callerA)
    (hY : ∀ (w : World) (h : Heap), YP w h → (K w.params).In h)
    (F : ∀ (w : World) (mg : Str → Option Value) (fa : Addr) (h : Heap), (K w.params).In h → h.Ns mainGlobals mg → mg d.name = some (.ref fa) →
      ∃ fd : FuncData, (∀ (s : Shared) (u : Value), BindsTo s fd ⟨[u], []⟩ [(x, u)]) ∧
        ∀ base : Heap, (K w.params).In base → base.Ns mainGlobals mg → FnOk l.prog w (K w.params) mg base (CX w) k fa fd [x] (sp w))
    (hsp : ∀ (w : World) (H : Hp) (a : Addr) (ns : List Int), ns.length ≤ n → Only H → SqL (K w.params) H a (ns.map V.int) → sp w [.ref a] H (fun v _ => v = .bl true) fun _ _ _ => False)
    (hCX : ∀ (w : World) (H : Hp) (s : Shared) (e : Value) (s' : Shared), CX w [] H s (fun _ _ _ => False) e s' → False) :
    PySem.W.WalkO q loose XP YP l.row.toRowW d [] (fun f vs => PySem.call f vs) := by
  refine Att.attach_call hn hdf fun w s₀ s₁ mg mb fa o pm cd doc a vs ns G Y ho hd hcd hmg hobj hints hlen hg => ?_
  have KX := hY w _ Y
  obtain ⟨fd, hb, hF⟩ := F w mg fa _ KX G.T.g hmg
  exact law_call KX G.T.g G.T.b G.T.builtins G.T.nolimit hg hobj hints (Nat.le_trans hlen hn2) hr hF hb (fun H hO hS => hsp w H a ns hlen hO hS) fun H e s' => hCX w H s₁ e s'
end L2

/- THE LAST THEOREM (shape; LID, My.* are yours):
   My.Adr: a structure of the addresses that your layer names (classes, functions); My.Txt K t: a structure (Prop) of the equations over K;
   My.txt_mk : {K} {implicit addresses ..} (e1 : nsIn K mainGlobals "law" = some (some (.ref f))) (e2 : K.lookup f = some ⟨oc, od, .func (fnOf "law" "law" params body scope dV kV doc pm an cdv ct), sl⟩) (e3 : codeIn K cdv "law" = true) .. : ∃ t, My.Txt K t

set_option maxRecDepth 100000 in
set_option maxHeartbeats 0 in
theorem PySem.Challenge.cw_LID_holds : PySem.Challenge.rw_LID.Holds := by
  w_on; o_law; k_head; (case hw => w_witness2)
  k_fill
  refine L2.walk_of (l := PySem.Challenge.rw_LID) (n := 63) (k := 40) (x := "script") (CX := fun w => ..) (sp := fun _ => My.sp_law) rfl (by decide) rfl ⟨rfl, by decide, by decide⟩ (fun w h Y => PySem.W.kIn_of Y) ?F ?S ?C
  case F =>
    intro w mg fa h KX G hmg
    have T : ∃ t, My.Txt (L2.KOf KX) t := by
      dsimp only [L2.KOf]                          -- K must stand as «<heap const> w.params» for k_is
      refine' My.txt_mk ?e1 ?e2 ?e3 ..
      (case e1 => PySem.W.k_is)                    -- in the order: a name -> its address -> its object -> its parts
      (case e2 => PySem.W.k_is)
      ..
    obtain ⟨t, T⟩ := T
    have e0 := hmg.symm.trans (PySem.W.mg_of KX G T.law)
    cases e0                                       -- fa is the law's own address
    exact ⟨_, fun s u => .of_eq rfl, fun base kb nb => My.law_fn T kb nb⟩     -- if «.of_eq rfl» comes too early: refine' ⟨_, ?b, fun base kb nb => My.law_fn T kb nb⟩; exact fun s u => .of_eq rfl
  case S => exact fun w H a ns hl hO hS => ..
  case C => exact ..
(the tactic k_is has no namespace: write k_is) -/

/-! SHORT WORDS over the layer: a def of the text, its body, what a loop and a test want. -/
namespace L2
open PySem PySem.Spec PyProof.Rows

/-! ### the text by places -/
def defArgs (s : Stmt) : Arguments := match s with
  | .FunctionDef _ a _ _ _ _ _ _ _ _ => a
  | _ => { posonlyargs := [], args := [], vararg := none, kwonlyargs := [], kw_defaults := [], kwarg := none, defaults := [] }
def defBody (s : Stmt) : List Stmt := match s with
  | .FunctionDef _ _ b _ _ _ _ _ _ _ => b
  | _ => []
def defScope (s : Stmt) : Scope := match s with
  | .FunctionDef _ _ _ _ _ _ sc _ _ _ => sc
  | _ => { kind := .function, names := [], isGenerator := false, isCoroutine := false }

/-! ### no exception leaves a def -/
abbrev CX0 : CXT := fun _ _ _ _ _ _ => False
abbrev E0 : XK := fun _ _ _ => False
theorem pass0 {X : Cx} : Passes CX0 X E0 := fun _ _ _ _ _ _ _ h => h.elim

/-! ### a def (or method) of the text as it stands behind the top -/
structure Fun (K : PySem.W.Frag) (x qual : Str) (st : Stmt) (f : Addr) (fd : FuncData) : Prop where
  ex : ∃ (oc : Value) (od : Option Addr) (kV doc pm : Value) (an : Option Addr) (cdv ct : Value) (osl : Array (Option Value)),
    fd = PySem.W.fnOf x qual (defArgs st) (defBody st) (defScope st) .none kV doc pm an cdv ct ∧ K.lookup f = some ⟨oc, od, .func fd, osl⟩ ∧ PySem.W.codeIn K cdv qual = true
  kp : PySem.W.keepIn K (.ref f) = true
section
variable {P : Program} {w : World} {K : PySem.W.Frag} {mg : Str → Option Value} {base : Heap}
/-- THE RULE for a def: its body as a term of rules, and the reading of that term -/
theorem Fun.ok {x qual : Str} {st : Stmt} {f : Addr} {fd : FuncData} {N ps : List Str} {k : Nat} {sp : Sp} (F : Fun K x qual st f fd) (S : FnScope N ps (defScope st)) (len : ∀ vs H Q E, sp vs H Q E → vs.length = ps.length)
    (hbody : ∀ (cdv : Value) (A : Around) (outer : List Env) (s : Shared) (H : Hp) (vs : List V) (Q : VK) (E : XK), Room k (A.deeper (envOfC qual (defScope st) s.heap.objs.size f cdv)) → sp vs H Q E →
      ∃ t, PSs (cxOf CX0 P w K mg base N qual (defScope st) f cdv A outer s H E).nox (defBody st) t ∧ t { nx := fun _ H' => Q .non H', rt := Q } (start N vs) H) : FnOk P w K mg base CX0 (k + 1) f fd ps sp := by
  obtain ⟨oc, od, kV, doc, pm, an, cdv, ct, osl, rfl, lk, hcd⟩ := F.ex
  refine fn_of lk hcd S len fun A outer s H vs Q E hr hsp => ?_
  obtain ⟨t, h, q⟩ := hbody cdv A outer s H vs Q E hr hsp
  exact ⟨t, h.nox, q⟩
/-- how its arguments bind (no defaults): h is «fun _ _ _ _ _ _ us hl => match us, hl with | [_, _], _ => rfl», one _ a parameter -/
theorem Fun.binds {x qual : Str} {st : Stmt} {f : Addr} {fd : FuncData} {ps : List Str} (F : Fun K x qual st f fd)
    (h : ∀ (kV doc pm : Value) (an : Option Addr) (cdv ct : Value) (us : List Value), us.length = ps.length → bindArgs (PySem.W.fnOf x qual (defArgs st) (defBody st) (defScope st) .none kV doc pm an cdv ct) ⟨us, []⟩ = pure (ps.zip us)) : Binds K fd ps [] := by
  obtain ⟨oc, od, kV, doc, pm, an, cdv, ct, osl, rfl, lk, hcd⟩ := F.ex
  exact .all (h kV doc pm an cdv ct)
theorem fun_mk {x qual : Str} {st : Stmt} {f : Addr} {oc : Value} {od an : Option Addr} {osl : Array (Option Value)} {kV doc pm cdv ct : Value} (l : K.lookup f = some ⟨oc, od, .func (PySem.W.fnOf x qual (defArgs st) (defBody st) (defScope st) .none kV doc pm an cdv ct), osl⟩)
    (c : PySem.W.codeIn K cdv qual = true) (k : PySem.W.keepIn K (.ref f) = true) : Fun K x qual st f (PySem.W.fnOf x qual (defArgs st) (defBody st) (defScope st) .none kV doc pm an cdv ct) := ⟨⟨oc, od, kV, doc, pm, an, cdv, ct, osl, rfl, l, c⟩, k⟩
end
/-! ### expressions in short: the name that stands in the i-th slot -/
section
variable {X : Cx}
theorem pv (i : Nat) {x : Str} {pos : Pos} (hN : X.N[i]? = some x := by rfl) (hv : Vis X.env.scope x := by first | exact Or.inl rfl | exact Or.inr (Or.inl rfl) | exact Or.inr (Or.inr rfl)) (hd : (x == ("__debug__" : Str)) = false := by decide)
    (hcd : (x == ("__classdict__" : Str)) = false := by decide) : PE X (.Name x pos) (tVar i) := pe_var hN hv hd hcd
end

/-! ### tests -/
theorem iteF {A B : Prop} (h : B) : if false = true then A else B := by
  rw [if_neg Bool.false_ne_true]
  exact h
theorem iteT {A B : Prop} (h : A) : if true = true then A else B := by
  rw [if_pos rfl]
  exact h
theorem ite2 {c A B : Prop} [Decidable c] (h1 : c → A) (h2 : ¬ c → B) : if c then A else B := by
  by_cases h : c
  · rw [if_pos h]
    exact h1 h
  · rw [if_neg h]
    exact h2 h
/-! ### heaps -/
/-- all that was tracked is as it was -/
def Same (H H' : Hp) : Prop := ∀ b o, H b = some o → H' b = some o
theorem Same.refl (H : Hp) : Same H H := fun _ _ h => h
theorem Same.trans {H H1 H2 : Hp} (a : Same H H1) (b : Same H1 H2) : Same H H2 := fun c o h => b c o (a c o h)
theorem Same.free {H H' : Hp} (e : Same H H') {l : Addr} (h : H' l = Option.none) : H l = Option.none := by
  cases q : H l with
  | none => rfl
  | some o =>
    rw [e l o q] at h
    cases h
theorem Same.seq {K : PySem.W.Frag} {H H' : Hp} {a : Addr} {xs : List V} (e : Same H H') (h : SqL K H a xs) : SqL K H' a xs := by
  rcases h with (h | ⟨o, h⟩) | h
  · exact .inl (.inl (e _ _ h))
  · exact .inl (.inr ⟨o, e _ _ h⟩)
  · exact .inr h

end L2

/-! Groves as data: a grove is nil, or a first tree (tag, what is within) and the others. Words with an end sl. -/
namespace FgM
section
variable {A : Type}
section
variable [DecidableEq A]
end
end
end FgM

/-! RULES OF OUR OWN over the layer: isinstance, t[::-1], whole slices of tuples, extend by a tuple, text * int, == of data at any depth, calls of own defs in short. -/
namespace L2
open PySem PySem.Spec PyProof.Rows
theorem bt_list : bootBuiltins "list" = some (.type "list") := by decide +kernel
theorem bt_tuple : bootBuiltins "tuple" = some (.type "tuple") := by decide +kernel
theorem bt_str : bootBuiltins "str" = some (.type "str") := by decide +kernel
theorem bt_max : bootBuiltins "max" = some (.builtin "max") := by decide +kernel
theorem bt_min : bootBuiltins "min" = some (.builtin "min") := by decide +kernel
theorem bt_isinstance : bootBuiltins "isinstance" = some (.builtin "isinstance") := by decide +kernel
section
variable {X : Cx}
/-- the name of a built-in type -/
theorem pe_ty {x : Str} {n : String} {pos : Pos} (hg : Gl X x) (hm : X.mg x = none) (hv : bootBuiltins x = some (.type n)) (hn : x ≠ "__name__" := by decide) (hd : (x == ("__debug__" : Str)) = false := by decide) : PE X (.Name x pos) (tC (.ty n)) :=
  pe_bltn (v := .ty n) hg hm hv rfl hn hd
/-- isinstance(x, T), T a built-in type -/
theorem call_isinst : CallR X (.builtin "isinstance") (fun xs H Q => ∃ x n t b, xs = [x, .ty n] ∧ TyOf X.K H x t ∧ PySem.W.kitOne X.K t (.type n) = some b ∧ Q (.bl b) H) := by
  intro pins s σ H xs us Q I r h
  obtain ⟨x, n, t, b, rfl, ty, e, q⟩ := h
  obtain ⟨u, v, rfl, rx, ry⟩ := Vals.two r
  obtain rfl : v = Value.type n := ry
  exact isinst_ok I rx ty e fun tk => ⟨.bl b, H, I.tok tk, rfl, q⟩
end
/-! ### calls of own defs -/
structure Has (P : Program) (w : World) (K : PySem.W.Frag) (mg : Str → Option Value) (base : Heap) (x : Str) (ps : List Str) (k : Nat) (sp : Sp) : Prop where
  ex : ∃ (f : Addr) (fd : FuncData), FnOk P w K mg base CX0 k f fd ps sp ∧ Binds K fd ps [] ∧ PySem.W.keepIn K (.ref f) = true ∧ mg x = some (.ref f)
section
variable {X : Cx} {x : Str} {ps : List Str} {j k : Nat} {sp : Sp} {e : Expr} {es : List Expr} {t : TA} {p pos : Pos}
theorem FnOk.room {P : Program} {w : World} {K : PySem.W.Frag} {mg : Str → Option Value} {base : Heap} {CX : CXT} {f : Addr} {fd : FuncData} (F : FnOk P w K mg base CX j f fd ps sp) (h : j ≤ k) : FnOk P w K mg base CX k f fd ps sp :=
  ⟨F.len, fun A outer s H args us vs Q E hr => F.run A outer s H args us vs Q E (hr.mono h)⟩
theorem pe_has (G : Has X.prog X.w X.K X.mg X.base x ps j sp) (hr : Room k X.A) (hg : Gl X x) (ha : PA X (e :: es) t) (hk : j ≤ k := by decide) (hdb : (x == ("__debug__" : Str)) = false := by decide)
    (he : starEach (e :: es) X.env = (false, eval e X.env) :: starEach es X.env := by rfl) (hpl : (backTo pos (starEach es X.env)).any (·.1) = false := by rfl) :
    PE X (.Call (.Name x p) (e :: es) [] pos) (tCall sp [] E0 t) := by
  obtain ⟨f, fd, F, b, kp, m⟩ := G.ex
  exact pe_call (F.room hk) hr hg m kp b .nil pass0 ha hdb he hpl
end
/-! ### extend by a tuple -/
section
variable {X : Cx}
end
/-! ### text * int -/
section
variable {X : Cx}
def repS (z : Str) (n : Nat) : Str := ⟨(List.replicate n z.cps).foldl (· ++ ·) #[]⟩
theorem repS_zero (z : Str) : repS z 0 = Str.empty := rfl
theorem foldl_app {α : Type} : ∀ (l : List (Array α)) (a : Array α), (l.foldl (· ++ ·) a).toList = a.toList ++ l.flatMap (·.toList)
  | [], a => by simp
  | x :: l, a => by rw [List.foldl_cons, foldl_app l]; simp
theorem repS_cps (z : Str) (n : Nat) : (repS z n).cps.toList = (List.replicate n z.cps.toList).flatten := by
  unfold repS
  rw [foldl_app]
  induction n with
  | zero => rfl
  | succ n ih =>
    rw [List.replicate_succ, List.replicate_succ, List.flatMap_cons, List.flatten_cons]
    simp at ih ⊢
    exact ih
theorem repS_one (z : Str) : repS z 1 = z := by
  cases z with
  | mk c => unfold repS; simp
theorem repS_len (z : Str) (n : Nat) : (repS z n).length = n * z.length := by
  show (repS z n).cps.size = n * z.cps.size
  rw [← Array.length_toList, repS_cps]
  simp
theorem op_mul_str : OpR X (binaryOp .Mult) (fun x y H Q => ∃ z k, x = .str z ∧ y = .int k ∧ -(2 ^ 63) ≤ k ∧ k < 2 ^ 63 ∧ k.toNat * z.length ≤ sizeLine ∧ Q (.str (repS z k.toNat)) H) := by
  intro pins s σ H x y v u Q I rx ry h
  obtain ⟨z, k, rfl, rfl, h1, h2, hz, q⟩ := h
  obtain ⟨t, rfl⟩ := rx
  obtain ⟨t', rfl⟩ := ry
  have hline := sizeLine_eq
  refine PySem.P.mul_str ?_ (fun hk hc => ?_) (fun hk hc => ?_) ?_
  · rw [decide_eq_false (by omega), decide_eq_false (by omega)]
    rfl
  · intro hgt
    have hzk : (z.length : Int) * k ≤ (2 ^ 63 - 1) := by
      have : ((k.toNat * z.length : Nat) : Int) ≤ sizeLine := by exact_mod_cast hz
      rw [Int.natCast_mul, show ((k.toNat : Nat) : Int) = k by omega, Int.mul_comm] at this
      omega
    have := (Int.le_ediv_iff_mul_le (by omega : 0 < k)).mpr hzk
    omega
  · unfold Builtin.Str.tooLong
    refine decide_eq_false ?_
    rw [Nat.mul_comm]
    omega
  · by_cases c1 : k < 1
    · rw [if_pos c1]
      have e : k.toNat = 0 := by omega
      rw [e, repS_zero] at q
      exact ⟨by decide, .str Str.empty, H, I.tok _, ⟨_, rfl⟩, q⟩
    · rw [if_neg c1]
      by_cases c2 : (k == 1 || z.length == 0) = true
      · rw [if_pos c2]
        have e : repS z k.toNat = z := by
          rw [Bool.or_eq_true] at c2
          rcases c2 with c2 | c2
          · have : k = 1 := eq_of_beq c2
            subst this
            exact repS_one z
          · have hz0 : z.length = 0 := eq_of_beq c2
            have a : (repS z k.toNat).cps.toList = z.cps.toList := by
              have l1 : (repS z k.toNat).cps.toList.length = 0 := by
                rw [Array.length_toList]
                have := repS_len z k.toNat
                rw [hz0, Nat.mul_zero] at this
                exact this
              have l2 : z.cps.toList.length = 0 := by
                rw [Array.length_toList]
                exact hz0
              rw [List.eq_nil_of_length_eq_zero l1, List.eq_nil_of_length_eq_zero l2]
            cases z with
            | mk c =>
              have b : (repS ⟨c⟩ k.toNat).cps = c := Array.toList_inj.mp a
              cases hr : repS ⟨c⟩ k.toNat with
              | mk d => rw [hr] at b; exact congrArg Str.mk b
        rw [e] at q
        exact ⟨.str z, H, I, ⟨_, rfl⟩, q⟩
      · rw [if_neg c2]
        refine ⟨?_, .str (repS z k.toNat), H, I.tok _, ⟨_, rfl⟩, q⟩
        have := repS_len z k.toNat
        show (repS z k.toNat).length ≤ sizeLine
        rw [this]
        exact hz
end
end L2
namespace HT
open PySem PyProof.Rows
section
variable {prog : Program} {w : World} {A : Around} {E : Value → Shared → Prop} {s : Shared}
end
end HT

namespace L2
open PySem PySem.Spec PyProof.Rows
/-! ### == and != of data at any depth -/
section
variable {X : Cx} {pins : List (Addr × Obj)} {σ : St} {H : Hp} {s : Shared}
end
section
variable {X : Cx}
theorem hu_room {A : Around} {k : Nat} (hr : Room k A) : A.units + 200 < cLine := by
  have := hr.un
  omega
end
/-! ### t[::-1], slices of tuples whole or not -/
section
variable {X : Cx} {e : Expr} {te : TE} {pos p2 p3 p4 : Pos} {j : Nat}
end
/-! ### heaps: tuples are kept -/
/-- what is no list that may change: the tuples stay -/
def TK (H H' : Hp) : Prop := ∀ b xs, H b = some (.tup xs) → H' b = some (.tup xs)
theorem TK.refl (H : Hp) : TK H H := fun _ _ h => h
theorem TK.trans {H H1 H2 : Hp} (a : TK H H1) (b : TK H1 H2) : TK H H2 := fun c xs h => b c xs (a c xs h)
theorem TK.new {H : Hp} {p : Addr} {o : HO} (h : H p = none) : TK H (upd H p o) := fun b xs q => by
  rw [upd_ne (ne_of_none q h)]
  exact q
theorem TK.lst {H : Hp} {p : Addr} {xs : List V} {o : HO} (h : H p = some (.lst xs)) : TK H (upd H p o) := fun b ys q => by
  by_cases e : b = p
  · subst e
    rw [h] at q
    cases q
  · rw [upd_ne e]
    exact q
theorem Same.tk {H H' : Hp} (h : Same H H') : TK H H' := fun b xs q => h b _ q
theorem Same.new {H : Hp} {p : Addr} {o : HO} (h : H p = none) : Same H (upd H p o) := fun b u q => by
  rw [upd_ne (ne_of_none q h)]
  exact q
theorem Same.upd_new {H H' : Hp} {p : Addr} {o : HO} (h : Same H H') (hp : H p = none) : Same H (upd H' p o) := fun b u q => by
  rw [upd_ne (ne_of_none q hp)]
  exact h b u q
end L2
namespace L2
open PySem PySem.Spec PyProof.Rows
theorem upd_none {H : Hp} {p b : Addr} {o : HO} (h : upd H p o b = none) : b ≠ p ∧ H b = none := by
  by_cases e : b = p
  · subst e
    rw [upd_same] at h
    cases h
  · rw [upd_ne e] at h
    exact ⟨e, h⟩
end L2
namespace L2
open PySem PySem.Spec PyProof.Rows
end L2
namespace L2
open PySem PySem.Spec PyProof.Rows
section
variable {X : Cx}
end
end L2
namespace L2
end L2

namespace L2
open PySem PySem.Spec PyProof.Rows
section
variable {X : Cx}
end
theorem snoc_last {α : Type} (l : List α) (a : α) : (l ++ [a])[(l ++ [a]).length - 1]? = some a := by
  simp
theorem snoc_drop {α : Type} (l : List α) (a : α) : (l ++ [a]).dropLast = l := by
  simp
end L2
namespace Fg
open PySem L2 FgM
/-- small letters, one or more -/
def Lets (t : Str) : Prop := t.cps.toList ≠ [] ∧ ∀ c ∈ t.cps.toList, 97 ≤ c ∧ c ≤ 122
def Let0 (t : Str) : Prop := ∀ c ∈ t.cps.toList, 97 ≤ c ∧ c ≤ 122
theorem app_cps (x y : Str) : (x ++ y).cps.toList = x.cps.toList ++ y.cps.toList := by
  show (x.cps ++ y.cps).toList = _
  simp
theorem let0_app {x y : Str} (hx : Let0 x) (hy : Let0 y) : Let0 (x ++ y) := fun c hc => by
  rw [app_cps] at hc
  exact (List.mem_append.mp hc).elim (hx c) (hy c)
theorem Lets.let0 {t : Str} (h : Lets t) : Let0 t := h.2
theorem lets_one {c : Nat} (h1 : 97 ≤ c) (h2 : c ≤ 122) : Lets ⟨#[c]⟩ := ⟨by simp, fun d hd => by simp at hd; omega⟩
def ABC : Str := "abcdefghijklmnopqrstuvwxyz"
theorem abc_all : ∀ n : _root_.Fin 26, 97 ≤ ABC.cps.toList.getD n.val 0 ∧ ABC.cps.toList.getD n.val 0 ≤ 122 ∧ n.val < ABC.cps.toList.length := by decide
theorem abc_at {i : Int} (h0 : 0 ≤ i) (h1 : i < 26) : ∃ c, atI ABC.cps.toList i = some c ∧ 97 ≤ c ∧ c ≤ 122 := by
  obtain ⟨n, rfl⟩ := Int.eq_ofNat_of_zero_le h0
  obtain ⟨a, b, c⟩ := abc_all ⟨n, by omega⟩
  refine ⟨_, atI_nat (List.getElem?_eq_getElem c), ?_, ?_⟩
  · rw [List.getD_eq_getElem?_getD, List.getElem?_eq_getElem c] at a
    exact a
  · rw [List.getD_eq_getElem?_getD, List.getElem?_eq_getElem c] at b
    exact b
theorem ints_at {ns : List Int} {k : Int} (h0 : 0 ≤ k) (h : k < (ns.length : Int)) : ∃ v : Int, atI (ns.map V.int) k = some (.int v) := by
  obtain ⟨n, rfl⟩ := Int.eq_ofNat_of_zero_le h0
  have hn : n < ns.length := by omega
  exact ⟨ns[n], atI_nat (by rw [List.getElem?_map, List.getElem?_eq_getElem hn]; rfl)⟩
end Fg

namespace Fg
open PySem L2 FgM
/-! ### what the laws' own helpers promise -/
/-- script[k], or 0: some int -/
def spCell (K : PySem.W.Frag) : Sp := fun vs H Q _ => ∃ (a : Addr) (ns : List Int) (k : Int), vs = [.ref a, .int k] ∧ SqL K H a (ns.map V.int) ∧ ns.length ≤ 63 ∧ 0 ≤ k ∧ ∀ v : Int, Q (.int v) H
def spLaw (K : PySem.W.Frag) : Sp := fun vs H Q _ => ∃ (a : Addr) (ns : List Int), vs = [.ref a] ∧ SqL K H a (ns.map V.int) ∧ ns.length ≤ 63 ∧ ∀ H', Q (.bl true) H'
theorem len1000 {n : Nat} (h : n ≤ 100000) : n ≤ sizeLine := Nat.le_trans h (by decide)
theorem len1000' {n : Nat} (h : n ≤ 100000) : n < sizeLine := Nat.lt_of_le_of_lt h (by decide)
end Fg
namespace Fg
open PySem L2 FgM
theorem app_len (x y : Str) : (x ++ y).length = x.length + y.length := by
  show (x.cps ++ y.cps).size = _
  rw [Array.size_append]
  rfl
end Fg
namespace Fg
open PySem L2 FgM
theorem max_pos (j : Int) : (0 : Int) < if j > 1 then j else 1 := by
  split
  · rename_i h
    exact Int.lt_trans (by decide) h
  · decide
end Fg
namespace Fg
open PySem L2 FgM
end Fg
namespace Fg
open PySem L2 FgM
end Fg

namespace L2
open PySem PySem.Spec PyProof.Rows
theorem strsAre_of : ∀ {ys : List Str} {us : List Value}, Vals (ys.map V.str) us → StrsAre us ys
  | [], _, .nil => .nil
  | y :: ys, _, .cons r t => by
    obtain ⟨tk, e⟩ := r
    subst e
    exact .cons y tk (strsAre_of t)
section
variable {X : Cx}
/-- sep.join(xs), a list of texts -/
def rJoin (K : PySem.W.Frag) : V → List V → Hp → VK → Prop := fun x vs H Q => ∃ z a ys, x = .str z ∧ vs = [.ref a] ∧ SqL K H a (ys.map V.str) ∧ (ys.map (·.length)).sum + ys.length * z.length ≤ 16777216 ∧ Q (.str (Txt.join z ys)) H
theorem mt_join : MtM X "str.join" (rJoin X.K) := by
  intro pins s σ H x vs v us Q I rx rv h
  obtain ⟨z, a, ys, rfl, rfl, hS, hz, q⟩ := h
  obtain ⟨t, rfl⟩ := rx
  obtain ⟨u, rfl, ru⟩ := rv.one
  cases ru
  obtain ⟨its, r, pl, _⟩ := I.list hS
  exact join_list pl.isList (by simpa using strsAre_of r) hz fun t' k => ⟨.str _, H, I.tok _, ⟨_, rfl⟩, q⟩
end
end L2
namespace Fg
open PySem L2 FgM
/-! ### groves as texts -/
def cs (x : Str) : List Nat := x.cps.toList
theorem cs_inj {x y : Str} (h : cs x = cs y) : x = y := by
  cases x with
  | mk a =>
    cases y with
    | mk b => exact congrArg Str.mk (Array.toList_inj.mp h)
theorem cs_app (x y : Str) : cs (x ++ y) = cs x ++ cs y := app_cps x y
def jn (sep : Str) : List Str → List Nat
  | [] => []
  | [x] => cs x
  | x :: y :: r => cs x ++ (cs sep ++ jn sep (y :: r))
theorem cs_strJoin (sep : Str) : ∀ ys : List Str, cs (Str.join sep ys) = jn sep ys
  | [] => rfl
  | [x] => rfl
  | x :: y :: r => by
    show cs (x ++ sep ++ Str.join sep (y :: r)) = _
    rw [cs_app, cs_app, cs_strJoin sep (y :: r), List.append_assoc]
    rfl
theorem cs_join (sep : Str) (ys : List Str) : cs (Txt.join sep ys) = jn sep ys := by
  have e : Txt.join sep ys = Str.join sep ys := PySem.StrLaws.glued_eq_join sep ys
  rw [e, cs_strJoin]
def treeT (t : Str) (ks : List Str) : Str := if ks = [] then t else t ++ "(" ++ Txt.join " " ks ++ ")"
theorem len_le_sum (sep : Str) (ys : List Str) : (Txt.join sep ys).length ≤ (ys.map (·.length)).sum + ys.length * sep.length := by
  have e : Txt.join sep ys = Str.join sep ys := PySem.StrLaws.glued_eq_join sep ys
  rw [e]
  exact PySem.StrLaws.join_length_le sep ys
theorem treeT_len (t : Str) (ks : List Str) : (treeT t ks).length ≤ t.length + 2 + ((ks.map (·.length)).sum + ks.length) := by
  unfold treeT
  by_cases h : ks = []
  · rw [if_pos h]
    omega
  · rw [if_neg h, app_len, app_len, app_len]
    have := len_le_sum " " ks
    have e1 : ("(" : Str).length = 1 := rfl
    have e2 : (")" : Str).length = 1 := rfl
    have e3 : (" " : Str).length = 1 := rfl
    rw [e3] at this
    rw [e1, e2]
    omega
/-! ### what the laws want of texts -/
end Fg

/-! Texts: their signs walked, cut and compared; all(..) of truths; the comprehension of a tag's test. -/
namespace L2
open PySem PySem.Spec PyProof.Rows
section
variable {P : Program} {w : World} {H : Hp} {h h' : Heap} {a : Addr} {o : HO}
end
section
variable {X : Cx} {pins : List (Addr × Obj)} {σ : St} {H : Hp} {s : Shared} {h' : Heap}
end
/-! ### for x in text -/
section
variable {X : Cx} {tg : Expr}
end
/-! ### all(..), texts compared and cut -/
section
variable {X : Cx}
end
/-! ### ['a' <= x <= 'z' for x in text] -/
section
variable {prog : Program} {w : World} {A : Around} {E : Value → Shared → Prop} {s : Shared}
end
section
variable {X : Cx} {iter : Expr} {te : TE} {scope : Scope} {x : Str} {px p1 p2 p3 p4 pos : Pos} {j j2 : Nat}
end
end L2

namespace L2
open PySem
end L2
namespace Fg
open PySem L2 FgM
end Fg

/-! for i, x in enumerate(xs) -/
namespace L2
open PySem PySem.Spec PyProof.Rows
section
variable {X : Cx} {elts : List Expr} {x1 : Nat} {tp : Pos}
end
end L2

/-! [elt for tg in iter]: the block as a context of its own -/
namespace L2
open PySem PySem.Spec PyProof.Rows
section
variable {prog : Program} {w : World} {A : Around} {s : Shared} {R : Result → Shared → Prop}
abbrev no0 : Value → Shared → Prop := fun _ _ => False
theorem comp_loop0 {elt target iter : Expr} {scope : Scope} {pos : Pos} {it acc : Value} {env : Env} (I : Nat → Shared → Prop)
    (turn : ∀ n s, I n s → wpAny (model prog w) A (pyNext it) (fun r s1 => match r with
      | none => R (.ok .next) s1
      | some v => wpAny (model prog w) A (letOwnedTupleGo target it v) (fun _ s2 => wpAny (model prog w) A (assign target env v) (fun _ s3 => wpAny (model prog w) A (eval elt env) (fun x s4 =>
          wpAny (model prog w) A (call (.builtin "list.append") [acc, x]) (fun _ s5 => ∃ m, m < n ∧ I m s5) no0 s4) no0 s3) no0 s2) no0 s1) no0 s)
    (n : Nat) (h : I n s) : codeAny (model prog w) A (.compLoop (.ListComp elt [⟨target, iter, [], 0⟩] scope pos) 0 it acc env) R s := by
  refine codeAny_loop rfl I (fun n s hI => ?_) n h
  show wpAny _ _ ((compTurn (.ListComp elt [⟨target, iter, [], 0⟩] scope pos) 0 it acc env).onRaise (fun x => do noteFrame x env; theTreesLotGoes x)) _ _ s
  refine wpAny_noted ?_
  rw [compTurn_list1]
  refine wpAny_bind (wpAny_standAt (wpAny_bind (wpAny_mono (turn n s hI) (fun r s1 h1 => ?_) fun _ _ h' => h'.elim)))
  cases r with
  | none => exact wpAny_pure h1
  | some v =>
    refine wpAny_bind (wpAny_mono h1 (fun _ s2 h2 => ?_) fun _ _ h' => h'.elim)
    refine wpAny_bind (wpAny_mono h2 (fun _ s3 h3 => ?_) fun _ _ h' => h'.elim)
    refine wpAny_bind (wpAny_bind (wpAny_mono h3 (fun x s4 h4 => ?_) fun _ _ h' => h'.elim))
    exact wpAny_bind (wpAny_mono h4 (fun _ s5 h5 => wpAny_pure (wpAny_pure ⟨rfl, h5⟩)) fun _ _ h' => h'.elim)
end
/-- the context of a comprehension's block: its frame at C, the cells cl of captured names, the iterator's records fp -/
def cxComp (X : Cx) (N : List Str) (scope : Scope) (cl : List (Str × Addr)) (C : Addr) (fp : List Addr) (s : Shared) (H : Hp) : Cx where
  prog := X.prog
  w := X.w
  K := X.K
  mg := X.mg
  base := X.base
  A := X.A
  N := N
  s₀ := s
  H₀ := H
  env := compEnvC scope cl C X.env
  outer := X.stack
  stack := X.stack
  ex := fp
  fn := fun _ => false
  calm := X.calm
  pn := []
  xe := no0
section
variable {X : Cx} {pins : List (Addr × Obj)} {σ : St} {H : Hp} {s : Shared}
theorem cxComp_ok {N : List Str} {scope : Scope} {cl : List (Str × Addr)} {C : Addr} {fp : List Addr} (I : Inv X pins σ H s) (hk : scope.kind = .function) (hC : s.heap.objs.size ≤ C) (hcl : ∀ x c, cl.lookup x = some c → X.env.cells.lookup x = some c)
    (hhas : ∀ x, ((compEnvC scope cl C X.env).kindOf x = some .cell ∨ (compEnvC scope cl C X.env).kindOf x = some .free) → ∃ c, cl.lookup x = some c)
    (hf : ∀ b ∈ fp, FpOk X pins H b) (hlt : ∀ b ∈ fp, b < s.heap.objs.size) : (cxComp X N scope cl C fp s H).Ok where
  mod := I.ok.mod
  kind := hk
  glob := I.ok.glob
  blt := I.ok.blt
  above := hC
  inj := fun x y c e1 e2 => I.ok.inj x y c (hcl x c e1) (hcl y c e2)
  has := hhas
  cab := fun x c e => by cases e
  hd := I.ok.hd
  frames := I.ok.frames
  stk := .inl rfl
  exf := fun b hb => ⟨fun z => absurd (Nat.lt_of_lt_of_le (hlt b hb) hC) (by rw [show b = C from z]; exact Nat.lt_irrefl _), fun x c e => (hf b hb).2.2.2.2.1 x c (hcl x c e)⟩
  bs := fun b o e => ⟨(I.bs b o e).1, (I.bs b o e).2⟩
  bsz := Nat.le_trans I.ok.bsz I.sz
  noex := fun b o e hb => by
    rcases (hf b hb).2.2.2.1 with z | z
    · exact I.ok.noex b o e z
    · exact absurd (Nat.lt_of_lt_of_le (Heap.lt_size e) (Nat.le_trans I.ok.bsz z)) (Nat.lt_irrefl _)
  exfs := fun b hb hm => by
    rcases List.mem_cons.mp (I.stkSub b hm) with z | z
    · exact (hf b hb).2.1 z
    · exact (hf b hb).2.2.1 z
  funs := I.stack
  frf := I.stkFree
/-- the values of the block's names at its start: the targets' none, the captured ones' as they stand -/
def capσ (σ : St) (k : Nat) (cap : List (Str × Nat)) : St := List.replicate k none ++ cap.map fun p => (σ[p.2]?).getD none
theorem cxComp_start {scope : Scope} {cl : List (Str × Addr)} {fp : List Addr} {tn : List Str} {cap : List (Str × Nat)} {h1 : Heap} (I : Inv X pins σ H s) (hk : scope.kind = .function) (hcl : ∀ x c, cl.lookup x = some c → X.env.cells.lookup x = some c)
    (hhas : ∀ x, ((compEnvC scope cl s.heap.objs.size X.env).kindOf x = some .cell ∨ (compEnvC scope cl s.heap.objs.size X.env).kindOf x = some .free) → ∃ c, cl.lookup x = some c)
    (hf : ∀ b ∈ fp, FpOk X pins H b) (hlt : ∀ b ∈ fp, b < s.heap.objs.size)
    (hcap : ∀ p ∈ cap, X.N[p.2]? = some p.1 ∧ X.env.scope.names.lookup p.1 = some .cell ∧ ((compEnvC scope cl s.heap.objs.size X.env).kindOf p.1 = some .cell ∨ (compEnvC scope cl s.heap.objs.size X.env).kindOf p.1 = some .free))
    (hns : h1.Ns s.heap.objs.size (fun _ => none)) (hkp : ∀ b o, s.heap.get? b = some o → h1.get? b = some o) :
    Inv (cxComp X (tn ++ cap.map (·.1)) scope cl s.heap.objs.size fp s H) [] (capσ σ tn.length cap) H { s with heap := h1 } where
  ok := cxComp_ok I hk (Nat.le_refl _) hcl hhas hf hlt
  os := rfl
  bare := I.bare
  base := Un.kept hkp
  loc := by
    refine ⟨fun _ => none, hns, fun i x v e1 e2 hv => ?_⟩
    unfold capσ at e2
    by_cases hi : i < tn.length
    · rw [List.getElem?_append_left (by rw [List.length_replicate]; exact hi), List.getElem?_replicate, if_pos hi] at e2
      cases e2
    · have hN : (cap.map (·.1))[i - tn.length]? = some x := by
        have : (tn ++ cap.map (·.1))[i]? = some x := e1
        rw [List.getElem?_append_right (by omega)] at this
        exact this
      rw [List.getElem?_append_right (by rw [List.length_replicate]; omega), List.length_replicate, List.getElem?_map] at e2
      rw [List.getElem?_map] at hN
      cases hp : cap[i - tn.length]? with
      | none => rw [hp] at hN; cases hN
      | some p =>
        rw [hp] at hN e2
        have hx : p.1 = x := Option.some.inj hN
        have he : (σ[p.2]?).getD none = some v := Option.some.inj e2
        obtain ⟨c1, c2, c3⟩ := hcap p (List.mem_of_getElem? hp)
        subst hx
        have hs : σ[p.2]? = some (some v) := by
          cases q : σ[p.2]? with
          | none => rw [q] at he; cases he
          | some z => rw [q] at he; rw [show z = some v from he]
        obtain ⟨m, hn, hl⟩ := I.loc
        obtain ⟨u, r, l⟩ := hl p.2 p.1 v c1 hs (.inr (.inl c2))
        refine ⟨u, r, .inr ⟨c3, ?_⟩⟩
        obtain ⟨c, hc⟩ := hhas p.1 c3
        refine ⟨c, hc, ?_⟩
        rcases l with ⟨l1, _⟩ | ⟨_, c', l2, o, ho, hd⟩
        · have : X.env.kindOf p.1 = some .cell := c2
          rw [this] at l1
          cases l1
        · have : c = c' := Option.some.inj ((hcl p.1 c hc).symm.trans l2)
          subst this
          exact ⟨o, hkp _ _ ho, hd⟩
  cell := fun x c e => by
    obtain ⟨v, o, ho, hd⟩ := I.cell x c (hcl x c e)
    exact ⟨v, o, hkp _ _ ho, hd⟩
  free := I.hok.fresh (Nat.le_refl _)
  freeC := fun x c e => I.freeC x c (hcl x c e)
  pin := fun p hp => by cases hp
  hok := I.hok.kept hkp
  len := by
    unfold capσ
    show _ = (tn ++ cap.map (·.1)).length
    rw [List.length_append, List.length_append, List.length_replicate, List.length_map, List.length_map]
end
end L2

namespace L2
open PySem PySem.Spec PyProof.Rows
/-- a comprehension's reading: W by the turn, a measure, the items so far, the block's names, the heap; p: the list under way -/
def tComp (wi : TI) (k : Nat) (cap : List (Str × Nat)) (g : TG) (te : TE) : TE := fun σ H Q => wi σ H fun J H1 => ∀ p, H1 p = none → ∃ W : Nat → Nat → List V → St → Hp → Prop, (∃ m, W 0 m [] (capσ σ k cap) (upd H1 p (.lst []))) ∧
  ∀ i m ys σc H2, W i m ys σc H2 → H2 p = some (.lst ys) ∧ ((J.stop i H2 ∧ Q (.ref p) H2) ∨ (J.go i H2 ∧ ∀ x H3, J.yld i H2 x H3 → g x σc H3 fun σ3 H4 => te σ3 H4 fun v H5 =>
    H5 p = some (.lst ys) ∧ ys.length < sizeLine ∧ ∃ m', m' < m ∧ W (i + 1) m' (ys ++ [v]) σ3 (upd H5 p (.lst (ys ++ [v])))))
section
variable {X : Cx} {elt iter tg : Expr} {scope : Scope} {pos : Pos} {wi : TI} {g : TG} {te : TE} {cl : List (Str × Addr)}
theorem pe_comp (tn : List Str) (cap : List (Str × Nat)) (hi : PI X tg iter wi) (hg : ∀ C fp s H, PG (cxComp X (tn ++ cap.map (·.1)) scope cl C fp s H) tg g) (he : ∀ C fp s H, PE (cxComp X (tn ++ cap.map (·.1)) scope cl C fp s H) elt te)
    (hc : X.calm = true) (hclos : closureFor scope X.env = pure cl) (hcell : ∀ y ∈ scope.names, y.2 ≠ .cell) (hk : scope.kind = .function) (hnames : ∀ y ∈ scope.names, y.2 = .local → scope.names.lookup y.1 = some .local)
    (hcl : ∀ x c, cl.lookup x = some c → X.env.cells.lookup x = some c)
    (hhas : ∀ C x, ((compEnvC scope cl C X.env).kindOf x = some .cell ∨ (compEnvC scope cl C X.env).kindOf x = some .free) → ∃ c, cl.lookup x = some c)
    (hcap : ∀ C, ∀ p ∈ cap, X.N[p.2]? = some p.1 ∧ X.env.scope.names.lookup p.1 = some .cell ∧ ((compEnvC scope cl C X.env).kindOf p.1 = some .cell ∨ (compEnvC scope cl C X.env).kindOf p.1 = some .free))
    (hs : ∀ v, foldedSetIterable iter X.env v = pure v) : PE X (.ListComp elt [⟨tg, iter, [], 0⟩] scope pos) (tComp wi tn.length cap g te) := by
  intro pins s σ H Q I h
  rw [eval_ListComp]
  refine wpAny_comprehension_free (use := none) rfl hs hclos hk hnames (thn (hi pins s σ H _ I h) fun v s1 h1 => thn h1 fun itv s2 h2 => ?_)
  obtain ⟨it, fp, tnn, J, H2, e, I2, T, st2, f2, q2⟩ := h2
  subst e
  have fresh : H2 s2.heap.objs.size = none := I2.fresh
  obtain ⟨W, ⟨m0, w0⟩, turn⟩ := q2 s2.heap.objs.size fresh
  have lt2 : ∀ b ∈ fp, b < s2.heap.objs.size := fun b hb => by
    obtain ⟨o, ho, _⟩ := T.obj _ _ st2 b hb
    exact Heap.lt_size ho
  have I3 : Inv X pins σ (upd H2 s2.heap.objs.size (.lst [])) { s2 with heap := s2.heap.push { cls := .type "list", data := .seq ([] : List Value).toArray } } := I2.lnew (its := []) (t' := s2.toks) .nil (Nat.zero_le _)
  refine wpAny_newObj_type (wpAny_newFunctionEnv hcell (by intro y hy; simp at hy) (fun h1 hns1 hsb1 => ?_) hk)
  dsimp only at hns1 hsb1 ⊢
  generalize hS3 : ({ s2 with heap := s2.heap.push { cls := .type "list", dict := none, data := .seq ([] : List Value).toArray } } : Shared) = s3 at I3
  have hh3 : s2.heap.push { cls := .type "list", dict := none, data := .seq ([] : List Value).toArray } = s3.heap := by rw [← hS3]
  rw [hh3] at hns1 hsb1 ⊢
  have sz3 : s3.heap.objs.size = s2.heap.objs.size + 1 := by rw [← hh3, Heap.size_push]
  have lt3 : ∀ b ∈ fp, b < s3.heap.objs.size := fun b hb => Nat.lt_of_lt_of_le (lt2 b hb) (by rw [sz3]; exact Nat.le_succ _)
  have f3 : ∀ b ∈ fp, FpOk X pins (upd H2 s2.heap.objs.size (.lst [])) b := fun b hb => ⟨by rw [upd_ne (Nat.ne_of_lt (lt2 b hb))]; exact (f2 b hb).1, (f2 b hb).2⟩
  have keep3 : ∀ b o, s3.heap.get? b = some o → h1.get? b = some o := fun b o q => hsb1.extBut b o (Nat.ne_of_lt (Heap.lt_size q)) (Heap.get?_push_of_some _ q)
  have st3 : tnn 0 h1 := T.keep _ _ _ st2 fun b hb o q => keep3 b o (by rw [← hh3]; exact Heap.get?_push_of_some _ q)
  have I4 := (cxComp_start (tn := tn) I3 hk hcl (hhas _) f3 lt3 (hcap _) hns1 keep3).tok (s2.toks + ([] : List (Str × Value)).length)
  have fin : ∀ (σ6 : St) (H6 : Hp) (s6 : Shared), Inv (cxComp X (tn ++ cap.map (·.1)) scope cl s3.heap.objs.size fp s3 (upd H2 s2.heap.objs.size (.lst []))) [] σ6 H6 s6 → Q (.ref s2.heap.objs.size) H6 →
      compPost (model X.prog X.w) X.A X.xe none (EP X pins σ Q) (.ref s2.heap.objs.size) s3.heap.objs.size (.ok .next) s6 := by
    intro σ6 H6 s6 I6 q6
    obtain ⟨m, hn, _⟩ := I6.loc
    refine ⟨m, hn, fun h' sb => ?_⟩
    have nC : ∀ b o, s3.heap.get? b = some o → b ≠ s3.heap.objs.size := fun b o q => Nat.ne_of_lt (Heap.lt_size q)
    have u : Un (frs X.stack) fp (upd H2 s2.heap.objs.size (.lst [])) H6 s3.heap h' := by
      have u0 := I6.base
      refine ⟨fun b o q n hb hx => (sb.2 b (nC b o q)).trans (u0.keep b o q n hb hx), fun b o q n hb hx => ?_, u0.free, fun b o q hx => ?_, u0.tups, u0.frzs, u0.tbls⟩
      · obtain ⟨sl, e⟩ := u0.slot b o q n hb hx
        exact ⟨sl, (sb.2 b (nC b o q)).trans e⟩
      · obtain ⟨o', e⟩ := u0.there b o q hx
        exact ⟨o', (sb.2 b (nC b o q)).trans e⟩
    have free6 : H6 s3.heap.objs.size = none := I6.free
    have ok6 : HOk X.prog X.w H6 h' := fun b o q => (I6.hok b o q).stay (fun c v hcv r => (sb.2 c (by
      rcases hcv with z | z
      · rw [z]
        exact ne_of_none q free6
      · exact ne_of_none z free6)).trans r) (fun _ q => q) fun _ _ q => q
    have I' := I3.call (g' := s6.gens) (d' := s6.drawn) (t' := s6.toks) (ch := fp) u ok6 I6.bare fun b hb => ⟨(f3 b hb).2.2.2.1, (f3 b hb).2.1, (f3 b hb).2.2.2.2.1, (f3 b hb).2.2.2.2.2⟩
    have e : ({ s6 with heap := h' } : Shared) = { s3 with heap := h', gens := s6.gens, drawn := s6.drawn, toks := s6.toks } := by
      have ho : s6.os = s3.os := I6.os
      obtain ⟨a1, a2, a3, a4, a5⟩ := s6
      obtain ⟨b1, b2, b3, b4, b5⟩ := s3
      simp only at ho
      subst ho
      rfl
    rw [e]
    exact ⟨.ref _, H6, I', rfl, q6⟩
  have loop : codeAny (model X.prog X.w) X.A (.compLoop (.ListComp elt [⟨tg, iter, [], 0⟩] scope pos) 0 (.ref it) (.ref s2.heap.objs.size) (compEnvC scope cl s3.heap.objs.size X.env))
      (compPost (model X.prog X.w) X.A X.xe none (EP X pins σ Q) (.ref s2.heap.objs.size) s3.heap.objs.size) { s3 with heap := h1, toks := s2.toks + ([] : List (Str × Value)).length } := by
    refine comp_loop0 (fun n s' => ∃ i ys σ' H', Inv (cxComp X (tn ++ cap.map (·.1)) scope cl s3.heap.objs.size fp s3 (upd H2 s2.heap.objs.size (.lst []))) [] σ' H' s' ∧ tnn i s'.heap ∧ (∀ b ∈ fp, H' b = none) ∧ W i n ys σ' H') ?_ m0
      ⟨0, [], _, _, I4, st3, fun b hb => (f3 b hb).1, w0⟩
    rintro n s5 ⟨i, ys, σ5, H5, I5, st5, fr5, w5⟩
    obtain ⟨hD, alt⟩ := turn i n ys σ5 H5 w5
    have stat : ∀ {H' : Hp}, (∀ b ∈ fp, H' b = none) → ∀ b ∈ fp, FpOk (cxComp X (tn ++ cap.map (·.1)) scope cl s3.heap.objs.size fp s3 (upd H2 s2.heap.objs.size (.lst []))) [] H' b :=
      fun hn b hb => ⟨hn b hb, (I4.ok.exf b hb).1, I4.ok.exfs b hb, .inl hb, (I4.ok.exf b hb).2, fun p hp => by cases hp⟩
    rcases alt with ⟨stop, qn⟩ | ⟨go, step⟩
    · refine thn (T.done (cxComp X (tn ++ cap.map (·.1)) scope cl s3.heap.objs.size fp s3 (upd H2 s2.heap.objs.size (.lst []))) rfl rfl rfl hc i [] s5 σ5 H5 no0 I5 (stat fr5) st5 stop) fun r s6 ⟨hr, I6⟩ => ?_
      subst hr
      exact fin σ5 H5 s6 I6 qn
    · refine thn (T.item (cxComp X (tn ++ cap.map (·.1)) scope cl s3.heap.objs.size fp s3 (upd H2 s2.heap.objs.size (.lst []))) rfl rfl rfl hc i [] s5 σ5 H5 no0 I5 (stat fr5) st5 go) fun r s6 ⟨u, hr, h6⟩ => ?_
      subst hr
      refine thn h6 fun _ s7 ⟨x, H7, I7, r7, y7, st7, fr7⟩ => ?_
      have I7' := I7.pinned (stat fr7) (T.obj _ _ st7)
      refine thn (hg _ _ _ _ _ s7 σ5 H7 x u _ I7' r7 (step x H7 y7)) fun _ s8 ⟨σ8, H8, I8, q8⟩ => ?_
      refine thn (he _ _ _ _ _ s8 σ8 H8 _ I8 q8) fun xv s9 ⟨v9, H9, I9, r9, q9⟩ => ?_
      obtain ⟨hD9, hl9, m', hm', w9⟩ := q9
      refine thn (mt_append _ s9 σ8 H9 (.ref s2.heap.objs.size) [v9] (.ref s2.heap.objs.size) [xv] (fun z H' => z = .non ∧ H' = upd H9 s2.heap.objs.size (.lst (ys ++ [v9]))) I9 rfl (.cons r9 .nil)
        ⟨s2.heap.objs.size, ys, v9, rfl, rfl, hD9, hl9, rfl, rfl⟩) fun z s10 ⟨zv, H10, I10, _, _, eH⟩ => ?_
      subst eH
      refine ⟨m', hm', i + 1, ys ++ [v9], σ8, _, I10.unpinned, T.keep _ _ _ st7 fun b hb o q => (I10.pin (b, o) (List.mem_append_right _ (List.mem_append_right _ (mem_pinsAt hb q)))).1, fun b hb => ?_, w9⟩
      obtain ⟨o, q, d⟩ := T.obj _ _ st7 b hb
      exact (I10.pin (b, o) (List.mem_append_right _ (List.mem_append_right _ (mem_pinsAt hb q)))).2.1
  subst hS3
  exact codeAny_compStart_list loop (T.self X.A 0 _ _ _ st3 loop)
end
end L2

/-! [elt for tg in iter if ct] -/
namespace L2
open PySem PySem.Spec PyProof.Rows
section
variable {prog : Program} {w : World} {A : Around} {s : Shared} {R : Result → Shared → Prop}
end
section
variable {X : Cx} {elt ct iter tg : Expr} {scope : Scope} {pos : Pos} {wi : TI} {g : TG} {tt : TT} {te : TE} {cl : List (Str × Addr)}
end
end L2

/-! < of lists and of tuples, place by place, of data at any depth -/
namespace PySem.SeqAt
open AutoSeq1 (wpAny_loadPart')
open MeetsSeq MeetsSeq2 MeetsSeq3 SeqRoads2
section
variable {A : Around} {s : Shared}
end
end PySem.SeqAt

/-! < of data: one relation for ints, texts, lists and tuples of them -/
namespace L2
open PySem PySem.Spec PyProof.Rows PySem.SeqAt
section
variable {X : Cx}
end
end L2

/-! min(l, key=f, default=d) over a list, the key a def of the text -/
namespace L2
open PySem PySem.Spec PyProof.Rows PySem.SeqAt
section
variable {X : Cx} {pins : List (Addr × Obj)} {σ : St} {H : Hp} {s : Shared}
end
section
variable {X : Cx} {pins : List (Addr × Obj)} {σ : St} {H : Hp} {s : Shared} {k : Nat} {f : Addr} {fd : FuncData} {ps : List Str} {sp : Sp} {Q : VK} {l p it : Addr} {xs : List V} {W : Nat → V → V → Hp → Prop}
end
end L2
namespace L2
open PySem PySem.Spec PyProof.Rows PySem.SeqAt
section
variable {X : Cx} {pins : List (Addr × Obj)} {σ : St} {H : Hp} {s : Shared} {k : Nat} {f : Addr} {fd : FuncData} {ps : List Str} {sp : Sp} {Q : VK} {l p it : Addr} {xs : List V} {W : Nat → V → V → Hp → Prop} {ud : Value}
end
end L2
namespace L2
open PySem PySem.Spec PyProof.Rows PySem.SeqAt
section
variable {X : Cx} {pins : List (Addr × Obj)} {σ : St} {H : Hp} {s : Shared} {k : Nat} {f : Addr} {fd : FuncData} {ps : List Str} {sp : Sp} {Q : VK}
end
end L2
namespace L2
open PySem PySem.Spec PyProof.Rows PySem.SeqAt
section
variable {X : Cx} {x : Str} {ps : List Str} {j k : Nat} {sp : Sp} {e dx : Expr} {te td : TE} {p p2 pos kp kp2 : Pos}
end
end L2

/-! the order of groves: the promises of rank, before, least_among -/
namespace Fg
open PySem L2 FgM PySem.SeqAt
end Fg

/-! == of groves, whatever their depth: the data of a grove -/
namespace L2
open PySem PySem.Spec PyProof.Rows
section
variable {X : Cx}
end
end L2
namespace Fg
open PySem L2 FgM
end Fg

namespace L2
open PySem PySem.Spec PyProof.Rows PySem.SeqAt
/-! list(reversed(l)) -/
section
variable {prog : Program} {w : World} {A : Around} {E : Value → Shared → Prop} {s : Shared}
end
section
variable {X : Cx} {e : Expr} {te : TE} {p p' pos pos' : Pos}
end
end L2

/-! the reading of [e for x in l], and what a block without captured names is -/
namespace L2
open PySem PySem.Spec PyProof.Rows
def CW (n : Nat) (Pv : Nat → List V → St → Hp → Prop) : Nat → Nat → List V → St → Hp → Prop := fun i m ys σ H => m = n - i ∧ i ≤ n ∧ Pv i ys σ H
theorem CW.next {n i : Nat} {Pv : Nat → List V → St → Hp → Prop} {ys : List V} {σ : St} {H : Hp} (hi : i < n) (h : Pv (i + 1) ys σ H) : ∃ m', m' < n - i ∧ CW n Pv (i + 1) m' ys σ H := ⟨_, by omega, rfl, hi, h⟩
theorem nd1 {x : Str} : [x].Nodup := by simp
theorem nofree {scope : Scope} {env : Env} (h : ∀ y ∈ scope.names, y.2 ≠ .cell ∧ y.2 ≠ .free) {cl : List (Str × Addr)} : ∀ (C : Addr) (x : Str), ((compEnvC scope cl C env).kindOf x = some .cell ∨ (compEnvC scope cl C env).kindOf x = some .free) → ∃ c, cl.lookup x = some c := by
  have key : ∀ (l : List (Str × NameKind)) (x : Str), (∀ y ∈ l, y.2 ≠ .cell ∧ y.2 ≠ .free) → ∀ k, (l.map fun (n, k) => if (k == .free && env.scope.kind == .function && env.kindOf n == some .cell) then (n, .cell) else (n, k)).lookup x = some k → k ≠ .cell ∧ k ≠ .free := by
    intro l
    induction l with
    | nil => intro x _ k e; simp at e
    | cons y l ih =>
      intro x hy k e
      obtain ⟨n, kd⟩ := y
      have hk := hy _ (List.mem_cons_self ..)
      have e0 : (kd == NameKind.free && env.scope.kind == .function && env.kindOf n == some .cell) = false := by
        have : (kd == NameKind.free) = false := by
          cases kd <;> first | rfl | exact absurd rfl hk.2
        rw [this]; rfl
      simp only [List.map_cons, e0, Bool.false_eq_true, if_false, List.lookup_cons] at e
      cases hx : x == n with
      | true =>
        rw [hx] at e
        cases e
        exact hk
      | false =>
        rw [hx] at e
        exact ih x (fun y hm => hy y (List.mem_cons_of_mem _ hm)) k e
  intro C x hx
  rcases hx with e | e
  · exact absurd rfl (key _ x h _ e).1
  · exact absurd rfl (key _ x h _ e).2
end L2
namespace FgM
end FgM

/-! x = [elt for tg in iter], x = [elt for tg in iter if ct]: the name is bound ahead of the block's end -/
namespace L2
open PySem PySem.Spec PyProof.Rows
section
variable {X : Cx} {elt iter tg : Expr} {scope : Scope} {pos : Pos} {wi : TI} {g : TG} {te : TE} {cl : List (Str × Addr)}
end
end L2
namespace L2
open PySem PySem.Spec PyProof.Rows
section
variable {X : Cx} {elt ct iter tg : Expr} {scope : Scope} {pos : Pos} {wi : TI} {g : TG} {tt : TT} {te : TE} {cl : List (Str × Addr)}
end
end L2

namespace L2
open PySem PySem.Spec PyProof.Rows

/-! ### lists of pairs as tables -/
section
variable {κ : Type} [DecidableEq κ]
def valV (kvs : List (κ × V)) (k : κ) : Option V := (kvs.find? fun kv => decide (kv.1 = k)).map (·.2)
/-- in its place, or at the end -/
def putK (kvs : List (κ × V)) (k : κ) (v : V) : List (κ × V) :=
  if (kvs.any fun kv => decide (kv.1 = k)) = true then kvs.map (fun kv => if kv.1 = k then (kv.1, v) else kv) else kvs ++ [(k, v)]
theorem valV_pos {p : κ × V} {r : List (κ × V)} {k : κ} (e : p.1 = k) : valV (p :: r) k = some p.2 := by simp [valV, List.find?_cons, e]
theorem valV_neg {p : κ × V} {r : List (κ × V)} {k : κ} (e : ¬ p.1 = k) : valV (p :: r) k = valV r k := by simp [valV, List.find?_cons, e]
theorem valV_any (k : κ) : ∀ kvs : List (κ × V), (kvs.any fun kv => decide (kv.1 = k)) = (valV kvs k).isSome
  | [] => rfl
  | p :: r => by
    rw [List.any_cons]
    by_cases e : p.1 = k
    · simp only [valV_pos e, decide_eq_true e, Bool.true_or, Option.isSome_some]
    · rw [valV_neg e, decide_eq_false e, Bool.false_or]; exact valV_any k r
theorem length_putK (kvs : List (κ × V)) (k : κ) (v : V) : (putK kvs k v).length ≤ kvs.length + 1 := by
  unfold putK
  split
  · rw [List.length_map]; omega
  · rw [List.length_append, List.length_cons, List.length_nil]; omega
theorem RelO.isSome_eq {o : Option V} {u : Option Value} (r : RelO o u) : o.isSome = u.isSome := by
  cases o with
  | none => cases u with
    | none => rfl
    | some _ => exact (show False from r).elim
  | some _ => cases u with
    | none => exact (show False from r).elim
    | some _ => rfl
/-- raw tables of the same keys -/
theorem KV.val {kvs : List (κ × V)} {vs : List (κ × Value)} (r : KV kvs vs) (k : κ) : RelO (valV kvs k) (valueAt vs k) := by
  unfold KV at r
  induction r with
  | nil => exact True.intro
  | @cons p q ps qs h t ih =>
    obtain ⟨h1, h2⟩ := h
    by_cases e : p.1 = k
    · have e' : q.1 = k := h1.symm.trans e
      have b : valueAt (q :: qs) k = some q.2 := by simp [valueAt, List.find?_cons, e']
      rw [valV_pos e, b]; exact h2
    · have e' : ¬ q.1 = k := fun z => e (h1.trans z)
      have b : valueAt (q :: qs) k = valueAt qs k := by simp [valueAt, List.find?_cons, e']
      rw [valV_neg e, b]; exact ih
theorem KV.any {kvs : List (κ × V)} {vs : List (κ × Value)} (r : KV kvs vs) (k : κ) : (kvs.any fun kv => decide (kv.1 = k)) = vs.any fun kv => decide (kv.1 = k) := by
  unfold KV at r
  induction r with
  | nil => rfl
  | cons h t ih => rw [List.any_cons, List.any_cons, ih, h.1]
theorem KV.repl {kvs : List (κ × V)} {vs : List (κ × Value)} (r : KV kvs vs) (k : κ) {y : V} {u : Value} (ry : RelV y u) :
    KV (kvs.map fun kv => if kv.1 = k then (kv.1, y) else kv) (vs.map fun kv => if kv.1 = k then (kv.1, u) else kv) := by
  unfold KV at r ⊢
  induction r with
  | nil => exact .nil
  | @cons p q ps qs h t ih =>
    rw [List.map_cons, List.map_cons]
    refine .cons ?_ ih
    obtain ⟨h1, h2⟩ := h
    by_cases e : p.1 = k
    · rw [if_pos e, if_pos (h1.symm.trans e)]; exact ⟨h1, ry⟩
    · rw [if_neg e, if_neg (fun z => e (h1.trans z))]; exact ⟨h1, h2⟩
theorem KV.put {kvs : List (κ × V)} {vs : List (κ × Value)} (r : KV kvs vs) (k : κ) {y : V} {u : Value} (ry : RelV y u) : KV (putK kvs k y) (stored vs k u) := by
  unfold putK stored
  rw [r.any k]
  by_cases e : (vs.any fun kv => decide (kv.1 = k)) = true
  · rw [if_pos e, if_pos e]; exact r.repl k ry
  · rw [if_neg e, if_neg e]; exact Paired.snoc r ⟨rfl, ry⟩
theorem KV.length {kvs : List (κ × V)} {vs : List (κ × Value)} (r : KV kvs vs) : kvs.length = vs.length := Paired.length r
end


/-! ### a tracked dict, its keys ints and texts or tuples of these -/
theorem kV_is {P : Program} {w : World} {k : Key} {u : Value} (r : RelV (kV k) u) : (mixKind P w).is k u = true := by
  cases k with
  | inl i => obtain ⟨t, e⟩ := (show ∃ t, u = Value.int i t from r); subst e; exact mixKind_int P w i t
  | inr x => obtain ⟨t, e⟩ := (show ∃ t, u = Value.str x t from r); subst e; exact mixKind_str P w x t
theorem items_are {P : Program} {w : World} : ∀ {ks : List Key} {us : List Value}, Vals (ks.map kV) us → ItemsAre (mixKind P w) ks us
  | [], _, r => by rw [List.map_nil] at r; cases r; exact .nil
  | k :: ks, _, r => by
    rw [List.map_cons] at r
    cases r with
    | cons h t => exact .cons (kV_is h) (items_are t)

/-- raw entries of a dict with tuple keys -/
abbrev KT (H : Hp) : List (List Key × V) → List (List Key × Addr × Value) → Prop := Paired fun p q => p.1 = q.1 ∧ H q.2.1 = some (.tup (p.1.map kV)) ∧ RelV p.2 q.2.2
theorem KT.val {H : Hp} {kvs : List (List Key × V)} {xs : List (List Key × Addr × Value)} (r : KT H kvs xs) (k : List Key) : RelO (valV kvs k) ((atKey xs k).map (·.2)) := by
  induction r with
  | nil => exact True.intro
  | @cons p q ps qs h t ih =>
    obtain ⟨h1, _, h2⟩ := h
    by_cases e : p.1 = k
    · have e' : q.1 = k := h1.symm.trans e
      have b : atKey (q :: qs) k = some q.2 := by simp [atKey, List.find?_cons, e']
      rw [valV_pos e, b]; exact h2
    · have e' : ¬ q.1 = k := fun z => e (h1.trans z)
      have b : atKey (q :: qs) k = atKey qs k := by simp [atKey, List.find?_cons, e']
      rw [valV_neg e, b]; exact ih
theorem KT.repl {H : Hp} {kvs : List (List Key × V)} {xs : List (List Key × Addr × Value)} (r : KT H kvs xs) (k : List Key) {y : V} {u : Value} (ry : RelV y u) :
    KT H (kvs.map fun kv => if kv.1 = k then (kv.1, y) else kv) (xs.map (putAt k u)) := by
  induction r with
  | nil => exact .nil
  | @cons p q ps qs h t ih =>
    rw [List.map_cons, List.map_cons]
    refine .cons ?_ ih
    obtain ⟨h1, h2, h3⟩ := h
    unfold putAt
    by_cases e : p.1 = k
    · rw [if_pos e, if_pos (h1.symm.trans e)]; exact ⟨h1, h2, ry⟩
    · rw [if_neg e, if_neg (fun z => e (h1.trans z))]; exact ⟨h1, h2, h3⟩
theorem KT.put {H : Hp} {kvs : List (List Key × V)} {xs : List (List Key × Addr × Value)} (r : KT H kvs xs) (k : List Key) {b : Addr} {y : V} {u : Value} (hb : H b = some (.tup (k.map kV))) (ry : RelV y u) :
    KT H (putK kvs k y) (storedH xs k b u) := by
  have e : (kvs.any fun kv => decide (kv.1 = k)) = (atKey xs k).isSome := by
    rw [valV_any, (r.val k).isSome_eq, Option.isSome_map]
  unfold putK storedH
  rw [e]
  by_cases q : (atKey xs k).isSome = true
  · rw [if_pos q, if_pos q]; exact r.repl k ry
  · rw [if_neg q, if_neg q]; exact Paired.snoc r ⟨rfl, hb, ry⟩
theorem KT.keeps {H H' : Hp} {kvs : List (List Key × V)} {xs : List (List Key × Addr × Value)} (r : KT H kvs xs) (ht : ∀ b ys, H b = some (.tup ys) → H' b = some (.tup ys)) : KT H' kvs xs :=
  Paired.mapP r fun _ _ z => ⟨z.1, ht _ _ z.2.1, z.2.2⟩

section
variable {P : Program} {w : World} {H : Hp} {h : Heap} {a : Addr}
theorem rd_of {u : HO} (ok : HOk P w H h) (e : Rd H a u) : ObjOk P w H h a u := e.ok ok
theorem dk_rd {kvs : List (Key × V)} (ok : HOk P w H h) (e : Rd H a (.dK kvs)) : kvs.length ≤ sizeLine ∧ (a == sysModules) = false ∧ ∃ vs, KV kvs vs ∧ h.DictOf (mixKind P w) a vs :=
  show ObjOk P w H h a (.dK kvs) from rd_of ok e
theorem dk_of {kvs : List (Key × V)} (ok : HOk P w H h) (e : H a = some (.dK kvs)) : kvs.length ≤ sizeLine ∧ (a == sysModules) = false ∧ ∃ vs, KV kvs vs ∧ h.DictOf (mixKind P w) a vs := dk_rd ok (.inl e)
/-- a tracked tuple of ints and texts is a key -/
theorem key_of {ks : List Key} (ok : HOk P w H h) (e : H a = some (.tup (ks.map kV))) : (tupleKind (mixKind P w)).is h ks a := by
  obtain ⟨_, its, r, o, h1, h2, n, h3⟩ := (show ObjOk P w H h a (.tup (ks.map kV)) from ok a _ e)
  exact ⟨o, its.toArray, n, h1, h2, h3, by simpa using items_are r⟩
theorem dt_rd {kvs : List (List Key × V)} (ok : HOk P w H h) (e : Rd H a (.dT kvs)) : kvs.length ≤ sizeLine ∧ (a == sysModules) = false ∧
    ∃ xs, KT H kvs xs ∧ h.DictOfH (tupleKind (mixKind P w)) a xs := by
  obtain ⟨z, y, xs, r, o, es, ep, h1, h2, h3, h4, h5⟩ := (show ObjOk P w H h a (.dT kvs) from rd_of ok e)
  refine ⟨z, y, xs, r, o, es, ep, h1, h2, h3, h4, fun x hx => ?_, h5⟩
  have all : ∀ {l : List (List Key × V)} {m : List (List Key × Addr × Value)}, KT H l m → ∀ x ∈ m, (tupleKind (mixKind P w)).is h x.1 x.2.1 := by
    intro l m q
    induction q with
    | nil => intro x hx; exact nomatch hx
    | @cons p q ps qs hq t ih =>
      intro x hx
      rcases List.mem_cons.mp hx with e | hx
      · subst e
        exact key_of ok (by rw [← hq.1]; exact hq.2.1)
      · exact ih x hx
  exact all r x hx
theorem dt_of {kvs : List (List Key × V)} (ok : HOk P w H h) (e : H a = some (.dT kvs)) : kvs.length ≤ sizeLine ∧ (a == sysModules) = false ∧
    ∃ xs, KT H kvs xs ∧ h.DictOfH (tupleKind (mixKind P w)) a xs := dt_rd ok (.inl e)
end

/-- what the dict at a holds at the key y -/
def DGet (H : Hp) (a : Addr) (y : V) (r : Option V) : Prop :=
  (∃ kvs k, Rd H a (.dK kvs) ∧ y = kV k ∧ r = valV kvs k) ∨ ∃ kvs k b, Rd H a (.dT kvs) ∧ y = .ref b ∧ H b = some (.tup (k.map kV)) ∧ r = valV kvs k
/-- the heap behind a[y] = v -/
def DPut (H : Hp) (a : Addr) (y v : V) (H' : Hp) : Prop :=
  (∃ kvs k, H a = some (.dK kvs) ∧ y = kV k ∧ kvs.length < sizeLine ∧ H' = upd H a (.dK (putK kvs k v))) ∨
  ∃ kvs k b, H a = some (.dT kvs) ∧ y = .ref b ∧ H b = some (.tup (k.map kV)) ∧ kvs.length < sizeLine ∧ H' = upd H a (.dT (putK kvs k v))
theorem DGet.t {H : Hp} {a b : Addr} {kvs : List (List Key × V)} {k : List Key} (e : H a = some (.dT kvs)) (eb : H b = some (.tup (k.map kV))) : DGet H a (.ref b) (valV kvs k) := .inr ⟨kvs, k, b, .inl e, rfl, eb, rfl⟩
theorem DPut.t {H : Hp} {a b : Addr} {kvs : List (List Key × V)} {k : List Key} {v : V} (e : H a = some (.dT kvs)) (eb : H b = some (.tup (k.map kV))) (hl : kvs.length < sizeLine) :
    DPut H a (.ref b) v (upd H a (.dT (putK kvs k v))) := .inr ⟨kvs, k, b, e, rfl, eb, hl, rfl⟩


section
variable {X : Cx} {pins : List (Addr × Obj)} {σ : St} {H : Hp} {s : Shared} {a : Addr} {y v : V} {u r : Value} {o : Option V} {A : Around} {E : Value → Shared → Prop}

theorem Inv.big (I : Inv X pins σ H s) : sysModules < s.heap.objs.size := by
  have h : mainGlobals < s.heap.objs.size := (I.mod.glob.keeps I.bk).lt
  exact Nat.lt_trans (by decide) h

/-- d[y], there -/
theorem d_getItem {Q : Value → Shared → Prop} (hu : A.units + 1 < cLine) (I : Inv X pins σ H s) (g : DGet H a y (some v)) (ry : RelV y u) (h : ∀ w' s', Inv X pins σ H s' → RelV v w' → Q w' s') :
    wpAny (model X.prog X.w) A (getItem (.ref a) u) Q E s := by
  rcases g with ⟨kvs, k, e, ey, l⟩ | ⟨kvs, k, b, e, ey, eb, l⟩
  · subst ey
    obtain ⟨z, hd, vs, rel, dd⟩ := dk_rd I.hok e
    obtain ⟨w', hw, rw'⟩ := RelO.some_of (v := v) (o := valueAt vs k) (by rw [l]; exact rel.val k)
    exact wpAny_getItem_of (kV_is ry) dd.mapOf hw (h w' _ (I.tok _) rw')
  · subst ey
    cases (show u = Value.ref b from ry)
    obtain ⟨z, hd, xs, rel, dd⟩ := dt_rd I.hok e
    obtain ⟨w', hw, rw'⟩ := RelO.some_of (v := v) (o := (atKey xs k).map (·.2)) (by rw [l]; exact rel.val k)
    obtain ⟨p, hp, hp2⟩ := Option.map_eq_some_iff.mp hw
    refine wpAny_getItem_heap (tupleKind_room_in1 hu) (key_of I.hok eb) dd hp ?_
    rw [hp2]
    exact h w' _ (I.tok _) rw'
/-- a dict's object is replaced -/
theorem d_write {h' : Heap} {t' : Nat} {ob : HO} (I : Inv X pins σ H s) (mu : Mut (H a)) (hs : Heap.SameBut a s.heap h') (he : ∃ q, h'.get? a = some q) (new : ObjOk X.prog X.w (upd H a ob) h' a ob) :
    Inv X pins σ (upd H a ob) { s with heap := h', toks := t' } :=
  I.write (x := a) (e := a) mu (.inl rfl) (fun b q hb z => (hs.2 b hb).trans z) he new
theorem dk_new {P : Program} {w : World} {H' : Hp} {h' : Heap} {kvs : List (Key × V)} {vs : List (Key × Value)} (z : kvs.length ≤ sizeLine) (hd : (a == sysModules) = false) (rel : KV kvs vs) (dd : h'.DictOf (mixKind P w) a vs) :
    ObjOk P w H' h' a (.dK kvs) := ⟨z, hd, vs, rel, dd⟩
/-- d[y] = v -/
theorem d_setItem {H' : Hp} {Q : Unit → Shared → Prop} (hu : A.units + 1 < cLine) (I : Inv X pins σ H s) (g : DPut H a y v H') (ry : RelV y u) (rv : RelV v r) (h : ∀ s', Inv X pins σ H' s' → Q () s') :
    wpAny (model X.prog X.w) A (setItem (.ref a) u r) Q E s := by
  rcases g with ⟨kvs, k, e, ey, l, eH⟩ | ⟨kvs, k, b, e, ey, eb, l, eH⟩
  · subst ey eH
    obtain ⟨z, hd, vs, rel, dd⟩ := dk_of I.hok e
    have hz : vs.length ≤ sizeLine := by rw [← rel.length]; exact z
    have hl : (putK kvs k v).length ≤ sizeLine := by have := length_putK kvs k v; omega
    refine wpAny_setItem_pairs (hsz := hz) (kV_is ry) dd fun h' dd' hs => h _ ?_
    have he : ∃ q, h'.get? a = some q := let ⟨q, _, _, hq, _⟩ := dd'; ⟨q, hq⟩
    exact d_write I (by rw [e]; exact True.intro) hs he (dk_new hl hd (rel.put k rv) dd')
  · subst ey eH
    cases (show u = Value.ref b from ry)
    obtain ⟨z, hd, xs, rel, dd⟩ := dt_of I.hok e
    have hz : xs.length ≤ sizeLine := by rw [← Paired.length rel]; exact z
    have hl : (putK kvs k v).length ≤ sizeLine := by have := length_putK kvs k v; omega
    refine wpAny_setItem_heap (hsz := hz) (tupleKind_room_in1 hu) (key_of I.hok eb) dd fun h' dd' hs => h _ ?_
    obtain ⟨q, es, ep, hq, h2, h3, h4, _, h5⟩ := dd'
    refine d_write I (by rw [e]; exact True.intro) hs ⟨q, hq⟩ ⟨hl, hd, _, (rel.put k eb rv).keeps fun c ys ec => ?_, q, es, ep, hq, h2, h3, h4, h5⟩
    rw [upd_ne (ne_of ec e (fun z => nomatch z))]
    exact ec
end

section
variable {X : Cx} {pins : List (Addr × Obj)} {σ : St} {H : Hp} {s : Shared} {a : Addr} {kvs : List (Key × V)} {k : Key} {u : Value} {A : Around} {E : Value → Shared → Prop}
end


/-! ### readings and rules -/
/-- the element of a subscription, not a slice -/
def NoSl (i : Expr) : Prop := ∀ ov iv, subscripted i false ov iv = operate [ov, iv] (getItem ov iv)
theorem subD_of {prog : Program} {w : World} {A : Around} {E : Value → Shared → Prop} {s : Shared} {env : Env} {value slice : Expr} {pos : Pos} {T id : String} {Q : Value → Shared → Prop}
    (hl : typeLookup (.type T) "__getitem__" = pure (some (.builtin id))) (hs : NoSl slice)
    (h : wpAny (model prog w) A (eval value env) (fun o s₁ => wpAny (model prog w) A (eval slice env) (fun i s₂ => s₂.TypeIs o T ∧ wpAny (model prog w) A (getItem o i) Q E s₂) E s₁) E s) :
    wpAny (model prog w) A (eval (.Subscript value slice pos) env) Q E s := by
  refine Subscript_ (wpAny_mono h (fun o s₁ h₁ => wpAny_mono h₁ (fun i s₂ h₂ => ?_) fun _ _ x => x) fun _ _ x => x)
  obtain ⟨hT, h₂⟩ := h₂
  unfold subscriptTail
  refine wpAny_bind ?_
  rw [getitemInPython_of_ne hT.not_modules]
  refine wpAny_bind (wpAny_specialOf hT hl ?_)
  have fin : wpAny (model prog w) A (subscripted slice false o i) (fun r s₃ => wpAny (model prog w) A (letTemporaryGo value o r >>= fun _ => pure r) Q E s₃) E s₂ := by
    rw [hs o i]
    exact wpAny_operating (wpAny_mono h₂ (fun r s₃ h₃ => wpAny_bind (wpAny_letTemporaryGo (wpAny_pure h₃))) fun _ _ x => x)
  first
    | exact wpAny_pure (wpAny_bind fin)
    | exact wpAny_bind (wpAny_pure (wpAny_bind fin))
    | exact wpAny_bind fin

theorem dict_typeIs {X : Cx} {pins : List (Addr × Obj)} {σ : St} {H : Hp} {s : Shared} {a : Addr} {y : V} {o : Option V} (I : Inv X pins σ H s) (g : DGet H a y o) : s.TypeIs (.ref a) "dict" := by
  rcases g with ⟨kvs, k, e, _, _⟩ | ⟨kvs, k, b, e, _, _, _⟩
  · obtain ⟨_, _, vs, _, dd⟩ := dk_rd I.hok e
    exact dd.typeIs
  · obtain ⟨_, _, xs, _, dd⟩ := dt_rd I.hok e
    exact dd.typeIs
/-- d[y] -/
def tDGet (td ty : TE) : TE := fun σ H Q => td σ H fun x H1 => ty σ H1 fun y H2 => ∃ a v, x = .ref a ∧ DGet H2 a y (some v) ∧ Q v H2
/-- d[y] = v -/
def sDPut (td ty tv : TE) : TS := fun D σ H => tv σ H fun v H1 => td σ H1 fun x H2 => ty σ H2 fun y H3 => ∃ a H4, x = .ref a ∧ DPut H3 a y v H4 ∧ D.nx σ H4
section
variable {X : Cx} {o i e value : Expr} {pos pos' tpos : Pos} {td ty tv : TE}
theorem pe_dget (hu : X.A.units + 1 < cLine) (ho : PE X o td) (hi : PE X i ty) (hs : NoSl i) : PE X (.Subscript o i pos) (tDGet td ty) := by
  intro pins s σ H Q I h
  refine subD_of PySem.F.slot_dict_getitem.lookup hs (thn (ho pins s σ H _ I h) fun u s1 ⟨x, H1, I1, rx, q1⟩ => thn (hi pins s1 σ H1 _ I1 q1) fun iv s2 ⟨y, H2, I2, ry, a, v, ex, g, q2⟩ => ?_)
  subst ex
  obtain rfl : u = Value.ref a := rx
  exact ⟨dict_typeIs I2 g, d_getItem hu I2 g ry fun w' s3 I3 rw' => ⟨v, H2, I3, rw', q2⟩⟩
theorem ps_dput (hu : X.A.units + 1 < cLine) (ho : PE X o td) (hi : PE X i ty) (hv : PE X value tv) (hs : swapsWith value (some (.Subscript o i pos')) pos.line X.env = pure false) :
    PS X (.Assign [.Subscript o i pos'] value pos) (sDPut td ty tv) := by
  intro pins s σ H D I h
  refine wpAny_Assign_Subscript (thn (hv pins s σ H _ I h) fun r s1 ⟨v, H1, I1, rv, q1⟩ => thn (ho pins s1 σ H1 _ I1 q1) fun u s2 ⟨x, H2, I2, rx, q2⟩ => thn (hi pins s2 σ H2 _ I2 q2) fun iv s3 ⟨y, H3, I3, ry, a, H4, ex, g, q3⟩ => ?_) hs
  subst ex
  obtain rfl : u = Value.ref a := rx
  exact d_setItem hu I3 g ry rv fun s4 I4 => ⟨σ, H4, I4, q3⟩
end


/-! ### displays -/
theorem dt_empty {P : Program} {w : World} {H : Hp} (h : Heap) (hb : sysModules < h.objs.size) : ObjOk P w H (h.push { cls := .type "dict", data := .dict #[] }) h.objs.size (.dT []) :=
  ⟨Nat.zero_le _, beq_eq_false_iff_ne.mpr (Ne.symm (Nat.ne_of_lt hb)), [], .nil, _, #[], 0, Heap.get?_push_size _ rfl, ⟨rfl, rfl, rfl⟩, rfl, rfl, List.nodup_nil⟩
def tDNewT : TE := fun _ H Q => ∀ p, H p = none → Q (.ref p) (upd H p (.dT []))
section
variable {X : Cx} {pos : Pos}
theorem pe_dnewT : PE X (.Dict [] [] pos) tDNewT := fun pins s σ H Q I h =>
  wpAny_Dict_empty ⟨.ref s.heap.objs.size, _, I.laid (a := s.heap.objs.size) (o := .dT []) (t' := s.toks) (fun _ _ q => Heap.get?_push_of_some _ q) (Nat.le_refl _) (dt_empty s.heap I.big), rfl, h _ (I.hok.fresh (Nat.le_refl _))⟩
end

/-! ### methods -/
section
variable {X : Cx} {pins : List (Addr × Obj)} {σ : St} {H : Hp} {s : Shared} {a : Addr} {y d : V} {u r : Value} {o : Option V} {A : Around} {E : Value → Shared → Prop}
end

section
variable {X : Cx} {o e f : Expr} {apos cpos : Pos} {td ty tx : TE}
end

/-! ### dict(d): a copy -/
section
variable {X : Cx} {pins : List (Addr × Obj)} {σ : St} {H : Hp} {s : Shared} {a : Addr} {kvs : List (Key × V)} {A : Around} {E : Value → Shared → Prop}
end


section
variable {X : Cx} {pins : List (Addr × Obj)} {σ : St} {H : Hp} {s : Shared} {a : Addr} {y : V} {u : Value} {A : Around} {E : Value → Shared → Prop}
end
end L2
namespace L2
open PySem PySem.Spec PyProof.Rows
/-! ### a dict's pairs: keys that differ -/
section
variable {κ : Type} [DecidableEq κ]
end
end L2
/-! own classes: their methods and their making, as Has; a statement that is never come to; int(truth) -/
namespace L2
open PySem PySem.Spec PyProof.Rows
section
variable {X : Cx} {C : Addr} {m x : Str} {ps : List Str} {j k : Nat} {sp : Sp} {o e : Expr} {es : List Expr} {ta : TE} {t : TA} {p pos apos : Pos}
end
end L2
namespace L2
open PySem PySem.Spec PyProof.Rows
end L2

/-! for i, c in enumerate(text) -/
namespace L2
open PySem PySem.Spec PyProof.Rows
section
variable {X : Cx} {elts : List Expr} {x1 : Nat} {tp : Pos}
end
end L2

/-! t + u of tuples, == of lists of texts, groves behind one another -/
namespace L2
open PySem PySem.Spec PyProof.Rows
section
variable {X : Cx}
end
end L2
namespace Fg
open PySem L2 FgM
end Fg
namespace FgM
section
variable {A : Type}
variable [DecidableEq A]
end
end FgM
namespace Fg
open PySem L2 FgM
end Fg

/-! recursion's ground, constants of the module, == of tuples by their lengths, blocks with captured names -/
namespace L2
open PySem PySem.Spec PyProof.Rows
theorem FnOk.none {P : Program} {w : World} {K : PySem.W.Frag} {mg : Str → Option Value} {base : Heap} {CX : CXT} {k : Nat} {f : Addr} {fd : FuncData} {ps : List Str} {sp : Sp} (h : ∀ vs H Q E, ¬ sp vs H Q E) : FnOk P w K mg base CX k f fd ps sp :=
  ⟨fun vs H Q E z => absurd z (h vs H Q E), fun A outer s H args us vs Q E hr e0 hb r z => absurd z (h vs H Q E)⟩
/-! captured names -/
end L2
namespace L2
open PySem PySem.Spec PyProof.Rows
end L2

/-! exceptions of own classes: raised, passed on, caught -/
namespace L2
open PySem PySem.Spec PyProof.Rows
section
variable {X : Cx} {pins : List (Addr × Obj)} {σ : St} {H : Hp} {s : Shared} {e T : Addr} {C : Value} {d : Option Addr} {M : Model} {A : Around} {E : Value → Shared → Prop} {Q : Unit → Shared → Prop}
end
end L2

namespace L2
open PySem PySem.Spec PyProof.Rows
/-! ### callees that may raise -/
section
variable {X : Cx} {j k : Nat} {f : Addr} {fd : FuncData} {ps : List Str} {sp : Sp} {E : XKS} {x : Str} {p pos : Pos} {e : Expr} {es : List Expr} {t : TA}
end
/-! ### which classes an except names -/
section
variable {M : Model} {A : Around} {E : Value → Shared → Prop} {s : Shared} {K : PySem.W.Frag} {D : Addr}
end
end L2

namespace L2
open PySem PySem.Spec PyProof.Rows
/-! ### try -/
section
variable {X : Cx} {pins pins' : List (Addr × Obj)} {σ : St} {H : Hp} {s : Shared} {e : Addr} {E : Value → Shared → Prop}
end
section
variable {X : Cx} {body : List Stmt} {h₀ : ExceptHandler} {hs rest : List ExceptHandler} {tb : XKS → TS} {th tr : THS} {pos : Pos}
end
end L2

namespace L2
open PySem PySem.Spec PyProof.Rows PySem.W
/-! ### an own class of errors, under ValueError by one class more -/
section
variable {prog : Program} {w : World} {A : Around} {K : Frag} {C G f : Addr} {R : Result → Shared → Prop} {s : Shared}
end
end L2

namespace L2
open PySem PySem.Spec PyProof.Rows PySem.W Builtin Builtin.ObjectAttr
section
variable {prog : Program} {w : World} {A : Around} {E : Value → Shared → Prop} {K : Frag} {C G x : Addr} {s : Shared}
end
end L2

namespace L2
open PySem PySem.Spec PyProof.Rows PySem.W Builtin Builtin.ObjectAttr
section
variable {prog : Program} {w : World} {A : Around} {E : Value → Shared → Prop} {K : Frag} {C G x : Addr} {s : Shared}
end
end L2

namespace L2
open PySem PySem.Spec PyProof.Rows PySem.W
section
variable {X : Cx} {j k : Nat} {C G : Addr} {ps : List Str} {sp : Sp} {E : XKS} {x : Str} {p pos cpos : Pos} {e : Expr} {es : List Expr} {t : TA}
end
end L2

namespace L2
open PySem PySem.Spec PyProof.Rows PySem.W
section
variable {X : Cx} {pins : List (Addr × Obj)} {σ : St} {H : Hp} {s : Shared} {x : Addr} {C : Value} {d : Option Addr}
end
section
variable {X : Cx} {C G : Addr} {g : Str} {p pos apos : Pos} {e : Expr} {es : List Expr} {t : TA}
end
section
variable {X : Cx} {o e value : Expr} {f : Str} {pos pos' : Pos} {ta tv : TE}
end
section
variable {X : Cx} {e : Expr} {f : Str} {pos : Pos} {ta : TE}
end
end L2

namespace L2
open PySem PySem.Spec PyProof.Rows PySem.W
section
variable {prog : Program} {w : World} {A : Around} {K : Frag} {C G : Addr} {R : Result → Shared → Prop} {s : Shared}
end
section
variable {X : Cx} {j k : Nat} {C G : Addr} {E : XKS} {x : Str} {p pos cpos : Pos} {e : Expr} {es : List Expr} {t : TA}
end
section
variable {X : Cx}
end
end L2

/-! texts with values put in -/
namespace L2
open PySem PySem.Spec PyProof.Rows
abbrev TJ := St → Hp → Str → (Str → Hp → Prop) → Prop
def PJ (X : Cx) (es : List Expr) (t : TJ) : Prop := ∀ (pins : List (Addr × Obj)) (s : Shared) (σ : St) (H : Hp) (acc : Str) (Q : Str → Hp → Prop), Inv X pins σ H s → t σ H acc Q →
  wpAny (model X.prog X.w) X.A (joinParts acc (evalEach es X.env)) (EP X pins σ fun v H' => ∃ z, v = .str z ∧ Q z H') X.xe s
def tJNil : TJ := fun _ H acc Q => acc.length ≤ sizeLine ∧ Q acc H
def tJCons (te : TE) (t : TJ) : TJ := fun σ H acc Q => te σ H fun v H1 => ∃ y, v = .str y ∧ (acc ++ y).length ≤ sizeLine ∧ t σ H1 (acc ++ y) Q
def tFv (tv : TE) : TE := fun σ H Q => tv σ H fun v H1 => (∃ z, v = .str z ∧ z.length ≤ sizeLine ∧ Q (.str z) H1) ∨ ∃ i : Int, v = .int i ∧ i.natAbs.log2 < 1920 ∧ Q (.str (Str.ofString (toString i))) H1
def tJoined (t : TJ) : TE := fun σ H Q => t σ H Str.empty fun z H' => Q (.str z) H'
section
variable {X : Cx} {e : Expr} {es : List Expr} {te : TE} {t : TJ} {pos : Pos}
theorem pj_nil : PJ X [] tJNil := fun _ _ _ H acc _ I h => joinParts_nil ⟨.str acc, H, I.tok _, ⟨_, rfl⟩, acc, rfl, h.2⟩ h.1
theorem pj_cons (he : PE X e te) (hr : PJ X es t) (hs : evalEach (e :: es) X.env = eval e X.env :: evalEach es X.env := by rfl) : PJ X (e :: es) (tJCons te t) := by
  intro pins s σ H acc Q I h
  rw [hs]
  refine joinParts_cons (thn (he pins s σ H _ I h) fun u s1 ⟨v, H1, I1, r, y, ev, hz, q⟩ => ?_)
  subst ev
  obtain ⟨tk, rfl⟩ := r
  exact ⟨hz, hr pins s1 σ H1 _ Q I1 q⟩
theorem pe_fv (he : PE X e te) : PE X (.FormattedValue e (-1) none pos) (tFv te) := by
  intro pins s σ H Q I h
  refine FormattedValue_plain (thn (he pins s σ H _ I h) fun u s1 ⟨v, H1, I1, r, q⟩ => ?_)
  rcases q with ⟨z, rfl, hz, q⟩ | ⟨i, rfl, hi, q⟩
  · obtain ⟨tk, rfl⟩ := r
    exact formatField_str (fun t' tk => ⟨.str z, H1, I1.tok _, ⟨_, rfl⟩, q⟩) hz
  · obtain ⟨tk, rfl⟩ := r
    exact formatField_int_small hi ⟨.str _, H1, I1.tok _, ⟨_, rfl⟩, q⟩
theorem pe_joined {e2 : Expr} (h : PJ X (e :: e2 :: es) t) : PE X (.JoinedStr (e :: e2 :: es) pos) (tJoined t) := by
  intro pins s σ H Q I hw
  refine JoinedStr_many (thn (h pins s σ H _ _ I hw) fun u s1 ⟨v, H1, I1, r, z, ev, q⟩ => ⟨v, H1, I1, r, by rw [ev]; exact q⟩)
end
end L2

/-! a display of many written texts -/
namespace L2
open PySem PySem.Spec PyProof.Rows
end L2
namespace L2
open PySem PySem.Spec PyProof.Rows
end L2
namespace L2
open PySem PySem.Spec PyProof.Rows PySem.W
variable {X : Cx}
end L2

/-! sorted: what it gives is what it was given, in some order, at any length -/
namespace Srt
open PySem PyProof.Rows
def gallop' : Bool → Keyed → Array Keyed → Nat → Nat → Nat → StateT SortSt Sem (Option Nat) := sortPriv% PySem.Builtin.gallop
def mergeLo' : Array Keyed → Array Keyed → StateT SortSt Sem (Array Keyed) := sortPriv% PySem.Builtin.mergeLo
def mergeHi' : Array Keyed → Array Keyed → StateT SortSt Sem (Array Keyed) := sortPriv% PySem.Builtin.mergeHi
/-- any two of these can be asked which is less, and nothing else happens -/
def Cmp (prog : Program) (w : World) (A : Around) (s : Shared) (κ : SortKind) (Ok : Keyed → Prop) : Prop :=
  ∀ x y, Ok x → Ok y → ∀ E : Value → Shared → Prop, wpAny (model prog w) A (keyLt' κ x.1 y.1) (fun _ s' => s' = s) E s
/-- as another state but for how soon it gallops -/
structure Like (st st' : SortSt) : Prop where
  arr : arrOf st' = arrOf st
  kind : kindOf st' = kindOf st
  fail : failedOf st' = failedOf st
  pend : pendingOf st' = pendingOf st
theorem Like.refl (st : SortSt) : Like st st := ⟨rfl, rfl, rfl, rfl⟩
theorem Like.trans {a b c : SortSt} (x : Like a b) (y : Like b c) : Like a c := ⟨y.arr.trans x.arr, y.kind.trans x.kind, y.fail.trans x.fail, y.pend.trans x.pend⟩
section
variable {prog : Program} {w : World} {A : Around} {E : Value → Shared → Prop} {s : Shared} {κ : SortKind} {Ok : Keyed → Prop} {st : SortSt}
theorem wpS_lt {x y : Keyed} {Q : Option Bool → SortSt → Prop} (hc : Cmp prog w A s κ Ok) (hk : kindOf st = κ) (hx : Ok x) (hy : Ok y) (h : ∀ b, Q (some b) st) : wpS (model prog w) A E s (lt' x y) Q st := by
  rw [lt'_eq]
  refine wpS_bind (wpS_get ?_)
  rw [hk]
  refine wpS_bind (wpS_lift (wpAny_attempt (wpAny_mono (hc x y hx hy _) (fun b s' e => ⟨e, ?_⟩) fun _ _ z => z)))
  exact wpS_pure (h b)
theorem wpS_elem {arr : Array Keyed} {i : Nat} {Q : Keyed → SortSt → Prop} (hi : i < arr.size) (h : ∀ p, p ∈ arr.toList → arr[i]? = some p → Q p st) : wpS (model prog w) A E s (elem' arr i) Q st := by
  have e : arr[i]? = some arr[i] := getElem?_pos arr i hi
  rw [elem'_eq, e]
  exact wpS_pure (h _ (by simp) e)
theorem bey {l : Bool} {key : Keyed} {a : Array Keyed} {base n i : Nat} {Q : Option Bool → SortSt → Prop} (hc : Cmp prog w A s κ Ok) (hk : kindOf st = κ) (hkey : Ok key) (ha : ∀ p ∈ a.toList, Ok p) (hb : base + n ≤ a.size) (hi : i < n) (h : ∀ b, Q (some b) st) :
    wpS (model prog w) A E s (elem' a (base + i) >>= fun x => if l = true then lt' x key else (lt' key x >>= fun r => pure (Option.map (fun z => !z) r))) Q st := by
  refine wpS_bind (wpS_elem (by omega) fun p hp _ => ?_)
  cases l with
  | true =>
    rw [if_pos rfl]
    exact wpS_lt hc hk (ha p hp) hkey h
  | false =>
    rw [if_neg Bool.false_ne_true]
    exact wpS_bind (wpS_lt hc hk hkey (ha p hp) fun b => wpS_pure (h _))
theorem wpS_gallop {l : Bool} {key : Keyed} {a : Array Keyed} {base n hint : Nat} {Q : Option Nat → SortSt → Prop} (hc : Cmp prog w A s κ Ok) (hk : kindOf st = κ) (hkey : Ok key) (ha : ∀ p ∈ a.toList, Ok p) (hb : base + n ≤ a.size) (hh : hint < n)
    (h : ∀ k, k ≤ n → Q (some k) st) : wpS (model prog w) A E s (gallop' l key a base n hint) Q st := by
  refine wpS_bind (bey hc hk hkey ha hb hh fun right => ?_)
  cases right with
  | true =>
    dsimp only
    rw [if_pos rfl]
    refine wpS_bind (wpS_mono (wpS_forRange (I := fun _ c st' => st' = st ∧ ∃ lo of, c = (none, lo, of) ∧ lo < n - hint ∧ lo < of) (Q := fun c st' => st' = st ∧ ∃ lo of, c = (none, lo, of) ∧ lo < n - hint ∧ lo < of) ?_ (fun c st' z => z) ⟨rfl, 0, 1, rfl, by omega, by omega⟩) ?_)
    · rintro i c st' _ _ ⟨rfl, lo, of, rfl, h1, h2⟩
      dsimp only
      by_cases hlt : of ≥ n - hint
      · rw [if_pos hlt]
        exact wpS_pure ⟨rfl, lo, of, rfl, h1, h2⟩
      · rw [if_neg hlt]
        refine wpS_bind (bey hc hk hkey ha hb (by omega) fun b => ?_)
        cases b with
        | true => exact wpS_pure ⟨rfl, _, _, rfl, by omega, by omega⟩
        | false => exact wpS_pure ⟨rfl, lo, of, rfl, h1, h2⟩
    · rintro c st'' ⟨rfl, lo, of, rfl, h1, h2⟩
      dsimp only
      have g1 : hint + lo + 1 ≤ hint + min of (n - hint) := by omega
      have g2 : hint + min of (n - hint) ≤ n := by omega
      generalize hint + lo + 1 = lo1 at g1
      generalize hint + min of (n - hint) = hi1 at g1 g2
      refine wpS_bind (wpS_mono (wpS_forRange (I := fun _ c st' => st' = st'' ∧ ∃ lo hi, c = (none, lo, hi) ∧ lo ≤ hi ∧ hi ≤ n) (Q := fun c st' => st' = st'' ∧ ∃ lo hi, c = (none, lo, hi) ∧ lo ≤ hi ∧ hi ≤ n) ?_ (fun c st' z => z) ⟨rfl, lo1, hi1, rfl, g1, g2⟩) ?_)
      · rintro i c st' _ _ ⟨rfl, lo, hi, rfl, h1, h2⟩
        dsimp only
        by_cases hlt : lo ≥ hi
        · rw [if_pos hlt]
          exact wpS_pure ⟨rfl, lo, hi, rfl, h1, h2⟩
        · rw [if_neg hlt]
          refine wpS_bind (bey hc hk hkey ha hb (by omega) fun b => ?_)
          cases b with
          | true => exact wpS_pure ⟨rfl, _, _, rfl, by omega, by omega⟩
          | false => exact wpS_pure ⟨rfl, _, _, rfl, by omega, by omega⟩
      · rintro c st' ⟨rfl, lo, hi, rfl, h1, h2⟩
        exact wpS_pure (h hi h2)
  | false =>
    dsimp only
    rw [if_neg Bool.false_ne_true]
    refine wpS_bind (wpS_mono (wpS_forRange (I := fun _ c st' => st' = st ∧ ∃ lo of, c = (none, lo, of) ∧ lo < hint + 1 ∧ lo < of) (Q := fun c st' => st' = st ∧ ∃ lo of, c = (none, lo, of) ∧ lo < hint + 1 ∧ lo < of) ?_ (fun c st' z => z) ⟨rfl, 0, 1, rfl, by omega, by omega⟩) ?_)
    · rintro i c st' _ _ ⟨rfl, lo, of, rfl, h1, h2⟩
      dsimp only
      by_cases hlt : of ≥ hint + 1
      · rw [if_pos hlt]
        exact wpS_pure ⟨rfl, lo, of, rfl, h1, h2⟩
      · rw [if_neg hlt]
        refine wpS_bind (bey hc hk hkey ha hb (by omega) fun b => ?_)
        cases b with
        | true => exact wpS_pure ⟨rfl, lo, of, rfl, h1, h2⟩
        | false => exact wpS_pure ⟨rfl, _, _, rfl, by omega, by omega⟩
    · rintro c st'' ⟨rfl, lo, of, rfl, h1, h2⟩
      dsimp only
      have g1 : hint + 1 - min of (hint + 1) ≤ hint - lo := by omega
      have g2 : hint - lo ≤ n := by omega
      generalize hint + 1 - min of (hint + 1) = lo1 at g1
      generalize hint - lo = hi1 at g1 g2
      refine wpS_bind (wpS_mono (wpS_forRange (I := fun _ c st' => st' = st'' ∧ ∃ lo hi, c = (none, lo, hi) ∧ lo ≤ hi ∧ hi ≤ n) (Q := fun c st' => st' = st'' ∧ ∃ lo hi, c = (none, lo, hi) ∧ lo ≤ hi ∧ hi ≤ n) ?_ (fun c st' z => z) ⟨rfl, lo1, hi1, rfl, g1, g2⟩) ?_)
      · rintro i c st' _ _ ⟨rfl, lo, hi, rfl, h1, h2⟩
        dsimp only
        by_cases hlt : lo ≥ hi
        · rw [if_pos hlt]
          exact wpS_pure ⟨rfl, lo, hi, rfl, h1, h2⟩
        · rw [if_neg hlt]
          refine wpS_bind (bey hc hk hkey ha hb (by omega) fun b => ?_)
          cases b with
          | true => exact wpS_pure ⟨rfl, _, _, rfl, by omega, by omega⟩
          | false => exact wpS_pure ⟨rfl, _, _, rfl, by omega, by omega⟩
      · rintro c st' ⟨rfl, lo, hi, rfl, h1, h2⟩
        exact wpS_pure (h hi h2)
end
end Srt

namespace Srt
open PySem PyProof.Rows
/-- what is out: these many of the one, these of the other -/
def Out (a b : Array Keyed) (out : Array Keyed) (ia ib : Nat) : Prop := out.toList.Perm (a.toList.take ia ++ b.toList.take ib)
section
variable {a b out : Array Keyed} {ia ib : Nat}
theorem perm4 {α : Type} (x y z w : List α) : (x ++ y ++ (z ++ w)).Perm (x ++ z ++ (y ++ w)) := by
  rw [List.append_assoc, List.append_assoc]
  refine List.Perm.append_left x ?_
  rw [← List.append_assoc, ← List.append_assoc]
  exact List.Perm.append_right w List.perm_append_comm
theorem Out.done (h : Out a b out ia ib) : (out ++ a.extract ia a.size ++ b.extract ib b.size).toList.Perm (a.toList ++ b.toList) := by
  rw [Array.toList_append, Array.toList_append, Array.toList_extract, Array.toList_extract]
  have e1 : a.toList.extract ia a.size = a.toList.drop ia := by rw [List.extract_eq_drop_take]; apply List.take_of_length_le; rw [List.length_drop, Array.length_toList]; exact Nat.le_refl _
  have e2 : b.toList.extract ib b.size = b.toList.drop ib := by rw [List.extract_eq_drop_take]; apply List.take_of_length_le; rw [List.length_drop, Array.length_toList]; exact Nat.le_refl _
  rw [e1, e2, List.append_assoc]
  refine (List.Perm.append_right _ h).trans ((perm4 ..).trans ?_)
  rw [List.take_append_drop, List.take_append_drop]
theorem Out.last (h : Out a b out ia ib) : (out ++ b.extract ib b.size ++ a.extract ia a.size).toList.Perm (a.toList ++ b.toList) := by
  refine List.Perm.trans ?_ h.done
  rw [Array.toList_append, Array.toList_append, Array.toList_append, Array.toList_append, List.append_assoc, List.append_assoc]
  exact List.Perm.append_left _ List.perm_append_comm
theorem Out.extA {k : Nat} (h : Out a b out ia ib) (hk : ia + k ≤ a.size) : Out a b (out ++ a.extract ia (ia + k)) (ia + k) ib := by
  unfold Out
  rw [Array.toList_append, Array.toList_extract, List.extract_eq_drop_take]
  have e : a.toList.take (ia + k) = a.toList.take ia ++ (a.toList.drop ia).take k := List.take_add ..
  rw [e, show ia + k - ia = k by omega]
  refine (List.Perm.append_right _ h).trans ?_
  rw [List.append_assoc, List.append_assoc]
  exact List.Perm.append_left _ List.perm_append_comm
theorem Out.extB {k : Nat} (h : Out a b out ia ib) (hk : ib + k ≤ b.size) : Out a b (out ++ b.extract ib (ib + k)) ia (ib + k) := by
  unfold Out
  rw [Array.toList_append, Array.toList_extract, List.extract_eq_drop_take]
  have e : b.toList.take (ib + k) = b.toList.take ib ++ (b.toList.drop ib).take k := List.take_add ..
  rw [e, show ib + k - ib = k by omega]
  refine (List.Perm.append_right _ h).trans ?_
  rw [List.append_assoc]
theorem take_one {α : Type} {xs : List α} {i : Nat} {p : α} (h : xs[i]? = some p) : xs.take (i + 1) = xs.take i ++ [p] := by
  obtain ⟨hi, e⟩ := List.getElem?_eq_some_iff.mp h
  rw [List.take_succ_eq_append_getElem hi, e]
theorem Out.pushA {p : Keyed} (h : Out a b out ia ib) (hp : a[ia]? = some p) : Out a b (out.push p) (ia + 1) ib := by
  have hp' : a.toList[ia]? = some p := by rw [← hp]; simp
  unfold Out
  rw [Array.toList_push, take_one hp']
  refine (List.Perm.append_right _ h).trans ?_
  rw [List.append_assoc, List.append_assoc]
  exact List.Perm.append_left _ List.perm_append_comm
theorem Out.pushB {p : Keyed} (h : Out a b out ia ib) (hp : b[ib]? = some p) : Out a b (out.push p) ia (ib + 1) := by
  have hp' : b.toList[ib]? = some p := by rw [← hp]; simp
  unfold Out
  rw [Array.toList_push, take_one hp']
  refine (List.Perm.append_right _ h).trans ?_
  rw [List.append_assoc]
theorem out0 {p : Keyed} (hp : b[0]? = some p) : Out a b #[p] 0 1 := by
  have h0 : Out a b #[] 0 0 := by
    unfold Out
    rw [List.take_zero, List.take_zero]
    exact List.Perm.refl _
  exact h0.pushB hp
end
end Srt

namespace Srt
open PySem PyProof.Rows
section
variable {prog : Program} {w : World} {A : Around} {E : Value → Shared → Prop} {s : Shared} {κ : SortKind} {Ok : Keyed → Prop} {st : SortSt}
theorem like_gallop (st : SortSt) (g : Nat) : Like st (SortSt.mk' (kindOf st) (arrOf st) (pendingOf st) g (failedOf st)) := ⟨rfl, rfl, rfl, rfl⟩
set_option maxHeartbeats 1000000 in
theorem wpS_mergeLo {a b : Array Keyed} {Q : Array Keyed → SortSt → Prop} (hc : Cmp prog w A s κ Ok) (hk : kindOf st = κ) (ha : ∀ p ∈ a.toList, Ok p) (hb : ∀ p ∈ b.toList, Ok p) (ha1 : 1 ≤ a.size) (hb1 : 1 ≤ b.size)
    (h : ∀ r st', Like st st' → r.toList.Perm (a.toList ++ b.toList) → Q r st') : wpS (model prog w) A E s (mergeLo' a b) Q st := by
  refine wpS_bind (wpS_lift (wpAny_rule ⟨rfl, ?_⟩))
  refine wpS_bind (wpS_elem (by omega) fun p hp he => ?_)
  dsimp only
  have o0 : Out a b #[p] 0 1 := out0 he
  by_cases c1 : (1 == b.size) = true
  · rw [if_pos c1]
    exact wpS_pure (h _ _ (Like.refl _) o0.done)
  rw [if_neg c1]
  by_cases c2 : (0 + 1 == a.size) = true
  · rw [if_pos c2]
    exact wpS_pure (h _ _ (Like.refl _) o0.last)
  rw [if_neg c2]
  have n1 : 1 < b.size := by
    have : ¬ 1 = b.size := fun e => c1 (by simp [← e])
    omega
  have n2 : 1 < a.size := by
    have : ¬ 1 = a.size := fun e => c2 (by simp [← e])
    omega
  refine wpS_bind (wpS_get ?_)
  -- the turns
  refine wpS_bind (wpS_mono (wpS_forRange (I := fun x c st' => Like st st' ∧ ∃ out ia ib g, c = (none, out, ia, ib, g) ∧ Out a b out ia ib ∧ ia + 1 < a.size ∧ ib < b.size ∧ x + 1 ≤ ia + ib)
    (Q := fun c st' => Like st st' ∧ ∃ r out ia ib g, c = (some r, out, ia, ib, g) ∧ r.toList.Perm (a.toList ++ b.toList)) ?_ ?_ ⟨Like.refl _, _, 0, 1, _, rfl, o0, by omega, by omega, by omega⟩) ?_)
  · rintro x c st1 _ hx ⟨lk, out, ia, ib, g, rfl, ho, hia, hib, hxx⟩
    dsimp only
    -- one by one
    refine wpS_bind (wpS_mono (wpS_forRange (I := fun y c st' => Like st st' ∧ ∃ out ia ib ac bc, c = (none, out, ia, ib, ac, bc) ∧ Out a b out ia ib ∧ ia + 1 < a.size ∧ ib < b.size ∧ x + 1 + (if y = 0 then 0 else 1) ≤ ia + ib)
      (Q := fun c st' => Like st st' ∧ ((∃ r out ia ib ac bc, c = (some r, out, ia, ib, ac, bc) ∧ r.toList.Perm (a.toList ++ b.toList)) ∨ ∃ out ia ib ac bc, c = (none, out, ia, ib, ac, bc) ∧ Out a b out ia ib ∧ ia + 1 < a.size ∧ ib < b.size ∧ x + 2 ≤ ia + ib)) ?_ ?_ ⟨lk, out, ia, ib, 0, 0, rfl, ho, hia, hib, by simp; omega⟩) ?_)
    · rintro y c st2 _ hy ⟨lk2, out, ia, ib, ac, bc, rfl, ho, hia, hib, hxx⟩
      dsimp only
      have hxx2 : x + 1 ≤ ia + ib := by split at hxx <;> omega
      refine wpS_bind (wpS_elem (by omega) fun p hp ep => ?_)
      refine wpS_bind (wpS_elem (by omega) fun q hq eq => ?_)
      refine wpS_bind (wpS_lt hc (lk2.kind.trans hk) (hb p hp) (ha q hq) fun bw => ?_)
      cases bw with
      | true =>
        try dsimp only
        rw [if_pos rfl]
        refine wpS_bind (wpS_elem (by omega) fun p2 hp2 ep2 => ?_)
        have o1 := ho.pushB ep2
        by_cases d1 : (ib + 1 == b.size) = true
        · rw [if_pos d1]
          exact wpS_pure ⟨lk2, .inl ⟨_, _, _, _, _, _, rfl, o1.done⟩⟩
        rw [if_neg d1]
        have m1 : ib + 1 < b.size := by
          have : ¬ ib + 1 = b.size := fun e => d1 (by simp [← e])
          omega
        by_cases d2 : bc + 1 ≥ g
        · rw [if_pos d2]
          exact wpS_pure ⟨lk2, .inr ⟨_, _, _, _, _, rfl, o1, hia, m1, by omega⟩⟩
        · rw [if_neg d2]
          exact wpS_pure ⟨lk2, _, _, _, _, _, rfl, o1, hia, m1, by rw [if_neg (by omega)]; omega⟩
      | false =>
        try dsimp only
        rw [if_neg Bool.false_ne_true]
        refine wpS_bind (wpS_elem (by omega) fun p2 hp2 ep2 => ?_)
        have o1 := ho.pushA ep2
        by_cases d1 : (ia + 1 + 1 == a.size) = true
        · rw [if_pos d1]
          exact wpS_pure ⟨lk2, .inl ⟨_, _, _, _, _, _, rfl, o1.last⟩⟩
        rw [if_neg d1]
        have m1 : ia + 1 + 1 < a.size := by
          have : ¬ ia + 1 + 1 = a.size := fun e => d1 (by simp [← e])
          omega
        by_cases d2 : ac + 1 ≥ g
        · rw [if_pos d2]
          exact wpS_pure ⟨lk2, .inr ⟨_, _, _, _, _, rfl, o1, m1, hib, by omega⟩⟩
        · rw [if_neg d2]
          exact wpS_pure ⟨lk2, _, _, _, _, _, rfl, o1, m1, hib, by rw [if_neg (by omega)]; omega⟩
    · rintro c st2 ⟨lk2, out, ia, ib, ac, bc, rfl, ho, hia, hib, hxx⟩
      refine ⟨lk2, .inr ⟨_, _, _, _, _, rfl, ho, hia, hib, ?_⟩⟩
      rw [if_neg (by omega)] at hxx
      omega
    · rintro c st2 ⟨lk2, ⟨r, out, ia, ib, ac, bc, rfl, hr⟩ | ⟨out, ia, ib, ac, bc, rfl, ho, hia, hib, hxx⟩⟩
      · exact wpS_pure ⟨lk2, _, _, _, _, _, rfl, hr⟩
      dsimp only
      refine wpS_bind (wpS_lift (wpAny_rule ⟨rfl, ?_⟩))
      try dsimp only
      -- by leaps
      refine wpS_bind (wpS_mono (wpS_forRange (I := fun y c st' => Like st st' ∧ ∃ out ia ib g ac bc, c = (none, out, ia, ib, g, ac, bc) ∧ Out a b out ia ib ∧ ia + 1 < a.size ∧ ib < b.size ∧ x + 2 ≤ ia + ib)
        (Q := fun c st' => Like st st' ∧ ((∃ r out ia ib g ac bc, c = (some r, out, ia, ib, g, ac, bc) ∧ r.toList.Perm (a.toList ++ b.toList)) ∨ ∃ out ia ib g ac bc, c = (none, out, ia, ib, g, ac, bc) ∧ Out a b out ia ib ∧ ia + 1 < a.size ∧ ib < b.size ∧ x + 2 ≤ ia + ib)) ?_ ?_ ⟨lk2, out, ia, ib, _, _, _, rfl, ho, hia, hib, hxx⟩) ?_)
      · rintro y c st3 _ hy ⟨lk3, out, ia, ib, g3, ac, bc, rfl, ho, hia, hib, hxx⟩
        dsimp only
        by_cases g1 : g3 > 1
        · rw [if_pos g1]
          refine wpS_bind (wpS_modify ?_)
          have lk4 := lk3.trans (like_gallop st3 (g3 - 1))
          refine wpS_bind (wpS_elem (by omega) fun p0 h0 e0 => ?_)
          refine wpS_bind (wpS_gallop hc (lk4.kind.trans hk) (hb p0 h0) ha (by omega) (by omega) fun k hk1 => ?_)
          dsimp only
          by_cases k0 : k > 0
          · rw [if_pos k0]
            have o1 := ho.extA (k := k) (by omega)
            by_cases c1 : (ia + k + 1 == a.size) = true
            · rw [if_pos c1]
              exact wpS_pure ⟨lk4, .inl ⟨_, _, _, _, _, _, _, rfl, o1.last⟩⟩
            rw [if_neg c1]
            by_cases c2 : (ia + k == a.size) = true
            · rw [if_pos c2]
              exact wpS_pure ⟨lk4, .inl ⟨_, _, _, _, _, _, _, rfl, o1.done⟩⟩
            rw [if_neg c2]
            have n1 : ia + k + 1 < a.size := by
              have h1 : ¬ ia + k + 1 = a.size := fun e => c1 (by simp [← e])
              have h2 : ¬ ia + k = a.size := fun e => c2 (by simp [← e])
              omega
            refine wpS_bind (wpS_elem (by omega) fun p3 h3 e3 => ?_)
            have o2 := o1.pushB e3
            by_cases c3 : (ib + 1 == b.size) = true
            · rw [if_pos c3]
              exact wpS_pure ⟨lk4, .inl ⟨_, _, _, _, _, _, _, rfl, o2.done⟩⟩
            rw [if_neg c3]
            have n3 : ib + 1 < b.size := by
              have : ¬ ib + 1 = b.size := fun e => c3 (by simp [← e])
              omega
            refine wpS_bind (wpS_elem (by omega) fun q3 g3 u3 => ?_)
            refine wpS_bind (wpS_gallop hc (lk4.kind.trans hk) (ha q3 g3) hb (by omega) (by omega) fun k2 hk2 => ?_)
            dsimp only
            by_cases k20 : k2 > 0
            · rw [if_pos k20]
              have o3 := o2.extB (k := k2) (by omega)
              by_cases c4 : (ib + 1 + k2 == b.size) = true
              · rw [if_pos c4]
                exact wpS_pure ⟨lk4, .inl ⟨_, _, _, _, _, _, _, rfl, o3.done⟩⟩
              rw [if_neg c4]
              have n5 : ib + 1 + k2 < b.size := by
                have : ¬ ib + 1 + k2 = b.size := fun e => c4 (by simp [← e])
                omega
              refine wpS_bind (wpS_elem (by omega) fun p4 h4 e4 => ?_)
              have o4 := o3.pushA e4
              by_cases f1 : (ia + k + 1 + 1 == a.size) = true
              · rw [if_pos f1]
                exact wpS_pure ⟨lk4, .inl ⟨_, _, _, _, _, _, _, rfl, o4.last⟩⟩
              rw [if_neg f1]
              have n4 : ia + k + 1 + 1 < a.size := by
                have : ¬ ia + k + 1 + 1 = a.size := fun e => f1 (by simp [← e])
                omega
              by_cases f2 : (decide (k < 7) && decide (k2 < 7)) = true
              · rw [if_pos f2]
                exact wpS_pure ⟨lk4, .inr ⟨_, _, _, _, _, _, rfl, o4, n4, by omega, by omega⟩⟩
              · rw [if_neg f2]
                exact wpS_pure ⟨lk4, _, _, _, _, _, _, rfl, o4, n4, by omega, by omega⟩
            · rw [if_neg k20]
              refine wpS_bind (wpS_elem (by omega) fun p4 h4 e4 => ?_)
              have o4 := o2.pushA e4
              by_cases f1 : (ia + k + 1 + 1 == a.size) = true
              · rw [if_pos f1]
                exact wpS_pure ⟨lk4, .inl ⟨_, _, _, _, _, _, _, rfl, o4.last⟩⟩
              rw [if_neg f1]
              have n4 : ia + k + 1 + 1 < a.size := by
                have : ¬ ia + k + 1 + 1 = a.size := fun e => f1 (by simp [← e])
                omega
              by_cases f2 : (decide (k < 7) && decide (k2 < 7)) = true
              · rw [if_pos f2]
                exact wpS_pure ⟨lk4, .inr ⟨_, _, _, _, _, _, rfl, o4, n4, by omega, by omega⟩⟩
              · rw [if_neg f2]
                exact wpS_pure ⟨lk4, _, _, _, _, _, _, rfl, o4, n4, by omega, by omega⟩
          · rw [if_neg k0]
            refine wpS_bind (wpS_elem (by omega) fun p3 h3 e3 => ?_)
            have o2 := ho.pushB e3
            by_cases c3 : (ib + 1 == b.size) = true
            · rw [if_pos c3]
              exact wpS_pure ⟨lk4, .inl ⟨_, _, _, _, _, _, _, rfl, o2.done⟩⟩
            rw [if_neg c3]
            have n3 : ib + 1 < b.size := by
              have : ¬ ib + 1 = b.size := fun e => c3 (by simp [← e])
              omega
            refine wpS_bind (wpS_elem (by omega) fun q3 g3 u3 => ?_)
            refine wpS_bind (wpS_gallop hc (lk4.kind.trans hk) (ha q3 g3) hb (by omega) (by omega) fun k2 hk2 => ?_)
            dsimp only
            by_cases k20 : k2 > 0
            · rw [if_pos k20]
              have o3 := o2.extB (k := k2) (by omega)
              by_cases c4 : (ib + 1 + k2 == b.size) = true
              · rw [if_pos c4]
                exact wpS_pure ⟨lk4, .inl ⟨_, _, _, _, _, _, _, rfl, o3.done⟩⟩
              rw [if_neg c4]
              have n5 : ib + 1 + k2 < b.size := by
                have : ¬ ib + 1 + k2 = b.size := fun e => c4 (by simp [← e])
                omega
              refine wpS_bind (wpS_elem (by omega) fun p4 h4 e4 => ?_)
              have o4 := o3.pushA e4
              by_cases f1 : (ia + 1 + 1 == a.size) = true
              · rw [if_pos f1]
                exact wpS_pure ⟨lk4, .inl ⟨_, _, _, _, _, _, _, rfl, o4.last⟩⟩
              rw [if_neg f1]
              have n4 : ia + 1 + 1 < a.size := by
                have : ¬ ia + 1 + 1 = a.size := fun e => f1 (by simp [← e])
                omega
              by_cases f2 : (decide (k < 7) && decide (k2 < 7)) = true
              · rw [if_pos f2]
                exact wpS_pure ⟨lk4, .inr ⟨_, _, _, _, _, _, rfl, o4, n4, by omega, by omega⟩⟩
              · rw [if_neg f2]
                exact wpS_pure ⟨lk4, _, _, _, _, _, _, rfl, o4, n4, by omega, by omega⟩
            · rw [if_neg k20]
              refine wpS_bind (wpS_elem (by omega) fun p4 h4 e4 => ?_)
              have o4 := o2.pushA e4
              by_cases f1 : (ia + 1 + 1 == a.size) = true
              · rw [if_pos f1]
                exact wpS_pure ⟨lk4, .inl ⟨_, _, _, _, _, _, _, rfl, o4.last⟩⟩
              rw [if_neg f1]
              have n4 : ia + 1 + 1 < a.size := by
                have : ¬ ia + 1 + 1 = a.size := fun e => f1 (by simp [← e])
                omega
              by_cases f2 : (decide (k < 7) && decide (k2 < 7)) = true
              · rw [if_pos f2]
                exact wpS_pure ⟨lk4, .inr ⟨_, _, _, _, _, _, rfl, o4, n4, by omega, by omega⟩⟩
              · rw [if_neg f2]
                exact wpS_pure ⟨lk4, _, _, _, _, _, _, rfl, o4, n4, by omega, by omega⟩
        · rw [if_neg g1]
          refine wpS_bind (wpS_modify ?_)
          have lk4 := lk3.trans (like_gallop st3 g3)
          refine wpS_bind (wpS_elem (by omega) fun p0 h0 e0 => ?_)
          refine wpS_bind (wpS_gallop hc (lk4.kind.trans hk) (hb p0 h0) ha (by omega) (by omega) fun k hk1 => ?_)
          dsimp only
          by_cases k0 : k > 0
          · rw [if_pos k0]
            have o1 := ho.extA (k := k) (by omega)
            by_cases c1 : (ia + k + 1 == a.size) = true
            · rw [if_pos c1]
              exact wpS_pure ⟨lk4, .inl ⟨_, _, _, _, _, _, _, rfl, o1.last⟩⟩
            rw [if_neg c1]
            by_cases c2 : (ia + k == a.size) = true
            · rw [if_pos c2]
              exact wpS_pure ⟨lk4, .inl ⟨_, _, _, _, _, _, _, rfl, o1.done⟩⟩
            rw [if_neg c2]
            have n1 : ia + k + 1 < a.size := by
              have h1 : ¬ ia + k + 1 = a.size := fun e => c1 (by simp [← e])
              have h2 : ¬ ia + k = a.size := fun e => c2 (by simp [← e])
              omega
            refine wpS_bind (wpS_elem (by omega) fun p3 h3 e3 => ?_)
            have o2 := o1.pushB e3
            by_cases c3 : (ib + 1 == b.size) = true
            · rw [if_pos c3]
              exact wpS_pure ⟨lk4, .inl ⟨_, _, _, _, _, _, _, rfl, o2.done⟩⟩
            rw [if_neg c3]
            have n3 : ib + 1 < b.size := by
              have : ¬ ib + 1 = b.size := fun e => c3 (by simp [← e])
              omega
            refine wpS_bind (wpS_elem (by omega) fun q3 g3 u3 => ?_)
            refine wpS_bind (wpS_gallop hc (lk4.kind.trans hk) (ha q3 g3) hb (by omega) (by omega) fun k2 hk2 => ?_)
            dsimp only
            by_cases k20 : k2 > 0
            · rw [if_pos k20]
              have o3 := o2.extB (k := k2) (by omega)
              by_cases c4 : (ib + 1 + k2 == b.size) = true
              · rw [if_pos c4]
                exact wpS_pure ⟨lk4, .inl ⟨_, _, _, _, _, _, _, rfl, o3.done⟩⟩
              rw [if_neg c4]
              have n5 : ib + 1 + k2 < b.size := by
                have : ¬ ib + 1 + k2 = b.size := fun e => c4 (by simp [← e])
                omega
              refine wpS_bind (wpS_elem (by omega) fun p4 h4 e4 => ?_)
              have o4 := o3.pushA e4
              by_cases f1 : (ia + k + 1 + 1 == a.size) = true
              · rw [if_pos f1]
                exact wpS_pure ⟨lk4, .inl ⟨_, _, _, _, _, _, _, rfl, o4.last⟩⟩
              rw [if_neg f1]
              have n4 : ia + k + 1 + 1 < a.size := by
                have : ¬ ia + k + 1 + 1 = a.size := fun e => f1 (by simp [← e])
                omega
              by_cases f2 : (decide (k < 7) && decide (k2 < 7)) = true
              · rw [if_pos f2]
                exact wpS_pure ⟨lk4, .inr ⟨_, _, _, _, _, _, rfl, o4, n4, by omega, by omega⟩⟩
              · rw [if_neg f2]
                exact wpS_pure ⟨lk4, _, _, _, _, _, _, rfl, o4, n4, by omega, by omega⟩
            · rw [if_neg k20]
              refine wpS_bind (wpS_elem (by omega) fun p4 h4 e4 => ?_)
              have o4 := o2.pushA e4
              by_cases f1 : (ia + k + 1 + 1 == a.size) = true
              · rw [if_pos f1]
                exact wpS_pure ⟨lk4, .inl ⟨_, _, _, _, _, _, _, rfl, o4.last⟩⟩
              rw [if_neg f1]
              have n4 : ia + k + 1 + 1 < a.size := by
                have : ¬ ia + k + 1 + 1 = a.size := fun e => f1 (by simp [← e])
                omega
              by_cases f2 : (decide (k < 7) && decide (k2 < 7)) = true
              · rw [if_pos f2]
                exact wpS_pure ⟨lk4, .inr ⟨_, _, _, _, _, _, rfl, o4, n4, by omega, by omega⟩⟩
              · rw [if_neg f2]
                exact wpS_pure ⟨lk4, _, _, _, _, _, _, rfl, o4, n4, by omega, by omega⟩
          · rw [if_neg k0]
            refine wpS_bind (wpS_elem (by omega) fun p3 h3 e3 => ?_)
            have o2 := ho.pushB e3
            by_cases c3 : (ib + 1 == b.size) = true
            · rw [if_pos c3]
              exact wpS_pure ⟨lk4, .inl ⟨_, _, _, _, _, _, _, rfl, o2.done⟩⟩
            rw [if_neg c3]
            have n3 : ib + 1 < b.size := by
              have : ¬ ib + 1 = b.size := fun e => c3 (by simp [← e])
              omega
            refine wpS_bind (wpS_elem (by omega) fun q3 g3 u3 => ?_)
            refine wpS_bind (wpS_gallop hc (lk4.kind.trans hk) (ha q3 g3) hb (by omega) (by omega) fun k2 hk2 => ?_)
            dsimp only
            by_cases k20 : k2 > 0
            · rw [if_pos k20]
              have o3 := o2.extB (k := k2) (by omega)
              by_cases c4 : (ib + 1 + k2 == b.size) = true
              · rw [if_pos c4]
                exact wpS_pure ⟨lk4, .inl ⟨_, _, _, _, _, _, _, rfl, o3.done⟩⟩
              rw [if_neg c4]
              have n5 : ib + 1 + k2 < b.size := by
                have : ¬ ib + 1 + k2 = b.size := fun e => c4 (by simp [← e])
                omega
              refine wpS_bind (wpS_elem (by omega) fun p4 h4 e4 => ?_)
              have o4 := o3.pushA e4
              by_cases f1 : (ia + 1 + 1 == a.size) = true
              · rw [if_pos f1]
                exact wpS_pure ⟨lk4, .inl ⟨_, _, _, _, _, _, _, rfl, o4.last⟩⟩
              rw [if_neg f1]
              have n4 : ia + 1 + 1 < a.size := by
                have : ¬ ia + 1 + 1 = a.size := fun e => f1 (by simp [← e])
                omega
              by_cases f2 : (decide (k < 7) && decide (k2 < 7)) = true
              · rw [if_pos f2]
                exact wpS_pure ⟨lk4, .inr ⟨_, _, _, _, _, _, rfl, o4, n4, by omega, by omega⟩⟩
              · rw [if_neg f2]
                exact wpS_pure ⟨lk4, _, _, _, _, _, _, rfl, o4, n4, by omega, by omega⟩
            · rw [if_neg k20]
              refine wpS_bind (wpS_elem (by omega) fun p4 h4 e4 => ?_)
              have o4 := o2.pushA e4
              by_cases f1 : (ia + 1 + 1 == a.size) = true
              · rw [if_pos f1]
                exact wpS_pure ⟨lk4, .inl ⟨_, _, _, _, _, _, _, rfl, o4.last⟩⟩
              rw [if_neg f1]
              have n4 : ia + 1 + 1 < a.size := by
                have : ¬ ia + 1 + 1 = a.size := fun e => f1 (by simp [← e])
                omega
              by_cases f2 : (decide (k < 7) && decide (k2 < 7)) = true
              · rw [if_pos f2]
                exact wpS_pure ⟨lk4, .inr ⟨_, _, _, _, _, _, rfl, o4, n4, by omega, by omega⟩⟩
              · rw [if_neg f2]
                exact wpS_pure ⟨lk4, _, _, _, _, _, _, rfl, o4, n4, by omega, by omega⟩
      · rintro c st3 ⟨lk3, out, ia, ib, g3, ac, bc, rfl, ho, hia, hib, hxx⟩
        exact ⟨lk3, .inr ⟨_, _, _, _, _, _, rfl, ho, hia, hib, hxx⟩⟩
      · rintro c st3 ⟨lk3, ⟨r, out, ia, ib, g3, ac, bc, rfl, hr⟩ | ⟨out, ia, ib, g3, ac, bc, rfl, ho, hia, hib, hxx⟩⟩
        · exact wpS_pure ⟨lk3, _, _, _, _, _, rfl, hr⟩
        · try dsimp only
          refine wpS_bind (wpS_modify ?_)
          exact wpS_pure ⟨lk3.trans (like_gallop _ _), _, _, _, _, rfl, ho, hia, hib, by omega⟩
  · rintro c st1 ⟨lk, out, ia, ib, g, rfl, ho, hia, hib, hx⟩
    exfalso
    omega
  · rintro c st1 ⟨lk, r, out, ia, ib, g, rfl, hr⟩
    exact wpS_pure (h r st1 lk hr)
end
end Srt

namespace Srt
open PySem PyProof.Rows
/-- what is out from the right: all from these places on -/
def OutH (a b : Array Keyed) (out : Array Keyed) (na nb : Nat) : Prop := out.toList.Perm (a.toList.drop na ++ b.toList.drop nb)
section
variable {a b out : Array Keyed} {na nb : Nat}
theorem ex0 (a : Array Keyed) (n : Nat) : (a.extract 0 n).toList = a.toList.take n := by
  rw [Array.toList_extract, List.extract_eq_drop_take, List.drop_zero, Nat.sub_zero]
theorem OutH.done (h : OutH a b out na nb) : (a.extract 0 na ++ b.extract 0 nb ++ out.reverse).toList.Perm (a.toList ++ b.toList) := by
  rw [Array.toList_append, Array.toList_append, ex0, ex0, Array.toList_reverse]
  refine (List.Perm.append_left _ ((List.reverse_perm _).trans h)).trans ((perm4 ..).trans ?_)
  rw [List.take_append_drop, List.take_append_drop]
theorem OutH.first (h : OutH a b out na nb) : (b.extract 0 nb ++ a.extract 0 na ++ out.reverse).toList.Perm (a.toList ++ b.toList) := by
  refine List.Perm.trans ?_ h.done
  rw [Array.toList_append, Array.toList_append, Array.toList_append, Array.toList_append]
  exact List.Perm.append_right _ List.perm_append_comm
theorem drop_one {α : Type} {xs : List α} {i : Nat} {p : α} (h : xs[i]? = some p) : xs.drop i = p :: xs.drop (i + 1) := by
  obtain ⟨hi, e⟩ := List.getElem?_eq_some_iff.mp h
  rw [← e]
  exact List.drop_eq_getElem_cons hi
theorem OutH.pushA {p : Keyed} (h : OutH a b out na nb) (h1 : 1 ≤ na) (hp : a[na - 1]? = some p) : OutH a b (out.push p) (na - 1) nb := by
  have hp' : a.toList[na - 1]? = some p := by rw [← hp]; simp
  unfold OutH
  rw [Array.toList_push, drop_one hp', Nat.sub_add_cancel h1]
  refine (List.Perm.append_right _ h).trans ?_
  exact List.perm_append_comm
theorem OutH.pushB {p : Keyed} (h : OutH a b out na nb) (h1 : 1 ≤ nb) (hp : b[nb - 1]? = some p) : OutH a b (out.push p) na (nb - 1) := by
  have hp' : b.toList[nb - 1]? = some p := by rw [← hp]; simp
  unfold OutH
  rw [Array.toList_push, drop_one hp', Nat.sub_add_cancel h1]
  refine (List.Perm.append_right _ h).trans ?_
  rw [List.append_assoc]
  refine List.Perm.append_left _ ?_
  exact List.perm_append_comm
theorem drop_mid {α : Type} (xs : List α) {i j : Nat} (h : i ≤ j) : xs.drop i = (xs.drop i).take (j - i) ++ xs.drop j := by
  have := List.take_append_drop (j - i) (xs.drop i)
  rw [List.drop_drop, Nat.add_sub_cancel' h] at this
  exact this.symm
theorem OutH.extA {k : Nat} (h : OutH a b out na nb) (hk : k ≤ na) : OutH a b (out ++ (a.extract k na).reverse) k nb := by
  unfold OutH
  rw [Array.toList_append, Array.toList_reverse, Array.toList_extract, List.extract_eq_drop_take]
  refine (List.Perm.append h (List.reverse_perm _)).trans ?_
  refine List.perm_append_comm.trans ?_
  rw [← List.append_assoc, ← drop_mid a.toList hk]
theorem OutH.extB {k : Nat} (h : OutH a b out na nb) (hk : k ≤ nb) : OutH a b (out ++ (b.extract k nb).reverse) na k := by
  unfold OutH
  rw [Array.toList_append, Array.toList_reverse, Array.toList_extract, List.extract_eq_drop_take]
  refine (List.Perm.append h (List.reverse_perm _)).trans ?_
  rw [List.append_assoc]
  refine List.Perm.append_left _ (List.perm_append_comm.trans ?_)
  rw [← drop_mid b.toList hk]
theorem outH0 {p : Keyed} (h1 : 1 ≤ a.size) (hp : a[a.size - 1]? = some p) : OutH a b #[p] (a.size - 1) b.size := by
  have h0 : OutH a b #[] a.size b.size := by
    unfold OutH
    rw [List.drop_eq_nil_of_le (by rw [Array.length_toList]; exact Nat.le_refl _), List.drop_eq_nil_of_le (by rw [Array.length_toList]; exact Nat.le_refl _)]
    exact List.Perm.refl _
  exact h0.pushA h1 hp
end
section
variable {prog : Program} {w : World} {A : Around} {E : Value → Shared → Prop} {s : Shared} {κ : SortKind} {Ok : Keyed → Prop} {st : SortSt}
set_option maxHeartbeats 1000000 in
theorem wpS_mergeHi {a b : Array Keyed} {Q : Array Keyed → SortSt → Prop} (hc : Cmp prog w A s κ Ok) (hk : kindOf st = κ) (ha : ∀ p ∈ a.toList, Ok p) (hb : ∀ p ∈ b.toList, Ok p) (ha1 : 1 ≤ a.size) (hb1 : 1 ≤ b.size)
    (h : ∀ r st', Like st st' → r.toList.Perm (a.toList ++ b.toList) → Q r st') : wpS (model prog w) A E s (mergeHi' a b) Q st := by
  refine wpS_bind (wpS_lift (wpAny_rule ⟨rfl, ?_⟩))
  refine wpS_bind (wpS_elem (by omega) fun p hp he => ?_)
  try dsimp only
  have o0 : OutH a b #[p] (a.size - 1) b.size := outH0 ha1 he
  by_cases c1 : (a.size - 1 == 0) = true
  · rw [if_pos c1]
    exact wpS_pure (h _ _ (Like.refl _) o0.done)
  rw [if_neg c1]
  by_cases c2 : (b.size == 1) = true
  · rw [if_pos c2]
    exact wpS_pure (h _ _ (Like.refl _) o0.first)
  rw [if_neg c2]
  have n1 : 1 < b.size := by
    have : ¬ b.size = 1 := fun e => c2 (by simp [e])
    omega
  have n2 : 1 < a.size := by
    have : ¬ a.size - 1 = 0 := fun e => c1 (by simp [e])
    omega
  refine wpS_bind (wpS_get ?_)
  refine wpS_bind (wpS_mono (wpS_forRange (I := fun x c st' => Like st st' ∧ ∃ na nb out g, c = (none, na, nb, out, g) ∧ OutH a b out na nb ∧ 1 ≤ na ∧ na ≤ a.size ∧ 2 ≤ nb ∧ nb ≤ b.size ∧ na + nb + x + 1 ≤ a.size + b.size)
    (Q := fun c st' => Like st st' ∧ ∃ r na nb out g, c = (some r, na, nb, out, g) ∧ r.toList.Perm (a.toList ++ b.toList)) ?_ ?_ ⟨Like.refl _, _, _, _, _, rfl, o0, by omega, by omega, by omega, by omega, by omega⟩) ?_)
  · rintro x c st1 _ hx ⟨lk, na, nb, out, g, rfl, ho, h1, h2, h3, h4, hxx⟩
    try dsimp only
    refine wpS_bind (wpS_mono (wpS_forRange (I := fun y c st' => Like st st' ∧ ∃ na nb out ac bc, c = (none, na, nb, out, ac, bc) ∧ OutH a b out na nb ∧ 1 ≤ na ∧ na ≤ a.size ∧ 2 ≤ nb ∧ nb ≤ b.size ∧ na + nb + x + 1 + (if y = 0 then 0 else 1) ≤ a.size + b.size)
      (Q := fun c st' => Like st st' ∧ ((∃ r na nb out ac bc, c = (some r, na, nb, out, ac, bc) ∧ r.toList.Perm (a.toList ++ b.toList)) ∨ ∃ na nb out ac bc, c = (none, na, nb, out, ac, bc) ∧ OutH a b out na nb ∧ 1 ≤ na ∧ na ≤ a.size ∧ 2 ≤ nb ∧ nb ≤ b.size ∧ na + nb + x + 2 ≤ a.size + b.size)) ?_ ?_ ⟨lk, na, nb, out, 0, 0, rfl, ho, h1, h2, h3, h4, by simp; omega⟩) ?_)
    · rintro y c st2 _ hy ⟨lk2, na, nb, out, ac, bc, rfl, ho, h1, h2, h3, h4, hxx⟩
      have hxx2 : na + nb + x + 1 ≤ a.size + b.size := by split at hxx <;> omega
      try dsimp only
      refine wpS_bind (wpS_elem (by omega) fun p hp ep => ?_)
      refine wpS_bind (wpS_elem (by omega) fun q hq eq => ?_)
      refine wpS_bind (wpS_lt hc (lk2.kind.trans hk) (hb p hp) (ha q hq) fun bw => ?_)
      cases bw with
      | true =>
        try dsimp only
        rw [if_pos rfl]
        refine wpS_bind (wpS_elem (by omega) fun p2 hp2 ep2 => ?_)
        have o1 := ho.pushA h1 ep2
        by_cases d1 : (na - 1 == 0) = true
        · rw [if_pos d1]
          exact wpS_pure ⟨lk2, .inl ⟨_, _, _, _, _, _, rfl, o1.done⟩⟩
        rw [if_neg d1]
        have m1 : ¬ na - 1 = 0 := fun e => d1 (by simp [e])
        by_cases d2 : ac + 1 ≥ g
        · rw [if_pos d2]
          exact wpS_pure ⟨lk2, .inr ⟨_, _, _, _, _, rfl, o1, by omega, by omega, h3, h4, by omega⟩⟩
        · rw [if_neg d2]
          exact wpS_pure ⟨lk2, _, _, _, _, _, rfl, o1, by omega, by omega, h3, h4, by rw [if_neg (by omega)]; omega⟩
      | false =>
        try dsimp only
        rw [if_neg Bool.false_ne_true]
        refine wpS_bind (wpS_elem (by omega) fun p2 hp2 ep2 => ?_)
        have o1 := ho.pushB (by omega) ep2
        by_cases d1 : (nb - 1 == 1) = true
        · rw [if_pos d1]
          exact wpS_pure ⟨lk2, .inl ⟨_, _, _, _, _, _, rfl, o1.first⟩⟩
        rw [if_neg d1]
        have m1 : ¬ nb - 1 = 1 := fun e => d1 (by simp [e])
        by_cases d2 : bc + 1 ≥ g
        · rw [if_pos d2]
          exact wpS_pure ⟨lk2, .inr ⟨_, _, _, _, _, rfl, o1, h1, h2, by omega, by omega, by omega⟩⟩
        · rw [if_neg d2]
          exact wpS_pure ⟨lk2, _, _, _, _, _, rfl, o1, h1, h2, by omega, by omega, by rw [if_neg (by omega)]; omega⟩
    · rintro c st2 ⟨lk2, na, nb, out, ac, bc, rfl, ho, h1, h2, h3, h4, hxx⟩
      refine ⟨lk2, .inr ⟨_, _, _, _, _, rfl, ho, h1, h2, h3, h4, ?_⟩⟩
      rw [if_neg (by omega)] at hxx
      omega
    · rintro c st2 ⟨lk2, ⟨r, na, nb, out, ac, bc, rfl, hr⟩ | ⟨na, nb, out, ac, bc, rfl, ho, h1, h2, h3, h4, hxx⟩⟩
      · exact wpS_pure ⟨lk2, _, _, _, _, _, rfl, hr⟩
      try dsimp only
      refine wpS_bind (wpS_lift (wpAny_rule ⟨rfl, ?_⟩))
      try dsimp only
      refine wpS_bind (wpS_mono (wpS_forRange (I := fun y c st' => Like st st' ∧ ∃ na nb out g ac bc, c = (none, na, nb, out, g, ac, bc) ∧ OutH a b out na nb ∧ 1 ≤ na ∧ na ≤ a.size ∧ 2 ≤ nb ∧ nb ≤ b.size ∧ na + nb + x + 2 ≤ a.size + b.size)
        (Q := fun c st' => Like st st' ∧ ((∃ r na nb out g ac bc, c = (some r, na, nb, out, g, ac, bc) ∧ r.toList.Perm (a.toList ++ b.toList)) ∨ ∃ na nb out g ac bc, c = (none, na, nb, out, g, ac, bc) ∧ OutH a b out na nb ∧ 1 ≤ na ∧ na ≤ a.size ∧ 2 ≤ nb ∧ nb ≤ b.size ∧ na + nb + x + 2 ≤ a.size + b.size)) ?_ ?_ ⟨lk2, na, nb, out, _, _, _, rfl, ho, h1, h2, h3, h4, hxx⟩) ?_)
      · rintro y c st3 _ hy ⟨lk3, na, nb, out, g3, ac, bc, rfl, ho, h1, h2, h3, h4, hxx⟩
        try dsimp only
        by_cases g1 : g3 > 1
        · rw [if_pos g1]
          refine wpS_bind (wpS_modify ?_)
          have lk4 := lk3.trans (like_gallop st3 (g3 - 1))
          refine wpS_bind (wpS_elem (by omega) fun p0 w0 e0 => ?_)
          refine wpS_bind (wpS_gallop hc (lk4.kind.trans hk) (hb p0 w0) ha (by omega) (by omega) fun k hk1 => ?_)
          dsimp only
          by_cases k0 : na - k > 0
          · rw [if_pos k0]
            have o1 := ho.extA (k := k) (by omega)
            by_cases c1 : (k == 0) = true
            · rw [if_pos c1]
              exact wpS_pure ⟨lk4, .inl ⟨_, _, _, _, _, _, _, rfl, o1.done⟩⟩
            rw [if_neg c1]
            have n1 : ¬ k = 0 := fun e => c1 (by simp [e])
            refine wpS_bind (wpS_elem (by omega) fun p3 w3 e3 => ?_)
            have o2 := o1.pushB (by omega) e3
            by_cases c3 : (nb - 1 == 1) = true
            · rw [if_pos c3]
              exact wpS_pure ⟨lk4, .inl ⟨_, _, _, _, _, _, _, rfl, o2.first⟩⟩
            rw [if_neg c3]
            have n3 : ¬ nb - 1 = 1 := fun e => c3 (by simp [e])
            refine wpS_bind (wpS_elem (by omega) fun q3 v3 u3 => ?_)
            refine wpS_bind (wpS_gallop hc (lk4.kind.trans hk) (ha q3 v3) hb (by omega) (by omega) fun k2 hk2 => ?_)
            dsimp only
            by_cases k20 : nb - 1 - k2 > 0
            · rw [if_pos k20]
              have o3 := o2.extB (k := k2) (by omega)
              by_cases c4 : (k2 == 1) = true
              · rw [if_pos c4]
                exact wpS_pure ⟨lk4, .inl ⟨_, _, _, _, _, _, _, rfl, o3.first⟩⟩
              rw [if_neg c4]
              by_cases c5 : (k2 == 0) = true
              · rw [if_pos c5]
                exact wpS_pure ⟨lk4, .inl ⟨_, _, _, _, _, _, _, rfl, o3.done⟩⟩
              rw [if_neg c5]
              have n5 : ¬ k2 = 1 := fun e => c4 (by simp [e])
              have n6 : ¬ k2 = 0 := fun e => c5 (by simp [e])
              refine wpS_bind (wpS_elem (by omega) fun p4 w4 e4 => ?_)
              have o4 := o3.pushA (by omega) e4
              by_cases f1 : (k - 1 == 0) = true
              · rw [if_pos f1]
                exact wpS_pure ⟨lk4, .inl ⟨_, _, _, _, _, _, _, rfl, o4.done⟩⟩
              rw [if_neg f1]
              have n4 : ¬ k - 1 = 0 := fun e => f1 (by simp [e])
              by_cases f2 : (decide (na - k < 7) && decide (nb - 1 - k2 < 7)) = true
              · rw [if_pos f2]
                exact wpS_pure ⟨lk4, .inr ⟨_, _, _, _, _, _, rfl, o4, by omega, by omega, by omega, by omega, by omega⟩⟩
              · rw [if_neg f2]
                exact wpS_pure ⟨lk4, _, _, _, _, _, _, rfl, o4, by omega, by omega, by omega, by omega, by omega⟩
            · rw [if_neg k20]
              refine wpS_bind (wpS_elem (by omega) fun p4 w4 e4 => ?_)
              have o4 := o2.pushA (by omega) e4
              by_cases f1 : (k - 1 == 0) = true
              · rw [if_pos f1]
                exact wpS_pure ⟨lk4, .inl ⟨_, _, _, _, _, _, _, rfl, o4.done⟩⟩
              rw [if_neg f1]
              have n4 : ¬ k - 1 = 0 := fun e => f1 (by simp [e])
              by_cases f2 : (decide (na - k < 7) && decide (nb - 1 - k2 < 7)) = true
              · rw [if_pos f2]
                exact wpS_pure ⟨lk4, .inr ⟨_, _, _, _, _, _, rfl, o4, by omega, by omega, by omega, by omega, by omega⟩⟩
              · rw [if_neg f2]
                exact wpS_pure ⟨lk4, _, _, _, _, _, _, rfl, o4, by omega, by omega, by omega, by omega, by omega⟩
          · rw [if_neg k0]
            refine wpS_bind (wpS_elem (by omega) fun p3 w3 e3 => ?_)
            have o2 := ho.pushB (by omega) e3
            by_cases c3 : (nb - 1 == 1) = true
            · rw [if_pos c3]
              exact wpS_pure ⟨lk4, .inl ⟨_, _, _, _, _, _, _, rfl, o2.first⟩⟩
            rw [if_neg c3]
            have n3 : ¬ nb - 1 = 1 := fun e => c3 (by simp [e])
            refine wpS_bind (wpS_elem (by omega) fun q3 v3 u3 => ?_)
            refine wpS_bind (wpS_gallop hc (lk4.kind.trans hk) (ha q3 v3) hb (by omega) (by omega) fun k2 hk2 => ?_)
            dsimp only
            by_cases k20 : nb - 1 - k2 > 0
            · rw [if_pos k20]
              have o3 := o2.extB (k := k2) (by omega)
              by_cases c4 : (k2 == 1) = true
              · rw [if_pos c4]
                exact wpS_pure ⟨lk4, .inl ⟨_, _, _, _, _, _, _, rfl, o3.first⟩⟩
              rw [if_neg c4]
              by_cases c5 : (k2 == 0) = true
              · rw [if_pos c5]
                exact wpS_pure ⟨lk4, .inl ⟨_, _, _, _, _, _, _, rfl, o3.done⟩⟩
              rw [if_neg c5]
              have n5 : ¬ k2 = 1 := fun e => c4 (by simp [e])
              have n6 : ¬ k2 = 0 := fun e => c5 (by simp [e])
              refine wpS_bind (wpS_elem (by omega) fun p4 w4 e4 => ?_)
              have o4 := o3.pushA (by omega) e4
              by_cases f1 : (na - 1 == 0) = true
              · rw [if_pos f1]
                exact wpS_pure ⟨lk4, .inl ⟨_, _, _, _, _, _, _, rfl, o4.done⟩⟩
              rw [if_neg f1]
              have n4 : ¬ na - 1 = 0 := fun e => f1 (by simp [e])
              by_cases f2 : (decide (na - k < 7) && decide (nb - 1 - k2 < 7)) = true
              · rw [if_pos f2]
                exact wpS_pure ⟨lk4, .inr ⟨_, _, _, _, _, _, rfl, o4, by omega, by omega, by omega, by omega, by omega⟩⟩
              · rw [if_neg f2]
                exact wpS_pure ⟨lk4, _, _, _, _, _, _, rfl, o4, by omega, by omega, by omega, by omega, by omega⟩
            · rw [if_neg k20]
              refine wpS_bind (wpS_elem (by omega) fun p4 w4 e4 => ?_)
              have o4 := o2.pushA (by omega) e4
              by_cases f1 : (na - 1 == 0) = true
              · rw [if_pos f1]
                exact wpS_pure ⟨lk4, .inl ⟨_, _, _, _, _, _, _, rfl, o4.done⟩⟩
              rw [if_neg f1]
              have n4 : ¬ na - 1 = 0 := fun e => f1 (by simp [e])
              by_cases f2 : (decide (na - k < 7) && decide (nb - 1 - k2 < 7)) = true
              · rw [if_pos f2]
                exact wpS_pure ⟨lk4, .inr ⟨_, _, _, _, _, _, rfl, o4, by omega, by omega, by omega, by omega, by omega⟩⟩
              · rw [if_neg f2]
                exact wpS_pure ⟨lk4, _, _, _, _, _, _, rfl, o4, by omega, by omega, by omega, by omega, by omega⟩
        · rw [if_neg g1]
          refine wpS_bind (wpS_modify ?_)
          have lk4 := lk3.trans (like_gallop st3 g3)
          refine wpS_bind (wpS_elem (by omega) fun p0 w0 e0 => ?_)
          refine wpS_bind (wpS_gallop hc (lk4.kind.trans hk) (hb p0 w0) ha (by omega) (by omega) fun k hk1 => ?_)
          dsimp only
          by_cases k0 : na - k > 0
          · rw [if_pos k0]
            have o1 := ho.extA (k := k) (by omega)
            by_cases c1 : (k == 0) = true
            · rw [if_pos c1]
              exact wpS_pure ⟨lk4, .inl ⟨_, _, _, _, _, _, _, rfl, o1.done⟩⟩
            rw [if_neg c1]
            have n1 : ¬ k = 0 := fun e => c1 (by simp [e])
            refine wpS_bind (wpS_elem (by omega) fun p3 w3 e3 => ?_)
            have o2 := o1.pushB (by omega) e3
            by_cases c3 : (nb - 1 == 1) = true
            · rw [if_pos c3]
              exact wpS_pure ⟨lk4, .inl ⟨_, _, _, _, _, _, _, rfl, o2.first⟩⟩
            rw [if_neg c3]
            have n3 : ¬ nb - 1 = 1 := fun e => c3 (by simp [e])
            refine wpS_bind (wpS_elem (by omega) fun q3 v3 u3 => ?_)
            refine wpS_bind (wpS_gallop hc (lk4.kind.trans hk) (ha q3 v3) hb (by omega) (by omega) fun k2 hk2 => ?_)
            dsimp only
            by_cases k20 : nb - 1 - k2 > 0
            · rw [if_pos k20]
              have o3 := o2.extB (k := k2) (by omega)
              by_cases c4 : (k2 == 1) = true
              · rw [if_pos c4]
                exact wpS_pure ⟨lk4, .inl ⟨_, _, _, _, _, _, _, rfl, o3.first⟩⟩
              rw [if_neg c4]
              by_cases c5 : (k2 == 0) = true
              · rw [if_pos c5]
                exact wpS_pure ⟨lk4, .inl ⟨_, _, _, _, _, _, _, rfl, o3.done⟩⟩
              rw [if_neg c5]
              have n5 : ¬ k2 = 1 := fun e => c4 (by simp [e])
              have n6 : ¬ k2 = 0 := fun e => c5 (by simp [e])
              refine wpS_bind (wpS_elem (by omega) fun p4 w4 e4 => ?_)
              have o4 := o3.pushA (by omega) e4
              by_cases f1 : (k - 1 == 0) = true
              · rw [if_pos f1]
                exact wpS_pure ⟨lk4, .inl ⟨_, _, _, _, _, _, _, rfl, o4.done⟩⟩
              rw [if_neg f1]
              have n4 : ¬ k - 1 = 0 := fun e => f1 (by simp [e])
              by_cases f2 : (decide (na - k < 7) && decide (nb - 1 - k2 < 7)) = true
              · rw [if_pos f2]
                exact wpS_pure ⟨lk4, .inr ⟨_, _, _, _, _, _, rfl, o4, by omega, by omega, by omega, by omega, by omega⟩⟩
              · rw [if_neg f2]
                exact wpS_pure ⟨lk4, _, _, _, _, _, _, rfl, o4, by omega, by omega, by omega, by omega, by omega⟩
            · rw [if_neg k20]
              refine wpS_bind (wpS_elem (by omega) fun p4 w4 e4 => ?_)
              have o4 := o2.pushA (by omega) e4
              by_cases f1 : (k - 1 == 0) = true
              · rw [if_pos f1]
                exact wpS_pure ⟨lk4, .inl ⟨_, _, _, _, _, _, _, rfl, o4.done⟩⟩
              rw [if_neg f1]
              have n4 : ¬ k - 1 = 0 := fun e => f1 (by simp [e])
              by_cases f2 : (decide (na - k < 7) && decide (nb - 1 - k2 < 7)) = true
              · rw [if_pos f2]
                exact wpS_pure ⟨lk4, .inr ⟨_, _, _, _, _, _, rfl, o4, by omega, by omega, by omega, by omega, by omega⟩⟩
              · rw [if_neg f2]
                exact wpS_pure ⟨lk4, _, _, _, _, _, _, rfl, o4, by omega, by omega, by omega, by omega, by omega⟩
          · rw [if_neg k0]
            refine wpS_bind (wpS_elem (by omega) fun p3 w3 e3 => ?_)
            have o2 := ho.pushB (by omega) e3
            by_cases c3 : (nb - 1 == 1) = true
            · rw [if_pos c3]
              exact wpS_pure ⟨lk4, .inl ⟨_, _, _, _, _, _, _, rfl, o2.first⟩⟩
            rw [if_neg c3]
            have n3 : ¬ nb - 1 = 1 := fun e => c3 (by simp [e])
            refine wpS_bind (wpS_elem (by omega) fun q3 v3 u3 => ?_)
            refine wpS_bind (wpS_gallop hc (lk4.kind.trans hk) (ha q3 v3) hb (by omega) (by omega) fun k2 hk2 => ?_)
            dsimp only
            by_cases k20 : nb - 1 - k2 > 0
            · rw [if_pos k20]
              have o3 := o2.extB (k := k2) (by omega)
              by_cases c4 : (k2 == 1) = true
              · rw [if_pos c4]
                exact wpS_pure ⟨lk4, .inl ⟨_, _, _, _, _, _, _, rfl, o3.first⟩⟩
              rw [if_neg c4]
              by_cases c5 : (k2 == 0) = true
              · rw [if_pos c5]
                exact wpS_pure ⟨lk4, .inl ⟨_, _, _, _, _, _, _, rfl, o3.done⟩⟩
              rw [if_neg c5]
              have n5 : ¬ k2 = 1 := fun e => c4 (by simp [e])
              have n6 : ¬ k2 = 0 := fun e => c5 (by simp [e])
              refine wpS_bind (wpS_elem (by omega) fun p4 w4 e4 => ?_)
              have o4 := o3.pushA (by omega) e4
              by_cases f1 : (na - 1 == 0) = true
              · rw [if_pos f1]
                exact wpS_pure ⟨lk4, .inl ⟨_, _, _, _, _, _, _, rfl, o4.done⟩⟩
              rw [if_neg f1]
              have n4 : ¬ na - 1 = 0 := fun e => f1 (by simp [e])
              by_cases f2 : (decide (na - k < 7) && decide (nb - 1 - k2 < 7)) = true
              · rw [if_pos f2]
                exact wpS_pure ⟨lk4, .inr ⟨_, _, _, _, _, _, rfl, o4, by omega, by omega, by omega, by omega, by omega⟩⟩
              · rw [if_neg f2]
                exact wpS_pure ⟨lk4, _, _, _, _, _, _, rfl, o4, by omega, by omega, by omega, by omega, by omega⟩
            · rw [if_neg k20]
              refine wpS_bind (wpS_elem (by omega) fun p4 w4 e4 => ?_)
              have o4 := o2.pushA (by omega) e4
              by_cases f1 : (na - 1 == 0) = true
              · rw [if_pos f1]
                exact wpS_pure ⟨lk4, .inl ⟨_, _, _, _, _, _, _, rfl, o4.done⟩⟩
              rw [if_neg f1]
              have n4 : ¬ na - 1 = 0 := fun e => f1 (by simp [e])
              by_cases f2 : (decide (na - k < 7) && decide (nb - 1 - k2 < 7)) = true
              · rw [if_pos f2]
                exact wpS_pure ⟨lk4, .inr ⟨_, _, _, _, _, _, rfl, o4, by omega, by omega, by omega, by omega, by omega⟩⟩
              · rw [if_neg f2]
                exact wpS_pure ⟨lk4, _, _, _, _, _, _, rfl, o4, by omega, by omega, by omega, by omega, by omega⟩
      · rintro c st3 ⟨lk3, na, nb, out, g3, ac, bc, rfl, ho, h1, h2, h3, h4, hxx⟩
        exact ⟨lk3, .inr ⟨_, _, _, _, _, _, rfl, ho, h1, h2, h3, h4, hxx⟩⟩
      · rintro c st3 ⟨lk3, ⟨r, na, nb, out, g3, ac, bc, rfl, hr⟩ | ⟨na, nb, out, g3, ac, bc, rfl, ho, h1, h2, h3, h4, hxx⟩⟩
        · exact wpS_pure ⟨lk3, _, _, _, _, _, rfl, hr⟩
        · try dsimp only
          refine wpS_bind (wpS_modify ?_)
          exact wpS_pure ⟨lk3.trans (like_gallop _ _), _, _, _, _, rfl, ho, h1, h2, h3, h4, by omega⟩
  · rintro c st1 ⟨lk, na, nb, out, g, rfl, ho, h1, h2, h3, h4, hx⟩
    exfalso
    omega
  · rintro c st1 ⟨lk, r, na, nb, out, g, rfl, hr⟩
    exact wpS_pure (h r st1 lk hr)
end
end Srt

namespace Srt
open PySem PyProof.Rows
/-- the same items in some order, all else as it was -/
structure Pm (st st' : SortSt) : Prop where
  arr : (arrOf st').toList.Perm (arrOf st).toList
  kind : kindOf st' = kindOf st
  fail : failedOf st' = failedOf st
  pend : pendingOf st' = pendingOf st
theorem Pm.refl (st : SortSt) : Pm st st := ⟨List.Perm.refl _, rfl, rfl, rfl⟩
theorem Pm.trans {a b c : SortSt} (x : Pm a b) (y : Pm b c) : Pm a c := ⟨y.arr.trans x.arr, y.kind.trans x.kind, y.fail.trans x.fail, y.pend.trans x.pend⟩
theorem Pm.size {a b : SortSt} (x : Pm a b) : (arrOf b).size = (arrOf a).size := by
  have := x.arr.length_eq
  rw [Array.length_toList, Array.length_toList] at this
  exact this
theorem Pm.ok {a b : SortSt} {Ok : Keyed → Prop} (x : Pm a b) (h : ∀ p ∈ (arrOf a).toList, Ok p) : ∀ p ∈ (arrOf b).toList, Ok p := fun p hp => h p (x.arr.mem_iff.mp hp)
theorem Pm.mirror (st : SortSt) (i j : Nat) : Pm st (setArr st (mirror (arrOf st) i j ((j - i) / 2))) := ⟨Array.perm_iff_toList_perm.mp (mirror_perm _ _ _ _), rfl, rfl, rfl⟩
theorem Pm.bubble (st : SortSt) (i j : Nat) : Pm st (setArr st (bubble (arrOf st) i (i - j))) := ⟨Array.perm_iff_toList_perm.mp (bubble_perm _ _ _), rfl, rfl, rfl⟩
section
variable {prog : Program} {w : World} {A : Around} {E : Value → Shared → Prop} {s : Shared} {κ : SortKind} {Ok : Keyed → Prop} {st : SortSt}
theorem wpS_ltAt' {i j : Nat} {Q : Option Bool → SortSt → Prop} (hc : Cmp prog w A s κ Ok) (hk : kindOf st = κ) (ho : ∀ p ∈ (arrOf st).toList, Ok p) (hi : i < (arrOf st).size) (hj : j < (arrOf st).size) (h : ∀ b, Q (some b) st) : wpS (model prog w) A E s (ltAt' i j) Q st := by
  rw [ltAt'_eq]
  refine wpS_bind (wpS_get ?_)
  refine wpS_bind (wpS_elem hi fun p hp _ => wpS_bind (wpS_elem hj fun q hq _ => ?_))
  exact wpS_lt hc hk (ho p hp) (ho q hq) h
theorem wpS_rev {i j : Nat} {Q : PUnit → SortSt → Prop} (h : ∀ st', Pm st st' → Q ⟨⟩ st') : wpS (model prog w) A E s (reverseSlice' i j) Q st := by
  rw [reverseSlice'_eq]
  exact wpS_modify (h _ (Pm.mirror st i j))
theorem wpS_move {i j : Nat} {Q : PUnit → SortSt → Prop} (h : ∀ st', Pm st st' → Q ⟨⟩ st') : wpS (model prog w) A E s (moveDown' i j) Q st := by
  rw [moveDown'_eq]
  exact wpS_modify (h _ (Pm.bubble st i j))
theorem wpS_binary {lo n ok : Nat} {Q : Bool → SortSt → Prop} (hc : Cmp prog w A s κ Ok) (hk : kindOf st = κ) (ho : ∀ p ∈ (arrOf st).toList, Ok p) (hn : lo + n ≤ (arrOf st).size) (h : ∀ st', Pm st st' → Q true st') : wpS (model prog w) A E s (binarySort' lo n ok) Q st := by
  refine wpS_bind (wpS_mono (wpS_forRange (I := fun _ c st' => c = (none, ()) ∧ Pm st st') (Q := fun c st' => c = (none, ()) ∧ Pm st st') ?_ (fun _ _ z => z) ⟨rfl, Pm.refl _⟩) ?_)
  · rintro k c st1 _ hkn ⟨rfl, pm⟩
    try dsimp only
    have hsz := pm.size
    refine wpS_bind (wpS_mono (wpS_forRange (I := fun _ c st' => st' = st1 ∧ ∃ l r, c = (none, l, r) ∧ l ≤ r ∧ r ≤ k) (Q := fun c st' => st' = st1 ∧ ∃ l r, c = (none, l, r) ∧ l ≤ r ∧ r ≤ k) ?_ (fun _ _ z => z) ⟨rfl, 0, k, rfl, by omega, by omega⟩) ?_)
    · rintro y c st2 _ _ ⟨rfl, l, r, rfl, h1, h2⟩
      try dsimp only
      by_cases hlr : l ≥ r
      · rw [if_pos hlr]
        exact wpS_pure ⟨rfl, l, r, rfl, h1, h2⟩
      rw [if_neg hlr]
      refine wpS_bind (wpS_ltAt' hc (pm.kind.trans hk) (pm.ok ho) (by omega) (by omega) fun b => ?_)
      cases b with
      | true => exact wpS_pure ⟨rfl, _, _, rfl, by omega, by omega⟩
      | false => exact wpS_pure ⟨rfl, _, _, rfl, by omega, by omega⟩
    · rintro c st2 ⟨rfl, l, r, rfl, h1, h2⟩
      try dsimp only
      refine wpS_bind (wpS_move fun st3 p3 => ?_)
      exact wpS_pure ⟨rfl, pm.trans p3⟩
  · rintro c st1 ⟨rfl, pm⟩
    exact wpS_pure (h st1 pm)
theorem wpS_count {lo nrem : Nat} {Q : Option Nat → SortSt → Prop} (hc : Cmp prog w A s κ Ok) (hk : kindOf st = κ) (ho : ∀ p ∈ (arrOf st).toList, Ok p) (h1 : 1 ≤ nrem) (hn : lo + nrem ≤ (arrOf st).size) (h : ∀ n st', 1 ≤ n → n ≤ nrem → Pm st st' → Q (some n) st') : wpS (model prog w) A E s (countRun' lo nrem) Q st := by
  refine wpS_bind (wpS_mono (wpS_forRange (I := fun x c st' => st' = st ∧ ∃ n, c = (none, n) ∧ 1 ≤ n ∧ n ≤ x) (Q := fun c st' => st' = st ∧ ∃ n, c = (none, n) ∧ 1 ≤ n ∧ n ≤ nrem) ?_ ?_ ⟨rfl, 1, rfl, by omega, by omega⟩) ?_)
  · rintro x c st1 _ hx ⟨rfl, n, rfl, n1, n2⟩
    try dsimp only
    refine wpS_bind (wpS_ltAt' hc hk ho (by omega) (by omega) fun b => ?_)
    cases b with
    | true => exact wpS_pure ⟨rfl, n, rfl, n1, by omega⟩
    | false => exact wpS_pure ⟨rfl, n + 1, rfl, by omega, by omega⟩
  · rintro c st1 ⟨rfl, n, rfl, n1, n2⟩
    exact ⟨rfl, n, rfl, n1, by omega⟩
  · rintro c st1 ⟨rfl, n, rfl, n1, n2⟩
    try dsimp only
    by_cases e1 : (n == nrem) = true
    · rw [if_pos e1]
      exact wpS_pure (h n st1 n1 n2 (Pm.refl _))
    rw [if_neg e1]
    have n3 : n < nrem := by
      have : ¬ n = nrem := fun e => e1 (by simp [e])
      omega
    by_cases e2 : n > 1
    · rw [if_pos e2]
      refine wpS_bind (wpS_ltAt' hc hk ho (by omega) (by omega) fun b => ?_)
      cases b with
      | true =>
        try dsimp only
        rw [if_pos rfl]
        exact wpS_pure (h n st1 n1 n2 (Pm.refl _))
      | false =>
        try dsimp only
        rw [if_neg Bool.false_ne_true]
        refine wpS_bind (wpS_rev fun st2 p2 => ?_)
        refine wpS_bind (wpS_lift (wpAny_rule ⟨rfl, ?_⟩))
        refine wpS_bind (wpS_mono (wpS_forRange (I := fun x c st' => Pm st1 st' ∧ ∃ n q, c = (none, n, q) ∧ 1 ≤ n ∧ n ≤ x) (Q := fun c st' => Pm st1 st' ∧ ∃ n q, c = (none, n, q) ∧ 1 ≤ n ∧ n ≤ nrem) ?_ ?_ ⟨p2, n + 1, 0, rfl, by omega, by omega⟩) ?_)
        · rintro x c st3 _ hx ⟨p3, n, q, rfl, m1, m2⟩
          have z3 := p3.size
          try dsimp only
          refine wpS_bind (wpS_ltAt' hc (p3.kind.trans hk) (p3.ok ho) (by omega) (by omega) fun b => ?_)
          cases b with
          | true =>
            try dsimp only
            rw [if_pos rfl]
            by_cases q0 : q > 0
            · rw [if_pos q0]
              refine wpS_bind (wpS_rev fun st4 p4 => ?_)
              exact wpS_pure ⟨p3.trans p4, n + 1, 0, rfl, by omega, by omega⟩
            · rw [if_neg q0]
              exact wpS_pure ⟨p3, n + 1, 0, rfl, by omega, by omega⟩
          | false =>
            try dsimp only
            rw [if_neg Bool.false_ne_true]
            refine wpS_bind (wpS_ltAt' hc (p3.kind.trans hk) (p3.ok ho) (by omega) (by omega) fun b => ?_)
            cases b with
            | true => exact wpS_pure ⟨p3, n, q, rfl, by omega, by omega⟩
            | false => exact wpS_pure ⟨p3, n + 1, q + 1, rfl, by omega, by omega⟩
        · rintro c st3 ⟨p3, n', q, rfl, m1, m2⟩
          exact ⟨p3, n', q, rfl, m1, by omega⟩
        · rintro c st3 ⟨p3, n, q, rfl, m1, m2⟩
          try dsimp only
          by_cases q0 : q > 0
          · rw [if_pos q0]
            refine wpS_bind (wpS_rev fun st4 p4 => ?_)
            refine wpS_bind (wpS_rev fun st5 p5 => ?_)
            have p6 := (p3.trans p4).trans p5
            have z6 := p6.size
            refine wpS_bind (wpS_mono (wpS_forRange (I := fun x c st' => st' = st5 ∧ ∃ k, c = (none, k) ∧ 1 ≤ k ∧ k ≤ max n x) (Q := fun c st' => st' = st5 ∧ ∃ k, c = (none, k) ∧ 1 ≤ k ∧ k ≤ nrem) ?_ ?_ ⟨rfl, n, rfl, m1, by omega⟩) ?_)
            · rintro x c st7 hx1 hx2 ⟨rfl, k, rfl, k1, k2⟩
              try dsimp only
              refine wpS_bind (wpS_ltAt' hc (p6.kind.trans hk) (p6.ok ho) (by omega) (by omega) fun b => ?_)
              cases b with
              | true => exact wpS_pure ⟨rfl, k, rfl, k1, by omega⟩
              | false => exact wpS_pure ⟨rfl, k + 1, rfl, by omega, by omega⟩
            · rintro c st7 ⟨rfl, k, rfl, k1, k2⟩
              exact ⟨rfl, k, rfl, k1, by omega⟩
            · rintro c st7 ⟨rfl, k, rfl, k1, k2⟩
              exact wpS_pure (h k _ k1 k2 p6)
          · rw [if_neg q0]
            refine wpS_bind (wpS_rev fun st5 p5 => ?_)
            have p6 := p3.trans p5
            have z6 := p6.size
            refine wpS_bind (wpS_mono (wpS_forRange (I := fun x c st' => st' = st5 ∧ ∃ k, c = (none, k) ∧ 1 ≤ k ∧ k ≤ max n x) (Q := fun c st' => st' = st5 ∧ ∃ k, c = (none, k) ∧ 1 ≤ k ∧ k ≤ nrem) ?_ ?_ ⟨rfl, n, rfl, m1, by omega⟩) ?_)
            · rintro x c st7 hx1 hx2 ⟨rfl, k, rfl, k1, k2⟩
              try dsimp only
              refine wpS_bind (wpS_ltAt' hc (p6.kind.trans hk) (p6.ok ho) (by omega) (by omega) fun b => ?_)
              cases b with
              | true => exact wpS_pure ⟨rfl, k, rfl, k1, by omega⟩
              | false => exact wpS_pure ⟨rfl, k + 1, rfl, by omega, by omega⟩
            · rintro c st7 ⟨rfl, k, rfl, k1, k2⟩
              exact ⟨rfl, k, rfl, k1, by omega⟩
            · rintro c st7 ⟨rfl, k, rfl, k1, k2⟩
              exact wpS_pure (h k _ k1 k2 p6)
    · rw [if_neg e2]
      have p2 := Pm.refl st1
      refine wpS_bind (wpS_lift (wpAny_rule ⟨rfl, ?_⟩))
      refine wpS_bind (wpS_mono (wpS_forRange (I := fun x c st' => Pm st1 st' ∧ ∃ n q, c = (none, n, q) ∧ 1 ≤ n ∧ n ≤ x) (Q := fun c st' => Pm st1 st' ∧ ∃ n q, c = (none, n, q) ∧ 1 ≤ n ∧ n ≤ nrem) ?_ ?_ ⟨p2, n + 1, 0, rfl, by omega, by omega⟩) ?_)
      · rintro x c st3 _ hx ⟨p3, n, q, rfl, m1, m2⟩
        have z3 := p3.size
        try dsimp only
        refine wpS_bind (wpS_ltAt' hc (p3.kind.trans hk) (p3.ok ho) (by omega) (by omega) fun b => ?_)
        cases b with
        | true =>
          try dsimp only
          rw [if_pos rfl]
          by_cases q0 : q > 0
          · rw [if_pos q0]
            refine wpS_bind (wpS_rev fun st4 p4 => ?_)
            exact wpS_pure ⟨p3.trans p4, n + 1, 0, rfl, by omega, by omega⟩
          · rw [if_neg q0]
            exact wpS_pure ⟨p3, n + 1, 0, rfl, by omega, by omega⟩
        | false =>
          try dsimp only
          rw [if_neg Bool.false_ne_true]
          refine wpS_bind (wpS_ltAt' hc (p3.kind.trans hk) (p3.ok ho) (by omega) (by omega) fun b => ?_)
          cases b with
          | true => exact wpS_pure ⟨p3, n, q, rfl, by omega, by omega⟩
          | false => exact wpS_pure ⟨p3, n + 1, q + 1, rfl, by omega, by omega⟩
      · rintro c st3 ⟨p3, n', q, rfl, m1, m2⟩
        exact ⟨p3, n', q, rfl, m1, by omega⟩
      · rintro c st3 ⟨p3, n, q, rfl, m1, m2⟩
        try dsimp only
        by_cases q0 : q > 0
        · rw [if_pos q0]
          refine wpS_bind (wpS_rev fun st4 p4 => ?_)
          refine wpS_bind (wpS_rev fun st5 p5 => ?_)
          have p6 := (p3.trans p4).trans p5
          have z6 := p6.size
          refine wpS_bind (wpS_mono (wpS_forRange (I := fun x c st' => st' = st5 ∧ ∃ k, c = (none, k) ∧ 1 ≤ k ∧ k ≤ max n x) (Q := fun c st' => st' = st5 ∧ ∃ k, c = (none, k) ∧ 1 ≤ k ∧ k ≤ nrem) ?_ ?_ ⟨rfl, n, rfl, m1, by omega⟩) ?_)
          · rintro x c st7 hx1 hx2 ⟨rfl, k, rfl, k1, k2⟩
            try dsimp only
            refine wpS_bind (wpS_ltAt' hc (p6.kind.trans hk) (p6.ok ho) (by omega) (by omega) fun b => ?_)
            cases b with
            | true => exact wpS_pure ⟨rfl, k, rfl, k1, by omega⟩
            | false => exact wpS_pure ⟨rfl, k + 1, rfl, by omega, by omega⟩
          · rintro c st7 ⟨rfl, k, rfl, k1, k2⟩
            exact ⟨rfl, k, rfl, k1, by omega⟩
          · rintro c st7 ⟨rfl, k, rfl, k1, k2⟩
            exact wpS_pure (h k _ k1 k2 p6)
        · rw [if_neg q0]
          refine wpS_bind (wpS_rev fun st5 p5 => ?_)
          have p6 := p3.trans p5
          have z6 := p6.size
          refine wpS_bind (wpS_mono (wpS_forRange (I := fun x c st' => st' = st5 ∧ ∃ k, c = (none, k) ∧ 1 ≤ k ∧ k ≤ max n x) (Q := fun c st' => st' = st5 ∧ ∃ k, c = (none, k) ∧ 1 ≤ k ∧ k ≤ nrem) ?_ ?_ ⟨rfl, n, rfl, m1, by omega⟩) ?_)
          · rintro x c st7 hx1 hx2 ⟨rfl, k, rfl, k1, k2⟩
            try dsimp only
            refine wpS_bind (wpS_ltAt' hc (p6.kind.trans hk) (p6.ok ho) (by omega) (by omega) fun b => ?_)
            cases b with
            | true => exact wpS_pure ⟨rfl, k, rfl, k1, by omega⟩
            | false => exact wpS_pure ⟨rfl, k + 1, rfl, by omega, by omega⟩
          · rintro c st7 ⟨rfl, k, rfl, k1, k2⟩
            exact ⟨rfl, k, rfl, k1, by omega⟩
          · rintro c st7 ⟨rfl, k, rfl, k1, k2⟩
            exact wpS_pure (h k _ k1 k2 p6)
end
end Srt

namespace Srt
open PySem PyProof.Rows
/-- runs one behind the other, from here to there -/
def Cov : List (Nat × Nat × Nat) → Nat → Nat → Prop
  | [], lo, hi => lo = hi
  | x :: r, lo, hi => x.1 = lo ∧ 1 ≤ x.2.1 ∧ Cov r (lo + x.2.1) hi
theorem Cov.le : ∀ {l : List (Nat × Nat × Nat)} {lo hi : Nat}, Cov l lo hi → lo + l.length ≤ hi
  | [], lo, hi, h => Nat.le_of_eq h
  | x :: r, lo, hi, ⟨_, h1, h2⟩ => by
    have := Cov.le h2
    rw [List.length_cons]
    omega
theorem Cov.push : ∀ {l : List (Nat × Nat × Nat)} {lo hi n p : Nat}, Cov l lo hi → 1 ≤ n → Cov (l ++ [(hi, n, p)]) lo (hi + n)
  | [], lo, hi, n, p, h, h1 => by
    have e : lo = hi := h
    subst e
    exact ⟨rfl, h1, rfl⟩
  | x :: r, lo, hi, n, p, ⟨a, b, c⟩, h1 => ⟨a, b, c.push h1⟩
theorem Cov.at : ∀ {l : List (Nat × Nat × Nat)} {i lo hi sa na p sb nb q : Nat}, Cov l lo hi → l[i]? = some (sa, na, p) → l[i + 1]? = some (sb, nb, q) →
    sb = sa + na ∧ 1 ≤ na ∧ 1 ≤ nb ∧ sb + nb ≤ hi ∧ Cov ((l.set i (sa, na + nb, p)).eraseIdx (i + 1)) lo hi
  | x :: y :: r, 0, lo, hi, sa, na, p, sb, nb, q, ⟨a, b, c1, c2, c3⟩, h1, h2 => by
    have e1 : x = (sa, na, p) := by simpa using h1
    have e2 : y = (sb, nb, q) := by simpa using h2
    subst e1
    subst e2
    have a' : sa = lo := a
    have c1' : sb = lo + na := c1
    have hle := c3.le
    subst a'
    refine ⟨c1', b, c2, ?_, rfl, ?_, ?_⟩
    · have : sa + na + nb ≤ hi := by
        have h3 : sa + na + nb + r.length ≤ hi := hle
        omega
      omega
    · show 1 ≤ na + nb
      have : 1 ≤ na := b
      omega
    · show Cov r (sa + (na + nb)) hi
      rw [← Nat.add_assoc]
      exact c3
  | x :: r, i + 1, lo, hi, sa, na, p, sb, nb, q, ⟨a, b, c⟩, h1, h2 => by
    obtain ⟨k1, k2, k3, k4, k5⟩ := Cov.at (l := r) (i := i) c (by simpa using h1) (by simpa using h2)
    exact ⟨k1, k2, k3, k4, a, b, k5⟩
  | [x], 0, _, _, _, _, _, _, _, _, _, _, h2 => by simp at h2
  | [], _, _, _, _, _, _, _, _, _, _, h1, _ => by simp at h1
theorem Cov.last : ∀ {l : List (Nat × Nat × Nat)} {lo hi : Nat} (f : Nat × Nat × Nat → Nat × Nat × Nat) (_ : ∀ x, (f x).1 = x.1 ∧ (f x).2.1 = x.2.1) (i : Nat), Cov l lo hi → Cov (l.modify i f) lo hi
  | [], lo, hi, f, hf, i, h => by cases i <;> exact h
  | x :: r, lo, hi, f, hf, 0, ⟨a, b, c⟩ => by
    refine ⟨(hf x).1.trans a, by rw [(hf x).2]; exact b, ?_⟩
    rw [(hf x).2]
    exact c
  | x :: r, lo, hi, f, hf, i + 1, ⟨a, b, c⟩ => ⟨a, b, Cov.last f hf i c⟩
/-- items put in one behind the other -/
theorem splice (base : Nat) : ∀ (m : List Keyed) (n : Nat) (arr : Array Keyed), base + n + m.length ≤ arr.size →
    ((m.zipIdx n).foldl (fun (a : Array Keyed) (x : Keyed × Nat) => match x with | (p, j) => a.setIfInBounds (base + j) p) arr).toList = arr.toList.take (base + n) ++ m ++ arr.toList.drop (base + n + m.length)
  | [], n, arr, _ => by
    show arr.toList = _
    rw [List.append_nil, List.length_nil, Nat.add_zero, List.take_append_drop]
  | p :: m, n, arr, h => by
    rw [List.length_cons] at h
    rw [List.zipIdx_cons, List.foldl_cons]
    have hs : (arr.setIfInBounds (base + n) p).size = arr.size := Array.size_setIfInBounds
    rw [splice base m (n + 1) _ (by rw [hs]; omega), Array.toList_setIfInBounds]
    have hl : base + n < arr.toList.length := by rw [Array.length_toList]; omega
    rw [← Nat.add_assoc, List.take_set, List.drop_set_of_lt (by omega)]
    have e1 : (arr.toList.take (base + n + 1)).set (base + n) p = arr.toList.take (base + n) ++ [p] := by
      rw [List.take_succ_eq_append_getElem hl, List.set_append_right _ _ (by rw [List.length_take]; omega)]
      rw [show base + n - (arr.toList.take (base + n)).length = 0 by rw [List.length_take]; omega]
      rfl
    rw [e1, List.length_cons, show base + n + 1 + m.length = base + n + (m.length + 1) by omega]
    simp
section
variable {prog : Program} {w : World} {A : Around} {E : Value → Shared → Prop} {s : Shared} {κ : SortKind} {Ok : Keyed → Prop} {st : SortSt}
/-- some order of what was given, and the runs cover it up to here -/
structure SB (a₀ : Array Keyed) (κ : SortKind) (hi : Nat) (st : SortSt) : Prop where
  arr : (arrOf st).toList.Perm a₀.toList
  kind : kindOf st = κ
  fail : failedOf st = none
  cov : Cov (pendingOf st).toList 0 hi
theorem SB.size {a₀ : Array Keyed} {hi : Nat} (x : SB a₀ κ hi st) : (arrOf st).size = a₀.size := by
  have := x.arr.length_eq
  rw [Array.length_toList, Array.length_toList] at this
  exact this
theorem SB.ok {a₀ : Array Keyed} {hi : Nat} (x : SB a₀ κ hi st) (h : ∀ p ∈ a₀.toList, Ok p) : ∀ p ∈ (arrOf st).toList, Ok p := fun p hp => h p (x.arr.mem_iff.mp hp)
theorem SB.pm {a₀ : Array Keyed} {hi : Nat} {st' : SortSt} (x : SB a₀ κ hi st) (p : Pm st st') : SB a₀ κ hi st' := ⟨p.arr.trans x.arr, p.kind.trans x.kind, p.fail.trans x.fail, by rw [p.pend]; exact x.cov⟩
end
end Srt

namespace Srt
open PySem PyProof.Rows
section
variable {prog : Program} {w : World} {A : Around} {E : Value → Shared → Prop} {s : Shared} {κ : SortKind} {Ok : Keyed → Prop} {st : SortSt}
theorem wpS_set {v : SortSt} {Q : PUnit → SortSt → Prop} (h : Q ⟨⟩ v) : wpS (model prog w) A E s (set v : StateT SortSt Sem PUnit) Q st := by
  unfold wpS
  rw [StateT.run_set]
  exact wpAny_pure ⟨rfl, h⟩
theorem splice2 (base : Nat) (m : List Keyed) (arr : Array Keyed) (h : base + m.length ≤ arr.size) :
    (m.zipIdx.foldl (fun (a : Array Keyed) (x : Keyed × Nat) => a.setIfInBounds (base + x.2) x.1) arr).toList = arr.toList.take base ++ m ++ arr.toList.drop (base + m.length) := splice base m 0 arr h
theorem ex_mid (L : List Keyed) {m b e : Nat} (h1 : m ≤ b) (h2 : b ≤ e) : L.extract m b ++ L.extract b e = (L.drop m).take (e - m) := by
  rw [List.extract_eq_drop_take, List.extract_eq_drop_take, show e - m = (b - m) + (e - b) by omega, List.take_add, List.drop_drop, Nat.add_sub_cancel' h1]
theorem perm_mid {L r : List Keyed} {m c : Nat} (h : r.Perm ((L.drop m).take c)) (hc : r.length = c) : (L.take m ++ r ++ L.drop (m + r.length)).Perm L := by
  subst hc
  have e : L = L.take m ++ (L.drop m).take r.length ++ L.drop (m + r.length) := by
    rw [List.append_assoc, ← List.drop_drop, List.take_append_drop, List.take_append_drop]
  refine List.Perm.trans ?_ (List.Perm.of_eq e.symm)
  exact List.Perm.append_right _ (List.Perm.append_left _ h)
set_option maxHeartbeats 1000000 in
theorem wpS_mergeAt {a₀ : Array Keyed} {hi i : Nat} {Q : Bool → SortSt → Prop} (hc : Cmp prog w A s κ Ok) (h0 : ∀ p ∈ a₀.toList, Ok p) (hB : SB a₀ κ hi st) (hh : hi ≤ a₀.size) (hi1 : i + 1 < (pendingOf st).size)
    (h : ∀ st', SB a₀ κ hi st' → (pendingOf st').size + 1 = (pendingOf st).size → Q true st') : wpS (model prog w) A E s (mergeAt' i) Q st := by
  refine wpS_bind (wpS_get ?_)
  obtain ⟨⟨sa, na, p⟩, e1⟩ : ∃ x, (pendingOf st)[i]? = some x := ⟨_, getElem?_pos _ i (by omega)⟩
  obtain ⟨⟨sb, nb, q⟩, e2⟩ : ∃ x, (pendingOf st)[i + 1]? = some x := ⟨_, getElem?_pos _ (i + 1) hi1⟩
  obtain ⟨k1, k2, k3, k4, k5⟩ := hB.cov.at (i := i) (by rw [← e1]; simp) (by rw [← e2]; simp)
  have e3 : ((pendingOf st)[i]?, (pendingOf st)[i + 1]?) = (some (sa, na, p), some (sb, nb, q)) := by rw [e1, e2]
  have hsz := hB.size
  show wpS _ _ _ _ (match ((pendingOf st)[i]?, (pendingOf st)[i + 1]?) with | (some (sa, na, power), some (sb, nb, _)) => _ | _ => _) Q st
  rw [e1, e2]
  dsimp only
  have hpl : (((pendingOf st).setIfInBounds i (sa, na + nb, p)).eraseIdxIfInBounds (i + 1)).toList = ((pendingOf st).toList.set i (sa, na + nb, p)).eraseIdx (i + 1) := by
    simp
  have hps : ((((pendingOf st).setIfInBounds i (sa, na + nb, p)).eraseIdxIfInBounds (i + 1)).size + 1 = (pendingOf st).size) := by
    have := congrArg List.length hpl
    rw [Array.length_toList, List.length_eraseIdx, List.length_set, Array.length_toList, if_pos hi1] at this
    omega
  have hB1 : SB a₀ κ hi (SortSt.mk' (kindOf st) (arrOf st) (((pendingOf st).setIfInBounds i (sa, na + nb, p)).eraseIdxIfInBounds (i + 1)) (gallopOf st) (failedOf st)) := ⟨hB.arr, hB.kind, hB.fail, by
    show Cov (((pendingOf st).setIfInBounds i (sa, na + nb, p)).eraseIdxIfInBounds (i + 1)).toList 0 hi
    rw [hpl]
    exact k5⟩
  have hok := hB.ok h0
  have exm : ∀ (arr : Array Keyed) (x y : Nat) {p : Keyed}, p ∈ (arr.extract x y).toList → p ∈ arr.toList := fun arr x y p hp => by
    rw [Array.toList_extract, List.extract_eq_drop_take] at hp
    exact List.mem_of_mem_drop (List.mem_of_mem_take hp)
  refine wpS_bind (wpS_set ?_)
  refine wpS_bind (wpS_elem (arr := arrOf st) (by omega) fun p1 m1 _ => ?_)
  refine wpS_bind (wpS_gallop (a := arrOf st) hc hB1.kind (hok p1 m1) hok (by omega) (by omega) fun k hk => ?_)
  dsimp only
  by_cases c1 : (na - k == 0) = true
  · rw [if_pos c1]
    exact wpS_pure (h _ hB1 hps)
  rw [if_neg c1]
  have n1 : ¬ na - k = 0 := fun e => c1 (by simp [e])
  refine wpS_bind (wpS_elem (arr := arrOf st) (by omega) fun p2 m2 _ => ?_)
  refine wpS_bind (wpS_gallop (a := arrOf st) hc hB1.kind (hok p2 m2) hok (by omega) (by omega) fun nb' hnb => ?_)
  dsimp only
  by_cases c2 : (nb' == 0) = true
  · rw [if_pos c2]
    exact wpS_pure (h _ hB1 hps)
  rw [if_neg c2]
  have n2 : ¬ nb' = 0 := fun e => c2 (by simp [e])
  have xs : ((arrOf st).extract (sa + k) sb).size = na - k := by
    rw [Array.size_extract]
    omega
  have ys : ((arrOf st).extract sb (sb + nb')).size = nb' := by
    rw [Array.size_extract]
    omega
  by_cases c3 : na - k ≤ nb'
  · rw [if_pos c3]
    refine wpS_bind (wpS_mergeLo (a := (arrOf st).extract (sa + k) sb) (b := (arrOf st).extract sb (sb + nb')) hc hB1.kind (fun p hp => hok p (exm _ _ _ hp)) (fun p hp => hok p (exm _ _ _ hp)) (by rw [xs]; omega) (by rw [ys]; omega) fun r st2 lk hr => ?_)
    refine wpS_bind (wpS_modify ?_)
    refine wpS_bind (wpS_get ?_)
    have hf : failedOf st2 = none := lk.fail.trans hB.fail
    have hr2 : r.toList.Perm (((arrOf st).toList.drop (sa + k)).take ((na - k) + nb')) := by
      refine hr.trans (List.Perm.of_eq ?_)
      rw [Array.toList_extract, Array.toList_extract, ex_mid _ (by omega) (by omega)]
      congr 1
      omega
    have hrl : r.toList.length = (na - k) + nb' := by
      rw [hr2.length_eq, List.length_take, List.length_drop, Array.length_toList]
      omega
    show wpS _ _ _ _ (pure (failedOf st2).isNone) Q _
    rw [hf]
    refine wpS_pure (h _ ⟨?_, lk.kind.trans hB.kind, hf, ?_⟩ ?_)
    · show (List.foldl (fun (a : Array Keyed) (x : Keyed × Nat) => a.setIfInBounds (sa + k + x.2) x.1) (arrOf st2) r.toList.zipIdx).toList.Perm a₀.toList
      rw [lk.arr, splice2 _ _ _ (by show sa + k + r.toList.length ≤ (arrOf st).size; omega)]
      exact (perm_mid hr2 hrl).trans hB.arr
    · show Cov (pendingOf st2).toList 0 hi
      rw [lk.pend]
      exact hB1.cov
    · show (pendingOf st2).size + 1 = _
      rw [lk.pend]
      exact hps
  · rw [if_neg c3]
    refine wpS_bind (wpS_mergeHi (a := (arrOf st).extract (sa + k) sb) (b := (arrOf st).extract sb (sb + nb')) hc hB1.kind (fun p hp => hok p (exm _ _ _ hp)) (fun p hp => hok p (exm _ _ _ hp)) (by rw [xs]; omega) (by rw [ys]; omega) fun r st2 lk hr => ?_)
    refine wpS_bind (wpS_modify ?_)
    refine wpS_bind (wpS_get ?_)
    have hf : failedOf st2 = none := lk.fail.trans hB.fail
    have hr2 : r.toList.Perm (((arrOf st).toList.drop (sa + k)).take ((na - k) + nb')) := by
      refine hr.trans (List.Perm.of_eq ?_)
      rw [Array.toList_extract, Array.toList_extract, ex_mid _ (by omega) (by omega)]
      congr 1
      omega
    have hrl : r.toList.length = (na - k) + nb' := by
      rw [hr2.length_eq, List.length_take, List.length_drop, Array.length_toList]
      omega
    show wpS _ _ _ _ (pure (failedOf st2).isNone) Q _
    rw [hf]
    refine wpS_pure (h _ ⟨?_, lk.kind.trans hB.kind, hf, ?_⟩ ?_)
    · show (List.foldl (fun (a : Array Keyed) (x : Keyed × Nat) => a.setIfInBounds (sa + k + x.2) x.1) (arrOf st2) r.toList.zipIdx).toList.Perm a₀.toList
      rw [lk.arr, splice2 _ _ _ (by show sa + k + r.toList.length ≤ (arrOf st).size; omega)]
      exact (perm_mid hr2 hrl).trans hB.arr
    · show Cov (pendingOf st2).toList 0 hi
      rw [lk.pend]
      exact hB1.cov
    · show (pendingOf st2).size + 1 = _
      rw [lk.pend]
      exact hps
end
end Srt

namespace Srt
open PySem PyProof.Rows
section
variable {prog : Program} {w : World} {A : Around} {E : Value → Shared → Prop} {s : Shared} {κ : SortKind} {Ok : Keyed → Prop} {st : SortSt}
set_option maxHeartbeats 1000000 in
theorem wpS_runs {a₀ : Array Keyed} {Q : Unit → SortSt → Prop} (hc : Cmp prog w A s κ Ok) (h0 : ∀ p ∈ a₀.toList, Ok p) (hB : SB a₀ κ 0 st) (h : ∀ st', (arrOf st').toList.Perm a₀.toList → failedOf st' = none → Q () st') : wpS (model prog w) A E s sortRuns' Q st := by
  refine wpS_bind (wpS_get ?_)
  have hsz := hB.size
  show wpS _ _ _ _ (forIn [:(arrOf st).size] _ _ >>= _) Q st
  rw [hsz]
  refine wpS_bind (wpS_mono (wpS_forRange (I := fun _ c st' => ∃ lo, c = (none, lo) ∧ lo ≤ a₀.size ∧ SB a₀ κ lo st') (Q := fun c st' => ∃ lo, c = (none, lo) ∧ lo ≤ a₀.size ∧ SB a₀ κ lo st') ?_ (fun _ _ z => z) ⟨0, rfl, Nat.zero_le _, hB⟩) ?_)
  · rintro x c st1 _ hx ⟨lo, rfl, hlo, hB1⟩
    try dsimp only
    by_cases c1 : lo ≥ a₀.size
    · rw [if_pos c1]
      exact wpS_pure ⟨lo, rfl, hlo, hB1⟩
    rw [if_neg c1]
    have hs1 := hB1.size
    refine wpS_bind (wpS_count hc hB1.kind (hB1.ok h0) (by omega) (by omega) fun n st2 n1 n2 p2 => ?_)
    have hB2 := hB1.pm p2
    have hs2 := hB2.size
    try dsimp only
    show wpS _ _ _ _ (if n < minRun' a₀.size a₀.size 0 then _ else _) _ st2
    by_cases c2 : n < minRun' a₀.size a₀.size 0
    · rw [if_pos c2]
      refine wpS_bind (wpS_lift (wpAny_rule ⟨rfl, ?_⟩))
      refine wpS_bind (wpS_binary hc hB2.kind (hB2.ok h0) (by show lo + min (a₀.size - lo) (minRun' a₀.size a₀.size 0) ≤ _; omega) fun st3 p3 => ?_)
      rw [if_neg (by decide)]
      have hB3 := hB2.pm p3
      have hN : 1 ≤ min (a₀.size - lo) (minRun' a₀.size a₀.size 0) := by omega
      refine wpS_bind (wpS_get ?_)
      cases hb : (pendingOf st3).back? with
      | none =>
        dsimp only
        refine wpS_bind (wpS_modify ?_)
        refine wpS_pure ⟨lo + min (a₀.size - lo) (minRun' a₀.size a₀.size 0), rfl, by omega, ⟨hB3.arr, hB3.kind, hB3.fail, ?_⟩⟩
        show Cov ((pendingOf st3).push (lo, min (a₀.size - lo) (minRun' a₀.size a₀.size 0), 0)).toList 0 (lo + min (a₀.size - lo) (minRun' a₀.size a₀.size 0))
        rw [Array.toList_push]
        exact hB3.cov.push hN
      | some t =>
        obtain ⟨s1, n1, q⟩ := t
        dsimp only
        refine wpS_bind (wpS_mono (wpS_forRange (I := fun _ c st' => c = (none, ()) ∧ SB a₀ κ lo st') (Q := fun c st' => c = (none, ()) ∧ SB a₀ κ lo st') ?_ (fun _ _ z => z) ⟨rfl, hB3⟩) ?_)
        · rintro y c st4 _ _ ⟨rfl, hB4⟩
          refine wpS_bind (wpS_get ?_)
          by_cases g1 : (pendingOf st4).size > 1
          · rw [if_pos g1]
            obtain ⟨⟨a1, a2, older⟩, e⟩ : ∃ x, (pendingOf st4)[(pendingOf st4).size - 2]? = some x := ⟨_, getElem?_pos _ _ (by omega)⟩
            rw [e]
            dsimp only
            split
            · exact wpS_pure ⟨rfl, hB4⟩
            · refine wpS_bind (wpS_mergeAt hc h0 hB4 hlo (by show (pendingOf st4).size - 2 + 1 < (pendingOf st4).size; omega) fun st5 hB5 _ => ?_)
              rw [if_neg (by decide)]
              exact wpS_pure ⟨rfl, hB5⟩
          · rw [if_neg g1]
            exact wpS_pure ⟨rfl, hB4⟩
        · rintro c st4 ⟨rfl, hB4⟩
          dsimp only
          refine wpS_bind (wpS_modify ?_)
          refine wpS_bind (wpS_modify ?_)
          refine wpS_pure ⟨lo + min (a₀.size - lo) (minRun' a₀.size a₀.size 0), rfl, by omega, ⟨hB4.arr, hB4.kind, hB4.fail, ?_⟩⟩
          show Cov (Array.push ((pendingOf st4).modify _ _) (lo, min (a₀.size - lo) (minRun' a₀.size a₀.size 0), 0)).toList 0 (lo + min (a₀.size - lo) (minRun' a₀.size a₀.size 0))
          rw [Array.toList_push, Array.toList_modify]
          refine Cov.push ?_ hN
          refine Cov.last _ (fun x => ?_) _ hB4.cov
          exact ⟨rfl, rfl⟩
    · rw [if_neg c2]
      have hB3 := hB2
      have hN := n1
      refine wpS_bind (wpS_get ?_)
      cases hb : (pendingOf st2).back? with
      | none =>
        dsimp only
        refine wpS_bind (wpS_modify ?_)
        refine wpS_pure ⟨lo + n, rfl, by omega, ⟨hB3.arr, hB3.kind, hB3.fail, ?_⟩⟩
        show Cov ((pendingOf st2).push (lo, n, 0)).toList 0 (lo + n)
        rw [Array.toList_push]
        exact hB3.cov.push hN
      | some t =>
        obtain ⟨s1, n1, q⟩ := t
        dsimp only
        refine wpS_bind (wpS_mono (wpS_forRange (I := fun _ c st' => c = (none, ()) ∧ SB a₀ κ lo st') (Q := fun c st' => c = (none, ()) ∧ SB a₀ κ lo st') ?_ (fun _ _ z => z) ⟨rfl, hB3⟩) ?_)
        · rintro y c st4 _ _ ⟨rfl, hB4⟩
          refine wpS_bind (wpS_get ?_)
          by_cases g1 : (pendingOf st4).size > 1
          · rw [if_pos g1]
            obtain ⟨⟨a1, a2, older⟩, e⟩ : ∃ x, (pendingOf st4)[(pendingOf st4).size - 2]? = some x := ⟨_, getElem?_pos _ _ (by omega)⟩
            rw [e]
            dsimp only
            split
            · exact wpS_pure ⟨rfl, hB4⟩
            · refine wpS_bind (wpS_mergeAt hc h0 hB4 hlo (by show (pendingOf st4).size - 2 + 1 < (pendingOf st4).size; omega) fun st5 hB5 _ => ?_)
              rw [if_neg (by decide)]
              exact wpS_pure ⟨rfl, hB5⟩
          · rw [if_neg g1]
            exact wpS_pure ⟨rfl, hB4⟩
        · rintro c st4 ⟨rfl, hB4⟩
          dsimp only
          refine wpS_bind (wpS_modify ?_)
          refine wpS_bind (wpS_modify ?_)
          refine wpS_pure ⟨lo + n, rfl, by omega, ⟨hB4.arr, hB4.kind, hB4.fail, ?_⟩⟩
          show Cov (Array.push ((pendingOf st4).modify _ _) (lo, n, 0)).toList 0 (lo + n)
          rw [Array.toList_push, Array.toList_modify]
          refine Cov.push ?_ hN
          refine Cov.last _ (fun x => ?_) _ hB4.cov
          exact ⟨rfl, rfl⟩
  · rintro c st1 ⟨lo, rfl, hlo, hB1⟩
    try dsimp only
    refine wpS_bind (wpS_mono (wpS_forRange (I := fun _ c st' => c = (none, ()) ∧ SB a₀ κ lo st') (Q := fun c st' => c = (none, ()) ∧ SB a₀ κ lo st') ?_ (fun _ _ z => z) ⟨rfl, hB1⟩) ?_)
    · rintro x c st2 _ _ ⟨rfl, hB2⟩
      try dsimp only
      refine wpS_bind (wpS_get ?_)
      try dsimp only
      by_cases c2 : (pendingOf st2).size ≤ 1
      · rw [if_pos c2]
        exact wpS_pure ⟨rfl, hB2⟩
      · rw [if_neg c2]
        have hx : ∀ b : Bool, (if b = true then (pendingOf st2).size - 2 - 1 else (pendingOf st2).size - 2) + 1 < (pendingOf st2).size := fun b => by
          cases b
          · rw [if_neg Bool.false_ne_true]; omega
          · rw [if_pos rfl]; omega
        refine wpS_bind (wpS_mergeAt hc h0 hB2 hlo (hx _) fun st3 hB3 _ => ?_)
        rw [if_neg (by decide)]
        exact wpS_pure ⟨rfl, hB3⟩
    · rintro c st2 ⟨rfl, hB2⟩
      exact wpS_pure (h st2 hB2.arr hB2.fail)
end
end Srt

namespace Srt
open PySem PyProof.Rows
section
variable {prog : Program} {w : World} {A : Around} {E : Value → Shared → Prop} {s : Shared}
/-- these can be sorted in this state: what kind they are, and any two can be asked -/
def Sortable (prog : Program) (w : World) (A : Around) (vs : List Value) (s : Shared) : Prop :=
  ∃ κ, (∀ (Q : SortKind → Shared → Prop) (E : Value → Shared → Prop), Q κ s → wpAny (model prog w) A (keyKind' vs.toArray) Q E s) ∧ Cmp prog w A s κ fun p => p ∈ (pairsOf vs).toList
theorem snds_perm {vs : List Value} {xs : Array Keyed} (h : xs.toList.Perm (pairsOf vs).toList) : (xs.map (·.2)).toList.Perm vs := by
  rw [Array.toList_map]
  refine (h.map (·.2)).trans (List.Perm.of_eq ?_)
  rw [pairsOf_toList, show (fun p : Keyed => p.2) = Prod.snd from rfl, List.map_snd_zip (Nat.le_refl _)]
theorem list_sort_P {a : Addr} {vs : List Value} {n : Nat} {P : Fin → Shared → Prop} (ho : s.heap.get? a = some (seqObj "list" vs.toArray n)) (hlen : vs.length ≤ 90000)
    (hc : ∀ h6 : Heap, (∀ b o, b ≠ a → s.heap.get? b = some o → h6.get? b = some o) → 2 ≤ vs.length → Sortable prog w A vs { s with heap := h6 })
    (h : ∀ out : Array Value, out.toList.Perm vs → P (.done (.ret .none)) { s with heap := sortedHeap s.heap a vs out }) : wpAny (model prog w) A (Builtin.«list.sort» ⟨[.ref a], []⟩) P E s := by
  have hv : vs.toArray.size ≤ sizeLine := by rw [List.size_toArray, sizeLine_eq]; omega
  have ha : a < s.heap.objs.size := Heap.lt_size ho
  obtain ⟨e1, ho1⟩ : ∃ e1, (s.heap.update a (Obj.mapSeq fun _ => #[])).get? a = some (seqObj "list" #[] e1) := ⟨_, get?_update_seq ho (fun _ => #[])⟩
  rw [list_sort_plain]
  refine wpAny_bind (listItems_at ho rfl (wpAny_bind (listUpdate_at ho rfl (wpAny_bind (seqEpoch_at ho1 rfl (wpAny_bind (wpAny_newTuple (wpAny_bind (wpAny_newList (wpAny_holding ?_)))))))  hv (Nat.zero_le _))))
  have nT : a ≠ (s.heap.update a (Obj.mapSeq fun _ => #[])).objs.size := by rw [Heap.size_update]; exact Nat.ne_of_lt ha
  have nL : a ≠ ((s.heap.update a (Obj.mapSeq fun _ => #[])).push (seqObj "tuple" vs.toArray 0)).objs.size := by rw [size_push', Heap.size_update]; exact Nat.ne_of_lt (Nat.lt_succ_of_lt ha)
  have ho6 : (((s.heap.update a (Obj.mapSeq fun _ => #[])).push (seqObj "tuple" vs.toArray 0)).push (seqObj "list" #[] 0)).get? a = some (seqObj "list" #[] e1) := by
    rw [Heap.get?_push_ne _ _ _ nL, Heap.get?_push_ne _ _ _ nT]
    exact ho1
  have hkeep : ∀ b o, b ≠ a → s.heap.get? b = some o → (((s.heap.update a (Obj.mapSeq fun _ => #[])).push (seqObj "tuple" vs.toArray 0)).push (seqObj "list" #[] 0)).get? b = some o := fun b o hb e => by
    refine Heap.get?_push_of_some _ (Heap.get?_push_of_some _ ?_)
    rw [Heap.get?_update_other _ _ hb.symm]
    exact e
  show wpAny (model prog w) A _ P E { s with heap := ((s.heap.update a (Obj.mapSeq fun _ => #[])).push (seqObj "tuple" vs.toArray 0)).push (seqObj "list" #[] 0) }
  dsimp only
  by_cases h2 : vs.toArray.size < 2
  · rw [if_pos h2, if_pos h2]
    refine wpAny_bind (wpAny_pure ?_)
    rw [StateT.run_pure]
    refine wpAny_bind (wpAny_pure (wpAny_bind (seqEpoch_at ho6 rfl (wpAny_bind (listUpdate_at ho6 rfl ?_ (Nat.zero_le _) ?_)))))
    · simp only [bne_self_eq_false, Bool.false_eq_true, if_false]
      exact wpAny_pure (h _ (snds_perm (xs := pairsOf vs) (List.Perm.refl _)))
    · show ((pairsOf vs).map (·.2)).size ≤ _
      rw [Array.size_map, pairsOf_size, sizeLine_eq]
      omega
  · rw [if_neg h2, if_neg h2]
    rw [List.size_toArray] at h2
    obtain ⟨κ, hkk, hcm⟩ := hc _ hkeep (by omega)
    refine wpAny_bind (hkk _ _ ?_)
    refine wpAny_bind (wpAny_mono (wpS_runs (a₀ := pairsOf vs) (Q := fun _ st' => (arrOf st').toList.Perm (pairsOf vs).toList ∧ failedOf st' = none) hcm (fun p hp => hp) ⟨List.Perm.refl _, rfl, rfl, rfl⟩ fun st' a1 a2 => ⟨a1, a2⟩) ?_ fun _ _ e => e)
    rintro ⟨⟨⟩, st'⟩ s' ⟨rfl, hp, hf⟩
    dsimp only
    refine wpAny_bind (seqEpoch_at ho6 rfl (wpAny_bind (listUpdate_at ho6 rfl ?_ (Nat.zero_le _) ?_)))
    · rw [hf]
      simp only [bne_self_eq_false, Bool.false_eq_true, if_false]
      exact wpAny_pure (h _ (snds_perm hp))
    · have hp' : (arrOf st').toList.Perm (pairsOf vs).toList := hp
      have := hp'.length_eq
      rw [Array.length_toList, Array.length_toList, pairsOf_size] at this
      show ((arrOf st').map (·.2)).size ≤ _
      rw [Array.size_map, sizeLine_eq]
      omega
end
end Srt

namespace Srt
open PySem PyProof.Rows
section
variable {prog : Program} {w : World} {A : Around} {E : Value → Shared → Prop} {s : Shared}
/-- sorted(l): a new list of the same items in some order, all else is kept -/
theorem sorted_P {l : Addr} {vs : List Value} {Q : Value → Shared → Prop} (hl : s.heap.IsList l vs.toArray) (hlen : vs.length ≤ 90000)
    (hc : ∀ h6 : Heap, (∀ b o, s.heap.get? b = some o → h6.get? b = some o) → 2 ≤ vs.length → Sortable prog w A.in1.in1 vs { s with heap := h6 })
    (h : ∀ (out : Array Value) (h' : Heap) (c : Nat), out.toList.Perm vs → (∀ b o, s.heap.get? b = some o → h'.get? b = some o) → h'.get? (s.heap.objs.size + 1) = some (seqObj "list" out c) → s.heap.objs.size + 1 < h'.objs.size → Q (.ref (s.heap.objs.size + 1)) { s with heap := h' }) :
    wpAny (model prog w) A (call (.builtin "sorted") [.ref l]) Q E s := by
  have hv : vs.length ≤ sizeLine := by rw [sizeLine_eq]; omega
  refine Calls.call_function_entry kind_sorted plain_sorted entry_sorted (args_sorted1 _) ?_
  unfold Builtin.«sorted»
  refine wpAny_bind (m := checkCount "sorted" 1 1 _) (wpAny_pure (wpAny_bind (collect_list hl (wpAny_bind (wpAny_newList ?_)) hv)))
  have hsz : ((s.heap.push (seqObj "list" #[] 0)).update s.heap.objs.size (Obj.mapSeq (· ++ vs.toArray))).objs.size = s.heap.objs.size + 1 := by rw [Heap.size_update, size_push']
  have hoL : (((s.heap.push (seqObj "list" #[] 0)).update s.heap.objs.size (Obj.mapSeq (· ++ vs.toArray))).push (seqObj "list" vs.toArray 0)).get? (s.heap.objs.size + 1) = some (seqObj "list" vs.toArray 0) := by
    rw [← hsz]
    exact Heap.get?_push_size _ rfl
  have keep : ∀ b o, s.heap.get? b = some o → (((s.heap.push (seqObj "list" #[] 0)).update s.heap.objs.size (Obj.mapSeq (· ++ vs.toArray))).push (seqObj "list" vs.toArray 0)).get? b = some o := fun b o e => by
    refine Heap.get?_push_of_some _ ?_
    rw [Heap.get?_update_other _ _ (Nat.ne_of_gt (Heap.lt_size e))]
    exact Heap.get?_push_of_some _ e
  show wpAny _ _ _ _ _ { s with heap := ((s.heap.push (seqObj "list" #[] 0)).update s.heap.objs.size (Obj.mapSeq (· ++ vs.toArray))).push (seqObj "list" vs.toArray 0) }
  rw [hsz]
  refine wpAny_bind (wpAny_holding (wpAny_call_entry slot_list_sort ⟨_, hoL, rfl⟩ entry_list_sort (list_sort_P hoL hlen (fun h6 k6 h2 => hc h6 (fun b o e => k6 b o (fun z => Nat.lt_irrefl _ (Nat.lt_of_succ_lt (z ▸ Heap.lt_size e))) (keep b o e)) h2) fun out hp => ⟨_, rfl, ?_⟩) (args_list_sort _)))
  generalize ((s.heap.push (seqObj "list" #[] 0)).update s.heap.objs.size (Obj.mapSeq (· ++ vs.toArray))).push (seqObj "list" vs.toArray 0) = h5 at hoL keep
  have hlt := Heap.lt_size hoL
  obtain ⟨e1, ho1⟩ : ∃ e1, (h5.update (s.heap.objs.size + 1) (Obj.mapSeq fun _ => #[])).get? (s.heap.objs.size + 1) = some (seqObj "list" #[] e1) := ⟨_, get?_update_seq hoL (fun _ => #[])⟩
  have ho6 := Heap.get?_push_of_some (seqObj "list" #[] 0) (Heap.get?_push_of_some (seqObj "tuple" vs.toArray 0) ho1)
  refine wpAny_pure ⟨_, rfl, h out (sortedHeap h5 (s.heap.objs.size + 1) vs out) _ hp (fun b o e => ?_) (get?_update_seq ho6 (fun _ => out)) ?_⟩
  · have hb : s.heap.objs.size + 1 ≠ b := fun z => Nat.lt_irrefl _ (Nat.lt_of_succ_lt (z.symm ▸ Heap.lt_size e))
    unfold sortedHeap
    rw [Heap.get?_update_other _ _ hb]
    refine Heap.get?_push_of_some _ (Heap.get?_push_of_some _ ?_)
    rw [Heap.get?_update_other _ _ hb]
    exact keep b o e
  · unfold sortedHeap
    rw [Heap.size_update, size_push', size_push', Heap.size_update]
    exact Nat.lt_succ_of_lt (Nat.lt_succ_of_lt hlt)
end
end Srt

namespace Srt
open PySem PyProof.Rows PySem.W
section
variable {prog : Program} {w : World} {A : Around} {s : Shared}
end
end Srt

namespace L2
open PySem PySem.Spec PyProof.Rows
theorem vals_perm {us us' : List Value} (h : us'.Perm us) : ∀ {vs : List V}, Vals vs us → ∃ vs', vs'.Perm vs ∧ Vals vs' us' := by
  induction h with
  | nil => exact fun r => ⟨_, List.Perm.refl _, r⟩
  | cons x _ ih =>
    intro vs r
    cases r with
    | cons a t =>
      obtain ⟨ws, p, r'⟩ := ih t
      exact ⟨_ :: ws, p.cons _, .cons a r'⟩
  | swap x y l =>
    intro vs r
    cases r with
    | cons a t =>
      cases t with
      | cons b t => exact ⟨_, List.Perm.swap .., .cons b (.cons a t)⟩
  | trans _ _ ih1 ih2 =>
    intro vs r
    obtain ⟨ws, p, r1⟩ := ih2 r
    obtain ⟨ws', p', r2⟩ := ih1 r1
    exact ⟨ws', p'.trans p, r2⟩
theorem vals_mem : ∀ {vs : List V} {us : List Value}, Vals vs us → ∀ u ∈ us, ∃ v ∈ vs, RelV v u
  | _, _, .cons a t, u, hu => by
    rcases List.mem_cons.mp hu with rfl | hu
    · exact ⟨_, List.mem_cons_self .., a⟩
    · obtain ⟨v, hv, r⟩ := vals_mem t u hu
      exact ⟨v, List.mem_cons_of_mem _ hv, r⟩
section
variable {X : Cx}
end
end L2

namespace L2
open PySem PySem.Spec PyProof.Rows PySem.W
/-- a dict as it stands, whatever its keys -/
def RawD (h : Heap) (d : Addr) (es : Array DictEntry) (ep : Nat) : Prop := ∃ o, h.get? d = some o ∧ o.ExactDict ∧ o.data = .dict es ep
theorem RawD.tyIs {s : Shared} {d : Addr} {es : Array DictEntry} {ep : Nat} (x : RawD s.heap d es ep) : s.TypeIs (.ref d) "dict" := let ⟨o, ho, hc, _⟩ := x; ⟨o, ho, hc.1⟩
theorem RawD.to {h h' : Heap} {d : Addr} {es : Array DictEntry} {ep : Nat} (x : RawD h d es ep) (e : ∀ o, h.get? d = some o → h'.get? d = some o) : RawD h' d es ep := let ⟨o, ho, r⟩ := x; ⟨o, e _ ho, r⟩
section
variable {prog : Program} {w : World} {A : Around} {E : Value → Shared → Prop} {s : Shared} {it d : Addr} {es : Array DictEntry} {i ep : Nat}
theorem raw_iter {Q : Value → Shared → Prop} (lo : (d == sysModules) = false) (x : RawD s.heap d es ep)
    (q : Q (.ref s.heap.objs.size) { s with heap := s.heap.push { cls := .type "dict_keyiterator", data := .fields #[.ref d, .int 0 0, .int es.size 0, .int ep 0] } }) : wpAny (model prog w) A (pyIter (.ref d)) Q E s := by
  obtain ⟨o, ho, hx, hdat⟩ := id x
  have hT := x.tyIs
  refine wpAny_pyIter_slot hT PySem.F.slot_dict_iter (wpAny_call_entry PySem.F.slot_dict_iter hT PySem.F.entry_dict_iter ?_ (PySem.F.args_dict_iter_1 _))
  unfold Builtin.«dict.__iter__»; refine wpAny_bind ?_
  unfold Builtin.Dict.dictSlotNone; refine wpAny_bind (wpAny_notOrdered_dict hT ?_)
  refine wpAny_pure (?_ : wpAny _ _ (Builtin.Dict.showsAll d >>= _) _ _ s)
  unfold Builtin.Dict.showsAll; rw [if_neg (by rw [lo]; exact Bool.false_ne_true)]
  refine wpAny_bind (wpAny_pure (wpAny_bind (wpAny_dictEntries ho hdat (wpAny_bind (wpAny_dictEpoch ho hdat ?_)))))
  exact wpAny_bind (wpAny_newObj_type (wpAny_pure ⟨_, rfl, "dict_keyiterator", _, ⟨_, Heap.get?_push_size _ rfl, rfl⟩, PySem.F.slot_dict_keyiterator_next.lookup, q⟩))
theorem raw_item {Q : Option Value → Shared → Prop} (st : s.heap.IsKeyIter it d i es.size ep) (x : RawD s.heap d es ep) (hi : i < es.size)
    (q : ∀ h', h'.IsKeyIter it d (i + 1) es.size ep → Heap.SameBut it s.heap h' → Q (some es[i].key) { s with heap := h' }) : wpAny (model prog w) A (pyNext (.ref it)) Q E s := by
  obtain ⟨o, ho, hc, hd⟩ := id st
  obtain ⟨od, hod, hxd, hdd⟩ := id x
  unfold pyNext; refine wpAny_bind (wpAny_attempt (wpAny_callSpecial?_slot (name := Str.ofString "__next__") st.typeIs PySem.F.slot_dict_keyiterator_next (wpAny_call_entry PySem.F.slot_dict_keyiterator_next st.typeIs PySem.F.entry_dict_keyiterator_next ?_ (PySem.F.args_dict_keyiterator_next_1 _))))
  refine wpAny_bind (wpAny_pure (wpAny_bind (wpAny_bind ?_)))
  first | refine wpAny_bind (wpAny_typeNameOfWhole_keyiter st.typeIs (wpAny_pure (wpAny_bind (wpAny_fieldsOf ho hd ?_)))) | refine wpAny_bind (wpAny_typeNameOf_keyiter st.typeIs (wpAny_pure (wpAny_bind (wpAny_fieldsOf ho hd ?_))))
  have own : Builtin.Dict_items.ownsTuple "dict_keyiterator" = false := by decide
  simp only [own, Bool.false_eq_true, if_false]; change wpAny _ _ (if (Value.ref d == Value.none) = true then _ else _) _ _ s
  rw [if_neg (fun z : (Value.ref d == Value.none) = true => Bool.false_ne_true z)]
  refine wpAny_bind (wpAny_pure (wpAny_bind (wpAny_dictEntries hod hdd ?_)))
  rw [if_neg (by simp)]; refine wpAny_bind (wpAny_pure (wpAny_bind (wpAny_dictEpoch hod hdd ?_)))
  rw [if_neg (by simp)]; refine wpAny_pure ?_
  simp only [show ¬ ((i : Int) < 0) by omega, if_false, Int.toNat_natCast, Array.getElem?_eq_getElem hi]
  refine wpAny_bind ?_; first | refine wpAny_bind (wpAny_typeNameOfWhole_keyiter st.typeIs (wpAny_pure (wpAny_bind (wpAny_isOneOf_keyiter st.typeIs ?_)))) | refine wpAny_bind (wpAny_typeNameOf_keyiter st.typeIs (wpAny_pure (wpAny_bind (wpAny_isOneOf_keyiter st.typeIs ?_))))
  change wpAny _ _ (setField (.ref it) 1 (rawInt ((i : Int) + 1)) >>= _) _ _ s
  refine wpAny_bind (wpAny_setField ho hd (by simp) ?_)
  have st2 : (s.heap.update it (Obj.mapFields (·.setIfInBounds 1 (rawInt ((i : Int) + 1))))).IsKeyIter it d (i + 1) es.size ep := ⟨_, Heap.get?_update_self _ ho (Obj.isFreed_of_fields (Obj.data_mapFields hd _)), (Obj.cls_mapFields ..).trans hc, by rw [Obj.data_mapFields hd]; simp [rawInt]⟩
  refine wpAny_bind (wpAny_holding (wpAny_bind (wpAny_isOneOf_keyiter (s := { s with heap := s.heap.update it (Obj.mapFields (·.setIfInBounds 1 (rawInt ((i : Int) + 1)))) }) st2.typeIs ?_)))
  change wpAny _ _ (pure es[i].key) _ _ _
  exact wpAny_pure (wpAny_pure ⟨_, rfl, wpAny_pure (q _ st2 (Heap.SameBut.update ..))⟩)
theorem raw_end {Q : Option Value → Shared → Prop} (hh : A.handled = none) (st : s.heap.IsKeyIter it d i es.size ep) (x : RawD s.heap d es ep) (hi : es.size ≤ i)
    (q : ∀ h', Heap.ExtBut it s.heap h' → Q none { s with heap := h' }) : wpAny (model prog w) A (pyNext (.ref it)) Q E s := by
  obtain ⟨o, ho, hc, hd⟩ := id st
  obtain ⟨od, hod, hxd, hdd⟩ := id x
  unfold pyNext; refine wpAny_bind (wpAny_attempt (wpAny_callSpecial?_slot (name := Str.ofString "__next__") st.typeIs PySem.F.slot_dict_keyiterator_next (wpAny_call_entry PySem.F.slot_dict_keyiterator_next st.typeIs PySem.F.entry_dict_keyiterator_next ?_ (PySem.F.args_dict_keyiterator_next_1 _))))
  refine wpAny_bind (wpAny_pure (wpAny_bind (wpAny_bind ?_)))
  first | refine wpAny_bind (wpAny_typeNameOfWhole_keyiter st.typeIs (wpAny_pure (wpAny_bind (wpAny_fieldsOf ho hd ?_)))) | refine wpAny_bind (wpAny_typeNameOf_keyiter st.typeIs (wpAny_pure (wpAny_bind (wpAny_fieldsOf ho hd ?_))))
  have own : Builtin.Dict_items.ownsTuple "dict_keyiterator" = false := by decide
  simp only [own, Bool.false_eq_true, if_false]; change wpAny _ _ (if (Value.ref d == Value.none) = true then _ else _) _ _ s
  rw [if_neg (fun z : (Value.ref d == Value.none) = true => Bool.false_ne_true z)]
  refine wpAny_bind (wpAny_pure (wpAny_bind (wpAny_dictEntries hod hdd ?_)))
  rw [if_neg (by simp)]; refine wpAny_bind (wpAny_pure (wpAny_bind (wpAny_dictEpoch hod hdd ?_)))
  rw [if_neg (by simp)]; refine wpAny_pure ?_
  simp only [show ¬ ((i : Int) < 0) by omega, if_false, Int.toNat_natCast, Array.getElem?_eq_none hi]
  refine wpAny_bind ?_; first | refine wpAny_bind (wpAny_typeNameOfWhole_keyiter st.typeIs (wpAny_pure ?_)) | refine wpAny_bind (wpAny_typeNameOf_keyiter st.typeIs (wpAny_pure ?_))
  change wpAny _ _ (setField (.ref it) 0 .none >>= _) _ _ s
  refine wpAny_bind (wpAny_setField ho hd (by simp) ?_)
  change wpAny _ _ (newExc (.type "StopIteration") [] >>= _) _ _ _
  refine wpAny_bind ?_; simp only [newExc, newTuple]
  refine wpAny_bind (wpAny_newObj_type (wpAny_bind (m := firstArgMember _ _) (wpAny_of_eq (a := Value.none) (by first | rfl | (simp only [firstArgMember]; rfl)) (wpAny_newObj_type ?_ (by size_fits)))) (by size_fits))
  simp only [raiseNew]; refine wpAny_bind (wpAny_handled ?_)
  rw [show A.in1.handled = none from hh]; refine wpAny_bind (wpAny_pure (wpAny_throw ?_))
  refine wpAny_bind (wpAny_isInstance (T := "StopIteration") (b := true) (v := .ref _) (by exact ⟨_, Heap.get?_push_size _ rfl, rfl⟩) isSubtype_stop ?_)
  exact wpAny_pure (q _ (((Heap.SameBut.update ..).extBut.push _).push _))
theorem raw_walks (hh : A.handled = none) (hne : d ≠ it) : Walks prog w A it [it, d] [it] es.size (fun i v => ∃ e, es[i]? = some e ∧ v = e.key) (fun i h => h.IsKeyIter it d i es.size ep ∧ RawD h d es ep) where
  sub := fun b hb => List.mem_cons.mpr (.inl (List.mem_singleton.mp hb))
  frame := fun _ _ _ st hk => ⟨st.1.at fun o e => hk it (List.mem_cons_self ..) o e, st.2.to fun o e => hk d (List.mem_cons_of_mem _ (List.mem_cons_self ..)) o e⟩
  item := fun j s Q E hj st hQ => raw_item st.1 st.2 hj fun h' st' sb => hQ _ h' s.toks ⟨_, Array.getElem?_eq_getElem hj, rfl⟩ ⟨st', st.2.to fun o e => sb.extBut d o hne e⟩ fun b o hb e => sb.extBut b o (fun z => hb (List.mem_singleton.mpr z)) e
  done := fun s Q E st hQ => raw_end hh st.1 st.2 (Nat.le_refl _) fun h' he => hQ h' s.toks fun b o hb e => he b o (fun z => hb (List.mem_singleton.mpr z)) e
  self := fun _ _ _ _ st hQ => wpAny_pyIter_keyiter st.1 hQ
theorem raw_src (lo : (d == sysModules) = false) : KdlSrc prog w "dict" d d es.size (fun i v => ∃ e, es[i]? = some e ∧ v = e.key) (fun h => RawD h d es ep) where
  type := fun _ x => x.tyIs
  there := fun _ ⟨o, ho, _⟩ => ⟨Heap.lt_size ho, Heap.lt_size ho⟩
  keep := fun _ _ x hk => x.to fun o e => hk d (.inl rfl) o e
  notList := by decide
  notTuple := by decide
  hint := fun _ _ _ _ x hq => kdl_hint_dict x.tyIs hq
  iter := fun _ _ hh x => ⟨_, _, (fun _ _ hq => raw_iter lo x hq), raw_walks hh (let ⟨o, ho, _⟩ := x; Nat.ne_of_lt (Heap.lt_size ho)), ⟨⟨_, Heap.get?_push_size _ rfl, rfl, rfl⟩, x.to fun _ e => Heap.get?_push_of_some _ e⟩⟩
end
end L2

namespace L2
open PySem PySem.Spec PyProof.Rows PySem.W
/-- the keys of a dict as they stand: tuples at these addresses -/
def KeyRefs (H : Hp) (kvs : List (List Key × V)) (ys : List V) : Prop := Paired (fun (p : List Key × V) (y : V) => ∃ a, y = .ref a ∧ H a = some (.tup (p.1.map kV))) kvs ys
theorem refs_vals : ∀ ps : List Addr, Vals (ps.map V.ref) (ps.map Value.ref)
  | [] => .nil
  | p :: ps => .cons (show RelV (.ref p) (.ref p) from rfl) (refs_vals ps)
theorem keyRefs_of {H : Hp} : ∀ {kvs : List (List Key × V)} {xs : List (List Key × Addr × Value)}, Paired (fun (p : List Key × V) (q : List Key × Addr × Value) => p.1 = q.1 ∧ H q.2.1 = some (.tup (p.1.map kV)) ∧ RelV p.2 q.2.2) kvs xs → KeyRefs H kvs ((xs.map fun q => q.2.1).map V.ref)
  | _, _, .nil => .nil
  | _, _, .cons r t => .cons ⟨_, rfl, r.2.1⟩ (keyRefs_of t)
section
variable {X : Cx}
theorem call_list_dT (hc : X.calm = true) : CallR X (.type "list") (fun xs H Q => ∃ d kvs, xs = [.ref d] ∧ H d = some (.dT kvs) ∧ ∀ l ys, H l = none → KeyRefs H kvs ys → Q (.ref l) (upd H l (.lst ys))) := by
  intro pins s σ H xs us Q I r h
  obtain ⟨d, kvs, rfl, hd, q⟩ := h
  obtain ⟨u, rfl, rx⟩ := vals1 r
  obtain rfl : u = .ref d := rx
  obtain ⟨hl, lo, xs, pr, o, es, ep, ho, hx, hdat, he, _⟩ := (show ObjOk X.prog X.w H s.heap d (.dT kvs) from I.hok d _ hd)
  have hlen : kvs.length = xs.length := Paired.length pr
  have hes : es.size = xs.length := by
    rw [← Array.length_toList, he, List.length_map]
  refine kdl_call (raw_src lo) (I.ok.hd hc) (⟨o, ho, hx, hdat⟩ : RawD s.heap d es ep) (by omega) fun h' tk acc c kp hS hit => ?_
  have hacc : acc = ((xs.map fun q => q.2.1).map Value.ref).toArray := by
    suffices hL : acc.toList = (xs.map fun q => q.2.1).map Value.ref by rw [← hL]
    refine List.ext_getElem? fun j => ?_
    rw [Array.getElem?_toList, List.getElem?_map, List.getElem?_map]
    cases hj : acc[j]? with
    | none =>
      have : acc.size ≤ j := Array.getElem?_eq_none_iff.mp hj
      rw [hit.1] at this
      rw [List.getElem?_eq_none (by omega)]
      rfl
    | some v =>
      obtain ⟨e, h1, rfl⟩ := hit.2 j v hj
      rw [← Array.getElem?_toList, he, List.getElem?_map] at h1
      obtain ⟨x, hx1, rfl⟩ := Option.map_eq_some_iff.mp h1
      rw [hx1]
      rfl
  subst hacc
  have hz : ((xs.map fun q => q.2.1).map V.ref).length ≤ sizeLine := by
    rw [List.length_map, List.length_map]
    omega
  exact ⟨.ref _, _, I.laid (t' := tk) (fun b o e => kp b o e) (Nat.le_refl _) (show ObjOk X.prog X.w _ h' _ (.lst _) from ⟨hz, _, c, refs_vals _, hS⟩), rfl, q _ _ (I.hok.fresh (Nat.le_refl _)) (keyRefs_of pr)⟩
end
end L2
namespace Srt
open PySem PyProof.Rows PySem.W
section
variable {prog : Program} {w : World} {A : Around} {s : Shared}
/-- an int and a text, as a value -/
def IsNt (h : Heap) (v : Value) : Prop := ∃ a o i x t u n, v = .ref a ∧ h.get? a = some o ∧ o.cls = .type "tuple" ∧ o.data = .seq #[.int i t, .str x u] n
theorem nts_tups {h : Heap} : ∀ {vs : List Value}, (∀ v ∈ vs, IsNt h v) → ∃ fs, KatTups h vs fs ∧ fs.length = vs.length ∧ ∀ f ∈ fs, ∃ i t, f = .int i t
  | [], _ => ⟨[], trivial, rfl, fun _ h => nomatch h⟩
  | v :: vs, hv => by
    obtain ⟨a, o, i, x, t, u, n, rfl, ho, hc, hd⟩ := hv v (List.mem_cons_self ..)
    obtain ⟨fs, k, hl, hf⟩ := nts_tups (vs := vs) fun x hx => hv x (List.mem_cons_of_mem _ hx)
    refine ⟨.int i t :: fs, KatTups.cons ho hc hd rfl k, by simp [hl], fun f hm => ?_⟩
    rcases List.mem_cons.mp hm with rfl | hm
    · exact ⟨i, t, rfl⟩
    · exact hf f hm
theorem nts_sortable {vs : List Value} (hv : ∀ v ∈ vs, IsNt s.heap v) (h2 : 2 ≤ vs.length) : Sortable prog w A vs s := by
  obtain ⟨fs, k, hl, hf⟩ := nts_tups hv
  refine ⟨tuples' true, fun Q E hq => ?_, ?_⟩
  · refine kat_kind (T := .type "int") k (by omega) (fun v hm => ?_) rfl hq
    obtain ⟨i, t, rfl⟩ := hf v hm
    exact Looks.of_pure rfl
  · intro x y hx hy E
    rw [pairsOf_toList] at hx hy
    obtain ⟨a, o, i, j, t, u, n, e, ho, hc, hd⟩ := hv _ (mem_zip_self hx).2
    obtain ⟨a', o', i', j', t', u', n', e', ho', hc', hd'⟩ := hv _ (mem_zip_self hy).2
    rw [e, e']
    refine kat_lt ho hd ho' hd' ?_
    refine kat_cons (wpAny_eqBool_int (kat_go (fun _ => kat_yes ?_) (fun _ => kat_no ?_)))
    · refine kat_cons (wpAny_eqBool_str (kat_go (fun _ => kat_yes (kat_nil rfl)) (fun _ => kat_no ?_)))
      refine kat_one _ _ ?_
      exact PyProof.Rows.lt_str rfl
    · exact oneLt_int rfl
end
end Srt
namespace L2
open PySem PySem.Spec PyProof.Rows
section
variable {X : Cx}
theorem call_sorted_nts : CallR X (.builtin "sorted") (fun xs H Q => ∃ l ys, xs = [.ref l] ∧ SqL X.K H l ys ∧ ys.length ≤ 90000 ∧ (∀ y ∈ ys, ∃ t i x, y = .ref t ∧ H t = some (.tup [.int i, .str x])) ∧ ∀ p zs, H p = none → zs.Perm ys → Q (.ref p) (upd H p (.lst zs))) := by
  intro pins s σ H xs us Q I r h
  obtain ⟨l, ys, rfl, hq, hlen, hp, q⟩ := h
  obtain ⟨u, rfl, ru⟩ := vals1 r
  cases ru
  obtain ⟨its, rv, pl, hz⟩ := I.list hq
  have hl := rv.length
  refine Srt.sorted_P (vs := its) pl.isList (by omega) (fun h6 k6 h2 => Srt.nts_sortable (fun v hv => ?_) h2) fun out h' c hperm kp e hlt => ?_
  · obtain ⟨y, hy, ry⟩ := vals_mem rv v hv
    obtain ⟨t, i, j, rfl, ht⟩ := hp y hy
    obtain rfl : v = Value.ref t := ry
    obtain ⟨_, us, rus, o, ho, hc, n, hd⟩ := I.hok t _ ht
    obtain ⟨u1, u2, rfl, r1, r2⟩ := Vals.two rus
    obtain ⟨t1, rfl⟩ := r1
    obtain ⟨t2, rfl⟩ := r2
    exact ⟨t, o, i, j, t1, t2, n, rfl, k6 _ _ ho, hc, hd⟩
  · obtain ⟨zs, pz, rz⟩ := vals_perm hperm rv
    have hzl := pz.length_eq
    exact ⟨.ref _, _, I.laid (t' := s.toks) (fun b o eb => kp b o eb) (Nat.le_succ _) (show ObjOk X.prog X.w _ h' _ (.lst zs) from ⟨by omega, out.toList, c, rz, e⟩), rfl, q _ zs (I.hok.fresh (Nat.le_succ _)) pz⟩
end
end L2

namespace L2
open PySem PySem.Spec PyProof.Rows
/-- the numbers lo, lo + c, .. : n of them -/
def Itst (lo c : Int) (n : Nat) : It := ⟨fun i _ => i < n, fun i H x H' => H' = H ∧ x = .int (lo + i * c), fun i _ => n ≤ i⟩
theorem turn_steps {P : Program} {w : World} {K : PySem.W.Frag} {tg : Expr} (it : Addr) (lo c : Int) (n : Nat) : Turn P w K tg (Itst lo c n) [it] it (fun i h => IsRangeIter h it (lo + (i : Nat) * c) ((n : Int) - (i : Nat)) c) where
  mem := List.mem_singleton.mpr rfl
  obj := fun i h st b hb => by
    obtain rfl := List.mem_singleton.mp hb
    exact ⟨_, st, fun v z => by
      have z2 : Data.fields _ = Data.cell v := z
      exact nomatch z2⟩
  keep := fun i h h' st k => k it (List.mem_singleton.mpr rfl) _ st
  item := by
    intro X eP ew eK hc i pins s σ H E I hf st hg
    subst eP ew eK
    obtain ⟨f0, f1, f2, f3, f4, f5⟩ := hf it (List.mem_singleton.mpr rfl)
    refine (Walks.range (prog := X.prog) (w := X.w) (I.ok.hd hc) it lo c n).item i s _ _ hg st fun v h' tk hv st' kk => ?_
    obtain ⟨t, rfl⟩ := hv
    have I1 : Inv X pins σ H { s with heap := h', toks := tk } := I.turned (fun b o hb e => kk b o (fun z => hb (List.mem_singleton.mp z)) e) f0 f1 f3 f4 f5
    exact ⟨_, rfl, go_of (s := { s with heap := h', toks := tk }) (n := "range_iterator") st' rfl rfl (by decide) ⟨.int (lo + i * c), H, I1, ⟨t, rfl⟩, ⟨rfl, rfl⟩, st', fun b hb => (hf b hb).1⟩⟩
  done := by
    intro X eP ew eK hc i pins s σ H E I hf st hg
    subst eP ew eK
    obtain ⟨f0, f1, f2, f3, f4, f5⟩ := hf it (List.mem_singleton.mpr rfl)
    have hni : n ≤ i := hg
    exact wpAny_pyNext_range_end (I.ok.hd hc) st (by omega) fun h' eb => ⟨rfl, I.turned (t' := s.toks) (fun b o hb e => eb b o hb e) f0 f1 f3 f4 f5⟩
  self := fun _ _ _ _ _ st h => wpAny_pyIter_rangeiter st h
theorem small_step {a b c : Int} (ha : -1000000 ≤ a) (ha' : a ≤ 1000000) (hb : -1000000 ≤ b) (hb' : b ≤ 1000000) (hc : c = 7 ∨ c = -1) : Builtin.Range.small a b c = true := by
  unfold Builtin.Range.small Builtin.Range.rangeSize
  simp only [Builtin.Range.rangeFitsLong, Bool.and_eq_true, Bool.or_eq_true, decide_eq_true_eq, beq_iff_eq]
  rcases hc with rfl | rfl
  · simp only [show (7 : Int) > 0 by decide, if_true]
    split <;> refine ⟨⟨⟨⟨⟨?_, ?_⟩, ?_, ?_⟩, by decide, by decide⟩, ?_, ?_⟩, ?_⟩ <;> first | omega | (right; simp; omega) | (left; rfl)
  · simp only [show ¬ ((-1 : Int) > 0) by decide, if_false, show -(-1 : Int) = 1 by decide, Int.ediv_one]
    split <;> refine ⟨⟨⟨⟨⟨?_, ?_⟩, ?_, ?_⟩, by decide, by decide⟩, ?_, ?_⟩, ?_⟩ <;> first | omega | (right; simp; omega) | (left; rfl)
def iRng3 (ta : TA) : TI := fun σ H R => ta σ H fun vs H1 => ∃ a b c : Int, vs = [.int a, .int b, .int c] ∧ (-1000000 ≤ a ∧ a ≤ 1000000 ∧ -1000000 ≤ b ∧ b ≤ 1000000) ∧ (c = 7 ∨ c = -1) ∧ R (Itst a c (Builtin.Range.rangeSize a b c).toNat) H1
section
variable {X : Cx} {tg : Expr}
theorem pi_range3 {a b c : Expr} {ta : TA} {p pos : Pos} (hg : Gl X "range") (hm : X.mg "range" = none) (ha : PA X [a, b, c] ta) (hs : starEach [a, b, c] X.env = [(false, eval a X.env), (false, eval b X.env), (false, eval c X.env)] := by rfl)
    (hs2 : starEach [b, c] X.env = [(false, eval b X.env), (false, eval c X.env)] := by rfl) (hs3 : starEach [c] X.env = [(false, eval c X.env)] := by rfl) : PI X tg (.Call (.Name "range" p) [a, b, c] [] pos) (iRng3 ta) := by
  intro pins s σ H R I h
  refine Call_ (ld_blt I hg hm boot_range (PyProof.Rows.callWith_type1 (thn (ha pos pins s σ H _ I h) fun us s1 ⟨vs, H1, I1, r1, q1⟩ => ?_) (by rw [hs, hs2]) (by rw [hs2]; rfl)))
  obtain ⟨x, y, z, e, ⟨q1, q2, q3, q4⟩, hz, q⟩ := q1
  subst e
  have hz0 : z ≠ 0 := by rcases hz with rfl | rfl <;> decide
  have hzs : z.natAbs < 1073741824 := by rcases hz with rfl | rfl <;> decide
  cases r1 with
  | cons r rr =>
    cases rr with
    | cons r2 rr =>
      cases rr with
      | cons r3 rr =>
        cases rr
        obtain ⟨t, rfl⟩ := r
        obtain ⟨t2, rfl⟩ := r2
        obtain ⟨t3, rfl⟩ := r3
        refine call_range_3 hz0 ?_ (.inl (PyProof.noPylong_small hzs))
        refine wpAny_pyIter_range (IsRange.new ..) (small_step q1 q2 q3 q4 hz) ?_
        have I2 : Inv X pins σ H1 { s1 with heap := s1.heap.push { cls := .type "range", data := .fields #[.int x t, .int y t2, .int z t3] } } := I1.kept (t' := s1.toks) fun b o e => Heap.get?_push_of_some _ e
        refine ⟨_, [_], _, _, H1, rfl, I2.kept (t' := s1.toks) fun b o e => Heap.get?_push_of_some _ e, turn_steps _ x z (Builtin.Range.rangeSize x y z).toNat, ?_, fun b hb => ?_, q⟩
        · have hn : 0 ≤ Builtin.Range.rangeSize x y z := by
            unfold Builtin.Range.rangeSize
            rcases hz with rfl | rfl
            · rw [if_pos (by decide)]
              split <;> omega
            · rw [if_neg (by decide), show -(-1 : Int) = 1 by decide, Int.ediv_one]
              split <;> omega
          show IsRangeIter _ _ (x + ((0 : Nat) : Int) * z) (((Builtin.Range.rangeSize x y z).toNat : Int) - ((0 : Nat) : Int)) z
          rw [Int.toNat_of_nonneg hn, show x + ((0 : Nat) : Int) * z = x by simp, show Builtin.Range.rangeSize x y z - ((0 : Nat) : Int) = Builtin.Range.rangeSize x y z by simp]
          exact Heap.get?_push_size _ rfl
        · obtain rfl := List.mem_singleton.mp hb
          exact I2.fpOk (Nat.le_refl _) (I2.hok.fresh (Nat.le_refl _))
end
theorem for_steps {lo c : Int} {n : Nat} {g : TG} {tb : TS} {D : Ends} {σ : St} {H : Hp} (Pv : Nat → St → Hp → Prop) (h0 : Pv 0 σ H)
    (hs : ∀ i σ H, i < n → Pv i σ H → g (.int (lo + i * c)) σ H fun σ2 H2 => tb { D with nx := Pv (i + 1), ct := Pv (i + 1), bk := D.nx } σ2 H2) (hd : ∀ σ H, Pv n σ H → D.nx σ H) :
    ∃ W : Nat → Nat → St → Hp → Prop, (∃ m, W 0 m σ H) ∧ ∀ i m σ H, W i m σ H →
      ((Itst lo c n).stop i H ∧ D.nx σ H) ∨ ((Itst lo c n).go i H ∧ ∃ N : St → Hp → Prop, (∀ σ' H', N σ' H' → ∃ m', m' < m ∧ W (i + 1) m' σ' H') ∧ ∀ x H', (Itst lo c n).yld i H x H' → g x σ H' fun σ2 H2 => tb { D with nx := N, ct := N, bk := D.nx } σ2 H2) := by
  refine ⟨fun i m σ H => m = n - i ∧ i ≤ n ∧ Pv i σ H, ⟨n, rfl, Nat.zero_le _, h0⟩, ?_⟩
  rintro i m σ H ⟨rfl, hi, hp⟩
  rcases Nat.lt_or_ge i n with hl | hl
  · refine .inr ⟨hl, Pv (i + 1), fun σ' H' hN => ⟨n - (i + 1), by omega, rfl, hl, hN⟩, ?_⟩
    rintro x H' ⟨rfl, rfl⟩
    exact hs i σ _ hl hp
  · obtain rfl : i = n := by omega
    exact .inl ⟨hl, hd σ H hp⟩
end L2

namespace K79
open PySem L2 FgM Fg
def top (i : Nat) : Stmt := PySem.Challenge.pw_formgrove_k79_changers_written.main.body.getD i (.Pass ⟨0, 0, 0, 0⟩)
abbrev s_shown : Stmt := top 1
abbrev s_shown_rule : Stmt := top 2
abbrev s_shown_parts : Stmt := top 3
abbrev s_shown_part : Stmt := top 4
abbrev s_l_cell_at : Stmt := top 6
abbrev s_l_numbers : Stmt := top 7
abbrev s_l_tag : Stmt := top 8
abbrev s_l_parts : Stmt := top 9
abbrev s_l_known : Stmt := top 10
abbrev s_l_text : Stmt := top 11
abbrev s_law : Stmt := top 12
theorem sc_shown : FnScope ["changer"] ["changer"] (defScope s_shown) := ⟨rfl, rfl, rfl, by decide +kernel, rfl, by decide +kernel, by decide +kernel⟩
theorem sc_shown_rule : FnScope ["mode", "tag", "parts"] ["mode", "tag", "parts"] (defScope s_shown_rule) := ⟨rfl, rfl, rfl, by decide +kernel, rfl, by decide +kernel, by decide +kernel⟩
theorem sc_shown_parts : FnScope ["parts"] ["parts"] (defScope s_shown_parts) := ⟨rfl, rfl, rfl, by decide +kernel, rfl, by decide +kernel, by decide +kernel⟩
theorem sc_shown_part : FnScope ["part"] ["part"] (defScope s_shown_part) := ⟨rfl, rfl, rfl, by decide +kernel, rfl, by decide +kernel, by decide +kernel⟩
theorem sc_l_cell_at : FnScope ["_law_script", "_law_k"] ["_law_script", "_law_k"] (defScope s_l_cell_at) := ⟨rfl, rfl, rfl, by decide +kernel, rfl, by decide +kernel, by decide +kernel⟩
theorem sc_l_numbers : FnScope ["_law_script", "_law_first", "_law_many", "_law_found", "_law_number", "_law_k", "_law_cell"] ["_law_script", "_law_first", "_law_many"] (defScope s_l_numbers) := ⟨rfl, rfl, rfl, by decide +kernel, rfl, by decide +kernel, by decide +kernel⟩
theorem sc_l_tag : FnScope ["_law_number", "_law_some", "_law_tag_here", "_law_k"] ["_law_number"] (defScope s_l_tag) := ⟨rfl, rfl, rfl, by decide +kernel, rfl, by decide +kernel, by decide +kernel⟩
theorem sc_l_parts : FnScope ["_law_numbers_here", "_law_modes", "_law_names", "_law_rows", "_law_number", "_law_closings", "_law_turn", "_law_inner"] ["_law_numbers_here", "_law_modes"] (defScope s_l_parts) := ⟨rfl, rfl, rfl, by decide +kernel, rfl, by decide +kernel, by decide +kernel⟩
theorem sc_l_known : FnScope ["_law_script", "_law_modes", "_law_first", "_law_known_here", "_law_number", "_law_numbers_here", "_law_k", "_law_parts_here"] ["_law_script", "_law_modes", "_law_first"] (defScope s_l_known) := ⟨rfl, rfl, rfl, by decide +kernel, rfl, by decide +kernel, by decide +kernel⟩
theorem sc_l_text : FnScope ["_law_parts_here", "_law_found", "_law_part"] ["_law_parts_here"] (defScope s_l_text) := ⟨rfl, rfl, rfl, by decide +kernel, rfl, by decide +kernel, by decide +kernel⟩
theorem sc_law : FnScope ["_law_script", "_law_first", "_law_modes", "_law_known_here", "_law_due", "_law_rules", "_law_mode", "_law_tag_here", "_law_parts_here", "_law_found"] ["_law_script"] (defScope s_law) := ⟨rfl, rfl, rfl, by decide +kernel, rfl, by decide +kernel, by decide +kernel⟩
abbrev blts : List Str := ["isinstance", "len", "list", "max", "min", "range", "sorted", "str", "tuple"]
section
variable {P : Program} {w : World} {K : PySem.W.Frag} {mg : Str → Option Value} {base : Heap} {f : Addr} {fd : FuncData}
theorem pg_tupK {X : Cx} {K : PySem.W.Frag} {es : List Expr} {k : Nat} {t : TGs} {n : Nat} {pos : Pos} (hK : X.K = K) (hc : X.calm = true) (h : PGs X es t) (hn : (assignEach es X.env).length = n := by rfl) (hst : (assignEach es X.env).findIdx? (·.1) = none := by rfl) : PG X (.Tuple es k pos) (gTup K n t) := by
  subst hK
  exact pg_tup hc h hn hst
theorem bt_sorted : bootBuiltins "sorted" = some (.builtin "sorted") := by decide +kernel
/-- a tuple, and the empty one -/
theorem op_eq_nilT {X : Cx} (hu : X.A.units + 200 < cLine) : OpR X (compareOp .Eq) (fun x y H Q => ∃ a b xs, x = .ref a ∧ y = .ref b ∧ SqT X.K H a xs ∧ SqT X.K H b [] ∧ Q (.bl xs.isEmpty) H) := by
  intro pins s σ H x y v u Q I rx ry h
  obtain ⟨a, b, xs, rfl, rfl, ha, hb, q⟩ := h
  cases rx
  cases ry
  obtain ⟨its, r1, p1, z1⟩ := I.tuple ha
  obtain ⟨its2, r2, p2, z2⟩ := I.tuple hb
  cases r2
  refine PySem.SeqAt.eq_tupleAt (e := fun _ => false) p1 p2 (by omega) (fun j j1 j2 => absurd j2 (by simp)) ⟨.bl _, H, I, rfl, ?_⟩
  have e : ((List.range (min its.toArray.size (List.toArray ([] : List Value)).size)).all (fun _ => false) && its.toArray.size == (List.toArray ([] : List Value)).size) = xs.isEmpty := by
    cases r1 with
    | nil => simp
    | cons _ _ => simp
  rw [e]
  exact q
def dg (n : Int) : Str := Str.ofString (toString n)
theorem dg_is {n : Int} (h0 : 0 ≤ n) (h1 : n ≤ 4) : dg n = ⟨#[48 + n.toNat]⟩ := by
  have : n = 0 ∨ n = 1 ∨ n = 2 ∨ n = 3 ∨ n = 4 := by omega
  rcases this with rfl | rfl | rfl | rfl | rfl <;> decide
theorem dg_len {n : Int} (h0 : 0 ≤ n) (h1 : n ≤ 4) : (dg n).length = 1 := by
  rw [dg_is h0 h1]
  rfl
theorem dg_log {n : Int} (h0 : 0 ≤ n) (h1 : n ≤ 4) : n.natAbs.log2 < 1920 := by
  have : n = 0 ∨ n = 1 ∨ n = 2 ∨ n = 3 ∨ n = 4 := by omega
  rcases this with rfl | rfl | rfl | rfl | rfl <;> decide
mutual
/-- the value is a part that is written so: at most so deep, so many parts -/
inductive Pt (H : Hp) : V → Str → Nat → Nat → Prop
  | kid {r : Addr} {n : Int} {d : Nat} : H r = some (.tup [.str "kids", .int n]) → 0 ≤ n → n ≤ 3 → Pt H (.ref r) (dg n) d 1
  | tag {r q : Addr} {t : Str} {ws : List V} {ts : List Str} {d s : Nat} : H r = some (.tup [.str "tag", .str t, .ref q]) → H q = some (.tup ws) → t.length ≤ 8 → Pts H ws ts d s → Pt H (.ref r) (treeT t ts) (d + 1) (s + 1)
inductive Pts (H : Hp) : List V → List Str → Nat → Nat → Prop
  | nil {d : Nat} : Pts H [] [] d 0
  | cons {x : V} {t : Str} {vs : List V} {ts : List Str} {d s1 s2 : Nat} : Pt H x t d s1 → Pts H vs ts d s2 → Pts H (x :: vs) (t :: ts) d (s1 + s2)
end
mutual
theorem Pt.mono {H H' : Hp} (k : TK H H') : ∀ {x : V} {t : Str} {d s : Nat}, Pt H x t d s → Pt H' x t d s
  | _, _, _, _, .kid h a b => .kid (k _ _ h) a b
  | _, _, _, _, .tag h1 h2 h3 h4 => .tag (k _ _ h1) (k _ _ h2) h3 (h4.mono k)
theorem Pts.mono {H H' : Hp} (k : TK H H') : ∀ {vs : List V} {ts : List Str} {d s : Nat}, Pts H vs ts d s → Pts H' vs ts d s
  | _, _, _, _, .nil => .nil
  | _, _, _, _, .cons h1 h2 => .cons (h1.mono k) (h2.mono k)
end
theorem Pts.snoc {H : Hp} {x : V} {t : Str} {s1 : Nat} : ∀ {vs : List V} {ts : List Str} {d s : Nat}, Pts H vs ts d s → Pt H x t d s1 → Pts H (vs ++ [x]) (ts ++ [t]) d (s + s1)
  | _, _, _, _, .nil, h => by rw [Nat.zero_add]; exact .cons h .nil
  | _, _, _, _, .cons h1 h2, h => by rw [Nat.add_assoc]; exact .cons h1 (h2.snoc h)
theorem Pts.get {H : Hp} : ∀ {vs : List V} {ts : List Str} {d s i : Nat} {x : V}, Pts H vs ts d s → vs[i]? = some x → ∃ t s1, Pt H x t d s1 ∧ ts[i]? = some t ∧ s1 ≤ s
  | _, _, _, _, i, _, .nil, h => by simp at h
  | _, _, _, _, 0, _, .cons h1 h2, e => by cases e; exact ⟨_, _, h1, rfl, Nat.le_add_right _ _⟩
  | _, _, _, _, i + 1, x, .cons h1 h2, e => by
    obtain ⟨t, s1, a, b, c⟩ := Pts.get (i := i) (x := x) h2 (by simpa using e)
    exact ⟨t, s1, a, by simpa using b, Nat.le_trans c (Nat.le_add_left _ _)⟩
theorem Pts.len {H : Hp} : ∀ {vs : List V} {ts : List Str} {d s : Nat}, Pts H vs ts d s → vs.length = ts.length
  | _, _, _, _, .nil => rfl
  | _, _, _, _, .cons _ h2 => by simp [h2.len]
mutual
theorem Pt.text {H : Hp} : ∀ {x : V} {t : Str} {d s : Nat}, Pt H x t d s → t.length + 1 ≤ 12 * s
  | _, _, _, _, .kid _ a b => by rw [dg_len a (by omega)]; omega
  | _, _, _, _, @Pt.tag _ _ _ t _ ts _ s h1 h2 h3 h4 => by
    have := h4.text
    have := treeT_len t ts
    omega
theorem Pts.text {H : Hp} : ∀ {vs : List V} {ts : List Str} {d s : Nat}, Pts H vs ts d s → (ts.map (·.length)).sum + ts.length ≤ 12 * s
  | _, _, _, _, .nil => Nat.le_refl _
  | _, _, _, _, .cons h1 h2 => by
    have := h1.text
    have := h2.text
    simp only [List.map_cons, List.sum_cons, List.length_cons]
    omega
end
theorem Pts.join {H : Hp} {vs : List V} {ts : List Str} {d s : Nat} (h : Pts H vs ts d s) : (Txt.join " " ts).length ≤ 12 * s := by
  have := h.text
  have h2 := len_le_sum " " ts
  have : ts.length * (" " : Str).length = ts.length := Nat.mul_one _
  omega
theorem Pts.nil_iff {H : Hp} {vs : List V} {ts : List Str} {d s : Nat} (h : Pts H vs ts d s) : vs.isEmpty = ts.isEmpty := by
  cases h <;> rfl
def spSP (d : Nat) : Sp := fun vs H Q _ => ∃ a ws ts d' s, vs = [.ref a] ∧ H a = some (.tup ws) ∧ Pts H ws ts d' s ∧ d' + 1 = d ∧ s ≤ 100 ∧ ∀ H', Same H H' → Q (.str (Txt.join " " ts)) H'
def spSp1 (d : Nat) : Sp := fun vs H Q _ => ∃ r t s, vs = [.ref r] ∧ Pt H (.ref r) t d s ∧ s ≤ 100 ∧ ∀ H', Same H H' → Q (.str t) H'
/-- a rule: how it is written -/
def ruleT (n : Int) (tag : Str) (ts : List Str) : Str := dg n ++ " " ++ tag ++ " = " ++ (if ts = [] then ("{}" : Str) else Txt.join " " ts)
def RuleR (H : Hp) (x : V) (z : Str) : Prop := ∃ r q n tag ws ts s, x = .ref r ∧ H r = some (.tup [.int n, .str tag, .ref q]) ∧ H q = some (.tup ws) ∧ Pts H ws ts 12 s ∧ s ≤ 100 ∧ 0 ≤ n ∧ n ≤ 3 ∧ tag.length ≤ 8 ∧ z = ruleT n tag ts
theorem RuleR.mono {H H' : Hp} (k : TK H H') {x : V} {z : Str} (h : RuleR H x z) : RuleR H' x z := by
  obtain ⟨r, q, n, tag, ws, ts, s, e, h1, h2, h3, h4⟩ := h
  exact ⟨r, q, n, tag, ws, ts, s, e, k _ _ h1, k _ _ h2, h3.mono k, h4⟩
theorem rule_len {n : Int} {tag : Str} {ts : List Str} {H : Hp} {ws : List V} {s : Nat} (h : Pts H ws ts 12 s) (hs : s ≤ 100) (h0 : 0 ≤ n) (h1 : n ≤ 3) (h8 : tag.length ≤ 8) : (ruleT n tag ts).length ≤ 1300 := by
  have := h.join
  unfold ruleT
  rw [app_len, app_len, app_len, app_len, dg_len h0 (by omega)]
  have e : (if ts = [] then ("{}" : Str) else Txt.join " " ts).length ≤ 1200 := by
    split
    · decide
    · omega
  show 1 + 1 + tag.length + 3 + _ ≤ 1300
  omega
def spRule : Sp := fun vs H Q _ => ∃ n tag q ws ts s, vs = [.int n, .str tag, .ref q] ∧ H q = some (.tup ws) ∧ Pts H ws ts 12 s ∧ s ≤ 100 ∧ 0 ≤ n ∧ n ≤ 3 ∧ tag.length ≤ 8 ∧ ∀ H', Same H H' → Q (.str (ruleT n tag ts)) H'
def Rules (H : Hp) : List V → List Str → Prop := Paired (RuleR H)
theorem Rules.mono {H H' : Hp} (k : TK H H') : ∀ {xs : List V} {zs : List Str}, Rules H xs zs → Rules H' xs zs
  | _, _, .nil => .nil
  | _, _, .cons a b => .cons (a.mono k) (Rules.mono k b)
theorem Rules.get {H : Hp} : ∀ {xs : List V} {zs : List Str} {i : Nat} {x : V}, Rules H xs zs → xs[i]? = some x → ∃ z, zs[i]? = some z ∧ RuleR H x z
  | _, _, i, _, .nil, h => by simp at h
  | _, _, 0, _, .cons a _, e => by cases e; exact ⟨_, rfl, a⟩
  | _, _, i + 1, x, .cons _ b, e => by
    obtain ⟨z, h1, h2⟩ := Rules.get (i := i) (x := x) b (by simpa using e)
    exact ⟨z, by simpa using h1, h2⟩
theorem Rules.snoc {H : Hp} {x : V} {z : Str} (h : RuleR H x z) : ∀ {xs : List V} {zs : List Str}, Rules H xs zs → Rules H (xs ++ [x]) (zs ++ [z])
  | _, _, .nil => .cons h .nil
  | _, _, .cons a b => .cons a (Rules.snoc h b)
theorem RuleR.text {H : Hp} {x : V} {z : Str} (h : RuleR H x z) : z.length ≤ 1300 := by
  obtain ⟨r, q, n, tag, ws, ts, s, e, h1, h2, h3, h4, h5, h6, h7, rfl⟩ := h
  exact rule_len h3 h4 h5 h6 h7
theorem Rules.text {H : Hp} : ∀ {xs : List V} {zs : List Str}, Rules H xs zs → (zs.map (·.length)).sum ≤ 1300 * zs.length
  | _, _, .nil => Nat.le_refl _
  | _, _, .cons a b => by
    have := a.text
    have := Rules.text b
    simp only [List.map_cons, List.sum_cons, List.length_cons]
    omega
def spShown79 : Sp := fun vs H Q _ => ∃ a m q xs zs, vs = [.ref a] ∧ H a = some (.tup [.int m, .ref q]) ∧ H q = some (.tup xs) ∧ Rules H xs zs ∧ xs.length ≤ 100 ∧ 0 ≤ m ∧ m ≤ 4 ∧ ∀ H', Q (.str (Txt.join "; " (dg m :: zs))) H'
theorem jn_snoc (sep y : Str) : ∀ (x : Str) (xs : List Str), jn sep (x :: xs ++ [y]) = jn sep (x :: xs) ++ cs sep ++ cs y
  | x, [] => by show cs x ++ (cs sep ++ cs y) = cs x ++ cs sep ++ cs y; rw [List.append_assoc]
  | x, z :: r => by
    show cs x ++ (cs sep ++ jn sep (z :: r ++ [y])) = cs x ++ (cs sep ++ jn sep (z :: r)) ++ cs sep ++ cs y
    rw [jn_snoc sep y z r]
    simp only [List.append_assoc]
theorem join_snoc (sep x y : Str) (xs : List Str) : Txt.join sep (x :: (xs ++ [y])) = Txt.join sep (x :: xs) ++ sep ++ y := by
  apply cs_inj
  have h := jn_snoc sep y x xs
  rw [cs_app, cs_app, cs_join, cs_join]
  exact h
theorem join_one (sep x : Str) : Txt.join sep [x] = x := by
  apply cs_inj
  rw [cs_join]
  rfl
theorem str_assoc (x y z : Str) : x ++ y ++ z = x ++ (y ++ z) := by
  apply cs_inj
  rw [cs_app, cs_app, cs_app, cs_app, List.append_assoc]
theorem str_nil (x : Str) : x ++ ("" : Str) = x := by
  apply cs_inj
  rw [cs_app]
  exact List.append_nil _
/-- the law's own text of parts -/
def spTx (K : PySem.W.Frag) (d : Nat) : Sp := fun vs H Q _ => ∃ a ws ts d' s, vs = [.ref a] ∧ H a = some (.tup ws) ∧ Pts H ws ts d' s ∧ d' + 1 = d ∧ s ≤ 100 ∧ ∀ H', Same H H' → Q (.str (Txt.join " " ts)) H'
def spNums79 (K : PySem.W.Frag) : Sp := fun vs H Q _ => ∃ (a : Addr) (ns : List Int) (st m : Int), vs = [.ref a, .int st, .int m] ∧ SqL K H a (ns.map V.int) ∧ ns.length ≤ 63 ∧ 0 ≤ m ∧ m ≤ 400 ∧
  ∀ (r : Addr) (xs : List Int) (H' : Hp), Same H H' → H r = none → H' r = some (.lst (xs.map V.int)) → xs.length = m.toNat → (∀ x ∈ xs, 0 ≤ x ∧ x < 2147483647) → Q (.ref r) H'
def spTag79 : Sp := fun vs H Q _ => ∃ n : Int, vs = [.int n] ∧ ∀ t : Str, t.length ≤ 8 → Q (.str t) H
def spParts (K : PySem.W.Frag) : Sp := fun vs H Q _ => ∃ (a : Addr) (ns : List Int) (m : Int), vs = [.ref a, .int m] ∧ SqL K H a (ns.map V.int) ∧ ns.length ≤ 60 ∧ 1 ≤ m ∧ m ≤ 4 ∧
  ∀ (r : Addr) (ws : List V) (ts : List Str) (s : Nat) (H' : Hp), Same H H' → H' r = some (.tup ws) → Pts H' ws ts 12 s → s ≤ 60 → Q (.ref r) H'
/-- what the law knows: by number and tag, parts -/
def Known (H : Hp) (m : Int) (kvs : List (List Key × V)) : Prop := ∀ p ∈ kvs, ∃ n tag r ws ts s, p.1 = [Sum.inl n, Sum.inr tag] ∧ 0 ≤ n ∧ n < m ∧ tag.length ≤ 8 ∧ p.2 = .ref r ∧ H r = some (.tup ws) ∧ Pts H ws ts 12 s ∧ s ≤ 60
theorem Known.mono {H H' : Hp} {m : Int} {kvs : List (List Key × V)} (h : Known H m kvs) (k : TK H H') : Known H' m kvs := fun p hp => by
  obtain ⟨n, tag, r, ws, ts, s, e, h0, h1, h8, e2, h2, h3, h4⟩ := h p hp
  exact ⟨n, tag, r, ws, ts, s, e, h0, h1, h8, e2, k _ _ h2, h3.mono k, h4⟩
def spKnown (K : PySem.W.Frag) : Sp := fun vs H Q _ => ∃ (a : Addr) (ns : List Int) (m f : Int), vs = [.ref a, .int m, .int f] ∧ SqL K H a (ns.map V.int) ∧ ns.length ≤ 63 ∧ 1 ≤ m ∧ m ≤ 4 ∧
  ∀ (d : Addr) (kvs : List (List Key × V)) (H' : Hp), Same H H' → H' d = some (.dT kvs) → kvs.length ≤ 40 → Known H' m kvs → Q (.ref d) H'
theorem comp_tup {K : PySem.W.Frag} {a p : Addr} {xs : List V} {g : TG} {te : TE} {R : Hp → Prop} {σ0 : St} {H0 : Hp} (Pv : Nat → List V → St → Hp → Prop) (h0 : Pv 0 [] σ0 H0)
    (hl : ∀ i ys σ H, i ≤ xs.length → Pv i ys σ H → SqT K H a xs ∧ H p = some (.lst ys))
    (hs : ∀ i ys x σ H, i < xs.length → xs[i]? = some x → Pv i ys σ H → g x σ H fun σ3 H4 => te σ3 H4 fun v H5 => H5 p = some (.lst ys) ∧ ys.length < sizeLine ∧ ∃ m', m' < xs.length - i ∧ CW xs.length Pv (i + 1) m' (ys ++ [v]) σ3 (upd H5 p (.lst (ys ++ [v]))))
    (hd : ∀ ys σ H, Pv xs.length ys σ H → R H) :
    ∃ W : Nat → Nat → List V → St → Hp → Prop, (∃ m, W 0 m [] σ0 H0) ∧ ∀ i m ys σc H2, W i m ys σc H2 → H2 p = some (.lst ys) ∧ (((Itt K a).stop i H2 ∧ R H2) ∨ ((Itt K a).go i H2 ∧ ∀ x H3, (Itt K a).yld i H2 x H3 → g x σc H3 fun σ3 H4 => te σ3 H4 fun v H5 =>
      H5 p = some (.lst ys) ∧ ys.length < sizeLine ∧ ∃ m', m' < m ∧ W (i + 1) m' (ys ++ [v]) σ3 (upd H5 p (.lst (ys ++ [v]))))) := by
  refine ⟨CW xs.length Pv, ⟨_, rfl, Nat.zero_le _, h0⟩, ?_⟩
  rintro i m ys σ H ⟨rfl, hi, hp⟩
  obtain ⟨h1, h2⟩ := hl i ys σ H hi hp
  refine ⟨h2, ?_⟩
  by_cases hlt : i < xs.length
  · refine .inr ⟨⟨xs, xs[i], h1, List.getElem?_eq_getElem hlt⟩, ?_⟩
    rintro x H3 ⟨rfl, hx⟩
    exact hs i ys x σ _ hlt (hx xs h1) hp
  · refine .inl ⟨⟨xs, h1, by omega⟩, hd ys σ H ?_⟩
    have e : i = xs.length := by omega
    rw [← e]
    exact hp
theorem ok_shown_part (d : Nat) (B : ∀ x ∈ blts, mg x = none) (g_shown_parts : Has P w K mg base "shown_parts" ["parts"] (2 * d + 1) (spSP d)) (F : Fun K "shown_part" "shown_part" s_shown_part f fd) : FnOk P w K mg base CX0 (2 * d + 2) f fd ["part"] (spSp1 d) := by
  refine F.ok sc_shown_part (fun vs H Q E h => ?_) (fun cdv A outer s H vs Q E hr h => ?_)
  · obtain ⟨r, t, s, rfl, _⟩ := h
    rfl
  obtain ⟨r, t, sz, rfl, hP, hs, q⟩ := h
  refine ⟨_, (pss_cons (ps_if (pt_cmpR op_eq (pe_ix ix_tup (pv 0) pe_int (fun _ _ => rfl)) pe_str (nomark _))
      (pss_one (ps_ret (pe_callTy call_str_int rfl (B "str" (by decide)) bt_str (pa_cons (pe_ix ix_tup (pv 0) pe_int (fun _ _ => rfl)) pa_nil))))
      pss_nil)
    (pss_one (ps_ret (pe_ifExp (pt_truth (pe_ix ix_tup (pv 0) pe_int (fun _ _ => rfl)) (fun _ => rfl)) (pe_op op_add_str (pe_op op_add_str (pe_op op_add_str (pe_ix ix_tup (pv 0) pe_int (fun _ _ => rfl)) pe_str) (pe_has g_shown_parts hr rfl (pa_cons (pe_ix ix_tup (pv 0) pe_int (fun _ _ => rfl)) pa_nil) (by omega))) pe_str) (pe_ix ix_tup (pv 0) pe_int (fun _ _ => rfl)))))), ?_⟩
  cases hP with
  | @kid _ n _ h1 h2 h3 =>
    refine ⟨_, rfl, r, _, 0, _, rfl, rfl, SqT.of h1, rfl, rfl, _, rfl, iteT ?_⟩
    exact ⟨_, rfl, r, _, 1, _, rfl, rfl, SqT.of h1, rfl, n, rfl, dg_log h2 (by omega), q H (Same.refl H)⟩
  | @tag _ q0 t ws ts d s h1 h2 h3 h4 =>
    have hj := h4.join
    refine ⟨_, rfl, r, _, 0, _, rfl, rfl, SqT.of h1, rfl, rfl, _, rfl, iteF ?_⟩
    refine ⟨_, rfl, r, _, 2, _, rfl, rfl, SqT.of h1, rfl, !ws.isEmpty, .inr (.inl ⟨ws, SqT.of h2, rfl⟩), ?_⟩
    unfold treeT at q
    rw [h4.nil_iff]
    cases ts with
    | nil =>
      rw [if_pos rfl] at q
      exact ite2 (fun z => nomatch z) fun _ => ⟨_, rfl, r, _, 1, _, rfl, rfl, SqT.of h1, rfl, q H (Same.refl H)⟩
    | cons t1 tr =>
      rw [if_neg (by simp)] at q
      refine ite2 (fun _ => ?_) (fun z => absurd rfl z)
      refine ⟨_, rfl, r, _, 1, _, rfl, rfl, SqT.of h1, rfl, _, _, rfl, rfl, len1000 (by show t.length + 1 ≤ _; omega), ?_⟩
      refine ⟨_, rfl, r, _, 2, _, rfl, rfl, SqT.of h1, rfl, q0, ws, _, d, s, rfl, h2, h4, rfl, by omega, fun H1 s1 => ?_⟩
      exact ⟨_, _, rfl, rfl, len1000 (by rw [app_len]; show t.length + 1 + _ ≤ _; omega), _, _, rfl, rfl, len1000 (by rw [app_len, app_len]; show t.length + 1 + _ + 1 ≤ _; omega), q H1 s1⟩
theorem ok_shown_parts (d : Nat) (B : ∀ x ∈ blts, mg x = none) (g_shown_part : Has P w K mg base "shown_part" ["part"] (2 * d + 2) (spSp1 d)) (F : Fun K "shown_parts" "shown_parts" s_shown_parts f fd) : FnOk P w K mg base CX0 (2 * d + 3) f fd ["parts"] (spSP (d + 1)) := by
  refine F.ok sc_shown_parts (fun vs H Q E h => ?_) (fun cdv A outer s H vs Q E hr h => ?_)
  · obtain ⟨a, ws, ts, d', s, rfl, _⟩ := h
    rfl
  obtain ⟨a, ws, ts, d', sz, rfl, ha, hP, hd, hs, q⟩ := h
  obtain rfl : d' = d := by omega
  have hl := hP.len
  have ht := hP.text
  refine ⟨_, (pss_one (ps_ret (pe_bm PySem.F.plainAttrs_str PySem.F.slot_str_join PySem.F.type_str_join mt_join pe_str (pa_cons (pe_comp (cl := []) ["part"] [] (pi_tup (pv 0)) (fun _ _ _ _ => (pg_name (i := 0) nd1 rfl (Or.inl rfl))) (fun _ _ _ _ => (pe_has g_shown_part hr rfl (pa_cons (pv 0) pa_nil) (by omega))) rfl rfl (by decide) rfl (by decide) (fun _ _ h => nomatch h) (nofree (by decide)) (fun _ _ h => nomatch h) (fun _ => rfl)) pa_nil)))), ?_⟩
  refine ⟨rfl, _, rfl, a, rfl, ⟨ws, SqT.of ha⟩, fun pl hpl => comp_tup (K := K) (a := a) (p := pl) (xs := ws) (fun i ys σ H2 => ∃ v0 : Option V, σ = [v0] ∧ Same H H2 ∧ H2 pl = some (.lst ys) ∧ ys = (ts.take i).map V.str)
    ⟨none, rfl, Same.new hpl, upd_same, rfl⟩ ?_ ?_ ?_⟩
  · rintro i ys σ H2 _ ⟨v0, _, sm, hp2, _⟩
    exact ⟨SqT.of (sm _ _ ha), hp2⟩
  · rintro i ys x σ H2 hi hx ⟨v0, rfl, sm, hp2, rfl⟩
    obtain ⟨t, s1, k1, k2, k3⟩ := hP.get hx
    obtain ⟨r, rfl⟩ : ∃ r, x = .ref r := by cases k1 <;> exact ⟨_, rfl⟩
    refine ⟨_, rfl, r, t, s1, rfl, k1.mono sm.tk, by omega, fun H3 s3 => ⟨s3 _ _ hp2, len1000' (by rw [List.length_map, List.length_take]; omega), CW.next hi ⟨_, rfl, (sm.trans s3).upd_new hpl, upd_same, ?_⟩⟩⟩
    obtain ⟨hil, hie⟩ := List.getElem?_eq_some_iff.mp k2
    rw [List.take_succ_eq_append_getElem hil, hie, List.map_append]
    rfl
  · rintro ys σ H2 ⟨v0, rfl, sm, hp2, rfl⟩
    rw [hl, List.take_length] at hp2
    refine ⟨" ", pl, ts, rfl, rfl, SqL.of hp2, ?_, q H2 sm⟩
    show _ + _ * 1 ≤ _
    omega
theorem ok_shown_rule (B : ∀ x ∈ blts, mg x = none) (g_shown_parts : Has P w K mg base "shown_parts" ["parts"] 27 (spSP 13)) (F : Fun K "shown_rule" "shown_rule" s_shown_rule f fd) : FnOk P w K mg base CX0 28 f fd ["mode", "tag", "parts"] spRule := by
  refine F.ok sc_shown_rule (fun vs H Q E h => ?_) (fun cdv A outer s H vs Q E hr h => ?_)
  · obtain ⟨n, tag, q, ws, ts, s, rfl, _⟩ := h
    rfl
  obtain ⟨n, tag, qa, ws, ts, sz, rfl, hq, hP, hs, h0, h1, h8, q⟩ := h
  have hj := hP.join
  have hd := dg_len h0 (show n ≤ 4 by omega)
  refine ⟨_, (pss_one (ps_ret (pe_op op_add_str (pe_joined (pj_cons (pe_fv (pv 0)) (pj_cons pe_str (pj_cons (pe_fv (pv 1)) (pj_cons pe_str pj_nil))))) (pe_ifExp (pt_truth (pv 2) (fun _ => rfl)) (pe_has g_shown_parts hr rfl (pa_cons (pv 2) pa_nil)) pe_str)))), ?_⟩
  have e0 : ∀ x : Str, Str.empty ++ x = x := fun x => by
    apply cs_inj
    rw [cs_app]
    exact List.nil_append _
  refine ⟨_, rfl, .inr ⟨n, rfl, dg_log h0 (by omega), ?_⟩⟩
  change ∃ y, V.str (dg n) = .str y ∧ _
  refine ⟨_, rfl, len1000 (by rw [e0]; omega), ?_⟩
  rw [e0]
  refine ⟨_, rfl, len1000 (by rw [app_len]; show _ + 1 ≤ _; omega), ?_⟩
  refine ⟨_, rfl, .inl ⟨tag, rfl, len1000 (by omega), _, rfl, len1000 (by rw [app_len, app_len]; show _ + 1 + _ ≤ _; omega), ?_⟩⟩
  refine ⟨_, rfl, len1000 (by rw [app_len, app_len, app_len]; show _ + 1 + _ + 3 ≤ _; omega), len1000 (by rw [app_len, app_len, app_len]; show _ + 1 + _ + 3 ≤ _; omega), ?_⟩
  refine ⟨_, rfl, !ws.isEmpty, .inr (.inl ⟨ws, SqT.of hq, rfl⟩), ?_⟩
  unfold ruleT at q
  rw [hP.nil_iff]
  cases ts with
  | nil =>
    rw [if_pos rfl] at q
    refine ite2 (fun z => nomatch z) fun _ => ⟨_, _, rfl, rfl, ?_, q H (Same.refl H)⟩
    exact len1000 (by rw [app_len, app_len, app_len]; show _ + 1 + _ + 3 + 2 ≤ _; omega)
  | cons t1 tr =>
    rw [if_neg (by simp)] at q
    refine ite2 (fun _ => ?_) (fun z => absurd rfl z)
    refine ⟨_, rfl, qa, ws, _, 12, sz, rfl, hq, hP, rfl, hs, fun H1 s1 => ?_⟩
    exact ⟨_, _, rfl, rfl, len1000 (by rw [app_len, app_len, app_len]; show _ + 1 + _ + 3 + _ ≤ _; omega), q H1 s1⟩
set_option maxHeartbeats 4000000 in
theorem ok_shown (B : ∀ x ∈ blts, mg x = none) (g_shown_rule : Has P w K mg base "shown_rule" ["mode", "tag", "parts"] 28 spRule) (F : Fun K "shown" "shown" s_shown f fd) : FnOk P w K mg base CX0 29 f fd ["changer"] spShown79 := by
  refine F.ok sc_shown (fun vs H Q E h => ?_) (fun cdv A outer s H vs Q E hr h => ?_)
  · obtain ⟨a, m, q, xs, zs, rfl, _⟩ := h
    rfl
  obtain ⟨a, m, qa, xs, zs, rfl, ha, hq, hR, hl, h0, h1, q⟩ := h
  have hzl : xs.length = zs.length := Paired.length hR
  have htx := hR.text
  refine ⟨_, (pss_one (ps_ret (pe_bm PySem.F.plainAttrs_str PySem.F.slot_str_join PySem.F.type_str_join mt_join pe_str (pa_cons (pe_op op_cat (pe_lst (pa_cons (pe_callTy call_str_int rfl (B "str" (by decide)) bt_str (pa_cons (pe_ix ix_tup (pv 0) pe_int (fun _ _ => rfl)) pa_nil)) pa_nil)) (pe_comp (cl := []) ["mode", "tag", "parts"] [] (pi_tup (pe_ix ix_tup (pv 0) pe_int (fun _ _ => rfl))) (fun _ _ _ _ => (pg_tupK (K := K) (n := 3) rfl rfl (pgs_cons (pg_name (i := 0) (show List.Nodup (["mode", "tag", "parts"] : List Str) by decide) rfl (Or.inl rfl)) (pgs_cons (pg_name (i := 1) (show List.Nodup (["mode", "tag", "parts"] : List Str) by decide) rfl (Or.inl rfl)) (pgs_cons (pg_name (i := 2) (show List.Nodup (["mode", "tag", "parts"] : List Str) by decide) rfl (Or.inl rfl)) pgs_nil))))) (fun _ _ _ _ => (pe_has g_shown_rule hr rfl (pa_cons (pv 0) (pa_cons (pv 1) (pa_cons (pv 2) pa_nil))))) rfl rfl (by decide) rfl (by decide) (fun _ _ h => nomatch h) (nofree (by decide)) (fun _ _ h => nomatch h) (fun _ => rfl))) pa_nil)))), ?_⟩
  refine ⟨rfl, _, rfl, a, _, 0, _, rfl, rfl, SqT.of ha, rfl, m, rfl, dg_log h0 h1, (by show 1 ≤ sizeLine; decide), fun b hb => ?_⟩
  have s1 : Same H (upd H b (.lst [.str (dg m)])) := Same.new hb
  have hb1 : (upd H b (.lst [.str (dg m)])) b = some (.lst [.str (dg m)]) := upd_same
  have s1 : Same H (upd H b (.lst [.str (dg m)])) := Same.new hb
  have hb1 : (upd H b (.lst [.str (dg m)])) b = some (.lst [.str (dg m)]) := upd_same
  change (fun H1 => tComp _ _ _ _ _ _ H1 _) (upd H b (.lst [.str (dg m)]))
  generalize upd H b (.lst [.str (dg m)]) = H1 at s1 hb1 ⊢
  refine ⟨_, rfl, a, _, 1, _, rfl, rfl, SqT.of (s1 _ _ ha), rfl, qa, rfl, ⟨xs, SqT.of (s1 _ _ hq)⟩, fun pl hpl => comp_tup (K := K) (a := qa) (p := pl) (xs := xs) (fun i ys σ H2 => ∃ v0 v1 v2 : Option V, σ = [v0, v1, v2] ∧ Same H1 H2 ∧ H2 pl = some (.lst ys) ∧ ys = (zs.take i).map V.str)
    ⟨none, none, none, rfl, Same.new hpl, upd_same, rfl⟩ ?_ ?_ ?_⟩
  · rintro i ys σ H2 _ ⟨v0, v1, v2, _, sm, hp2, _⟩
    exact ⟨SqT.of (sm _ _ (s1 _ _ hq)), hp2⟩
  · rintro i ys x σ H2 hi hx ⟨v0, v1, v2, rfl, sm, hp2, rfl⟩
    obtain ⟨z, hz, r, q1, n, tag, ws, ts, sz, rfl, k1, k2, k3, k4, k5, k6, k7, rfl⟩ := hR.get hx
    have s12 := s1.trans sm
    refine ⟨r, _, rfl, SqT.of (s12 _ _ k1), rfl, _, _, rfl, _, _, rfl, _, _, rfl, rfl, ?_⟩
    refine ⟨_, rfl, _, rfl, _, rfl, n, tag, q1, ws, ts, sz, rfl, s12 _ _ k2, k3.mono s12.tk, k4, k5, k6, k7, fun H3 s3 => ⟨s3 _ _ hp2, len1000' (by rw [List.length_map, List.length_take]; omega), CW.next hi ⟨_, _, _, rfl, (sm.trans s3).upd_new hpl, upd_same, ?_⟩⟩⟩
    obtain ⟨hil, hie⟩ := List.getElem?_eq_some_iff.mp hz
    rw [List.take_succ_eq_append_getElem hil, hie, List.map_append]
    rfl
  · rintro ys σ H2 ⟨v0, v1, v2, rfl, sm, hp2, rfl⟩
    rw [hzl, List.take_length] at hp2
    refine ⟨b, pl, [.str (dg m)], zs.map V.str, rfl, rfl, sm _ _ hb1, hp2, len1000 (by rw [List.length_map]; show 1 + _ ≤ _; omega), fun c hc => ?_⟩
    refine ⟨"; ", c, dg m :: zs, rfl, rfl, SqL.of upd_same, ?_, q _⟩
    have := dg_len h0 h1
    simp only [List.map_cons, List.sum_cons, List.length_cons]
    show (dg m).length + _ + _ * 2 ≤ _
    omega
theorem digit_at {n : Int} (h0 : 0 ≤ n) (h1 : n ≤ 3) : ∃ c, atI (Str.cps "0123").toList n = some c ∧ (⟨#[c]⟩ : Str) = dg n := by
  have : n = 0 ∨ n = 1 ∨ n = 2 ∨ n = 3 := by omega
  rcases this with rfl | rfl | rfl | rfl
  · exact ⟨48, rfl, (dg_is (n := 0) (by decide) (by decide)).symm⟩
  · exact ⟨49, rfl, (dg_is (n := 1) (by decide) (by decide)).symm⟩
  · exact ⟨50, rfl, (dg_is (n := 2) (by decide) (by decide)).symm⟩
  · exact ⟨51, rfl, (dg_is (n := 3) (by decide) (by decide)).symm⟩
set_option maxHeartbeats 4000000 in
theorem ok_l_text (d : Nat) (B : ∀ x ∈ blts, mg x = none) (g_l_text : Has P w K mg base "_law_text" ["_law_parts_here"] d (spTx K d)) (F : Fun K "_law_text" "_law_text" s_l_text f fd) : FnOk P w K mg base CX0 (d + 1) f fd ["_law_parts_here"] (spTx K (d + 1)) := by
  refine F.ok sc_l_text (fun vs H Q E h => ?_) (fun cdv A outer s H vs Q E hr h => ?_)
  · obtain ⟨a, ws, ts, d', s, rfl, _⟩ := h
    rfl
  obtain ⟨a, ws, ts, d', sz, rfl, ha, hP, hd, hs, q⟩ := h
  obtain rfl : d' = d := by omega
  have hu := hu_room hr
  have hl := hP.len
  have ht := hP.text
  refine ⟨_, (pss_cons (ps_set (i := 1) sc_l_text.nd rfl (Or.inl rfl) (pe_lst pa_nil))
    (pss_cons (ps_for PassesOwn.never rfl (pi_tup (pv 0)) (pg_name (i := 2) sc_l_text.nd rfl (Or.inl rfl))
      (pss_one (ps_if (pt_cmpR op_eq (pe_ix ix_tup (pv 2) pe_int (fun _ _ => rfl)) pe_str (nomark _))
          (pss_one (ps_expr (pe_bm PySem.F.plainAttrs_list PySem.F.slot_list_append PySem.F.type_list_append mt_append (pv 1) (pa_cons (pe_ix ix_str pe_str (pe_ix ix_tup (pv 2) pe_int (fun _ _ => rfl)) (fun _ _ => rfl)) pa_nil))))
          (pss_one (ps_if (pt_cmpR (op_eq_nilT hu) (pe_ix ix_tup (pv 2) pe_int (fun _ _ => rfl)) (pe_tup pa_nil) (nomark _))
              (pss_one (ps_expr (pe_bm PySem.F.plainAttrs_list PySem.F.slot_list_append PySem.F.type_list_append mt_append (pv 1) (pa_cons (pe_ix ix_tup (pv 2) pe_int (fun _ _ => rfl)) pa_nil))))
              (pss_one (ps_expr (pe_bm PySem.F.plainAttrs_list PySem.F.slot_list_append PySem.F.type_list_append mt_append (pv 1) (pa_cons (pe_op op_add_str (pe_op op_add_str (pe_op op_add_str (pe_ix ix_tup (pv 2) pe_int (fun _ _ => rfl)) pe_str) (pe_has g_l_text hr rfl (pa_cons (pe_ix ix_tup (pv 2) pe_int (fun _ _ => rfl)) pa_nil) (by omega))) pe_str) pa_nil)))))))))
    (pss_one (ps_ret (pe_bm PySem.F.plainAttrs_str PySem.F.slot_str_join PySem.F.type_str_join mt_join pe_str (pa_cons (pv 1) pa_nil)))))), ?_⟩
  refine ⟨by decide, fun p hp => ?_⟩
  have s0 : Same H (upd H p (.lst [])) := Same.new hp
  refine ⟨_, rfl, a, rfl, ⟨ws, SqT.of (s0 _ _ ha)⟩, for_tup (K := K) (a := a) (xs := ws) (fun i σ H2 => ∃ v2 : Option V, σ = [some (.ref a), some (.ref p), v2] ∧ Same H H2 ∧ H2 p = some (.lst ((ts.take i).map V.str)))
    ⟨none, rfl, s0, upd_same⟩ ?_ ?_ ?_⟩
  · rintro i σ H2 _ ⟨v2, _, sm, _⟩
    exact SqT.of (sm _ _ ha)
  · rintro i x σ H2 hx ⟨v2, rfl, sm, hp2⟩
    obtain ⟨t, s1, k1, k2, k3⟩ := hP.get hx
    obtain ⟨hil, hie⟩ := List.getElem?_eq_some_iff.mp k2
    have htk : (ts.take (i + 1)).map V.str = (ts.take i).map V.str ++ [.str t] := by
      rw [List.take_succ_eq_append_getElem hil, hie, List.map_append]
      rfl
    have hpl : ((ts.take i).map V.str).length < sizeLine := len1000' (by rw [List.length_map, List.length_take]; omega)
    have k1 := k1.mono sm.tk
    cases k1 with
    | @kid r n _ h1 h2 h3 =>
      obtain ⟨c, hc, hcd⟩ := digit_at h2 h3
      refine ⟨_, rfl, r, _, 0, _, rfl, rfl, SqT.of h1, rfl, rfl, _, rfl, iteT ?_⟩
      refine ⟨_, rfl, .inl ⟨rfl, _, SqL.of hp2⟩, _, rfl, r, _, 1, _, rfl, rfl, SqT.of h1, rfl, _, _, c, rfl, rfl, (by decide), hc, p, _, _, rfl, rfl, hp2, hpl, ?_⟩
      rw [hcd]
      exact ⟨_, rfl, sm.upd_new hp, by rw [upd_same, htk]⟩
    | @tag r q0 tg ws1 ts1 d s h1 h2 h3 h4 =>
      have hj := h4.join
      have hq0 := h2
      refine ⟨_, rfl, r, _, 0, _, rfl, rfl, SqT.of h1, rfl, rfl, _, rfl, iteF ?_⟩
      refine ⟨_, rfl, r, _, 2, _, rfl, rfl, SqT.of h1, rfl, by decide, fun e he => ?_⟩
      have se : Same H2 (upd H2 e (.tup [])) := Same.new he
      refine ⟨q0, e, ws1, rfl, rfl, SqT.of (se _ _ h2), SqT.of upd_same, _, rfl, ?_⟩
      have sm2 := sm.trans se
      have hp3 := se _ _ hp2
      have h1e := se _ _ h1
      have h2e := se _ _ h2
      have h4e := h4.mono se.tk
      generalize upd H2 e (.tup []) = H3 at sm2 hp3 h1e h2e h4e ⊢
      rw [h4.nil_iff]
      unfold treeT at htk
      cases ts1 with
      | nil =>
        rw [if_pos rfl] at htk
        refine ite2 (fun _ => ?_) (fun z => absurd rfl z)
        exact ⟨_, rfl, .inl ⟨rfl, _, SqL.of hp3⟩, _, rfl, r, _, 1, _, rfl, rfl, SqT.of h1e, rfl, p, _, _, rfl, rfl, hp3, hpl, _, rfl, sm2.upd_new hp, by rw [upd_same, htk]⟩
      | cons t1 tr =>
        rw [if_neg (by simp)] at htk
        refine ite2 (fun z => nomatch z) (fun _ => ?_)
        refine ⟨_, rfl, .inl ⟨rfl, _, SqL.of hp3⟩, _, rfl, r, _, 1, _, rfl, rfl, SqT.of h1e, rfl, _, _, rfl, rfl, len1000 (by show tg.length + 1 ≤ _; omega), ?_⟩
        refine ⟨_, rfl, r, _, 2, _, rfl, rfl, SqT.of h1e, rfl, q0, ws1, _, d, s, rfl, h2e, h4e, rfl, by omega, fun H4 s4 => ?_⟩
        refine ⟨_, _, rfl, rfl, len1000 (by rw [app_len]; show tg.length + 1 + _ ≤ _; omega), _, _, rfl, rfl, len1000 (by rw [app_len, app_len]; show tg.length + 1 + _ + 1 ≤ _; omega), ?_⟩
        exact ⟨p, _, _, rfl, rfl, s4 _ _ hp3, hpl, _, rfl, (sm2.trans s4).upd_new hp, by rw [upd_same, htk]⟩
  · rintro σ H2 ⟨v2, rfl, sm, hp2⟩
    rw [hl, List.take_length] at hp2
    refine ⟨rfl, _, rfl, " ", p, ts, rfl, rfl, SqL.of hp2, ?_, q H2 sm⟩
    show _ + _ * 1 ≤ _
    omega
theorem ok_l_cell_at (B : ∀ x ∈ blts, mg x = none) (F : Fun K "_law_cell_at" "_law_cell_at" s_l_cell_at f fd) : FnOk P w K mg base CX0 1 f fd ["_law_script", "_law_k"] (spCell K) := by
  refine F.ok sc_l_cell_at (fun vs H Q E h => ?_) (fun cdv A outer s H vs Q E hr h => ?_)
  · obtain ⟨a, ns, k, rfl, _⟩ := h
    rfl
  obtain ⟨a, ns, k, rfl, hS, h63, h0, q⟩ := h
  refine ⟨_, (pss_cons (ps_if (pt_cmpR op_lt (pv 1) (pe_callB call_len_seq rfl (B "len" (by decide)) PySem.boot_len (pa_cons (pv 0) pa_nil)) (nomark _))
      (pss_one (ps_ret (pe_ix ix_list (pv 0) (pv 1) (fun _ _ => rfl))))
      pss_nil)
    (pss_one (ps_ret pe_int))), ?_⟩
  refine ⟨_, rfl, _, rfl, a, _, rfl, .inl hS, _, _, rfl, rfl, _, rfl, ?_⟩
  refine ite2 (fun c => ?_) (fun c => ?_)
  · have c' := of_decide_eq_true c
    rw [List.length_map] at c'
    obtain ⟨v, hv⟩ := ints_at (ns := ns) h0 c'
    exact ⟨_, rfl, _, rfl, a, _, k, _, rfl, rfl, hS, hv, q v⟩
  · exact q 0
theorem ok_l_numbers (B : ∀ x ∈ blts, mg x = none) (g_l_cell_at : Has P w K mg base "_law_cell_at" ["_law_script", "_law_k"] 1 (spCell K)) (F : Fun K "_law_numbers" "_law_numbers" s_l_numbers f fd) :
    FnOk P w K mg base CX0 2 f fd ["_law_script", "_law_first", "_law_many"] (spNums79 K) := by
  refine F.ok sc_l_numbers (fun vs H Q E h => ?_) (fun cdv A outer s H vs Q E hr h => ?_)
  · obtain ⟨a, ns, st, m, rfl, _⟩ := h
    rfl
  obtain ⟨a, ns, st, m, rfl, hS, h63, h0, h1, q⟩ := h
  refine ⟨_, (pss_cons (ps_set (i := 3) sc_l_numbers.nd rfl (Or.inl rfl) (pe_lst pa_nil))
    (pss_cons (ps_set (i := 4) sc_l_numbers.nd rfl (Or.inl rfl) (pe_op op_add pe_int (pv 1)))
    (pss_cons (ps_for PassesOwn.never rfl (pi_range1 rfl (B "range" (by decide)) (pa_cons (pv 2) pa_nil)) (pg_name (i := 5) sc_l_numbers.nd rfl (Or.inl rfl))
      (pss_cons (ps_set (i := 6) sc_l_numbers.nd rfl (Or.inl rfl) (pe_has g_l_cell_at hr rfl (pa_cons (pv 0) (pa_cons (pe_op op_add pe_int (pe_op op_mod (pe_op op_add (pv 1) (pv 5)) (pe_callB (call_max2 rfl) rfl (B "max" (by decide)) bt_max (pa_cons pe_int (pa_cons (pe_op op_sub (pe_callB call_len_seq rfl (B "len" (by decide)) PySem.boot_len (pa_cons (pv 0) pa_nil)) pe_int) pa_nil))))) pa_nil))))
        (pss_cons (ps_set (i := 4) sc_l_numbers.nd rfl (Or.inl rfl) (pe_op op_mod (pe_op op_add (pe_op op_add (pe_op op_mul (pv 4) pe_int) (pv 6)) (pe_op op_mul (pv 5) (pv 5))) pe_int))
        (pss_one (ps_expr (pe_bm PySem.F.plainAttrs_list PySem.F.slot_list_append PySem.F.type_list_append mt_append (pv 3) (pa_cons (pv 4) pa_nil)))))))
    (pss_one (ps_ret (pv 3)))))), ?_⟩
  refine ⟨by decide, fun p hp => ?_⟩
  refine ⟨_, rfl, _, _, rfl, rfl, ?_⟩
  refine ⟨_, rfl, m, rfl, by omega, by omega, for_range (lo := 0) (n := m.toNat) (fun i σ H1 => ∃ (xs : List Int) (num : Int) (v4 v5 : Option V), σ = [some (.ref a), some (.int st), some (.int m), some (.ref p), some (.int num), v4, v5] ∧
    Same H H1 ∧ H1 p = some (.lst (xs.map V.int)) ∧ xs.length = i ∧ (∀ x ∈ xs, 0 ≤ x ∧ x < 2147483647)) ⟨[], _, none, none, rfl, Same.new hp, upd_same, rfl, fun _ h => nomatch h⟩ ?_ ?_⟩
  · rintro i σ H1 hi ⟨xs, num, v4, v5, rfl, sm, hp1, hl, hx⟩
    have hS1 := sm.seq hS
    refine ⟨_, rfl, _, rfl, _, rfl, _, _, rfl, rfl, _, rfl, a, _, rfl, .inl hS1, _, _, rfl, rfl, _, _, rfl, _, _, rfl, rfl, ?_, _, _, rfl, rfl, a, ns, _, rfl, hS1, h63, ?_, fun v => ?_⟩
    · exact max_pos _
    · have := Int.emod_nonneg (st + (0 + (i : Int))) (Int.ne_of_gt (max_pos (((ns.map V.int).length : Int) - 1)))
      omega
    refine ⟨_, rfl, _, _, rfl, rfl, .inr ⟨by decide, by decide⟩, _, rfl, _, _, rfl, rfl, _, rfl, _, rfl, _, _, rfl, rfl, .inl ⟨by omega, by omega⟩, _, _, rfl, rfl, _, _, rfl, rfl, (by show (0 : Int) < 2147483647; decide), ?_⟩
    refine ⟨_, rfl, .inl ⟨rfl, _, SqL.of hp1⟩, _, rfl, p, _, _, rfl, rfl, hp1, len1000' (by rw [List.length_map]; omega), ?_⟩
    refine ⟨xs ++ [(num * 48271 + v + (0 + (i : Int)) * (0 + (i : Int))) % 2147483647], _, _, _, rfl, sm.upd_new hp, ?_, ?_, ?_⟩
    · rw [upd_same, List.map_append]
      rfl
    · rw [List.length_append, hl]
      rfl
    · intro x hx'
      rcases List.mem_append.mp hx' with hx' | hx'
      · exact hx x hx'
      · obtain rfl := List.mem_singleton.mp hx'
        exact ⟨Int.emod_nonneg _ (by decide), Int.emod_lt_of_pos _ (by decide)⟩
  · rintro σ H1 ⟨xs, num, v4, v5, rfl, sm, hp1, hl, hx⟩
    exact ⟨_, rfl, q p xs H1 sm hp hp1 hl hx⟩
theorem ok_l_tag (B : ∀ x ∈ blts, mg x = none) (F : Fun K "_law_tag" "_law_tag" s_l_tag f fd) : FnOk P w K mg base CX0 1 f fd ["_law_number"] spTag79 := by
  refine F.ok sc_l_tag (fun vs H Q E h => ?_) (fun cdv A outer s H vs Q E hr h => ?_)
  · obtain ⟨n, rfl, _⟩ := h
    rfl
  obtain ⟨n, rfl, q⟩ := h
  have a0 : Let0 "a" := by intro c hc; revert c; decide
  refine ⟨_, (pss_cons (ps_set (i := 1) sc_l_tag.nd rfl (Or.inl rfl) pe_str)
    (pss_cons (ps_if (pt_cmpR op_eq (pe_op op_mod (pv 0) pe_int) pe_int (nomark _))
      (pss_one (ps_ret (pe_op op_add_str (pe_ix ix_str (pv 1) (pe_op op_mod (pe_op op_fdiv (pv 0) pe_int) pe_int) (fun _ _ => rfl)) (pe_op op_mul_str pe_str (pe_op op_mod (pe_op op_fdiv (pv 0) pe_int) pe_int)))))
      pss_nil)
    (pss_cons (ps_set (i := 2) sc_l_tag.nd rfl (Or.inl rfl) pe_str)
    (pss_cons (ps_for PassesOwn.never rfl (pi_range1 rfl (B "range" (by decide)) (pa_cons (pe_op op_add pe_int (pe_op op_mod (pe_op op_fdiv (pv 0) pe_int) pe_int)) pa_nil)) (pg_name (i := 3) sc_l_tag.nd rfl (Or.inl rfl))
      (pss_cons (ps_set (i := 0) sc_l_tag.nd rfl (Or.inl rfl) (pe_op op_mod (pe_op op_add (pe_op op_mul (pv 0) pe_int) (pv 3)) pe_int))
        (pss_one (ps_set (i := 2) sc_l_tag.nd rfl (Or.inl rfl) (pe_op op_add_str (pv 2) (pe_ix ix_str (pv 1) (pe_op op_mod (pv 0) pe_int) (fun _ _ => rfl)))))))
    (pss_one (ps_ret (pv 2))))))), ?_⟩
  -- number % 4 == 0
  refine ⟨_, rfl, _, _, rfl, rfl, (by show (0 : Int) < 4; decide), rfl, _, rfl, ?_⟩
  refine ite2 (fun _ => ?_) (fun _ => ?_)
  · obtain ⟨c, hc, c1, c2⟩ := abc_at (i := n / 4 % 3) (Int.emod_nonneg _ (by decide)) (Int.lt_trans (Int.emod_lt_of_pos _ (by decide)) (by decide))
    have e1 := Int.emod_nonneg (n / 12) (by decide : (8 : Int) ≠ 0)
    have e2 := Int.emod_lt_of_pos (n / 12) (by decide : (0 : Int) < 8)
    refine ⟨_, rfl, _, rfl, _, _, rfl, rfl, ⟨by decide, by decide⟩, _, _, rfl, rfl, (by show (0 : Int) < 3; decide), _, _, c, rfl, rfl, (by decide), hc, ?_⟩
    refine ⟨_, rfl, _, _, rfl, rfl, ⟨by decide, by decide⟩, _, _, rfl, rfl, (by show (0 : Int) < 8; decide), _, _, rfl, rfl, by omega, by omega, ?_, _, _, rfl, rfl, ?_, ?_⟩
    · show (n / 12 % 8).toNat * 1 ≤ sizeLine
      exact len1000 (by omega)
    · rw [repS_len]
      show 1 + (n / 12 % 8).toNat * 1 ≤ sizeLine
      exact len1000 (by omega)
    · refine q _ ?_
      rw [app_len, repS_len]
      show 1 + (n / 12 % 8).toNat * 1 ≤ 8
      omega
  -- letter by letter
  have e1 := Int.emod_nonneg (n / 4) (by decide : (8 : Int) ≠ 0)
  have e2 := Int.emod_lt_of_pos (n / 4) (by decide : (0 : Int) < 8)
  refine ⟨_, rfl, _, _, rfl, rfl, ⟨by decide, by decide⟩, _, _, rfl, rfl, (by show (0 : Int) < 8; decide), _, _, rfl, rfl, _, rfl, by omega, by omega, for_range (lo := 0) (n := (1 + n / 4 % 8).toNat)
    (fun i σ H1 => ∃ (n' : Int) (t : Str) (v4 : Option V), σ = [some (.int n'), some (.str ABC), some (.str t), v4] ∧ H1 = H ∧ Let0 t ∧ t.length = i) ⟨n, Str.empty, none, rfl, rfl, (fun c hc => nomatch hc), rfl⟩ ?_ ?_⟩
  · rintro i σ H1 hi ⟨n', t, v4, rfl, rfl, ht, hl⟩
    have m1 := Int.emod_nonneg (n' * 69621 + (0 + (i : Int))) (by decide : (2147483629 : Int) ≠ 0)
    have m2 := Int.emod_lt_of_pos (n' * 69621 + (0 + (i : Int))) (by decide : (0 : Int) < 2147483629)
    refine ⟨_, rfl, _, _, rfl, rfl, .inr ⟨by decide, by decide⟩, _, rfl, _, _, rfl, rfl, _, _, rfl, rfl, (by show (0 : Int) < 2147483629; decide), ?_⟩
    obtain ⟨c, hc, c1, c2⟩ := abc_at (i := (n' * 69621 + (0 + (i : Int))) % 2147483629 % 26) (Int.emod_nonneg _ (by decide)) (Int.emod_lt_of_pos _ (by decide))
    refine ⟨_, rfl, _, rfl, _, rfl, _, _, rfl, rfl, (by show (0 : Int) < 26; decide), _, _, c, rfl, rfl, (by decide), hc, _, _, rfl, rfl, ?_, ?_⟩
    · show t.length + 1 ≤ sizeLine
      exact len1000 (by omega)
    · refine ⟨_, t ++ ⟨#[c]⟩, _, rfl, rfl, let0_app ht (lets_one c1 c2).let0, ?_⟩
      rw [app_len, hl]
      rfl
  · rintro σ H1 ⟨n', t, v4, rfl, rfl, ht, hl⟩
    exact ⟨_, rfl, q t (by omega)⟩
/-- the rows under way, the inmost first: what is in them, how deep at most -/
inductive RowsP (H : Hp) : Nat → List Addr → List Nat → Prop
  | nil {d : Nat} : RowsP H d [] []
  | cons {a : Addr} {vs : List V} {ts : List Str} {d s : Nat} {as : List Addr} {ss : List Nat} : H a = some (.lst vs) → Pts H vs ts d s → vs.length ≤ s → RowsP H (d + 1) as ss → RowsP H d (a :: as) (s :: ss)
theorem RowsP.mono {H H' : Hp} (k : TK H H') : ∀ {d : Nat} {as : List Addr} {ss : List Nat}, RowsP H d as ss → (∀ b ∈ as, ∀ o, H b = some o → H' b = some o) → RowsP H' d as ss
  | _, _, _, .nil, _ => .nil
  | _, _, _, .cons h1 h2 h3 h4, hk => .cons (hk _ (List.mem_cons_self ..) _ h1) (h2.mono k) h3 (h4.mono k fun b hb => hk b (List.mem_cons_of_mem _ hb))
theorem RowsP.there {H : Hp} : ∀ {d : Nat} {as : List Addr} {ss : List Nat}, RowsP H d as ss → ∀ b ∈ as, ∃ vs, H b = some (.lst vs)
  | _, _, _, .nil, _, hb => nomatch hb
  | _, _, _, .cons h1 _ _ h4, b, hb => by
    rcases List.mem_cons.mp hb with rfl | hb
    · exact ⟨_, h1⟩
    · exact h4.there b hb
/-- what stands while the law makes parts -/
structure PSt (H H1 : Hp) (T R : Addr) (as : List Addr) (ts : List Str) (ss : List Nat) (d : Nat) : Prop where
  same : Same H H1
  hT : H1 T = some (.lst (ts.map V.str).reverse)
  hR : H1 R = some (.lst (as.map V.ref).reverse)
  rows : RowsP H1 d as ss
  nd : (R :: T :: as).Nodup
  fr : ∀ b ∈ R :: T :: as, H b = none
  len : as.length = ts.length + 1
  tl : ∀ t ∈ ts, t.length ≤ 8
  dd : d + ts.length = 12
theorem PSt.old {H H1 H2 : Hp} {T R : Addr} {as : List Addr} {ts : List Str} {ss : List Nat} {d : Nat} (h : PSt H H1 T R as ts ss d) (s : Same H1 H2) : PSt H H2 T R as ts ss d :=
  ⟨h.same.trans s, s _ _ h.hT, s _ _ h.hR, h.rows.mono s.tk fun b _ o e => s _ _ e, h.nd, h.fr, h.len, h.tl, h.dd⟩
theorem PSt.neRT {H H1 : Hp} {T R : Addr} {as : List Addr} {ts : List Str} {ss : List Nat} {d : Nat} (h : PSt H H1 T R as ts ss d) : R ≠ T := fun e => (List.nodup_cons.mp h.nd).1 (by rw [e]; exact List.mem_cons_self ..)
theorem PSt.neR {H H1 : Hp} {T R : Addr} {as : List Addr} {ts : List Str} {ss : List Nat} {d : Nat} (h : PSt H H1 T R as ts ss d) : ∀ b ∈ as, b ≠ R := fun b hb e => (List.nodup_cons.mp h.nd).1 (by rw [← e]; exact List.mem_cons_of_mem _ hb)
theorem PSt.neT {H H1 : Hp} {T R : Addr} {as : List Addr} {ts : List Str} {ss : List Nat} {d : Nat} (h : PSt H H1 T R as ts ss d) : ∀ b ∈ as, b ≠ T := fun b hb e => (List.nodup_cons.mp (List.nodup_cons.mp h.nd).2).1 (by rw [← e]; exact hb)
theorem nodup_drop1 {R T b : Addr} {as : List Addr} (h : (R :: T :: b :: as).Nodup) : (R :: T :: as).Nodup := by
  simp only [List.nodup_cons, List.mem_cons, not_or] at h ⊢
  exact ⟨⟨h.1.1, h.1.2.2⟩, h.2.1.2, h.2.2.2⟩
/-- a part is added to the inmost row -/
theorem PSt.add {H H1 : Hp} {T R b0 : Addr} {as : List Addr} {ts : List Str} {s0 : Nat} {ss : List Nat} {d : Nat} (h : PSt H H1 T R (b0 :: as) ts (s0 :: ss) d) {vs : List V} (hb : H1 b0 = some (.lst vs)) {x : V} {t : Str} {s1 : Nat} (p1 : 1 ≤ s1) (hx : Pt H1 x t d s1) :
    PSt H (upd H1 b0 (.lst (vs ++ [x]))) T R (b0 :: as) ts ((s0 + s1) :: ss) d := by
  have m0 : b0 ∈ b0 :: as := List.mem_cons_self ..
  have tk : TK H1 (upd H1 b0 (.lst (vs ++ [x]))) := TK.lst hb
  obtain ⟨rR, rT⟩ := List.nodup_cons.mp h.nd
  have n0 : b0 ∉ as := (List.nodup_cons.mp (List.nodup_cons.mp rT).2).1
  refine ⟨h.same.upd_new (h.fr b0 (by simp)), by rw [upd_ne (h.neT b0 m0).symm]; exact h.hT, by rw [upd_ne (h.neR b0 m0).symm]; exact h.hR, ?_, h.nd, h.fr, h.len, h.tl, h.dd⟩
  cases h.rows with
  | cons h1 h2 h3 h4 =>
    rw [hb] at h1
    cases h1
    refine .cons upd_same ((h2.mono tk).snoc (hx.mono tk)) (by rw [List.length_append, List.length_singleton]; omega) (h4.mono tk fun b hb' o e => ?_)
    rw [upd_ne (fun z => n0 (by rw [← z]; exact hb'))]
    exact e
/-- a row is opened -/
theorem PSt.opened {H H1 : Hp} {T R l : Addr} {as : List Addr} {ts : List Str} {ss : List Nat} {d : Nat} {t : Str} (h : PSt H H1 T R as ts ss (d + 1)) (ht : t.length ≤ 8) (hl : H1 l = none) (nlT : l ≠ T) :
    PSt H (upd (upd (upd H1 T (.lst ((ts.map V.str).reverse ++ [.str t]))) l (.lst [])) R (.lst ((as.map V.ref).reverse ++ [.ref l]))) T R (l :: as) (t :: ts) (0 :: ss) d := by
  have nlR : R ≠ l := ne_of_none h.hR hl
  have nla : l ∉ as := fun hb => by
    obtain ⟨o, ho⟩ := h.rows.there l hb
    rw [hl] at ho
    cases ho
  have hTa := h.neT
  have hRa := h.neR
  have hRT := h.neRT
  have hl2 : (upd H1 T (.lst ((ts.map V.str).reverse ++ [.str t]))) l = none := by rw [upd_ne nlT]; exact hl
  have hR3 : (upd (upd H1 T (.lst ((ts.map V.str).reverse ++ [.str t]))) l (.lst [])) R = some (.lst (as.map V.ref).reverse) := by rw [upd_ne nlR, upd_ne hRT]; exact h.hR
  have tk : TK H1 (upd (upd (upd H1 T (.lst ((ts.map V.str).reverse ++ [.str t]))) l (.lst [])) R (.lst ((as.map V.ref).reverse ++ [.ref l]))) := ((TK.lst h.hT).trans (TK.new hl2)).trans (TK.lst hR3)
  have fr := h.fr
  refine ⟨((h.same.upd_new (fr T (by simp))).upd_new (h.same.free hl)).upd_new (fr R (by simp)), ?_, ?_, ?_, ?_, ?_, ?_, ?_, ?_⟩
  · rw [upd_ne hRT.symm, upd_ne nlT.symm, upd_same, List.map_cons, List.reverse_cons]
  · rw [upd_same, List.map_cons, List.reverse_cons]
  · refine .cons (by rw [upd_ne nlR.symm]; exact upd_same) .nil (Nat.le_refl _) (h.rows.mono tk fun b hb o e => ?_)
    rw [upd_ne (hRa b hb), upd_ne (ne_of_none e hl), upd_ne (hTa b hb)]
    exact e
  · have := h.nd
    simp only [List.nodup_cons, List.mem_cons, not_or] at this ⊢
    exact ⟨⟨this.1.1, nlR, this.1.2⟩, ⟨nlT.symm, this.2.1⟩, nla, this.2.2⟩
  · intro b hb
    rcases List.mem_cons.mp hb with rfl | hb
    · exact fr _ (by simp)
    rcases List.mem_cons.mp hb with rfl | hb
    · exact fr _ (by simp)
    rcases List.mem_cons.mp hb with rfl | hb
    · exact h.same.free hl
    · exact fr b (by simp [hb])
  · have := h.len
    simp only [List.length_cons]
    omega
  · intro x hx
    rcases List.mem_cons.mp hx with rfl | hx
    · exact ht
    · exact h.tl x hx
  · have := h.dd
    simp only [List.length_cons]
    omega
/-- the inmost row is closed: popped from the rows, its tag popped from the names -/
theorem PSt.popped {H H1 : Hp} {T R b0 l : Addr} {as : List Addr} {ts : List Str} {s0 : Nat} {ss : List Nat} {d : Nat} {t : Str} {vs : List V} (h : PSt H H1 T R (b0 :: as) (t :: ts) (s0 :: ss) d) (hb : H1 b0 = some (.lst vs)) (hl : H1 l = none) :
    PSt H (upd (upd (upd H1 R (.lst (as.map V.ref).reverse)) l (.tup vs)) T (.lst (ts.map V.str).reverse)) T R as ts ss (d + 1) ∧ ∃ ts0, Pts (upd (upd (upd H1 R (.lst (as.map V.ref).reverse)) l (.tup vs)) T (.lst (ts.map V.str).reverse)) vs ts0 d s0 ∧ (upd (upd (upd H1 R (.lst (as.map V.ref).reverse)) l (.tup vs)) T (.lst (ts.map V.str).reverse)) l = some (.tup vs) := by
  have nlR : l ≠ R := (ne_of_none h.hR hl).symm
  have nlT : l ≠ T := (ne_of_none h.hT hl).symm
  have hTa := h.neT
  have hRa := h.neR
  have hRT := h.neRT
  have fr := h.fr
  have hl2 : (upd H1 R (.lst (as.map V.ref).reverse)) l = none := by rw [upd_ne nlR]; exact hl
  have hT3 : (upd (upd H1 R (.lst (as.map V.ref).reverse)) l (.tup vs)) T = some (.lst ((t :: ts).map V.str).reverse) := by rw [upd_ne nlT.symm, upd_ne hRT.symm]; exact h.hT
  have tk : TK H1 (upd (upd (upd H1 R (.lst (as.map V.ref).reverse)) l (.tup vs)) T (.lst (ts.map V.str).reverse)) := ((TK.lst h.hR).trans (TK.new hl2)).trans (TK.lst hT3)
  cases hrows : h.rows with
  | @cons _ vs' ts0 _ _ _ _ h1 h2 h3 h4 =>
    rw [hb] at h1
    cases h1
    refine ⟨⟨((h.same.upd_new (fr R (by simp))).upd_new (h.same.free hl)).upd_new (fr T (by simp)), upd_same, ?_, ?_, nodup_drop1 h.nd, ?_, ?_, ?_, ?_⟩, ts0, h2.mono tk, ?_⟩
    · rw [upd_ne hRT, upd_ne nlR.symm, upd_same]
    · refine h4.mono tk fun b hb' o e => ?_
      have mb : b ∈ b0 :: as := List.mem_cons_of_mem _ hb'
      rw [upd_ne (hTa b mb), upd_ne (ne_of_none e hl), upd_ne (hRa b mb)]
      exact e
    · intro b hb'
      refine fr b ?_
      simp only [List.mem_cons] at hb' ⊢
      rcases hb' with z | z | z
      · exact .inl z
      · exact .inr (.inl z)
      · exact .inr (.inr (.inr z))
    · have := h.len
      simp only [List.length_cons] at this
      omega
    · exact fun x hx => h.tl x (List.mem_cons_of_mem _ hx)
    · have := h.dd
      simp only [List.length_cons] at this
      omega
    · rw [upd_ne nlT, upd_same]
/-- the two statements that close a row -/
theorem closeStep {K : PySem.W.Frag} {H H1 : Hp} {D : Ends} {T R b0 b1 : Addr} {as : List Addr} {t : Str} {ts : List Str} {s0 s1 : Nat} {ss : List Nat} {d : Nat} {v0 v1 v4 v5 v6 v7 : Option V} (st : PSt H H1 T R (b0 :: b1 :: as) (t :: ts) (s0 :: s1 :: ss) d) (h1 : s1 ≤ 1000)
    (hN : ∀ v H2, PSt H H2 T R (b1 :: as) ts ((s1 + (s0 + 1)) :: ss) (d + 1) → D.nx [v0, v1, some (.ref T), some (.ref R), v4, v5, v6, v] H2) :
    tSeq (tAsg (tCB (fun xs H_1 Q => ∃ p ys, xs = [.ref p] ∧ ((SqL K H_1 p ys ∧ ∀ l, H_1 l = none → Q (.ref l) (upd H_1 l (.tup ys))) ∨ (SqT K H_1 p ys ∧ Q (.ref p) H_1))) (tCons (tBM0 K "list" rPop (tVar 3)) tNil)) (gName 7))
      (tDrop (tBM K "list" rAppend (tOp (rIxL K) (tVar 3) (tUn (rU fun i => V.int (-i)) (tC (V.int 1)))) (tCons (tTup (tCons (tC (V.str "tag")) (tCons (tBM0 K "list" rPop (tVar 2)) (tCons (tVar 7) tNil)))) tNil)))
      D [v0, v1, some (.ref T), some (.ref R), v4, v5, v6, v7] H1 := by
  obtain ⟨vs0, hb0⟩ := st.rows.there b0 (List.mem_cons_self ..)
  have hRs : H1 R = some (.lst (((b1 :: as).map V.ref).reverse ++ [.ref b0])) := by rw [st.hR, List.map_cons, List.reverse_cons]
  have hTs : H1 T = some (.lst ((ts.map V.str).reverse ++ [.str t])) := by rw [st.hT, List.map_cons, List.reverse_cons]
  have hRa := st.neR
  have hTa := st.neT
  have hRT := st.neRT
  refine ⟨_, rfl, .inl ⟨rfl, _, SqL.of hRs⟩, R, _, _, rfl, rfl, hRs, snoc_last _ _, ?_⟩
  rw [snoc_drop]
  have h0a : (upd H1 R (.lst ((b1 :: as).map V.ref).reverse)) b0 = some (.lst vs0) := by
    rw [upd_ne (hRa b0 (List.mem_cons_self ..))]
    exact hb0
  refine ⟨b0, vs0, rfl, .inl ⟨SqL.of h0a, fun l hl => ?_⟩⟩
  obtain ⟨nlR, hl1⟩ := upd_none hl
  have nlT : l ≠ T := (ne_of_none st.hT hl1).symm
  obtain ⟨st2, ts0, hP0, hl2⟩ := st.popped hb0 hl1
  have hRb : (upd (upd H1 R (.lst ((b1 :: as).map V.ref).reverse)) l (.tup vs0)) R = some (.lst ((as.map V.ref).reverse ++ [.ref b1])) := by
    rw [upd_ne nlR.symm, upd_same, List.map_cons, List.reverse_cons]
  obtain ⟨vs1, hb1⟩ := st2.rows.there b1 (List.mem_cons_self ..)
  have hb1' : (upd (upd H1 R (.lst ((b1 :: as).map V.ref).reverse)) l (.tup vs0)) b1 = some (.lst vs1) := by
    rw [upd_ne (hTa b1 (by simp))] at hb1
    exact hb1
  have hTb : (upd (upd H1 R (.lst ((b1 :: as).map V.ref).reverse)) l (.tup vs0)) T = some (.lst ((ts.map V.str).reverse ++ [.str t])) := by
    rw [upd_ne nlT.symm, upd_ne hRT.symm]
    exact hTs
  refine ⟨_, rfl, 1, rfl, R, _, -1, .ref b1, rfl, rfl, SqL.of hRb, atI_last _ _, .inl ⟨rfl, _, SqL.of hb1'⟩, _, rfl, .inl ⟨rfl, _, SqL.of hTb⟩, T, _, _, rfl, rfl, hTb, snoc_last _ _, ?_⟩
  rw [snoc_drop]
  have hl8 := st.tl t (List.mem_cons_self ..)
  generalize upd (upd (upd H1 R (.lst ((b1 :: as).map V.ref).reverse)) l (.tup vs0)) T (.lst (ts.map V.str).reverse) = H2 at st2 hP0 hl2 hb1 ⊢
  refine ⟨_, rfl, (by show 3 ≤ sizeLine; decide), fun l2 hl2n => ?_⟩
  have sn : Same H2 (upd H2 l2 (.tup [.str "tag", .str t, .ref l])) := Same.new hl2n
  have hb13 := sn _ _ hb1
  have st3 := st2.old sn
  have hl3 := sn _ _ hl2
  have hP3 := hP0.mono sn.tk
  have h23 : (upd H2 l2 (.tup [.str "tag", .str t, .ref l])) l2 = some (.tup [.str "tag", .str t, .ref l]) := upd_same
  have hv1 : vs1.length ≤ s1 := by
    cases st2.rows with
    | cons a1 a2 a3 a4 =>
      rw [hb1] at a1
      cases a1
      exact a3
  generalize upd H2 l2 (.tup [.str "tag", .str t, .ref l]) = H3 at st3 hl3 hP3 h23 hb13 ⊢
  exact ⟨b1, _, _, rfl, rfl, hb13, len1000' (by omega), hN _ _ (st3.add hb13 (by omega) (.tag h23 hl3 hl8 hP3))⟩
abbrev tClose (K : PySem.W.Frag) : TS := tSeq (tAsg (tCB (fun xs H_1 Q => ∃ p ys, xs = [.ref p] ∧ ((SqL K H_1 p ys ∧ ∀ l, H_1 l = none → Q (.ref l) (upd H_1 l (.tup ys))) ∨ (SqT K H_1 p ys ∧ Q (.ref p) H_1))) (tCons (tBM0 K "list" rPop (tVar 3)) tNil)) (gName 7))
      (tDrop (tBM K "list" rAppend (tOp (rIxL K) (tVar 3) (tUn (rU fun i => V.int (-i)) (tC (V.int 1)))) (tCons (tTup (tCons (tC (V.str "tag")) (tCons (tBM0 K "list" rPop (tVar 2)) (tCons (tVar 7) tNil)))) tNil)))
/-- what a turn does behind the number of closings -/
theorem turnTail {K : PySem.W.Frag} {H H1 : Hp} {D : Ends} {T R : Addr} {as : List Addr} {ts : List Str} {ss : List Nat} {d i : Nat} {v0 v6 v7 : Option V} {m num cl : Int} (st : PSt H H1 T R as ts ss d) (h11 : ts.length ≤ 11) (hsum : ss.sum + ts.length ≤ i) (hi : i ≤ 60) (m1 : 1 ≤ m) (m4 : m ≤ 4)
    (hcl : 10 < ts.length → cl = 3) (hc0 : 0 ≤ cl)
    (hN : ∀ as ts ss d v6 v7 H2, PSt H H2 T R as ts ss d → ts.length ≤ 11 → ss.sum + ts.length ≤ i + 1 → D.nx [v0, some (.int m), some (.ref T), some (.ref R), some (.int num), some (.int cl), v6, v7] H2) :
    tSeq (tFor (iRng1 (tCons (tCB (fun xs H Q => ∃ i j, xs = [V.int i, .int j] ∧ Q (.int (if j < i then j else i)) H) (tCons (tCB (fun xs H_1 Q => ∃ p ys, xs = [.ref p] ∧ (SqL K H_1 p ys ∨ SqT K H_1 p ys) ∧ Q (.int ys.length) H_1) (tCons (tVar 2) tNil)) (tCons (tVar 5) tNil))) tNil)) (gName 6) (tClose K))
      (tIfS (tTest (tOp rEq (tOp (rI (fun _ j => 0 < j) fun i j => V.int (i % j)) (tOp (rI CDiv fun i j => V.int (i / j)) (tVar 4) (tC (V.int 4))) (tC (V.int 3))) (tC (V.int 0))))
        (tDrop (tBM K "list" rAppend (tOp (rIxL K) (tVar 3) (tUn (rU fun i => V.int (-i)) (tC (V.int 1)))) (tCons (tTup (tCons (tC (V.str "kids")) (tCons (tOp (rI (fun _ j => 0 < j) fun i j => V.int (i % j)) (tOp (rI CDiv fun i j => V.int (i / j)) (tVar 4) (tC (V.int 12))) (tVar 1)) tNil))) tNil)))
        (tSeq (tDrop (tBM K "list" rAppend (tVar 2) (tCons (tCall spTag79 [] E0 (tCons (tOp (rI CDiv fun i j => V.int (i / j)) (tVar 4) (tC (V.int 12))) tNil)) tNil)))
          (tDrop (tBM K "list" rAppend (tVar 3) (tCons (tLst tNil) tNil)))))
      D [v0, some (.int m), some (.ref T), some (.ref R), some (.int num), some (.int cl), v6, v7] H1 := by
  have hmin : ∃ c : Nat, (if cl < (((ts.map V.str).reverse).length : Int) then cl else (((ts.map V.str).reverse).length : Int)) = (c : Int) ∧ c ≤ ts.length ∧ ts.length - c ≤ 10 := by
    rw [List.length_reverse, List.length_map]
    split
    · exact ⟨cl.toNat, by omega, by omega, by omega⟩
    · rename_i h
      exact ⟨ts.length, rfl, Nat.le_refl _, by omega⟩
  obtain ⟨c, hc, hc1, hc2⟩ := hmin
  refine ⟨_, rfl, T, _, rfl, .inl (SqL.of st.hT), _, rfl, _, _, rfl, _, (by rw [hc]), by omega, by omega, for_range (lo := 0) (n := ((c : Nat) : Int).toNat) (fun j σ H2 => ∃ (as : List Addr) (ts1 : List Str) (ss : List Nat) (d : Nat) (v6 v7 : Option V),
    σ = [v0, some (.int m), some (.ref T), some (.ref R), some (.int num), some (.int cl), v6, v7] ∧ PSt H H2 T R as ts1 ss d ∧ ts1.length + j = ts.length ∧ ss.sum + ts1.length ≤ i) ⟨as, ts, ss, d, v6, v7, rfl, st, rfl, hsum⟩ ?_ ?_⟩
  · rintro j σ H2 hj ⟨as, ts1, ss, d, v6, v7, rfl, st, hl, hsum⟩
    have hlen := st.len
    rw [Int.toNat_natCast] at hj
    cases ts1 with
    | nil => simp at hl; omega
    | cons t ts1 =>
      cases st.rows with
      | nil => simp at hlen
      | @cons b0 _ _ _ s0 as ss _ _ _ r4 =>
        cases r4 with
        | nil => simp at hlen
        | @cons b1 _ _ _ s1 as ss _ _ _ r5 =>
          simp only [List.sum_cons, List.length_cons] at hsum hl
          refine closeStep st (by omega) fun v H3 st3 => ⟨b1 :: as, ts1, (s1 + (s0 + 1)) :: ss, d + 1, _, v, rfl, st3, by omega, ?_⟩
          simp only [List.sum_cons]
          omega
  · rintro σ H2 ⟨as, ts1, ss, d, v6, v7, rfl, st, hl, hsum⟩
    rw [Int.toNat_natCast] at hl
    have hlen := st.len
    have hdd := st.dd
    refine ⟨_, rfl, _, _, rfl, rfl, ⟨by decide, by decide⟩, _, _, rfl, rfl, (by show (0 : Int) < 3; decide), rfl, _, rfl, ite2 (fun _ => ?_) (fun _ => ?_)⟩
    · cases st.rows with
      | nil => simp at hlen
      | @cons b0 vs0 tx0 _ s0 as ss r1 r2 r3 r4 =>
        have hRs : H2 R = some (.lst ((as.map V.ref).reverse ++ [.ref b0])) := by rw [st.hR, List.map_cons, List.reverse_cons]
        have k0 := Int.emod_nonneg (num / 12) (show m ≠ 0 by omega)
        have k1 := Int.emod_lt_of_pos (num / 12) (show 0 < m by omega)
        simp only [List.sum_cons] at hsum
        refine ⟨_, rfl, 1, rfl, R, _, -1, .ref b0, rfl, rfl, SqL.of hRs, atI_last _ _, .inl ⟨rfl, _, SqL.of r1⟩, _, rfl, _, _, rfl, rfl, ⟨by decide, by decide⟩, _, rfl, _, _, rfl, rfl, (show 0 < m by omega), (by show 2 ≤ sizeLine; decide), fun l2 hl2 => ?_⟩
        have sn : Same H2 (upd H2 l2 (.tup [.str "kids", .int (num / 12 % m)])) := Same.new hl2
        have hk : (upd H2 l2 (.tup [.str "kids", .int (num / 12 % m)])) l2 = some (.tup [.str "kids", .int (num / 12 % m)]) := upd_same
        have st3 := st.old sn
        have r1' := sn _ _ r1
        generalize upd H2 l2 (.tup [.str "kids", .int (num / 12 % m)]) = H3 at st3 r1' hk ⊢
        refine ⟨b0, _, _, rfl, rfl, r1', len1000' (by omega), hN _ _ _ _ _ _ _ (st3.add r1' (Nat.le_refl 1) (.kid hk k0 (by omega))) (by omega) ?_⟩
        simp only [List.sum_cons]
        omega
    · obtain ⟨d, rfl⟩ : ∃ d', d = d' + 1 := ⟨d - 1, by omega⟩
      refine ⟨_, rfl, .inl ⟨rfl, _, SqL.of st.hT⟩, _, rfl, _, _, rfl, rfl, ⟨by decide, by decide⟩, _, rfl, fun t ht => ?_⟩
      refine ⟨T, _, _, rfl, rfl, st.hT, len1000' (by rw [List.length_reverse, List.length_map]; omega), ?_⟩
      have hR2 : (upd H2 T (.lst ((ts1.map V.str).reverse ++ [.str t]))) R = some (.lst (as.map V.ref).reverse) := by rw [upd_ne st.neRT]; exact st.hR
      refine ⟨_, rfl, .inl ⟨rfl, _, SqL.of hR2⟩, by decide, fun l hl => ?_⟩
      obtain ⟨nlT, hl1⟩ := upd_none hl
      have hR3 : (upd (upd H2 T (.lst ((ts1.map V.str).reverse ++ [.str t]))) l (.lst [])) R = some (.lst (as.map V.ref).reverse) := by rw [upd_ne (ne_of_none st.hR hl1)]; exact hR2
      refine ⟨R, _, _, rfl, rfl, hR3, len1000' (by rw [List.length_reverse, List.length_map]; omega), hN _ _ _ _ _ _ _ (st.opened ht hl1 nlT) (by simp only [List.length_cons]; omega) ?_⟩
      simp only [List.sum_cons, List.length_cons]
      omega
set_option maxHeartbeats 4000000 in
theorem ok_l_parts (B : ∀ x ∈ blts, mg x = none) (g_l_tag : Has P w K mg base "_law_tag" ["_law_number"] 1 spTag79) (F : Fun K "_law_parts" "_law_parts" s_l_parts f fd) : FnOk P w K mg base CX0 2 f fd ["_law_numbers_here", "_law_modes"] (spParts K) := by
  refine F.ok sc_l_parts (fun vs H Q E h => ?_) (fun cdv A outer s H vs Q E hr h => ?_)
  · obtain ⟨a, ns, m, rfl, _⟩ := h
    rfl
  obtain ⟨a, ns, m, rfl, hS, hlen, m1, m4, q⟩ := h
  refine ⟨_, (pss_cons (ps_set (i := 2) sc_l_parts.nd rfl (Or.inl rfl) (pe_lst pa_nil))
    (pss_cons (ps_set (i := 3) sc_l_parts.nd rfl (Or.inl rfl) (pe_lst (pa_cons (pe_lst pa_nil) pa_nil)))
    (pss_cons (ps_for PassesOwn.never rfl (pi_list (pv 0)) (pg_name (i := 4) sc_l_parts.nd rfl (Or.inl rfl))
      (pss_cons (ps_set (i := 5) sc_l_parts.nd rfl (Or.inl rfl) (pe_ix ix_list (pe_lst (pa_cons pe_int (pa_cons pe_int (pa_cons pe_int (pa_cons pe_int pa_nil))))) (pe_op op_mod (pv 4) pe_int) (fun _ _ => rfl)))
        (pss_cons (ps_if (pt_cmpR op_gt (pe_callB call_len_seq rfl (B "len" (by decide)) PySem.boot_len (pa_cons (pv 2) pa_nil)) pe_int (nomark _))
          (pss_one (ps_set (i := 5) sc_l_parts.nd rfl (Or.inl rfl) pe_int))
          pss_nil)
        (pss_cons (ps_for PassesOwn.never rfl (pi_range1 rfl (B "range" (by decide)) (pa_cons (pe_callB (call_min2 rfl) rfl (B "min" (by decide)) bt_min (pa_cons (pe_callB call_len_seq rfl (B "len" (by decide)) PySem.boot_len (pa_cons (pv 2) pa_nil)) (pa_cons (pv 5) pa_nil))) pa_nil)) (pg_name (i := 6) sc_l_parts.nd rfl (Or.inl rfl))
          (pss_cons (ps_set (i := 7) sc_l_parts.nd rfl (Or.inl rfl) (pe_callTy call_tuple_of rfl (B "tuple" (by decide)) bt_tuple (pa_cons (pe_bm0 PySem.F.plainAttrs_list PySem.F.slot_list_pop PySem.F.type_list_pop mt_pop (pv 3)) pa_nil)))
            (pss_one (ps_expr (pe_bm PySem.F.plainAttrs_list PySem.F.slot_list_append PySem.F.type_list_append mt_append (pe_ix ix_list (pv 3) (pe_un un_neg pe_int) (fun _ _ => rfl)) (pa_cons (pe_tup (pa_cons pe_str (pa_cons (pe_bm0 PySem.F.plainAttrs_list PySem.F.slot_list_pop PySem.F.type_list_pop mt_pop (pv 2)) (pa_cons (pv 7) pa_nil)))) pa_nil))))))
        (pss_one (ps_if (pt_cmpR op_eq (pe_op op_mod (pe_op op_fdiv (pv 4) pe_int) pe_int) pe_int (nomark _))
          (pss_one (ps_expr (pe_bm PySem.F.plainAttrs_list PySem.F.slot_list_append PySem.F.type_list_append mt_append (pe_ix ix_list (pv 3) (pe_un un_neg pe_int) (fun _ _ => rfl)) (pa_cons (pe_tup (pa_cons pe_str (pa_cons (pe_op op_mod (pe_op op_fdiv (pv 4) pe_int) (pv 1)) pa_nil))) pa_nil))))
          (pss_cons (ps_expr (pe_bm PySem.F.plainAttrs_list PySem.F.slot_list_append PySem.F.type_list_append mt_append (pv 2) (pa_cons (pe_has g_l_tag hr rfl (pa_cons (pe_op op_fdiv (pv 4) pe_int) pa_nil)) pa_nil)))
            (pss_one (ps_expr (pe_bm PySem.F.plainAttrs_list PySem.F.slot_list_append PySem.F.type_list_append mt_append (pv 3) (pa_cons (pe_lst pa_nil) pa_nil)))))))))))
    (pss_cons (ps_while PassesOwn.never (pt_cmpR op_gt (pe_callB call_len_seq rfl (B "len" (by decide)) PySem.boot_len (pa_cons (pv 2) pa_nil)) pe_int (nomark _))
      (pss_cons (ps_set (i := 7) sc_l_parts.nd rfl (Or.inl rfl) (pe_callTy call_tuple_of rfl (B "tuple" (by decide)) bt_tuple (pa_cons (pe_bm0 PySem.F.plainAttrs_list PySem.F.slot_list_pop PySem.F.type_list_pop mt_pop (pv 3)) pa_nil)))
        (pss_one (ps_expr (pe_bm PySem.F.plainAttrs_list PySem.F.slot_list_append PySem.F.type_list_append mt_append (pe_ix ix_list (pv 3) (pe_un un_neg pe_int) (fun _ _ => rfl)) (pa_cons (pe_tup (pa_cons pe_str (pa_cons (pe_bm0 PySem.F.plainAttrs_list PySem.F.slot_list_pop PySem.F.type_list_pop mt_pop (pv 2)) (pa_cons (pv 7) pa_nil)))) pa_nil))))))
    (pss_one (ps_ret (pe_callTy call_tuple_of rfl (B "tuple" (by decide)) bt_tuple (pa_cons (pe_ix ix_list (pv 3) pe_int (fun _ _ => rfl)) pa_nil)))))))), ?_⟩
  refine ⟨by decide, fun T hT => ?_⟩
  refine ⟨by decide, fun a0 h0 => ⟨(by show 1 ≤ sizeLine; decide), fun R hR => ?_⟩⟩
  obtain ⟨n0T, h0'⟩ := upd_none h0
  obtain ⟨nR0, hR1⟩ := upd_none hR
  obtain ⟨nRT, hR'⟩ := upd_none hR1
  have st0 : PSt H (upd (upd (upd H T (.lst [])) a0 (.lst [])) R (.lst [.ref a0])) T R [a0] [] [0] 12 := by
    refine ⟨((Same.new hT).upd_new h0').upd_new hR', ?_, upd_same, ?_, ?_, ?_, rfl, (fun _ h => (nomatch h)), rfl⟩
    · rw [upd_ne nRT.symm, upd_ne n0T.symm]
      exact upd_same
    · refine .cons ?_ .nil (Nat.le_refl _) .nil
      rw [upd_ne nR0.symm]
      exact upd_same
    · simp [nRT, nR0, n0T.symm]
    · intro b hb
      simp only [List.mem_cons, List.not_mem_nil, or_false] at hb
      rcases hb with rfl | rfl | rfl
      · exact hR'
      · exact hT
      · exact h0'
  generalize upd (upd (upd H T (.lst [])) a0 (.lst [])) R (.lst [.ref a0]) = H0 at st0 ⊢
  refine ⟨_, rfl, a, rfl, ⟨_, st0.same.seq hS⟩, for_list (K := K) (a := a) (xs := ns.map V.int) (fun i σ H1 => ∃ (as : List Addr) (ts : List Str) (ss : List Nat) (d : Nat) (v4 v5 v6 v7 : Option V),
    σ = [some (.ref a), some (.int m), some (.ref T), some (.ref R), v4, v5, v6, v7] ∧ PSt H H1 T R as ts ss d ∧ ts.length ≤ 11 ∧ ss.sum + ts.length ≤ i)
    ⟨[a0], [], [0], 12, none, none, none, none, rfl, st0, by simp, by simp⟩ ?_ ?_ ?_⟩
  · rintro i σ H1 _ ⟨as, ts, ss, d, v4, v5, v6, v7, _, st, _⟩
    exact st.same.seq hS
  · rintro i x σ H1 hi ⟨as, ts, ss, d, v4, v5, v6, v7, rfl, st, h11, hsum⟩
    obtain ⟨hil, hix⟩ := List.getElem?_eq_some_iff.mp hi
    rw [List.length_map] at hil
    obtain rfl : x = V.int ns[i] := by
      rw [← hix, List.getElem_map]
    generalize ns[i] = num
    have e1 := Int.emod_nonneg num (by decide : (4 : Int) ≠ 0)
    have e2 := Int.emod_lt_of_pos num (by decide : (0 : Int) < 4)
    obtain ⟨cl, hcl⟩ := ints_at (ns := [0, 0, 1, 2]) e1 e2
    refine ⟨(by show 4 ≤ sizeLine; decide), fun L hL => ?_⟩
    have sL : Same H1 (upd H1 L (.lst [.int 0, .int 0, .int 1, .int 2])) := Same.new hL
    refine ⟨_, rfl, _, _, rfl, rfl, (by show (0 : Int) < 4; decide), L, _, _, _, rfl, rfl, SqL.of upd_same, hcl, ?_⟩
    have st := st.old sL
    generalize upd H1 L (.lst [.int 0, .int 0, .int 1, .int 2]) = H1 at st ⊢
    have hcl0 : 0 ≤ cl := by
      have hh : num % 4 = 0 ∨ num % 4 = 1 ∨ num % 4 = 2 ∨ num % 4 = 3 := by omega
      rcases hh with z | z | z | z <;> rw [z] at hcl <;> cases hcl <;> decide
    refine ⟨_, rfl, T, _, rfl, .inl (SqL.of st.hT), _, _, rfl, rfl, _, rfl, ite2 (fun c => ?_) (fun c => ?_)⟩
    · exact turnTail st h11 hsum (by omega) m1 m4 (fun _ => rfl) (by decide) fun as ts ss d v6 v7 H2 a1 a2 a3 => ⟨as, ts, ss, d, _, _, _, _, rfl, a1, a2, a3⟩
    · refine turnTail st h11 hsum (by omega) m1 m4 (fun z => absurd (decide_eq_true ?_) c) hcl0 fun as ts ss d v6 v7 H2 a1 a2 a3 => ⟨as, ts, ss, d, _, _, _, _, rfl, a1, a2, a3⟩
      rw [List.length_reverse, List.length_map]
      omega
  · rintro σ H1 ⟨as, ts, ss, d, v4, v5, v6, v7, rfl, st, h11, hsum⟩
    rw [List.length_map] at hsum
    let W : Nat → St → Hp → Prop := fun k σ H2 => ∃ (as : List Addr) (ts : List Str) (ss : List Nat) (d : Nat) (v4 v5 v6 v7 : Option V), σ = [some (.ref a), some (.int m), some (.ref T), some (.ref R), v4, v5, v6, v7] ∧ PSt H H2 T R as ts ss d ∧ ss.sum + ts.length ≤ ns.length ∧ k = ts.length
    refine ⟨W, ⟨_, as, ts, ss, d, v4, v5, v6, v7, rfl, st, hsum, rfl⟩, ?_⟩
    rintro k σ H2 ⟨as, ts, ss, d, v4, v5, v6, v7, rfl, st, hsum, rfl⟩
    have hlen := st.len
    have hdd := st.dd
    refine ⟨_, rfl, T, _, rfl, .inl (SqL.of st.hT), _, _, rfl, rfl, _, rfl, ?_⟩
    cases ts with
    | nil =>
      refine iteF ?_
      cases st.rows with
      | nil => simp at hlen
      | @cons b0 vs0 tx0 _ s0 as ss r1 r2 r3 r4 =>
        obtain rfl : as = [] := List.eq_nil_of_length_eq_zero (by simpa using hlen)
        obtain rfl : d = 12 := hdd
        simp only [List.sum_cons, List.length_nil] at hsum
        refine ⟨_, rfl, R, _, 0, .ref b0, rfl, rfl, SqL.of st.hR, rfl, b0, vs0, rfl, .inl ⟨SqL.of r1, fun r hr => ?_⟩⟩
        exact q r vs0 tx0 s0 _ (st.same.trans (Same.new hr)) upd_same (r2.mono (TK.new hr)) (by omega)
    | cons t ts =>
      have ht : decide ((0 : Int) < (((t :: ts).map V.str).reverse.length : Int)) = true := decide_eq_true (by rw [List.length_reverse, List.length_map, List.length_cons]; omega)
      refine ite2 (fun _ => ?_) (fun z => absurd ht z)
      refine ⟨fun σ' H' => ∃ m', m' < (t :: ts).length ∧ W m' σ' H', fun _ _ h => h, ?_⟩
      cases st.rows with
      | nil => simp at hlen
      | @cons b0 _ _ _ s0 as ss _ _ _ r4 =>
        cases r4 with
        | nil => simp at hlen
        | @cons b1 _ _ _ s1 as ss _ _ _ r5 =>
          simp only [List.sum_cons, List.length_cons] at hsum
          refine closeStep st (by omega) fun v H3 st3 => ⟨ts.length, by simp, b1 :: as, ts, (s1 + (s0 + 1)) :: ss, d + 1, _, _, _, v, rfl, st3, ?_, rfl⟩
          simp only [List.sum_cons]
          omega
theorem mem_putK {κ : Type} [DecidableEq κ] {kvs : List (κ × V)} {k : κ} {v : V} {p : κ × V} (h : p ∈ putK kvs k v) : p ∈ kvs ∨ p = (k, v) := by
  unfold putK at h
  split at h
  · obtain ⟨x, hx, rfl⟩ := List.mem_map.mp h
    by_cases e : x.1 = k
    · rw [if_pos e, e]
      exact .inr rfl
    · rw [if_neg e]
      exact .inl hx
  · rcases List.mem_append.mp h with h | h
    · exact .inl h
    · exact .inr (List.mem_singleton.mp h)
theorem tk_dict {H : Hp} {d : Addr} {kvs kvs' : List (List Key × V)} (h : H d = some (.dT kvs)) : TK H (upd H d (.dT kvs')) := fun b xs e => by
  rw [upd_ne (fun z => by rw [z, h] at e; cases e)]
  exact e
theorem Known.put {H : Hp} {d r : Addr} {m n : Int} {tag : Str} {kvs : List (List Key × V)} {ws : List V} {ts : List Str} {s : Nat} (h : Known H m kvs) (hd : H d = some (.dT kvs)) (h0 : 0 ≤ n) (h1 : n < m) (h8 : tag.length ≤ 8) (hr : H r = some (.tup ws)) (hP : Pts H ws ts 12 s) (hs : s ≤ 60) :
    Known (upd H d (.dT (putK kvs [Sum.inl n, Sum.inr tag] (.ref r)))) m (putK kvs [Sum.inl n, Sum.inr tag] (.ref r)) := fun p hp => by
  have tk := tk_dict (kvs' := putK kvs [Sum.inl n, Sum.inr tag] (.ref r)) hd
  rcases mem_putK hp with hp | rfl
  · exact (h.mono tk) p hp
  · exact ⟨n, tag, r, ws, ts, s, rfl, h0, h1, h8, rfl, tk _ _ hr, hP.mono tk, hs⟩
theorem cut_ints (xs : List Int) (lo hi : Option Int) : ∃ ys : List Int, cutV (xs.map V.int) lo hi = ys.map V.int ∧ ys.length ≤ xs.length := by
  refine ⟨(xs.drop (HT.sIx (xs.map V.int).length 0 lo)).take (HT.sIx (xs.map V.int).length (xs.map V.int).length hi - HT.sIx (xs.map V.int).length 0 lo), ?_, ?_⟩
  · unfold cutV
    rw [List.map_take, List.map_drop]
  · rw [List.length_take, List.length_drop]
    omega
set_option maxHeartbeats 4000000 in
theorem ok_l_known (B : ∀ x ∈ blts, mg x = none) (g_l_numbers : Has P w K mg base "_law_numbers" ["_law_script", "_law_first", "_law_many"] 2 (spNums79 K)) (g_l_tag : Has P w K mg base "_law_tag" ["_law_number"] 1 spTag79) (g_l_parts : Has P w K mg base "_law_parts" ["_law_numbers_here", "_law_modes"] 2 (spParts K))
    (F : Fun K "_law_known" "_law_known" s_l_known f fd) : FnOk P w K mg base CX0 3 f fd ["_law_script", "_law_modes", "_law_first"] (spKnown K) := by
  refine F.ok sc_l_known (fun vs H Q E h => ?_) (fun cdv A outer s H vs Q E hr h => ?_)
  · obtain ⟨a, ns, m, f, rfl, _⟩ := h
    rfl
  obtain ⟨a, ns, m, fi, rfl, hS, h63, m1, m4, q⟩ := h
  have hu1 : (A.deeper (PyProof.Rows.envOfC (Str.ofString "_law_known") (defScope s_l_known) s.heap.objs.size f cdv)).units + 1 < cLine := by have := hr.un; omega
  refine ⟨_, (pss_cons (ps_set (i := 3) sc_l_known.nd rfl (Or.inl rfl) pe_dnewT)
    (pss_cons (ps_if (pt_cmpR op_eq (pe_op op_mod (pe_op op_fdiv (pv 2) pe_int) pe_int) pe_int (nomark _))
      (pss_cons (ps_for PassesOwn.never rfl (pi_list (pe_has g_l_numbers hr rfl (pa_cons (pv 0) (pa_cons pe_int (pa_cons pe_int pa_nil))))) (pg_name (i := 4) sc_l_known.nd rfl (Or.inl rfl))
          (pss_one (ps_dput hu1 (pv 3) (pe_tup (pa_cons (pe_op op_mod (pv 4) (pv 1)) (pa_cons (pe_has g_l_tag hr rfl (pa_cons (pe_op op_fdiv (pv 4) pe_int) pa_nil)) pa_nil))) (pe_has g_l_parts hr rfl (pa_cons (pe_lst (pa_cons (pv 4) pa_nil)) (pa_cons (pv 1) pa_nil))) rfl)))
        (pss_one (ps_ret (pv 3))))
      pss_nil)
    (pss_cons (ps_if (pt_cmpR op_eq (pe_op op_mod (pe_op op_fdiv (pv 2) pe_int) pe_int) pe_int (nomark _))
      (pss_cons (ps_set (i := 5) sc_l_known.nd rfl (Or.inl rfl) (pe_has g_l_numbers hr rfl (pa_cons (pv 0) (pa_cons pe_int (pa_cons pe_int pa_nil)))))
        (pss_cons (ps_dput hu1 (pv 3) (pe_tup (pa_cons (pe_op op_mod (pe_ix ix_list (pv 5) pe_int (fun _ _ => rfl)) (pv 1)) (pa_cons (pe_has g_l_tag hr rfl (pa_cons (pe_op op_fdiv (pe_ix ix_list (pv 5) pe_int (fun _ _ => rfl)) pe_int) pa_nil)) pa_nil))) (pe_has g_l_parts hr rfl (pa_cons (pe_slice sl_list (pv 5) (po_some pe_int) po_none) (pa_cons (pv 1) pa_nil))) rfl)
        (pss_one (ps_ret (pv 3)))))
      pss_nil)
    (pss_cons (ps_set (i := 5) sc_l_known.nd rfl (Or.inl rfl) (pe_has g_l_numbers hr rfl (pa_cons (pv 0) (pa_cons pe_int (pa_cons (pe_op op_mul pe_int (pe_op op_mod (pe_op op_fdiv (pv 2) pe_int) pe_int)) pa_nil)))))
    (pss_cons (ps_for PassesOwn.never rfl (pi_range3 rfl (B "range" (by decide)) (pa_cons pe_int (pa_cons (pe_callB call_len_seq rfl (B "len" (by decide)) PySem.boot_len (pa_cons (pv 5) pa_nil)) (pa_cons pe_int pa_nil)))) (pg_name (i := 6) sc_l_known.nd rfl (Or.inl rfl))
      (pss_cons (ps_set (i := 7) sc_l_known.nd rfl (Or.inl rfl) (pe_has g_l_parts hr rfl (pa_cons (pe_slice sl_list (pv 5) (po_some (pe_op op_add (pv 6) pe_int)) (po_some (pe_op op_add (pe_op op_add (pv 6) pe_int) (pe_op op_mod (pe_op op_fdiv (pe_ix ix_list (pv 5) (pv 6) (fun _ _ => rfl)) pe_int) pe_int)))) (pa_cons (pv 1) pa_nil))))
        (pss_one (ps_dput hu1 (pv 3) (pe_tup (pa_cons (pe_op op_mod (pe_ix ix_list (pv 5) (pv 6) (fun _ _ => rfl)) (pv 1)) (pa_cons (pe_has g_l_tag hr rfl (pa_cons (pe_op op_fdiv (pe_ix ix_list (pv 5) (pv 6) (fun _ _ => rfl)) pe_int) pa_nil)) pa_nil))) (pv 7) rfl))))
    (pss_one (ps_ret (pv 3)))))))), ?_⟩
  refine fun d hd => ?_
  have s0 : Same H (upd H d (.dT [])) := Same.new hd
  have hd0 : (upd H d (.dT [])) d = some (.dT []) := upd_same
  change (fun H1 => _) (upd H d (.dT []))
  generalize upd H d (.dT []) = H0 at s0 hd0 ⊢
  refine ⟨_, rfl, _, _, rfl, rfl, ⟨by decide, by decide⟩, _, _, rfl, rfl, (by show (0 : Int) < 8; decide), rfl, _, rfl, ite2 (fun _ => ?_) (fun _ => ?_)⟩
  · refine ⟨_, rfl, a, ns, 0, 40, rfl, s0.seq hS, h63, by decide, by decide, fun r xs H1 s1 hr0 hr1 hxl hxs => ?_⟩
    have s01 := s0.trans s1
    have hd1 := s1 _ _ hd0
    refine ⟨r, rfl, ⟨_, SqL.of hr1⟩, for_list (K := K) (a := r) (xs := xs.map V.int) (fun i σ H2 => ∃ (kvs : List (List Key × V)) (v4 : Option V), σ = [some (.ref a), some (.int m), some (.int fi), some (.ref d), v4, none, none, none] ∧ Same H H2 ∧ H2 r = some (.lst (xs.map V.int)) ∧ H2 d = some (.dT kvs) ∧ kvs.length ≤ i ∧ Known H2 m kvs)
      ⟨[], none, rfl, s01, hr1, hd1, Nat.le_refl _, fun _ h => nomatch h⟩ ?_ ?_ ?_⟩
    · rintro i σ H2 _ ⟨kvs, v4, _, _, h, _⟩
      exact SqL.of h
    · rintro i x σ H2 hi ⟨kvs, v4, rfl, sm, hr2, hd2, hkl, hK⟩
      obtain ⟨hil, hix⟩ := List.getElem?_eq_some_iff.mp hi
      rw [List.length_map] at hil
      obtain rfl : x = V.int xs[i] := by
        rw [← hix, List.getElem_map]
      generalize xs[i] = num
      refine ⟨_, rfl, (by show 1 ≤ sizeLine; decide), fun L hL => ?_⟩
      have sL : Same H2 (upd H2 L (.lst [.int num])) := Same.new hL
      refine ⟨_, rfl, L, [num], m, rfl, SqL.of upd_same, (by show 1 ≤ 60; decide), m1, m4, fun pr ws ts sz H3 s3 hp3 hP3 hs3 => ?_⟩
      have s23 := sL.trans s3
      have hd3 := s23 _ _ hd2
      have hK3 := hK.mono s23.tk
      have k0 := Int.emod_nonneg num (show m ≠ 0 by omega)
      have k1 := Int.emod_lt_of_pos num (show 0 < m by omega)
      refine ⟨_, rfl, _, rfl, _, rfl, _, _, rfl, rfl, (show 0 < m by omega), _, rfl, _, _, rfl, rfl, ⟨by decide, by decide⟩, _, rfl, fun tag h8 => ⟨(by show 2 ≤ sizeLine; decide), fun b hb => ?_⟩⟩
      have s4 : Same H3 (upd H3 b (.tup [.int (num % m), .str tag])) := Same.new hb
      have hb4 : (upd H3 b (.tup [.int (num % m), .str tag])) b = some (.tup ([Sum.inl (num % m), Sum.inr tag].map kV)) := upd_same
      have hd4 := s4 _ _ hd3
      have hK4 := hK3.mono s4.tk
      have hp4 := s4 _ _ hp3
      have hP4 := hP3.mono s4.tk
      have sm4 := (sm.trans s23).trans s4
      have hr4 := (s23.trans s4) _ _ hr2
      generalize upd H3 b (.tup [.int (num % m), .str tag]) = H4 at hb4 hd4 hK4 hp4 hP4 sm4 hr4 ⊢
      have nrd : r ≠ d := fun z => by rw [z, hd4] at hr4; cases hr4
      refine ⟨d, _, rfl, DPut.t hd4 hb4 (len1000' (by omega)), ?_⟩
      refine ⟨_, _, rfl, sm4.upd_new hd, by rw [upd_ne nrd]; exact hr4, upd_same, ?_, hK4.put hd4 k0 k1 h8 hp4 hP4 hs3⟩
      have := length_putK kvs [Sum.inl (num % m), Sum.inr tag] (.ref pr)
      omega
    · rintro σ H2 ⟨kvs, v4, rfl, sm, hr2, hd2, hkl, hK⟩
      rw [List.length_map, hxl] at hkl
      exact ⟨_, rfl, q d kvs H2 sm hd2 hkl hK⟩
  refine ⟨_, rfl, _, _, rfl, rfl, ⟨by decide, by decide⟩, _, _, rfl, rfl, (by show (0 : Int) < 8; decide), rfl, _, rfl, ite2 (fun _ => ?_) (fun _ => ?_)⟩
  · refine ⟨_, rfl, a, ns, 0, 41, rfl, s0.seq hS, h63, by decide, by decide, fun r xs H1 s1 hr0 hr1 hxl hxs => ?_⟩
    have s01 := s0.trans s1
    have hd1 := s1 _ _ hd0
    obtain ⟨num, hnum⟩ := ints_at (ns := xs) (k := 0) (by decide) (by rw [hxl]; decide)
    obtain ⟨ys, hys, hyl⟩ := cut_ints xs (some 1) none
    refine ⟨_, rfl, _, rfl, r, _, rfl, SqL.of hr1, fun L hL => ?_⟩
    rw [hys]
    have sL : Same H1 (upd H1 L (.lst (ys.map V.int))) := Same.new hL
    refine ⟨_, rfl, L, ys, m, rfl, SqL.of upd_same, ?_, m1, m4, fun pr ws ts sz H3 s3 hp3 hP3 hs3 => ?_⟩
    · have : xs.length = 41 := hxl
      omega
    have s23 := sL.trans s3
    have hd3 := s23 _ _ hd1
    have hr3 := s23 _ _ hr1
    have k0 := Int.emod_nonneg num (show m ≠ 0 by omega)
    have k1 := Int.emod_lt_of_pos num (show 0 < m by omega)
    refine ⟨_, rfl, _, rfl, r, _, 0, _, rfl, rfl, SqL.of hr3, hnum, _, rfl, _, _, rfl, rfl, (show 0 < m by omega), _, rfl, r, _, 0, _, rfl, rfl, SqL.of hr3, hnum, _, _, rfl, rfl, ⟨by decide, by decide⟩, _, rfl, fun tag h8 => ⟨(by show 2 ≤ sizeLine; decide), fun b hb => ?_⟩⟩
    have s4 : Same H3 (upd H3 b (.tup [.int (num % m), .str tag])) := Same.new hb
    have hb4 : (upd H3 b (.tup [.int (num % m), .str tag])) b = some (.tup ([Sum.inl (num % m), Sum.inr tag].map kV)) := upd_same
    have hd4 := s4 _ _ hd3
    have hp4 := s4 _ _ hp3
    have hP4 := hP3.mono s4.tk
    have sm4 := (s01.trans s23).trans s4
    generalize upd H3 b (.tup [.int (num % m), .str tag]) = H4 at hb4 hd4 hp4 hP4 sm4 ⊢
    have hK4 : Known H4 m [] := fun _ h => nomatch h
    refine ⟨d, _, rfl, DPut.t hd4 hb4 (by decide), ?_⟩
    exact ⟨_, rfl, q d _ _ (sm4.upd_new hd) upd_same (by have := length_putK [] [Sum.inl (num % m), Sum.inr tag] (.ref pr); simp only [List.length_nil] at this; omega) (hK4.put hd4 k0 k1 h8 hp4 hP4 hs3)⟩
  · have f0 := Int.emod_nonneg (fi / 4) (by decide : (9 : Int) ≠ 0)
    have f1 := Int.emod_lt_of_pos (fi / 4) (by decide : (0 : Int) < 9)
    refine ⟨_, rfl, _, rfl, _, _, rfl, rfl, ⟨by decide, by decide⟩, _, _, rfl, rfl, (by show (0 : Int) < 9; decide), _, _, rfl, rfl, .inl ⟨by decide, by decide⟩, a, ns, 0, _, rfl, s0.seq hS, h63, by omega, by omega, fun r xs H1 s1 hr0 hr1 hxl hxs => ?_⟩
    have s01 := s0.trans s1
    have hd1 := s1 _ _ hd0
    have hx56 : xs.length ≤ 56 := by omega
    have hx7 : ∃ c : Nat, xs.length = 7 * c := ⟨(fi / 4 % 9).toNat, by omega⟩
    obtain ⟨c, hc⟩ := hx7
    have hrs : (Builtin.Range.rangeSize 0 (((xs.map V.int).length : Nat) : Int) 7).toNat = c := by
      rw [List.length_map, hc]
      unfold Builtin.Range.rangeSize
      rw [if_pos (by decide)]
      split <;> omega
    refine ⟨_, rfl, r, _, rfl, .inl (SqL.of hr1), _, _, _, rfl, ⟨by decide, by decide, by rw [List.length_map]; omega, by rw [List.length_map]; omega⟩, .inl rfl, ?_⟩
    rw [hrs]
    refine for_steps (fun i σ H2 => ∃ (kvs : List (List Key × V)) (v6 v7 : Option V), σ = [some (.ref a), some (.int m), some (.int fi), some (.ref d), none, some (.ref r), v6, v7] ∧ Same H H2 ∧ H2 r = some (.lst (xs.map V.int)) ∧ H2 d = some (.dT kvs) ∧ kvs.length ≤ i ∧ Known H2 m kvs)
      ⟨[], none, none, rfl, s01, hr1, hd1, Nat.le_refl _, fun _ h => nomatch h⟩ ?_ ?_
    · rintro i σ H2 hi ⟨kvs, v6, v7, rfl, sm, hr2, hd2, hkl, hK⟩
      obtain ⟨num, hnum⟩ := ints_at (ns := xs) (k := 0 + (i : Int) * 7) (by omega) (by omega)
      obtain ⟨ys, hys, hyl⟩ := cut_ints xs (some (0 + (i : Int) * 7 + 1)) (some (0 + (i : Int) * 7 + 1 + num / 8 % 7))
      refine ⟨_, rfl, _, rfl, _, _, rfl, rfl, _, rfl, _, rfl, _, _, rfl, rfl, _, rfl, _, rfl, r, _, _, _, rfl, rfl, SqL.of hr2, hnum, _, _, rfl, rfl, ⟨by decide, by decide⟩, _, _, rfl, rfl, (by show (0 : Int) < 7; decide), _, _, rfl, rfl, _, rfl, r, _, rfl, SqL.of hr2, fun L hL => ?_⟩
      rw [hys]
      have sL : Same H2 (upd H2 L (.lst (ys.map V.int))) := Same.new hL
      refine ⟨_, rfl, L, ys, m, rfl, SqL.of upd_same, by omega, m1, m4, fun pr ws ts sz H3 s3 hp3 hP3 hs3 => ?_⟩
      have s23 := sL.trans s3
      have hd3 := s23 _ _ hd2
      have hr3 := s23 _ _ hr2
      have hK3 := hK.mono s23.tk
      have k0 := Int.emod_nonneg num (show m ≠ 0 by omega)
      have k1 := Int.emod_lt_of_pos num (show 0 < m by omega)
      refine ⟨_, rfl, _, rfl, _, rfl, _, rfl, r, _, _, _, rfl, rfl, SqL.of hr3, hnum, _, rfl, _, _, rfl, rfl, (show 0 < m by omega), _, rfl, _, rfl, r, _, _, _, rfl, rfl, SqL.of hr3, hnum, _, _, rfl, rfl, ⟨by decide, by decide⟩, _, rfl, fun tag h8 => ⟨(by show 2 ≤ sizeLine; decide), fun b hb => ?_⟩⟩
      have s4 : Same H3 (upd H3 b (.tup [.int (num % m), .str tag])) := Same.new hb
      have hb4 : (upd H3 b (.tup [.int (num % m), .str tag])) b = some (.tup ([Sum.inl (num % m), Sum.inr tag].map kV)) := upd_same
      have hd4 := s4 _ _ hd3
      have hK4 := hK3.mono s4.tk
      have hp4 := s4 _ _ hp3
      have hP4 := hP3.mono s4.tk
      have sm4 := (sm.trans s23).trans s4
      have hr4 := s4 _ _ hr3
      generalize upd H3 b (.tup [.int (num % m), .str tag]) = H4 at hb4 hd4 hK4 hp4 hP4 sm4 hr4 ⊢
      have nrd : r ≠ d := fun z => by rw [z, hd4] at hr4; cases hr4
      refine ⟨d, _, rfl, DPut.t hd4 hb4 (len1000' (by omega)), ?_⟩
      refine ⟨_, _, _, rfl, sm4.upd_new hd, by rw [upd_ne nrd]; exact hr4, upd_same, ?_, hK4.put hd4 k0 k1 h8 hp4 hP4 hs3⟩
      have := length_putK kvs [Sum.inl (num % m), Sum.inr tag] (.ref pr)
      omega
    · rintro σ H2 ⟨kvs, v6, v7, rfl, sm, hr2, hd2, hkl, hK⟩
      exact ⟨_, rfl, q d kvs H2 sm hd2 (by omega) hK⟩
theorem digit1_at {m : Int} (h0 : 1 ≤ m) (h1 : m ≤ 4) : ∃ c, atI (Str.cps "1234").toList (m - 1) = some c ∧ (⟨#[c]⟩ : Str) = dg m := by
  have : m = 1 ∨ m = 2 ∨ m = 3 ∨ m = 4 := by omega
  rcases this with rfl | rfl | rfl | rfl
  · exact ⟨49, rfl, (dg_is (n := 1) (by decide) (by decide)).symm⟩
  · exact ⟨50, rfl, (dg_is (n := 2) (by decide) (by decide)).symm⟩
  · exact ⟨51, rfl, (dg_is (n := 3) (by decide) (by decide)).symm⟩
  · exact ⟨52, rfl, (dg_is (n := 4) (by decide) (by decide)).symm⟩
theorem valV_mem {κ : Type} [DecidableEq κ] : ∀ {kvs : List (κ × V)} {k : κ} {v : V}, (k, v) ∈ kvs → ∃ v', valV kvs k = some v' ∧ (k, v') ∈ kvs
  | p :: r, k, v, h => by
    by_cases e : p.1 = k
    · exact ⟨p.2, valV_pos e, by rw [← e]; exact List.mem_cons_self ..⟩
    · rcases List.mem_cons.mp h with rfl | h
      · exact absurd rfl e
      · obtain ⟨v', h1, h2⟩ := valV_mem h
        exact ⟨v', by rw [valV_neg e]; exact h1, List.mem_cons_of_mem _ h2⟩
theorem keyRefs_mem {H : Hp} : ∀ {kvs : List (List Key × V)} {ys : List V}, KeyRefs H kvs ys → ∀ y ∈ ys, ∃ p ∈ kvs, ∃ a, y = .ref a ∧ H a = some (.tup (p.1.map kV))
  | _, _, .cons h t, y, hy => by
    rcases List.mem_cons.mp hy with rfl | hy
    · exact ⟨_, List.mem_cons_self .., h⟩
    · obtain ⟨p, hp, a⟩ := keyRefs_mem t y hy
      exact ⟨p, List.mem_cons_of_mem _ hp, a⟩
theorem due_len {H : Hp} {rs : List V} {zs : List Str} {m : Int} (h : Rules H rs zs) (hl : zs.length ≤ 40) (m0 : 0 ≤ m) (m4 : m ≤ 4) : (Txt.join "; " (dg m :: zs)).length ≤ 60000 := by
  have h1 := len_le_sum "; " (dg m :: zs)
  have h2 := h.text
  have h3 := dg_len m0 m4
  simp only [List.map_cons, List.sum_cons, List.length_cons] at h1
  have h4 : ("; " : Str).length = 2 := rfl
  rw [h4] at h1
  omega
set_option maxHeartbeats 8000000 in
theorem ok_law (B : ∀ x ∈ blts, mg x = none) (g_l_cell_at : Has P w K mg base "_law_cell_at" ["_law_script", "_law_k"] 1 (spCell K)) (g_l_known : Has P w K mg base "_law_known" ["_law_script", "_law_modes", "_law_first"] 3 (spKnown K)) (g_l_text : Has P w K mg base "_law_text" ["_law_parts_here"] 13 (spTx K 13)) (g_shown : Has P w K mg base "shown" ["changer"] 29 spShown79)
    (F : Fun K "law" "law" s_law f fd) : FnOk P w K mg base CX0 30 f fd ["_law_script"] (spLaw K) := by
  refine F.ok sc_law (fun vs H Q E h => ?_) (fun cdv A outer s H vs Q E hr h => ?_)
  · obtain ⟨a, ns, rfl, _⟩ := h
    rfl
  obtain ⟨a, ns, rfl, hS, h63, q⟩ := h
  have hu := hu_room hr
  have hu1 : (A.deeper (PyProof.Rows.envOfC (Str.ofString "law") (defScope s_law) s.heap.objs.size f cdv)).units + 1 < cLine := by have := hr.un; omega
  refine ⟨_, (pss_cons (ps_set (i := 1) sc_law.nd rfl (Or.inl rfl) (pe_has g_l_cell_at hr rfl (pa_cons (pv 0) (pa_cons pe_int pa_nil))))
    (pss_cons (ps_set (i := 2) sc_law.nd rfl (Or.inl rfl) (pe_op op_add pe_int (pe_op op_mod (pv 1) pe_int)))
    (pss_cons (ps_set (i := 3) sc_law.nd rfl (Or.inl rfl) (pe_has g_l_known hr rfl (pa_cons (pv 0) (pa_cons (pv 2) (pa_cons (pv 1) pa_nil)))))
    (pss_cons (ps_set (i := 4) sc_law.nd rfl (Or.inl rfl) (pe_ix ix_str pe_str (pe_op op_sub (pv 2) pe_int) (fun _ _ => rfl)))
    (pss_cons (ps_set (i := 5) sc_law.nd rfl (Or.inl rfl) (pe_lst pa_nil))
    (pss_cons (ps_for PassesOwn.never rfl (pi_list (pe_callB call_sorted_nts rfl (B "sorted" (by decide)) bt_sorted (pa_cons (pe_callTy (call_list_dT rfl) rfl (B "list" (by decide)) bt_list (pa_cons (pv 3) pa_nil)) pa_nil))) (pg_tup rfl (pgs_cons (pg_name (i := 6) sc_law.nd rfl (Or.inl rfl)) (pgs_cons (pg_name (i := 7) sc_law.nd rfl (Or.inl rfl)) pgs_nil)))
      (pss_cons (ps_set (i := 8) sc_law.nd rfl (Or.inl rfl) (pe_dget hu1 (pv 3) (pe_tup (pa_cons (pv 6) (pa_cons (pv 7) pa_nil))) (fun _ _ => rfl)))
        (pss_cons (ps_set (i := 4) sc_law.nd rfl (Or.inl rfl) (pe_op op_add_str (pe_op op_add_str (pe_op op_add_str (pe_op op_add_str (pe_op op_add_str (pv 4) pe_str) (pe_ix ix_str pe_str (pv 6) (fun _ _ => rfl))) pe_str) (pv 7)) pe_str))
        (pss_cons (ps_if (pt_cmpR (op_eq_nilT hu) (pv 8) (pe_tup pa_nil) (nomark _))
          (pss_one (ps_set (i := 4) sc_law.nd rfl (Or.inl rfl) (pe_op op_add_str (pv 4) pe_str)))
          pss_nil)
        (pss_cons (ps_set (i := 4) sc_law.nd rfl (Or.inl rfl) (pe_op op_add_str (pv 4) (pe_has g_l_text hr rfl (pa_cons (pv 8) pa_nil))))
        (pss_one (ps_expr (pe_bm PySem.F.plainAttrs_list PySem.F.slot_list_append PySem.F.type_list_append mt_append (pv 5) (pa_cons (pe_tup (pa_cons (pv 6) (pa_cons (pv 7) (pa_cons (pv 8) pa_nil)))) pa_nil)))))))))
    (pss_cons (ps_set (i := 9) sc_law.nd rfl (Or.inl rfl) (pe_has g_shown hr rfl (pa_cons (pe_tup (pa_cons (pv 2) (pa_cons (pe_callTy call_tuple_of rfl (B "tuple" (by decide)) bt_tuple (pa_cons (pv 5) pa_nil)) pa_nil))) pa_nil)))
    (pss_one (ps_ret (pe_and (pe_callB call_isinst rfl (B "isinstance" (by decide)) bt_isinstance (pa_cons (pv 9) (pa_cons (pe_ty rfl (B "str" (by decide)) bt_str) pa_nil))) (pe_one (pe_cmpR op_eq (pv 9) (pv 4) (nomark _))))))))))))), ?_⟩
  refine ⟨_, rfl, a, ns, 0, rfl, hS, h63, Int.le_refl 0, fun fst => ?_⟩
  have f0 := Int.emod_nonneg fst (by decide : (4 : Int) ≠ 0)
  have f1 := Int.emod_lt_of_pos fst (by decide : (0 : Int) < 4)
  refine ⟨_, rfl, _, _, rfl, rfl, (by show (0 : Int) < 4; decide), _, _, rfl, rfl, ?_⟩
  have m1 : 1 ≤ 1 + fst % 4 := by omega
  have m4 : 1 + fst % 4 ≤ 4 := by omega
  dsimp only []
  generalize 1 + fst % 4 = m at m1 m4 ⊢
  refine ⟨_, rfl, _, rfl, _, rfl, a, ns, m, fst, rfl, hS, h63, m1, m4, fun d kvs H1 s1 hd1 hkl hK1 => ?_⟩
  obtain ⟨c1, hc1, hcd⟩ := digit1_at m1 m4
  refine ⟨_, rfl, _, _, rfl, rfl, _, _, c1, rfl, rfl, (by decide), hc1, ?_⟩
  rw [hcd]
  refine ⟨by decide, fun rl hrl => ?_⟩
  have srl : Same H1 (upd H1 rl (.lst [])) := Same.new hrl
  have hd2 := srl _ _ hd1
  have hK2 := hK1.mono srl.tk
  have hrl2 : (upd H1 rl (.lst [])) rl = some (.lst []) := upd_same
  have s2 := s1.trans srl
  have hrlH : H rl = none := s1.free hrl
  change (fun H2 => _) (upd H1 rl (.lst []))
  generalize upd H1 rl (.lst []) = H2 at hd2 hK2 hrl2 s2 ⊢
  refine ⟨_, rfl, d, kvs, rfl, hd2, fun l ys hl hkr => ?_⟩
  have hyl : ys.length = kvs.length := (Paired.length hkr).symm
  have sl : Same H2 (upd H2 l (.lst ys)) := Same.new hl
  have hl3 : (upd H2 l (.lst ys)) l = some (.lst ys) := upd_same
  have hd3 := sl _ _ hd2
  have hK3 := hK2.mono sl.tk
  have hrl3 := sl _ _ hrl2
  have s3 := s2.trans sl
  have hkr3 : ∀ y ∈ ys, ∃ p ∈ kvs, ∃ b, y = V.ref b ∧ (upd H2 l (.lst ys)) b = some (.tup (p.1.map kV)) := fun y hy => by
    obtain ⟨p, hp, b, e, hb⟩ := keyRefs_mem hkr y hy
    exact ⟨p, hp, b, e, sl _ _ hb⟩
  change (fun H3 => _) (upd H2 l (.lst ys))
  generalize upd H2 l (.lst ys) = H3 at hl3 hd3 hK3 hrl3 s3 hkr3 ⊢
  refine ⟨l, ys, rfl, SqL.of hl3, by omega, fun y hy => ?_, fun p zs hp hperm => ?_⟩
  · obtain ⟨kv, hkv, b, e, hb⟩ := hkr3 y hy
    obtain ⟨n, tag, r, ws, ts, sz, e1, _⟩ := hK3 kv hkv
    rw [e1] at hb
    exact ⟨b, n, tag, e, hb⟩
  have sp : Same H3 (upd H3 p (.lst zs)) := Same.new hp
  have hp4 : (upd H3 p (.lst zs)) p = some (.lst zs) := upd_same
  have hd4 := sp _ _ hd3
  have hK4 := hK3.mono sp.tk
  have hrl4 := sp _ _ hrl3
  have s4 := s3.trans sp
  have hzl : zs.length ≤ 40 := by rw [hperm.length_eq]; omega
  have hkz : ∀ y ∈ zs, ∃ kv ∈ kvs, ∃ b, y = V.ref b ∧ (upd H3 p (.lst zs)) b = some (.tup (kv.1.map kV)) := fun y hy => by
    obtain ⟨kv, hkv, b, e, hb⟩ := hkr3 y (hperm.mem_iff.mp hy)
    exact ⟨kv, hkv, b, e, sp _ _ hb⟩
  have npr : p ≠ rl := fun z => by rw [z, hrl3] at hp; cases hp
  generalize upd H3 p (.lst zs) = H4 at hp4 hd4 hK4 hrl4 s4 hkz ⊢
  refine ⟨p, rfl, ⟨_, SqL.of hp4⟩, for_list (K := K) (a := p) (xs := zs) (fun i σ H5 => ∃ (rs : List V) (txs : List Str) (v6 v7 v8 : Option V),
    σ = [some (.ref a), some (.int fst), some (.int m), some (.ref d), some (.str (Txt.join "; " (dg m :: txs))), some (.ref rl), v6, v7, v8, none] ∧ Same H H5 ∧ TK H4 H5 ∧ H5 p = some (.lst zs) ∧ H5 d = some (.dT kvs) ∧ H5 rl = some (.lst rs) ∧ Rules H5 rs txs ∧ rs.length = i)
    ⟨[], [], none, none, none, by rw [join_one]; rfl, s4, TK.refl _, hp4, hd4, hrl4, .nil, rfl⟩ ?_ ?_ ?_⟩
  · rintro i σ H5 _ ⟨rs, txs, v6, v7, v8, _, _, _, h, _⟩
    exact SqL.of h
  · rintro i x σ H5 hi ⟨rs, txs, v6, v7, v8, rfl, sm, tk5, hp5, hd5, hrl5, hR5, hrsl⟩
    obtain ⟨hil, _⟩ := List.getElem?_eq_some_iff.mp hi
    have htl : rs.length = txs.length := Paired.length hR5
    have hdl := due_len (m := m) hR5 (by omega) (by omega) m4
    obtain ⟨kv, hkv, b, rfl, hb⟩ := hkz x (List.mem_of_getElem? hi)
    obtain ⟨k, v⟩ := kv
    obtain ⟨n, tag, r0, ws0, ts0, sz0, rfl, n0, n1, t8, _⟩ := hK4 _ hkv
    obtain ⟨v', hv', hkv'⟩ := valV_mem hkv
    obtain ⟨n', tag', r, ws, ts, sz, e1, _, _, _, rfl, hr4, hP4, hsz⟩ := hK4 _ hkv'
    have hb5 := tk5 _ _ hb
    have hr5 := tk5 _ _ hr4
    have hP5 := hP4.mono tk5
    refine ⟨b, _, rfl, SqT.of hb5, rfl, _, _, rfl, _, _, rfl, rfl, ?_⟩
    refine ⟨_, rfl, _, rfl, _, rfl, (by show 2 ≤ sizeLine; decide), fun b2 hb2 => ?_⟩
    have s6 : Same H5 (upd H5 b2 (.tup [kV (Sum.inl n), kV (Sum.inr tag)])) := Same.new hb2
    have hb6 : (upd H5 b2 (.tup [kV (Sum.inl n), kV (Sum.inr tag)])) b2 = some (.tup ([Sum.inl n, Sum.inr tag].map kV)) := upd_same
    have hd6 := s6 _ _ hd5
    have hp6 := s6 _ _ hp5
    have hrl6 := s6 _ _ hrl5
    have hR6 := hR5.mono s6.tk
    have sm6 := sm.trans s6
    have tk6 := tk5.trans s6.tk
    have hr6 := s6 _ _ hr5
    have hP6 := hP5.mono s6.tk
    change (fun H6 => _) (upd H5 b2 (.tup [kV (Sum.inl n), kV (Sum.inr tag)]))
    generalize upd H5 b2 (.tup [kV (Sum.inl n), kV (Sum.inr tag)]) = H6 at hb6 hd6 hp6 hrl6 hR6 sm6 tk6 hr6 hP6 ⊢
    have hg := DGet.t hd6 hb6
    rw [hv'] at hg
    refine ⟨d, _, rfl, hg, ?_⟩
    obtain ⟨c2, hc2, hcd2⟩ := digit_at n0 (show n ≤ 3 by omega)
    have hdg := dg_len n0 (show n ≤ 4 by omega)
    have hj := hP6.join
    refine ⟨_, rfl, _, _, rfl, rfl, len1000 (by show _ + 2 ≤ _; omega), _, rfl, _, _, c2, rfl, rfl, (by decide), hc2, ?_⟩
    rw [hcd2]
    refine ⟨_, _, rfl, rfl, len1000 (by rw [app_len]; show _ + 2 + _ ≤ _; omega), _, _, rfl, rfl, len1000 (by rw [app_len, app_len]; show _ + 2 + _ + 1 ≤ _; omega), _, rfl, _, _, rfl, rfl, len1000 (by rw [app_len, app_len, app_len]; show _ + 2 + _ + 1 + _ ≤ _; omega), _, _, rfl, rfl, len1000 (by rw [app_len, app_len, app_len, app_len]; show _ + 2 + _ + 1 + _ + 3 ≤ _; omega), ?_⟩
    refine ⟨_, rfl, by decide, fun e he => ?_⟩
    have s7 : Same H6 (upd H6 e (.tup [])) := Same.new he
    refine ⟨r, e, ws, rfl, rfl, SqT.of (s7 _ _ hr6), SqT.of upd_same, _, rfl, ?_⟩
    have hd7 := s7 _ _ hd6
    have hp7 := s7 _ _ hp6
    have hrl7 := s7 _ _ hrl6
    have hR7 := hR6.mono s7.tk
    have sm7 := sm6.trans s7
    have tk7 := tk6.trans s7.tk
    have hr7 := s7 _ _ hr6
    have hP7 := hP6.mono s7.tk
    generalize upd H6 e (.tup []) = H7 at hd7 hp7 hrl7 hR7 sm7 tk7 hr7 hP7 ⊢
    rw [hP7.nil_iff]
    have hrt : ruleT n tag ts = dg n ++ " " ++ tag ++ " = " ++ (if ts = [] then ("{}" : Str) else Txt.join " " ts) := rfl
    have fin : ∀ (H8 : Hp), Same H7 H8 → ∀ (t : Addr), H8 t = none → Same H (upd (upd H8 t (.tup [.int n, .str tag, .ref r])) rl (.lst (rs ++ [.ref t]))) ∧ TK H4 (upd (upd H8 t (.tup [.int n, .str tag, .ref r])) rl (.lst (rs ++ [.ref t]))) ∧
        (upd (upd H8 t (.tup [.int n, .str tag, .ref r])) rl (.lst (rs ++ [.ref t]))) p = some (.lst zs) ∧ (upd (upd H8 t (.tup [.int n, .str tag, .ref r])) rl (.lst (rs ++ [.ref t]))) d = some (.dT kvs) ∧ Rules (upd (upd H8 t (.tup [.int n, .str tag, .ref r])) rl (.lst (rs ++ [.ref t]))) (rs ++ [.ref t]) (txs ++ [ruleT n tag ts]) ∧
        (upd H8 t (.tup [.int n, .str tag, .ref r])) rl = some (.lst rs) := fun H8 s8 t ht => by
      have st : Same H8 (upd H8 t (.tup [.int n, .str tag, .ref r])) := Same.new ht
      have h9 := st _ _ (s8 _ _ hrl7)
      have tk9 : TK (upd H8 t (.tup [.int n, .str tag, .ref r])) (upd (upd H8 t (.tup [.int n, .str tag, .ref r])) rl (.lst (rs ++ [.ref t]))) := TK.lst h9
      have tkA := (s8.trans st).tk.trans tk9
      have nd : d ≠ rl := fun z => by
        have := st _ _ (s8 _ _ hd7)
        rw [z, h9] at this
        cases this
      refine ⟨((sm7.trans s8).trans st).upd_new hrlH, tk7.trans tkA, by rw [upd_ne npr]; exact st _ _ (s8 _ _ hp7), by rw [upd_ne nd]; exact st _ _ (s8 _ _ hd7), (hR7.mono tkA).snoc ?_, h9⟩
      exact ⟨t, r, n, tag, ws, ts, sz, rfl, tk9 _ _ upd_same, tkA _ _ hr7, hP7.mono tkA, by omega, n0, by omega, t8, rfl⟩
    cases ts with
    | nil =>
      refine ite2 (fun _ => ?_) (fun z => absurd rfl z)
      refine ⟨_, rfl, _, _, rfl, rfl, len1000 (by simp only [app_len]; show _ + 2 + _ + 1 + _ + 3 + 2 ≤ _; omega), ?_⟩
      refine ⟨_, rfl, _, rfl, r, ws, [], 12, sz, rfl, hr7, hP7, rfl, by omega, fun H8 s8 => ?_⟩
      refine ⟨_, _, rfl, rfl, len1000 (by simp only [app_len]; show _ + 2 + _ + 1 + _ + 3 + 2 + 0 ≤ _; omega), ?_⟩
      refine ⟨_, rfl, .inl ⟨rfl, _, SqL.of (s8 _ _ hrl7)⟩, _, rfl, _, rfl, _, rfl, (by show 3 ≤ sizeLine; decide), fun t ht => ?_⟩
      obtain ⟨g1, g2, g3, g4, g5, g6⟩ := fin H8 s8 t ht
      refine ⟨rl, _, _, rfl, rfl, g6, len1000' (by omega), rs ++ [V.ref t], txs ++ [ruleT n tag []], some (.int n), some (.str tag), some (.ref r), ?_, g1, g2, g3, g4, upd_same, g5, by rw [List.length_append, hrsl]; rfl⟩
      rw [join_snoc, hrt, if_pos rfl]
      have e0 : Txt.join " " [] = ("" : Str) := rfl
      rw [e0, str_nil]
      simp only [str_assoc]
      rfl
    | cons t1 tr =>
      refine ite2 (fun z => nomatch z) (fun _ => ?_)
      refine ⟨_, rfl, _, rfl, r, ws, t1 :: tr, 12, sz, rfl, hr7, hP7, rfl, by omega, fun H8 s8 => ?_⟩
      refine ⟨_, _, rfl, rfl, len1000 (by simp only [app_len]; show _ + 2 + _ + 1 + _ + 3 + _ ≤ _; omega), ?_⟩
      refine ⟨_, rfl, .inl ⟨rfl, _, SqL.of (s8 _ _ hrl7)⟩, _, rfl, _, rfl, _, rfl, (by show 3 ≤ sizeLine; decide), fun t ht => ?_⟩
      obtain ⟨g1, g2, g3, g4, g5, g6⟩ := fin H8 s8 t ht
      refine ⟨rl, _, _, rfl, rfl, g6, len1000' (by omega), rs ++ [V.ref t], txs ++ [ruleT n tag (t1 :: tr)], some (.int n), some (.str tag), some (.ref r), ?_, g1, g2, g3, g4, upd_same, g5, by rw [List.length_append, hrsl]; rfl⟩
      rw [join_snoc, hrt, if_neg (by simp)]
      simp only [str_assoc]
      rfl
  · rintro σ H5 ⟨rs, txs, v6, v7, v8, rfl, sm, tk5, hp5, hd5, hrl5, hR5, hrsl⟩
    refine ⟨_, rfl, _, rfl, rl, rs, rfl, .inl ⟨SqL.of hrl5, fun t ht => ⟨(by show 2 ≤ sizeLine; decide), fun u hu => ?_⟩⟩⟩
    have s6 := (Same.new (o := .tup rs) ht).trans (Same.new (o := .tup [.int m, .ref t]) hu)
    have ht6 : (upd (upd H5 t (.tup rs)) u (.tup [.int m, .ref t])) t = some (.tup rs) := (Same.new hu) _ _ upd_same
    refine ⟨u, m, t, rs, txs, rfl, upd_same, ht6, hR5.mono s6.tk, by omega, by omega, m4, fun H7 => ?_⟩
    refine ⟨_, rfl, .str _, "str", .type "str", true, rfl, .str _, rfl, true, rfl, iteT ?_⟩
    refine ⟨_, rfl, _, rfl, rfl, ?_⟩
    rw [decide_eq_true rfl]
    exact q H7
end
theorem all_mk {l : PySem.W.OpenLaw} {w : World} {K : PySem.W.Frag} {h : Heap} {mg : Str → Option Value} {fa f1 f2 f3 f4 f5 f6 f7 f8 f9 f10 f11 : Addr} (X : K.In h) (G : h.Ns mainGlobals mg) (hfa : mg "law" = some (.ref fa))
    {od1 an1 od2 an2 od3 an3 od4 an4 od5 an5 od6 an6 od7 an7 od8 an8 od9 an9 od10 an10 od11 an11 : Option Addr} {sl1 sl2 sl3 sl4 sl5 sl6 sl7 sl8 sl9 sl10 sl11 : Array (Option Value)} {oc1 kV1 dc1 pm1 cd1 ct1 oc2 kV2 dc2 pm2 cd2 ct2 oc3 kV3 dc3 pm3 cd3 ct3 oc4 kV4 dc4 pm4 cd4 ct4 oc5 kV5 dc5 pm5 cd5 ct5 oc6 kV6 dc6 pm6 cd6 ct6 oc7 kV7 dc7 pm7 cd7 ct7 oc8 kV8 dc8 pm8 cd8 ct8 oc9 kV9 dc9 pm9 cd9 ct9 oc10 kV10 dc10 pm10 cd10 ct10 oc11 kV11 dc11 pm11 cd11 ct11 : Value}
    (a1 : PySem.W.nsIn K mainGlobals "_law_cell_at" = some (some (.ref f1))) (l1 : K.lookup f1 = some ⟨oc1, od1, .func (PySem.W.fnOf "_law_cell_at" "_law_cell_at" (defArgs s_l_cell_at) (defBody s_l_cell_at) (defScope s_l_cell_at) .none kV1 dc1 pm1 an1 cd1 ct1), sl1⟩) (c1 : PySem.W.codeIn K cd1 "_law_cell_at" = true) (k1 : PySem.W.keepIn K (.ref f1) = true)
    (a2 : PySem.W.nsIn K mainGlobals "_law_numbers" = some (some (.ref f2))) (l2 : K.lookup f2 = some ⟨oc2, od2, .func (PySem.W.fnOf "_law_numbers" "_law_numbers" (defArgs s_l_numbers) (defBody s_l_numbers) (defScope s_l_numbers) .none kV2 dc2 pm2 an2 cd2 ct2), sl2⟩) (c2 : PySem.W.codeIn K cd2 "_law_numbers" = true) (k2 : PySem.W.keepIn K (.ref f2) = true)
    (a3 : PySem.W.nsIn K mainGlobals "_law_tag" = some (some (.ref f3))) (l3 : K.lookup f3 = some ⟨oc3, od3, .func (PySem.W.fnOf "_law_tag" "_law_tag" (defArgs s_l_tag) (defBody s_l_tag) (defScope s_l_tag) .none kV3 dc3 pm3 an3 cd3 ct3), sl3⟩) (c3 : PySem.W.codeIn K cd3 "_law_tag" = true) (k3 : PySem.W.keepIn K (.ref f3) = true)
    (a4 : PySem.W.nsIn K mainGlobals "_law_parts" = some (some (.ref f4))) (l4 : K.lookup f4 = some ⟨oc4, od4, .func (PySem.W.fnOf "_law_parts" "_law_parts" (defArgs s_l_parts) (defBody s_l_parts) (defScope s_l_parts) .none kV4 dc4 pm4 an4 cd4 ct4), sl4⟩) (c4 : PySem.W.codeIn K cd4 "_law_parts" = true) (k4 : PySem.W.keepIn K (.ref f4) = true)
    (a5 : PySem.W.nsIn K mainGlobals "_law_known" = some (some (.ref f5))) (l5 : K.lookup f5 = some ⟨oc5, od5, .func (PySem.W.fnOf "_law_known" "_law_known" (defArgs s_l_known) (defBody s_l_known) (defScope s_l_known) .none kV5 dc5 pm5 an5 cd5 ct5), sl5⟩) (c5 : PySem.W.codeIn K cd5 "_law_known" = true) (k5 : PySem.W.keepIn K (.ref f5) = true)
    (a6 : PySem.W.nsIn K mainGlobals "_law_text" = some (some (.ref f6))) (l6 : K.lookup f6 = some ⟨oc6, od6, .func (PySem.W.fnOf "_law_text" "_law_text" (defArgs s_l_text) (defBody s_l_text) (defScope s_l_text) .none kV6 dc6 pm6 an6 cd6 ct6), sl6⟩) (c6 : PySem.W.codeIn K cd6 "_law_text" = true) (k6 : PySem.W.keepIn K (.ref f6) = true)
    (a7 : PySem.W.nsIn K mainGlobals "shown_part" = some (some (.ref f7))) (l7 : K.lookup f7 = some ⟨oc7, od7, .func (PySem.W.fnOf "shown_part" "shown_part" (defArgs s_shown_part) (defBody s_shown_part) (defScope s_shown_part) .none kV7 dc7 pm7 an7 cd7 ct7), sl7⟩) (c7 : PySem.W.codeIn K cd7 "shown_part" = true) (k7 : PySem.W.keepIn K (.ref f7) = true)
    (a8 : PySem.W.nsIn K mainGlobals "shown_parts" = some (some (.ref f8))) (l8 : K.lookup f8 = some ⟨oc8, od8, .func (PySem.W.fnOf "shown_parts" "shown_parts" (defArgs s_shown_parts) (defBody s_shown_parts) (defScope s_shown_parts) .none kV8 dc8 pm8 an8 cd8 ct8), sl8⟩) (c8 : PySem.W.codeIn K cd8 "shown_parts" = true) (k8 : PySem.W.keepIn K (.ref f8) = true)
    (a9 : PySem.W.nsIn K mainGlobals "shown_rule" = some (some (.ref f9))) (l9 : K.lookup f9 = some ⟨oc9, od9, .func (PySem.W.fnOf "shown_rule" "shown_rule" (defArgs s_shown_rule) (defBody s_shown_rule) (defScope s_shown_rule) .none kV9 dc9 pm9 an9 cd9 ct9), sl9⟩) (c9 : PySem.W.codeIn K cd9 "shown_rule" = true) (k9 : PySem.W.keepIn K (.ref f9) = true)
    (a10 : PySem.W.nsIn K mainGlobals "shown" = some (some (.ref f10))) (l10 : K.lookup f10 = some ⟨oc10, od10, .func (PySem.W.fnOf "shown" "shown" (defArgs s_shown) (defBody s_shown) (defScope s_shown) .none kV10 dc10 pm10 an10 cd10 ct10), sl10⟩) (c10 : PySem.W.codeIn K cd10 "shown" = true) (k10 : PySem.W.keepIn K (.ref f10) = true)
    (a11 : PySem.W.nsIn K mainGlobals "law" = some (some (.ref f11))) (l11 : K.lookup f11 = some ⟨oc11, od11, .func (PySem.W.fnOf "law" "law" (defArgs s_law) (defBody s_law) (defScope s_law) .none kV11 dc11 pm11 an11 cd11 ct11), sl11⟩) (c11 : PySem.W.codeIn K cd11 "law" = true) (k11 : PySem.W.keepIn K (.ref f11) = true)
    (z0 : PySem.W.nsIn K mainGlobals "isinstance" = some none) (z1 : PySem.W.nsIn K mainGlobals "len" = some none) (z2 : PySem.W.nsIn K mainGlobals "list" = some none) (z3 : PySem.W.nsIn K mainGlobals "max" = some none) (z4 : PySem.W.nsIn K mainGlobals "min" = some none) (z5 : PySem.W.nsIn K mainGlobals "range" = some none) (z6 : PySem.W.nsIn K mainGlobals "sorted" = some none) (z7 : PySem.W.nsIn K mainGlobals "str" = some none) (z8 : PySem.W.nsIn K mainGlobals "tuple" = some none) :
    ∃ fd : FuncData, (∀ (s : Shared) (v : Value), BindsTo s fd ⟨[v], []⟩ [("_law_script", v)]) ∧ ∀ base : Heap, K.In base → base.Ns mainGlobals mg → FnOk l.prog w K mg base CX0 30 fa fd ["_law_script"] (Fg.spLaw K) := by
  have e := hfa.symm.trans (PySem.W.mg_of X G a11)
  cases e
  have B : ∀ x ∈ blts, mg x = none := by
    intro x hx
    simp only [blts, List.mem_cons, List.not_mem_nil, or_false] at hx
    rcases hx with rfl | rfl | rfl | rfl | rfl | rfl | rfl | rfl | rfl
    · exact PySem.W.mg_none_of X G z0
    · exact PySem.W.mg_none_of X G z1
    · exact PySem.W.mg_none_of X G z2
    · exact PySem.W.mg_none_of X G z3
    · exact PySem.W.mg_none_of X G z4
    · exact PySem.W.mg_none_of X G z5
    · exact PySem.W.mg_none_of X G z6
    · exact PySem.W.mg_none_of X G z7
    · exact PySem.W.mg_none_of X G z8
  have F1 := fun_mk (st := s_l_cell_at) l1 c1 k1
  have b1 := F1.binds (ps := ["_law_script", "_law_k"]) fun _ _ _ _ _ _ us hl => match us, hl with | [_, _], _ => rfl
  have F2 := fun_mk (st := s_l_numbers) l2 c2 k2
  have b2 := F2.binds (ps := ["_law_script", "_law_first", "_law_many"]) fun _ _ _ _ _ _ us hl => match us, hl with | [_, _, _], _ => rfl
  have F3 := fun_mk (st := s_l_tag) l3 c3 k3
  have b3 := F3.binds (ps := ["_law_number"]) fun _ _ _ _ _ _ us hl => match us, hl with | [_], _ => rfl
  have F4 := fun_mk (st := s_l_parts) l4 c4 k4
  have b4 := F4.binds (ps := ["_law_numbers_here", "_law_modes"]) fun _ _ _ _ _ _ us hl => match us, hl with | [_, _], _ => rfl
  have F5 := fun_mk (st := s_l_known) l5 c5 k5
  have b5 := F5.binds (ps := ["_law_script", "_law_modes", "_law_first"]) fun _ _ _ _ _ _ us hl => match us, hl with | [_, _, _], _ => rfl
  have F6 := fun_mk (st := s_l_text) l6 c6 k6
  have b6 := F6.binds (ps := ["_law_parts_here"]) fun _ _ _ _ _ _ us hl => match us, hl with | [_], _ => rfl
  have F7 := fun_mk (st := s_shown_part) l7 c7 k7
  have b7 := F7.binds (ps := ["part"]) fun _ _ _ _ _ _ us hl => match us, hl with | [_], _ => rfl
  have F8 := fun_mk (st := s_shown_parts) l8 c8 k8
  have b8 := F8.binds (ps := ["parts"]) fun _ _ _ _ _ _ us hl => match us, hl with | [_], _ => rfl
  have F9 := fun_mk (st := s_shown_rule) l9 c9 k9
  have b9 := F9.binds (ps := ["mode", "tag", "parts"]) fun _ _ _ _ _ _ us hl => match us, hl with | [_, _, _], _ => rfl
  have F10 := fun_mk (st := s_shown) l10 c10 k10
  have b10 := F10.binds (ps := ["changer"]) fun _ _ _ _ _ _ us hl => match us, hl with | [_], _ => rfl
  have F11 := fun_mk (st := s_law) l11 c11 k11
  refine ⟨PySem.W.fnOf "law" "law" (defArgs s_law) (defBody s_law) (defScope s_law) .none kV11 dc11 pm11 an11 cd11 ct11, fun s v => .of_eq rfl, fun base _ _ => ?_⟩
  have g_l_cell_at : Has l.prog w K mg base "_law_cell_at" ["_law_script", "_law_k"] 1 (Fg.spCell K) := ⟨⟨f1, _, ok_l_cell_at B  F1, b1, k1, PySem.W.mg_of X G a1⟩⟩
  have g_l_numbers : Has l.prog w K mg base "_law_numbers" ["_law_script", "_law_first", "_law_many"] 2 (K79.spNums79 K) := ⟨⟨f2, _, ok_l_numbers B g_l_cell_at F2, b2, k2, PySem.W.mg_of X G a2⟩⟩
  have g_l_tag : Has l.prog w K mg base "_law_tag" ["_law_number"] 1 (K79.spTag79) := ⟨⟨f3, _, ok_l_tag B  F3, b3, k3, PySem.W.mg_of X G a3⟩⟩
  have g_l_parts : Has l.prog w K mg base "_law_parts" ["_law_numbers_here", "_law_modes"] 2 (K79.spParts K) := ⟨⟨f4, _, ok_l_parts B g_l_tag F4, b4, k4, PySem.W.mg_of X G a4⟩⟩
  have g_l_known : Has l.prog w K mg base "_law_known" ["_law_script", "_law_modes", "_law_first"] 3 (K79.spKnown K) := ⟨⟨f5, _, ok_l_known B g_l_numbers g_l_tag g_l_parts F5, b5, k5, PySem.W.mg_of X G a5⟩⟩
  have rt : ∀ d : Nat, Has l.prog w K mg base "_law_text" ["_law_parts_here"] d (K79.spTx K d) := by
    intro d
    induction d with
    | zero => exact ⟨⟨f6, _, FnOk.none (fun vs H Q E z => by obtain ⟨a, ws, ts, e, s, _, _, _, hd, _⟩ := z; omega), b6, k6, PySem.W.mg_of X G a6⟩⟩
    | succ d ih => exact ⟨⟨f6, _, ok_l_text d B ih F6, b6, k6, PySem.W.mg_of X G a6⟩⟩
  have g_l_text := rt 13
  -- with shown_parts
  have rs : ∀ d : Nat, Has l.prog w K mg base "shown_parts" ["parts"] (2 * d + 1) (K79.spSP d) := by
    intro d
    induction d with
    | zero => exact ⟨⟨f8, _, FnOk.none (fun vs H Q E z => by obtain ⟨a, ws, ts, e, s, _, _, _, hd, _⟩ := z; omega), b8, k8, PySem.W.mg_of X G a8⟩⟩
    | succ d ih =>
      have h1 : Has l.prog w K mg base "shown_part" ["part"] (2 * d + 2) (K79.spSp1 d) := ⟨⟨f7, _, ok_shown_part d B ih F7, b7, k7, PySem.W.mg_of X G a7⟩⟩
      exact ⟨⟨f8, _, ok_shown_parts d B h1 F8, b8, k8, PySem.W.mg_of X G a8⟩⟩
  have g_shown_parts := rs 13
  have g_shown_rule : Has l.prog w K mg base "shown_rule" ["mode", "tag", "parts"] 28 (K79.spRule) := ⟨⟨f9, _, ok_shown_rule B g_shown_parts F9, b9, k9, PySem.W.mg_of X G a9⟩⟩
  have g_shown : Has l.prog w K mg base "shown" ["changer"] 29 (K79.spShown79) := ⟨⟨f10, _, ok_shown B g_shown_rule F10, b10, k10, PySem.W.mg_of X G a10⟩⟩
  exact ok_law B g_l_cell_at g_l_known g_l_text g_shown F11
theorem walk {l : PySem.W.OpenLaw} {q : Program} {loose : List Str} {XP : (Str → Option Value) → Heap → Prop} {YP : World → Heap → Prop} {d : DefRec} {K : Params → PySem.W.Frag} (hn : l.most = some 63) (hdf : d.params.defaults = [])
    (hY : ∀ (w : World) (h : Heap), YP w h → (K w.params).In h)
    (F : ∀ (w : World) (mg : Str → Option Value) (fa : Addr) (h : Heap), (K w.params).In h → h.Ns mainGlobals mg → mg d.name = some (.ref fa) →
      ∃ fd : FuncData, (∀ (s : Shared) (u : Value), BindsTo s fd ⟨[u], []⟩ [("_law_script", u)]) ∧ ∀ base : Heap, (K w.params).In base → base.Ns mainGlobals mg → FnOk l.prog w (K w.params) mg base CX0 30 fa fd ["_law_script"] (Fg.spLaw (K w.params))) :
    PySem.W.WalkO q loose XP YP l.row.toRowW d [] (fun f vs => PySem.call f vs) :=
  L2.walk_of (n := 63) (k := 30) (x := "_law_script") (CX := fun _ => CX0) (sp := fun w => Fg.spLaw (K w.params)) hn (by decide) hdf ⟨rfl, by decide, by decide⟩ hY F (fun _ _ a ns hl _ hS => ⟨a, ns, rfl, hS, hl, fun _ => rfl⟩) fun _ _ _ _ _ z => z
end K79
open PySem PySem.W PyProof.Rows
set_option maxRecDepth 100000 in
set_option maxHeartbeats 0 in
theorem PySem.Challenge.cw_formgrove_k79_changers_written_holds : PySem.Challenge.rw_formgrove_k79_changers_written.Holds := by
  w_on; o_law; k_head; (case hw => w_witness2)
  k_fill
  refine K79.walk (l := PySem.Challenge.rw_formgrove_k79_changers_written) rfl rfl (fun w h Y => PySem.W.kIn_of Y) ?F
  case F =>
    intro w mg fa h KX G hmg
    refine' K79.all_mk KX G hmg ?a1 ?l1 ?c1 ?k1 ?a2 ?l2 ?c2 ?k2 ?a3 ?l3 ?c3 ?k3 ?a4 ?l4 ?c4 ?k4 ?a5 ?l5 ?c5 ?k5 ?a6 ?l6 ?c6 ?k6 ?a7 ?l7 ?c7 ?k7 ?a8 ?l8 ?c8 ?k8 ?a9 ?l9 ?c9 ?k9 ?a10 ?l10 ?c10 ?k10 ?a11 ?l11 ?c11 ?k11 ?z0 ?z1 ?z2 ?z3 ?z4 ?z5 ?z6 ?z7 ?z8
    (case a1 => k_is)
    (case l1 => k_is)
    (case c1 => k_is)
    (case k1 => k_is)
    (case a2 => k_is)
    (case l2 => k_is)
    (case c2 => k_is)
    (case k2 => k_is)
    (case a3 => k_is)
    (case l3 => k_is)
    (case c3 => k_is)
    (case k3 => k_is)
    (case a4 => k_is)
    (case l4 => k_is)
    (case c4 => k_is)
    (case k4 => k_is)
    (case a5 => k_is)
    (case l5 => k_is)
    (case c5 => k_is)
    (case k5 => k_is)
    (case a6 => k_is)
    (case l6 => k_is)
    (case c6 => k_is)
    (case k6 => k_is)
    (case a7 => k_is)
    (case l7 => k_is)
    (case c7 => k_is)
    (case k7 => k_is)
    (case a8 => k_is)
    (case l8 => k_is)
    (case c8 => k_is)
    (case k8 => k_is)
    (case a9 => k_is)
    (case l9 => k_is)
    (case c9 => k_is)
    (case k9 => k_is)
    (case a10 => k_is)
    (case l10 => k_is)
    (case c10 => k_is)
    (case k10 => k_is)
    (case a11 => k_is)
    (case l11 => k_is)
    (case c11 => k_is)
    (case k11 => k_is)
    (case z0 => k_is)
    (case z1 => k_is)
    (case z2 => k_is)
    (case z3 => k_is)
    (case z4 => k_is)
    (case z5 => k_is)
    (case z6 => k_is)
    (case z7 => k_is)
    (case z8 => k_is)
