import PyProof.Rows.All
import Wide.All
import OpenK.AllK
import Wide.FinOn
import Lean
import PyProof.EqAt
import PyProof.EqKinds
import PyProof.TupleCall
import PySem.Challenge.RW_formgrove_k92_words_refused
set_option Elab.async false
set_option linter.all false
set_option maxRecDepth 100000
/-! THE HAND LAYER, for ints, bools, texts, own classes, LISTS and tuples (index, slices, in, append, pop ..), calls, loops. Paste it whole ahead of your own text; what your proof does not reach may be deleted. -/
namespace L2
open PySem PySem.Spec PyProof.Rows

/-- a key: an int or a str -/
abbrev Key := Sum Int Str
def keyIs : Key → Value → Bool
  | .inl k, v => Value.isInt k v
  | .inr x, v => Value.isStrOf x v
def keyH (w : World) : Key → Int
  | .inl k => hashInt k
  | .inr x => hashStr w x
theorem keyIs_shape : ∀ {k : Key} {v : Value}, keyIs k v = true → (∃ i t, k = Sum.inl i ∧ v = Value.int i t) ∨ (∃ x t, k = Sum.inr x ∧ v = Value.str x t)
  | .inl i, v, h => by
    obtain ⟨t, e⟩ := Value.isInt_shape (k := i) (v := v) h
    exact .inl ⟨i, t, rfl, e⟩
  | .inr x, v, h => by
    obtain ⟨t, e⟩ := Value.isStrOf_shape (x := x) (v := v) h
    exact .inr ⟨x, t, rfl, e⟩
theorem keyIs_int (i : Int) (t : Tok) : keyIs (.inl i) (.int i t) = true := by simp [keyIs, Value.isInt]
theorem keyIs_str (x : Str) (t : Tok) : keyIs (.inr x) (.str x t) = true := by simp [keyIs, Value.isStrOf]
theorem key_ll (a b : Int) : decide ((Sum.inl a : Key) = Sum.inl b) = (a == b) := by
  by_cases e : a = b
  · subst e; simp
  · have h : ¬ (Sum.inl a : Key) = Sum.inl b := fun q => e (Sum.inl.inj q)
    rw [decide_eq_false h]
    exact (beq_eq_false_iff_ne.mpr e).symm
theorem key_rr (a b : Str) : decide ((Sum.inr a : Key) = Sum.inr b) = decide (a = b) := by
  by_cases e : a = b
  · subst e; simp
  · have h : ¬ (Sum.inr a : Key) = Sum.inr b := fun q => e (Sum.inr.inj q)
    rw [decide_eq_false h, decide_eq_false e]
theorem key_lr (a : Int) (b : Str) : decide ((Sum.inl a : Key) = Sum.inr b) = false := decide_eq_false (fun q => nomatch q)
theorem key_rl (a : Str) (b : Int) : decide ((Sum.inr a : Key) = Sum.inl b) = false := decide_eq_false (fun q => nomatch q)

def mixKind (prog : Program) (w : World) : PySem.KeyKind prog w Key where
  is := keyIs
  hash := keyH w
  inj := fun v a b ha hb => by
    rcases keyIs_shape ha with ⟨i, t, rfl, rfl⟩ | ⟨x, t, rfl, rfl⟩
    · rcases keyIs_shape hb with ⟨j, u, rfl, e⟩ | ⟨y, u, rfl, e⟩
      · injection e with e1 _; rw [e1]
      · exact nomatch e
    · rcases keyIs_shape hb with ⟨j, u, rfl, e⟩ | ⟨y, u, rfl, e⟩
      · exact nomatch e
      · injection e with e1 _; rw [e1]
  byValue := fun k v h => by
    rcases keyIs_shape h with ⟨i, t, rfl, rfl⟩ | ⟨x, t, rfl, rfl⟩ <;> rfl
  pyHash := fun hv h => by
    rcases keyIs_shape hv with ⟨i, t, rfl, rfl⟩ | ⟨x, t, rfl, rfl⟩
    · exact wpAny_pyHash_int h
    · exact wpAny_pyHash_str h
  eqBool := fun hu hv h => by
    rcases keyIs_shape hu with ⟨i, t, rfl, rfl⟩ | ⟨x, t, rfl, rfl⟩
    · rcases keyIs_shape hv with ⟨j, u, rfl, rfl⟩ | ⟨y, u, rfl, rfl⟩
      · rw [key_ll] at h; exact wpAny_eqBool_int h
      · rw [key_lr] at h; exact SeqAt.EqAt.int_str i t y u _ _ _ _ h
    · rcases keyIs_shape hv with ⟨j, u, rfl, rfl⟩ | ⟨y, u, rfl, rfl⟩
      · rw [key_rl] at h; exact SeqAt.EqAt.str_int x t j u _ _ _ _ h
      · rw [key_rr] at h; exact wpAny_eqBool_str h
  «strs» := fun k x t v h => by
    rcases keyIs_shape h with ⟨i, u, rfl, e⟩ | ⟨y, u, rfl, e⟩
    · exact nomatch e
    · injection e with e1 _
      subst e1
      cases v <;> rfl

theorem mixKind_int (prog : Program) (w : World) (i : Int) (t : Tok) : (mixKind prog w).is (.inl i) (.int i t) = true := keyIs_int i t
theorem mixKind_str (prog : Program) (w : World) (x : Str) (t : Tok) : (mixKind prog w).is (.inr x) (.str x t) = true := keyIs_str x t
end L2

namespace L2
open PySem PySem.Spec PyProof.Rows

/-- a value, without the heap -/
inductive V where
  | non | bl (b : Bool) | int (i : Int) | str (x : Str) | byt (b : Array UInt8) | flt (b : UInt64) | ref (a : Addr) | ty (n : String)
  deriving DecidableEq

def RelV : V → Value → Prop
  | .non, u => u = Value.none
  | .bl b, u => u = Value.bool b
  | .int i, u => ∃ t, u = Value.int i t
  | .str x, u => ∃ t, u = Value.str x t
  | .byt b, u => ∃ t, u = Value.bytes b t
  | .flt b, u => ∃ t, u = Value.float b t
  | .ref a, u => u = Value.ref a
  | .ty n, u => u = Value.type n

abbrev Vals : List V → List Value → Prop := Paired RelV
theorem Vals.length {xs : List V} {us : List Value} (r : Vals xs us) : xs.length = us.length := Paired.length r
theorem Vals.get : ∀ {xs : List V} {us : List Value} {i : Nat} {x : V}, Vals xs us → xs[i]? = some x → ∃ u, us[i]? = some u ∧ RelV x u
  | _, _, _, _, .nil, e => by simp at e
  | _, _, 0, _, .cons r _, e => by simp at e; subst e; exact ⟨_, rfl, r⟩
  | _, _, i + 1, x, .cons _ t, e => by
    obtain ⟨u, h1, h2⟩ := Vals.get (i := i) (x := x) t (by simpa using e)
    exact ⟨u, by simpa using h1, h2⟩
theorem Vals.append : ∀ {xs ys : List V} {us ws : List Value}, Vals xs us → Vals ys ws → Vals (xs ++ ys) (us ++ ws)
  | _, _, _, _, .nil, s => s
  | _, _, _, _, .cons r t, s => .cons r (Vals.append t s)
theorem Vals.take : ∀ {xs : List V} {us : List Value} (n : Nat), Vals xs us → Vals (xs.take n) (us.take n)
  | _, _, 0, _ => .nil
  | _, _, _ + 1, .nil => .nil
  | _, _, n + 1, .cons r t => .cons r (Vals.take n t)
theorem Vals.drop : ∀ {xs : List V} {us : List Value} (n : Nat), Vals xs us → Vals (xs.drop n) (us.drop n)
  | _, _, 0, r => r
  | _, _, _ + 1, .nil => .nil
  | _, _, n + 1, .cons _ t => Vals.drop n t
def RelO : Option V → Option Value → Prop
  | some v, some u => RelV v u
  | none, none => True
  | _, _ => False
def KV {κ : Type} : List (κ × V) → List (κ × Value) → Prop := Paired fun (p : κ × V) (q : κ × Value) => p.1 = q.1 ∧ RelV p.2 q.2

/-- a key of a dict (00_mix): an int or a text -/
def kV : Key → V
  | .inl i => .int i
  | .inr x => .str x

/-- what stands at a tracked address -/
inductive HO where
  /-- a list -/
  | lst (xs : List V)
  /-- a tuple (never changes) -/
  | tup (xs : List V)
  /-- a dict whose keys are ints and texts; one whose keys are tuples of ints and texts (the empty one is both) -/
  | dK (kvs : List (Key × V)) | dT (kvs : List (List Key × V))
  /-- a set of ints: its members, its size -/
  | set (S : Int → Bool) (n : Nat)
  /-- an instance of the class at C, its dict at dx, its attributes -/
  | ins (C dx : Addr) (fs : List (Str × V))
  /-- the dict of the instance at x -/
  | own (x : Addr)
  /-- the dict of an exception -/
  | xd (fs : List (Str × V))
  /-- a bound method, f of x -/
  | met (f x : Addr)
  /-- a range object lo, lo + 1, .. below hi -/
  | rng (lo hi : Int)
  /-- a thing that is known to the object (the script; a dict while a loop walks it): read, never written while it is so -/
  | frz (o : Obj) (u : HO)
  /-- a code object's table -/
  | tbl (ps : Array Value)
  /-- any other thing, by what is true of its one object (a def of one's own: SetO a S n := HO.ext fun h => ..) -/
  | ext (φ : Heap → Prop)

abbrev Hp := Addr → Option HO
def upd (H : Hp) (a : Addr) (o : HO) : Hp := fun b => if b = a then some o else H b
theorem upd_same {H : Hp} {a : Addr} {o : HO} : upd H a o a = some o := by unfold upd; rw [if_pos rfl]
theorem upd_ne {H : Hp} {a b : Addr} {o : HO} (h : b ≠ a) : upd H a o b = H b := by unfold upd; rw [if_neg h]
theorem upd_upd {H : Hp} {a : Addr} {o u : HO} : upd (upd H a o) a u = upd H a u := by
  funext b; unfold upd; split <;> rfl
/-- two objects of different content stand apart -/
theorem ne_of {H : Hp} {a b : Addr} {o u : HO} (h : H a = some o) (h' : H b = some u) (d : o ≠ u) : a ≠ b := by
  intro e; subst e; rw [h] at h'; exact d (Option.some.inj h')
theorem ne_of_none {H : Hp} {a b : Addr} {o : HO} (h : H a = some o) (h' : H b = none) : a ≠ b := by
  intro e; subst e; rw [h] at h'; cases h'

section
variable (P : Program) (w : World)
def ObjOk (H : Hp) (h : Heap) (a : Addr) : HO → Prop
  | .lst xs => xs.length ≤ sizeLine ∧ ∃ (its : List Value) (n : Nat), Vals xs its ∧ h.get? a = some { cls := .type "list", data := .seq its.toArray n }
  | .tup xs => xs.length ≤ sizeLine ∧ ∃ its : List Value, Vals xs its ∧ IsTup h a its.toArray
  | .dK kvs => kvs.length ≤ sizeLine ∧ (a == sysModules) = false ∧ ∃ vs, KV kvs vs ∧ h.DictOf (mixKind P w) a vs
  | .dT kvs => kvs.length ≤ sizeLine ∧ (a == sysModules) = false ∧ ∃ xs : List (List Key × Addr × Value),
      Paired (fun (p : List Key × V) (q : List Key × Addr × Value) => p.1 = q.1 ∧ H q.2.1 = some (.tup (p.1.map kV)) ∧ RelV p.2 q.2.2) kvs xs ∧
      ∃ o es ep, h.get? a = some o ∧ o.ExactDict ∧ o.data = .dict es ep ∧ es.toList = xs.map (entryOfKey (tupleKind (mixKind P w))) ∧ (xs.map (·.1)).Nodup
  | .set S n => h.SetOf (intKind P w) a S n
  | .ins C dx fs => H dx = some (.own a) ∧ fs.length ≤ 1000 ∧ dx ≠ a ∧ h.get? a = some (PySem.W.instObj C dx) ∧
      ∃ mA, h.Ns1 dx mA ∧ (∀ f, RelO (fs.lookup f) (mA f)) ∧ PySem.Within mA (fs.map (·.1))
  | .own _ => ∃ o, h.get? a = some o
  | .xd fs => ∃ mA, h.Ns1 a mA ∧ ∀ f, RelO (fs.lookup f) (mA f)
  | .rng lo hi => ∃ t u v, h.get? a = some { cls := .type "range", data := .fields #[.int lo t, .int hi u, .int 1 v] }
  | .frz o u => h.get? a = some o ∧ ObjOk H h a u
  | .tbl ps => h.get? a = some { cls := .none, data := .fields ps }
  | .met f x => h.get? a = some (PySem.W.methodObj (.ref f) (.ref x))
  | .ext φ => φ h ∧ (∃ o, h.get? a = some o) ∧ ∀ h1 h2 : Heap, φ h1 → (∀ o, h1.get? a = some o → h2.get? a = some o) → φ h2
/-- the abstract heap is held -/
def HOk (H : Hp) (h : Heap) : Prop := ∀ a o, H a = some o → ObjOk P w H h a o
end

section
variable {P : Program} {w : World} {H H' : Hp} {h h' : Heap} {a : Addr} {o : HO}
theorem ObjOk.lt (x : ObjOk P w H h a o) : a < h.objs.size := by
  cases o with
  | lst xs => obtain ⟨_, _, _, _, e⟩ := x; exact Heap.lt_size e
  | tup xs => obtain ⟨_, _, _, p⟩ := x; exact p.lt
  | dK kvs => obtain ⟨_, _, _, _, o, _, _, e, _⟩ := x; exact Heap.lt_size e
  | dT kvs => obtain ⟨_, _, _, _, o, _, _, e, _⟩ := x; exact Heap.lt_size e
  | set S n => obtain ⟨o, _, _, _, e, _⟩ := x; exact Heap.lt_size e
  | ins C dx fs => obtain ⟨_, _, _, e, _⟩ := x; exact Heap.lt_size e
  | own y => obtain ⟨_, e⟩ := x; exact Heap.lt_size e
  | xd fs => obtain ⟨_, ⟨_, _, _, e, _⟩, _⟩ := x; exact Heap.lt_size e
  | rng lo hi => obtain ⟨_, _, _, e⟩ := x; exact Heap.lt_size e
  | frz ob u => obtain ⟨e, _⟩ := x; exact Heap.lt_size e
  | tbl ps => exact Heap.lt_size (show h.get? a = some _ from x)
  | met f y => exact Heap.lt_size (show h.get? a = some _ from x)
  | ext φ => obtain ⟨_, ⟨_, e⟩, _⟩ := x; exact Heap.lt_size e
theorem Paired.mapP {α β : Type} {F G : α → β → Prop} : ∀ {l₁ : List α} {l₂ : List β}, Paired F l₁ l₂ → (∀ a b, F a b → G a b) → Paired G l₁ l₂
  | _, _, .nil, _ => .nil
  | _, _, .cons r t, f => .cons (f _ _ r) (Paired.mapP t f)
/-- what an object's description leans on: its own object, its own dict, the tuples -/
theorem ObjOk.stay (x : ObjOk P w H h a o) (k : ∀ b u, (b = a ∨ H b = some (.own a)) → h.get? b = some u → h'.get? b = some u)
    (ho : ∀ b, H b = some (.own a) → H' b = some (.own a)) (ht : ∀ b xs, H b = some (.tup xs) → H' b = some (.tup xs)) : ObjOk P w H' h' a o := by
  induction o with
  | lst xs => obtain ⟨z, its, n, r, e⟩ := x; exact ⟨z, its, n, r, k _ _ (.inl rfl) e⟩
  | tup xs => obtain ⟨z, its, r, ob, e, c⟩ := x; exact ⟨z, its, r, ob, k _ _ (.inl rfl) e, c⟩
  | dK kvs => obtain ⟨z, y, vs, r, ob, es, ep, e, c⟩ := x; exact ⟨z, y, vs, r, ob, es, ep, k _ _ (.inl rfl) e, c⟩
  | dT kvs =>
    obtain ⟨z, y, xs, r, ob, es, ep, e, c⟩ := x
    exact ⟨z, y, xs, Paired.mapP r fun p q z => ⟨z.1, ht _ _ z.2.1, z.2.2⟩, ob, es, ep, k _ _ (.inl rfl) e, c⟩
  | set S n => obtain ⟨ob, es, ep, t, e, c⟩ := x; exact ⟨ob, es, ep, t, k _ _ (.inl rfl) e, c⟩
  | ins C dx fs =>
    obtain ⟨d, z, ne, e, mA, ⟨od, es, ep, e2, c⟩, r⟩ := x
    exact ⟨ho _ d, z, ne, k _ _ (.inl rfl) e, mA, ⟨od, es, ep, k _ _ (.inr d) e2, c⟩, r⟩
  | own y => obtain ⟨ob, e⟩ := x; exact ⟨ob, k _ _ (.inl rfl) e⟩
  | xd fs => obtain ⟨mA, ⟨od, es, ep, e, c⟩, r⟩ := x; exact ⟨mA, ⟨od, es, ep, k _ _ (.inl rfl) e, c⟩, r⟩
  | rng lo hi => obtain ⟨t, u, v, e⟩ := x; exact ⟨t, u, v, k _ _ (.inl rfl) e⟩
  | frz ob u ih => obtain ⟨e, q⟩ := x; exact ⟨k _ _ (.inl rfl) e, ih q⟩
  | tbl ps =>
    have e : h.get? a = some { cls := .none, data := .fields ps } := x
    show h'.get? a = some { cls := .none, data := .fields ps }
    exact k a _ (.inl rfl) e
  | met f y =>
    have e : h.get? a = some (PySem.W.methodObj (.ref f) (.ref y)) := x
    show h'.get? a = some (PySem.W.methodObj (.ref f) (.ref y))
    exact k a _ (.inl rfl) e
  | ext φ => obtain ⟨p, ⟨o, e⟩, st⟩ := x; exact ⟨st _ _ p fun o q => k _ _ (.inl rfl) q, ⟨o, k _ _ (.inl rfl) e⟩, st⟩
theorem HOk.lt (x : HOk P w H h) (e : H a = some o) : a < h.objs.size := (x a o e).lt
theorem HOk.fresh (x : HOk P w H h) (e : h.objs.size ≤ a) : H a = none := by
  cases q : H a with
  | none => rfl
  | some u => exact absurd (Nat.lt_of_lt_of_le (x.lt q) e) (Nat.lt_irrefl _)
/-- every object of the heap is kept -/
theorem HOk.kept (x : HOk P w H h) (k : ∀ b u, h.get? b = some u → h'.get? b = some u) : HOk P w H h' := fun a o e =>
  (x a o e).stay (fun b u _ q => k b u q) (fun _ q => q) fun _ _ q => q
/-- a new object is laid and tracked -/
theorem HOk.laid (x : HOk P w H h) (k : ∀ b u, h.get? b = some u → h'.get? b = some u) (hp : h.objs.size ≤ a) (new : ObjOk P w (upd H a o) h' a o) : HOk P w (upd H a o) h' := fun b u e => by
  have hn := x.fresh hp
  by_cases hb : b = a
  · subst hb; rw [upd_same] at e; cases e; exact new
  · rw [upd_ne hb] at e
    exact (x b u e).stay (fun c v _ q => k c v q) (fun c q => by rw [upd_ne (ne_of_none q hn)]; exact q) fun c xs q => by rw [upd_ne (ne_of_none q hn)]; exact q
end

/-- what may be read as u: it is u, or a known u -/
def Rd (H : Hp) (a : Addr) (u : HO) : Prop := H a = some u ∨ ∃ o, H a = some (.frz o u)
theorem Rd.ok {P : Program} {w : World} {H : Hp} {h : Heap} {a : Addr} {u : HO} (r : Rd H a u) (x : HOk P w H h) : ObjOk P w H h a u := by
  rcases r with r | ⟨o, r⟩
  · exact x a u r
  · obtain ⟨_, q⟩ := x a _ r
    exact q
/-- what may be written -/
def Mut : Option HO → Prop
  | some (.lst _) => True
  | some (.dK _) => True
  | some (.dT _) => True
  | some (.set _ _) => True
  | some (.ins _ _ _) => True
  | some (.ext _) => True
  | _ => False
section
variable {P : Program} {w : World} {H : Hp} {h h' : Heap} {x e : Addr} {o' : HO}
/-- the object at e is changed: x itself, or the dict of the instance x -/
theorem HOk.write (ok : HOk P w H h) (mu : Mut (H x)) (he : e = x ∨ H e = some (.own x)) (k : ∀ b u, b ≠ e → h.get? b = some u → h'.get? b = some u) (heo : ∃ u, h'.get? e = some u)
    (new : ObjOk P w (upd H x o') h' x o') : HOk P w (upd H x o') h' := fun b u q => by
  have nown : ∀ c y, H c = some (.own y) → c ≠ x := fun c y r z => by subst z; rw [r] at mu; exact mu
  have ntup : ∀ c xs, H c = some (.tup xs) → c ≠ x := fun c xs r z => by subst z; rw [r] at mu; exact mu
  by_cases hb : b = x
  · subst hb; rw [upd_same] at q; cases q; exact new
  · rw [upd_ne hb] at q
    by_cases hbe : b = e
    · have q' : H b = some (.own x) := by
        rcases he with z | z
        · exact absurd (hbe.trans z) hb
        · rw [hbe]; exact z
      rw [q] at q'; cases q'
      obtain ⟨v, hv⟩ := heo
      exact ⟨v, by rw [hbe]; exact hv⟩
    · refine (ok b u q).stay (fun c v hc r => k c v ?_ r) (fun c r => by rw [upd_ne (nown c b r)]; exact r) fun c xs r => by rw [upd_ne (ntup c xs r)]; exact r
      rcases hc with rfl | hc
      · exact hbe
      · rintro rfl
        rcases he with z | z
        · exact nown c b hc z
        · rw [hc] at z; cases z; exact hb rfl
end

/-! ### kept unless tracked; of the frames at fs (the callers') the slots may change (an exception that passes writes there); of the records at ex (iterators) nothing is said -/
structure Un (fs ex : List Addr) (H H' : Hp) (h h' : Heap) : Prop where
  keep : ∀ b o, h.get? b = some o → H b = none → b ∉ fs → b ∉ ex → h'.get? b = some o
  slot : ∀ b o, h.get? b = some o → H b = none → b ∈ fs → b ∉ ex → ∃ sl, h'.get? b = some { o with slots := sl }
  free : ∀ b o, h.get? b = some o → H b = none → b ∉ ex → H' b = none
  there : ∀ b o, h.get? b = some o → b ∉ ex → ∃ o', h'.get? b = some o'
  tups : ∀ b xs, H b = some (.tup xs) → H' b = some (.tup xs)
  frzs : ∀ b o u, H b = some (.frz o u) → H' b = some (.frz o u)
  tbls : ∀ b ps, H b = some (.tbl ps) → ∃ more, H' b = some (.tbl (ps ++ more))
section
variable {fs fs' ex ex' : List Addr} {H H1 H2 : Hp} {h h1 h2 h' : Heap} {a x e : Addr} {o : HO}
theorem Un.any (u : Un fs ex H H1 h h1) {b : Addr} {ob : Obj} (q : h.get? b = some ob) (n : H b = none) (hx : b ∉ ex) : ∃ sl, h1.get? b = some { ob with slots := sl } := by
  by_cases hb : b ∈ fs
  · exact u.slot b ob q n hb hx
  · exact ⟨ob.slots, u.keep b ob q n hb hx⟩
theorem Un.kept (k : ∀ b u, h.get? b = some u → h'.get? b = some u) : Un fs ex H H h h' :=
  ⟨fun b ob q _ _ _ => k b ob q, fun b ob q _ _ _ => ⟨ob.slots, k b ob q⟩, fun _ _ _ n _ => n, fun b ob q _ => ⟨ob, k b ob q⟩, fun _ _ q => q, fun _ _ _ q => q, fun _ ps q => ⟨#[], by rw [q]; simp⟩⟩
theorem Un.refl : Un fs ex H H h h := Un.kept fun _ _ q => q
theorem Un.laid (k : ∀ b u, h.get? b = some u → h'.get? b = some u) (hp : h.objs.size ≤ a) (hn : H a = none) : Un fs ex H (upd H a o) h h' where
  keep := fun b u q _ _ _ => k b u q
  slot := fun b u q _ _ _ => ⟨u.slots, k b u q⟩
  free := fun b u q n _ => by rw [upd_ne (Nat.ne_of_lt (Nat.lt_of_lt_of_le (Heap.lt_size q) hp))]; exact n
  there := fun b u q _ => ⟨u, k b u q⟩
  tups := fun b xs q => by rw [upd_ne (ne_of_none q hn)]; exact q
  frzs := fun b u xs q => by rw [upd_ne (ne_of_none q hn)]; exact q
  tbls := fun b ps q => ⟨#[], by rw [upd_ne (ne_of_none q hn), q]; simp⟩
theorem Un.write (mu : Mut (H x)) (he : e = x ∨ H e = some (.own x)) (k : ∀ b u, b ≠ e → h.get? b = some u → h'.get? b = some u) (heo : ∃ u, h'.get? e = some u) : Un fs ex H (upd H x o) h h' := by
  have hx : ∀ b, H b = none → b ≠ x := fun b n z => by subst z; rw [n] at mu; exact mu
  have hb : ∀ b, H b = none → b ≠ e := fun b n z => by
    subst z
    rcases he with r | r
    · exact hx b n r
    · rw [n] at r; cases r
  have hm : ∀ b u, H b = some u → ¬ Mut (some u) → b ≠ x := fun b u q nm z => by subst z; rw [q] at mu; exact nm mu
  refine ⟨fun b u q n _ _ => k b u (hb b n) q, fun b u q n _ _ => ⟨u.slots, k b u (hb b n) q⟩, fun b u q n _ => by rw [upd_ne (hx b n)]; exact n, fun b u q _ => ?_,
    fun b xs q => by rw [upd_ne (hm b _ q fun z => z)]; exact q, fun b u xs q => by rw [upd_ne (hm b _ q fun z => z)]; exact q, fun b ps q => ⟨#[], by rw [upd_ne (hm b _ q fun z => z), q]; simp⟩⟩
  by_cases hbe : b = e
  · subst hbe; exact heo
  · exact ⟨u, k b u hbe q⟩
end

/-! ### the heap without what is tracked -/
def trk (h : Heap) (H : Hp) : List Addr := (List.range h.objs.size).filter fun a => (H a).isSome
def hidT (h : Heap) (H : Hp) : Heap := PySem.W.hideAll h (trk h H)
theorem hidT_size (h : Heap) (H : Hp) : (hidT h H).objs.size = h.objs.size := PySem.W.hideAll_size _ _
theorem hidT_get {h : Heap} {H : Hp} {b : Addr} {o : Obj} (e : h.get? b = some o) (n : H b = none) : (hidT h H).get? b = some o :=
  PySem.W.hideAll_get _ e fun hm => by
    have q : (H b).isSome = true := (List.mem_filter.mp hm).2
    rw [n] at q; simp at q
theorem of_hidT {h : Heap} {H : Hp} {b : Addr} {o : Obj} (e : (hidT h H).get? b = some o) : h.get? b = some o ∧ H b = none := by
  have e' : h.get? b = some o := PySem.W.of_hideAll (trk h H) e
  refine ⟨e', ?_⟩
  cases q : H b with
  | none => rfl
  | some x =>
    have hm : b ∈ trk h H := List.mem_filter.mpr ⟨List.mem_range.mpr (Heap.lt_size e'), by simp [q]⟩
    have z : (hidT h H).get? b = none := PySem.W.hideAll_none (trk h H) hm
    rw [z] at e; cases e

/-! ### OpenK's ledger, filled with every new object but one -/
end L2

namespace L2
open PySem PySem.Spec PyProof.Rows

/-- the module's facts, over the base: the heap at the law's entry without what is tracked there -/
structure Mod (K : PySem.W.Frag) (mg : Str → Option Value) (base : Heap) : Prop where
  kin : K.In base
  glob : base.Ns mainGlobals mg
  blt : ∃ mb, base.Ns builtinsNs mb ∧ ∀ x : Str, x ≠ "__name__" → mb x = bootBuiltins x
  nolimit : base.NoLimit

/-- the context: a def's body (or a comprehension's block) running. base: fixed through the whole law; s₀, H₀: the entry; outer: the frames whose slots others may change (a def's callers); stack: all frames that run;
   ex: iterators that were made ahead of the entry and are walked here (a comprehension's); fn: the names whose cells were made at the entry (a def: all; a comprehension's block: its own); calm: not within an except suite; pn: pins that every state bears; xe: what is wanted of an exception that leaves the code -/
structure Cx where
  prog : Program
  w : World
  K : PySem.W.Frag
  mg : Str → Option Value
  base : Heap
  A : Around
  N : List Str
  s₀ : Shared
  H₀ : Hp
  env : Env
  outer : List Env
  stack : List Env
  ex : List Addr
  fn : Str → Bool
  calm : Bool
  pn : List (Addr × Obj)
  xe : Value → Shared → Prop
/-- the callers' frames -/
def frs (l : List Env) : List Addr := l.filterMap (·.frame)
abbrev Cx.fs (X : Cx) : List Addr := frs X.outer

def Vis (sc : Scope) (x : Str) : Prop := sc.names.lookup x = some .local ∨ sc.names.lookup x = some .cell ∨ sc.names.lookup x = some .free
def Loc (sc : Scope) (x : Str) : Prop := sc.names.lookup x = some .local ∨ sc.names.lookup x = some .cell
def Look (env : Env) (h : Heap) (m : Str → Option Value) (x : Str) (u : Value) : Prop :=
  (env.kindOf x = some .local ∧ m x = some u) ∨ ((env.kindOf x = some .cell ∨ env.kindOf x = some .free) ∧ ∃ c, env.cells.lookup x = some c ∧ h.IsCell c (some u))

structure Cx.Ok (X : Cx) : Prop where
  mod : Mod X.K X.mg X.base
  kind : X.env.scope.kind = .function
  glob : X.env.globals = mainGlobals
  blt : X.env.builtins = builtinsNs
  above : X.s₀.heap.objs.size ≤ X.env.locals
  inj : ∀ x y c, X.env.cells.lookup x = some c → X.env.cells.lookup y = some c → x = y
  has : ∀ x, (X.env.kindOf x = some .cell ∨ X.env.kindOf x = some .free) → ∃ c, X.env.cells.lookup x = some c
  cab : ∀ x c, X.fn x = true → X.env.cells.lookup x = some c → X.s₀.heap.objs.size ≤ c
  hd : X.calm = true → X.A.handled = none
  frames : X.A.frames = some X.stack
  stk : X.stack = X.outer ∨ (X.stack = X.env :: X.outer ∧ X.env.frame = some X.env.locals)
  exf : ∀ b ∈ X.ex, b ≠ X.env.locals ∧ ∀ x c, X.env.cells.lookup x = some c → c ≠ b
  bs : ∀ b o, X.base.get? b = some o → X.s₀.heap.get? b = some o ∧ X.H₀ b = none
  bsz : X.base.objs.size ≤ X.s₀.heap.objs.size
  noex : ∀ b o, X.base.get? b = some o → b ∉ X.ex
  exfs : ∀ b ∈ X.ex, b ∉ X.fs
  funs : X.s₀.heap.FunFrames X.base X.outer
  frf : ∀ b ∈ X.fs, X.H₀ b = none

structure Inv (X : Cx) (pins : List (Addr × Obj)) (σ : List (Option V)) (H : Hp) (s : Shared) : Prop where
  ok : X.Ok
  os : s.os = X.s₀.os
  bare : AllBare s.gens
  base : Un X.fs X.ex X.H₀ H X.s₀.heap s.heap
  loc : ∃ m, s.heap.Ns X.env.locals m ∧ ∀ (i : Nat) (x : Str) (v : V), X.N[i]? = some x → σ[i]? = some (some v) → Vis X.env.scope x → ∃ u, RelV v u ∧ Look X.env s.heap m x u
  cell : ∀ x c, X.env.cells.lookup x = some c → ∃ v, s.heap.IsCell c v
  free : H X.env.locals = none
  freeC : ∀ x c, X.env.cells.lookup x = some c → H c = none
  pin : ∀ p ∈ X.pn ++ pins, s.heap.get? p.1 = some p.2 ∧ H p.1 = none ∧ p.1 ≠ X.env.locals ∧ p.1 ∉ X.fs ∧ ∀ v, p.2.data ≠ .cell v
  hok : HOk X.prog X.w H s.heap
  len : σ.length = X.N.length

section
variable {X : Cx} {pins : List (Addr × Obj)} {σ : List (Option V)} {H H' : Hp} {s : Shared} {h' : Heap}

theorem Cx.Ok.nofr (ok : X.Ok) {b : Addr} {o : Obj} (e : X.base.get? b = some o) : b ∉ X.fs := fun hb => by
  have := (ok.funs.mem hb).1
  rw [e] at this; cases this
theorem Inv.bs (I : Inv X pins σ H s) : ∀ b o, X.base.get? b = some o → s.heap.get? b = some o ∧ H b = none := fun b o e =>
  ⟨I.base.keep b o (I.ok.bs b o e).1 (I.ok.bs b o e).2 (I.ok.nofr e) (I.ok.noex b o e), I.base.free b o (I.ok.bs b o e).1 (I.ok.bs b o e).2 (I.ok.noex b o e)⟩
theorem Inv.bk (I : Inv X pins σ H s) : ∀ b o, X.base.get? b = some o → s.heap.get? b = some o := fun b o e => (I.bs b o e).1
theorem Inv.mod (I : Inv X pins σ H s) : Mod X.K X.mg X.base := I.ok.mod
theorem Inv.kIn (I : Inv X pins σ H s) : X.K.In s.heap := I.ok.mod.kin.keeps I.bk
theorem Inv.lt (I : Inv X pins σ H s) : X.env.locals < s.heap.objs.size := let ⟨_, hn, _⟩ := I.loc; hn.lt
theorem Inv.sz (I : Inv X pins σ H s) : X.s₀.heap.objs.size ≤ s.heap.objs.size := Nat.le_trans I.ok.above (Nat.le_of_lt I.lt)
theorem Inv.nofs (I : Inv X pins σ H s) {a : Addr} (h : s.heap.objs.size ≤ a) : a ∉ X.fs := fun hb => by
  obtain ⟨_, o, ho, _⟩ := I.ok.funs.mem hb
  exact absurd (Nat.lt_of_lt_of_le (Heap.lt_size ho) (Nat.le_trans I.sz h)) (Nat.lt_irrefl _)
theorem Inv.cne (I : Inv X pins σ H s) : ∀ x c, X.env.cells.lookup x = some c → c ≠ X.env.locals := fun x c e z => by
  obtain ⟨v, o, ho, hd⟩ := I.cell x c e
  obtain ⟨m, ⟨o', es, ep, ho', hd', _⟩, _⟩ := I.loc
  rw [z, ho'] at ho; cases ho; rw [hd'] at hd; cases hd
theorem Inv.funs (I : Inv X pins σ H s) : s.heap.FunFrames X.base X.outer := by
  have all : ∀ (l : List Env), (∀ b ∈ frs l, b ∈ X.fs) → X.s₀.heap.FunFrames X.base l → s.heap.FunFrames X.base l := by
    intro l
    induction l with
    | nil => intro _ _; trivial
    | cons env r ih =>
      intro hs hl
      obtain ⟨hk, ⟨L, o, hf, hn, ho, hd⟩, hr⟩ := hl
      have hL : L ∈ X.fs := hs L (by unfold frs; rw [List.filterMap_cons, hf]; exact List.mem_cons_self)
      obtain ⟨sl, e⟩ := I.base.slot L o ho (I.ok.frf L hL) hL fun z => I.ok.exfs L z hL
      exact ⟨hk, ⟨L, _, hf, hn, e, hd⟩, ih (fun b hb => hs b (by unfold frs; rw [List.filterMap_cons, hf]; exact List.mem_cons_of_mem _ hb)) hr⟩
  exact all X.outer (fun _ hb => hb) I.ok.funs

/-- the frames that run, for a call -/
theorem Inv.stack (I : Inv X pins σ H s) : s.heap.FunFrames X.base X.stack := by
  rcases I.ok.stk with e | ⟨e, hf⟩
  · rw [e]; exact I.funs
  · rw [e]
    obtain ⟨m, hn, _⟩ := I.loc
    refine .cons (by rw [I.ok.kind]; decide) hf hn ?_ I.funs
    exact Heap.get?_none_of_le (Nat.le_trans I.ok.bsz I.ok.above)
theorem Inv.stkSub (I : Inv X pins σ H s) : ∀ b ∈ frs X.stack, b ∈ X.env.locals :: X.fs := fun b hb => by
  rcases I.ok.stk with e | ⟨e, hf⟩
  · rw [e] at hb; exact List.mem_cons_of_mem _ hb
  · rw [e] at hb
    unfold frs at hb
    rw [List.filterMap_cons, hf] at hb
    exact hb
theorem Inv.stkFree (I : Inv X pins σ H s) : ∀ b ∈ frs X.stack, H b = none := fun b hb => by
  rcases List.mem_cons.mp (I.stkSub b hb) with e | hb
  · rw [e]; exact I.free
  · obtain ⟨_, o, ho, _⟩ := I.ok.funs.mem hb
    exact I.base.free b o ho (I.ok.frf b hb) fun z => I.ok.exfs b z hb

/-- THE STEP: the untracked objects but the frame and the records at ch are kept (the callers' frames up to slots), the frame's map is kept, the new abstract heap is held -/
theorem Inv.step {g' : Array GenState} {t' : Nat} {d' : Drawn} {ch : List Addr} (I : Inv X pins σ H s)
    (hch : ∀ b ∈ ch, (b ∈ X.ex ∨ X.s₀.heap.objs.size ≤ b) ∧ b ≠ X.env.locals ∧ (∀ x c, X.env.cells.lookup x = some c → c ≠ b) ∧ ∀ p ∈ X.pn ++ pins, p.1 ≠ b)
    (keep : ∀ b o, b ≠ X.env.locals → b ∉ X.fs → b ∉ ch → s.heap.get? b = some o → H b = none → h'.get? b = some o)
    (slot : ∀ b o, b ≠ X.env.locals → b ∈ X.fs → b ∉ ch → s.heap.get? b = some o → H b = none → ∃ sl, h'.get? b = some { o with slots := sl }) (free : ∀ b o, b ∉ ch → s.heap.get? b = some o → H b = none → H' b = none)
    (there : ∀ b o, b ∉ ch → s.heap.get? b = some o → ∃ o', h'.get? b = some o')
    (tups : ∀ b xs, H b = some (.tup xs) → H' b = some (.tup xs)) (frzs : ∀ b o u, H b = some (.frz o u) → H' b = some (.frz o u)) (tbls : ∀ b ps, H b = some (.tbl ps) → ∃ more, H' b = some (.tbl (ps ++ more)))
    (ns : ∀ m, s.heap.Ns X.env.locals m → h'.Ns X.env.locals m) (hok : HOk X.prog X.w H' h') (hg : AllBare g') :
    Inv X pins σ H' { s with heap := h', gens := g', drawn := d', toks := t' } := by
  have neL : ∀ b o, X.s₀.heap.get? b = some o → b ≠ X.env.locals := fun b o e => Nat.ne_of_lt (Nat.lt_of_lt_of_le (Heap.lt_size e) I.ok.above)
  have neC : ∀ b o, X.s₀.heap.get? b = some o → b ∉ X.ex → b ∉ ch := fun b o e hx hb => by
    rcases (hch b hb).1 with z | z
    · exact hx z
    · exact absurd (Nat.lt_of_lt_of_le (Heap.lt_size e) z) (Nat.lt_irrefl _)
  have cellK : ∀ x c, X.env.cells.lookup x = some c → ∀ v, s.heap.IsCell c v → h'.IsCell c v := fun x c e v ⟨o, ho, hd⟩ => by
    have nch : c ∉ ch := fun z => (hch c z).2.2.1 x c e rfl
    by_cases hc : c ∈ X.fs
    · obtain ⟨sl, q⟩ := slot c o (I.cne x c e) hc nch ho (I.freeC x c e)
      exact ⟨_, q, hd⟩
    · exact ⟨o, keep c o (I.cne x c e) hc nch ho (I.freeC x c e), hd⟩
  refine ⟨I.ok, I.os, hg, ⟨fun b o e n hb hx => ?_, fun b o e n hb hx => ?_, fun b o e n hx => ?_, fun b o e hx => ?_, fun b xs e => tups b xs (I.base.tups b xs e), fun b o xs e => frzs b o xs (I.base.frzs b o xs e), fun b ps e => ?_⟩, ?_, fun x c e => ?_, ?_, fun x c e => ?_, fun p hp => ?_, hok, I.len⟩
  · exact keep b o (neL b o e) hb (neC b o e hx) (I.base.keep b o e n hb hx) (I.base.free b o e n hx)
  · obtain ⟨sl, e1⟩ := I.base.slot b o e n hb hx
    obtain ⟨sl', e2⟩ := slot b _ (neL b o e) hb (neC b o e hx) e1 (I.base.free b o e n hx)
    exact ⟨sl', e2⟩
  · obtain ⟨o', e1⟩ := I.base.there b o e hx
    exact free b o' (neC b o e hx) e1 (I.base.free b o e n hx)
  · obtain ⟨o', e1⟩ := I.base.there b o e hx
    exact there b o' (neC b o e hx) e1
  · obtain ⟨m1, e1⟩ := I.base.tbls b ps e
    obtain ⟨m2, e2⟩ := tbls b _ e1
    exact ⟨m1 ++ m2, by rw [e2, Array.append_assoc]⟩
  · obtain ⟨m, hn, hl⟩ := I.loc
    refine ⟨m, ns m hn, fun i x v e1 e2 e3 => ?_⟩
    obtain ⟨u, r, l⟩ := hl i x v e1 e2 e3
    refine ⟨u, r, ?_⟩
    rcases l with l | ⟨k, c, e, z⟩
    · exact .inl l
    · exact .inr ⟨k, c, e, cellK x c e _ z⟩
  · obtain ⟨v, z⟩ := I.cell x c e
    exact ⟨v, cellK x c e v z⟩
  · obtain ⟨m, ⟨o, _, _, ho, _⟩, _⟩ := I.loc
    exact free _ o (fun z => (hch _ z).2.1 rfl) ho I.free
  · obtain ⟨v, o, ho, hd⟩ := I.cell x c e
    exact free c o (fun z => (hch c z).2.2.1 x c e rfl) ho (I.freeC x c e)
  · obtain ⟨e, n, ne, nf, d⟩ := I.pin p hp
    have nch : p.1 ∉ ch := fun z => (hch p.1 z).2.2.2 p hp rfl
    exact ⟨keep p.1 p.2 ne nf nch e n, free p.1 p.2 nch e n, ne, nf, d⟩
/-- .. where the frame's own object is kept too -/
theorem Inv.un {t' : Nat} (I : Inv X pins σ H s) (u : Un X.fs [] H H' s.heap h') (hok : HOk X.prog X.w H' h') : Inv X pins σ H' { s with heap := h', toks := t' } := by
  obtain ⟨m, ⟨o, es, ep, ho, r⟩, _⟩ := id I.loc
  obtain ⟨sl, hL⟩ := u.any ho I.free (by simp)
  exact I.step (g' := s.gens) (d' := s.drawn) (ch := []) (fun _ z => nomatch z) (fun b o _ hb _ e n => u.keep b o e n hb (by simp)) (fun b o _ hb _ e n => u.slot b o e n hb (by simp)) (fun b o _ e n => u.free b o e n (by simp)) (fun b o _ e => u.there b o e (by simp)) u.tups u.frzs u.tbls (fun m' hm => by
    obtain ⟨o', es', ep', ho', r'⟩ := hm
    rw [ho] at ho'; cases ho'
    exact ⟨_, es', ep', hL, r'⟩) hok I.bare
/-- behind a call (or a comprehension's block): the slots of this frame may have changed too, the records at ch may have turned -/
theorem Inv.call {g' : Array GenState} {t' : Nat} {d' : Drawn} {ch : List Addr} (I : Inv X pins σ H s) (u : Un (frs X.stack) ch H H' s.heap h') (hok : HOk X.prog X.w H' h') (hg : AllBare g')
    (hch : ∀ b ∈ ch, (b ∈ X.ex ∨ X.s₀.heap.objs.size ≤ b) ∧ b ≠ X.env.locals ∧ (∀ x c, X.env.cells.lookup x = some c → c ≠ b) ∧ ∀ p ∈ X.pn ++ pins, p.1 ≠ b) :
    Inv X pins σ H' { s with heap := h', gens := g', drawn := d', toks := t' } := by
  obtain ⟨m, ⟨o, es, ep, ho, r⟩, _⟩ := id I.loc
  obtain ⟨sl, hL⟩ := u.any ho I.free fun z => (hch _ z).2.1 rfl
  exact I.step (ch := ch) hch (fun b o hL hb hc e n => u.keep b o e n (fun z => (List.mem_cons.mp (I.stkSub b z)).elim hL hb) hc) (fun b o _ _ hc e n => u.any e n hc) (fun b o hc e n => u.free b o e n hc) (fun b o hc e => u.there b o e hc) u.tups u.frzs u.tbls (fun m' hm => by
    obtain ⟨o', es', ep', ho', r'⟩ := hm
    rw [ho] at ho'; cases ho'
    exact ⟨_, es', ep', hL, r'⟩) hok hg
/-- an untracked record of ours (an iterator) has turned -/
theorem Inv.turned {t' : Nat} {it : Addr} (I : Inv X pins σ H s) (k : ∀ b o, b ≠ it → s.heap.get? b = some o → h'.get? b = some o) (hn : H it = none) (hL : it ≠ X.env.locals)
    (h1 : it ∈ X.ex ∨ X.s₀.heap.objs.size ≤ it) (h2 : ∀ x c, X.env.cells.lookup x = some c → c ≠ it) (h3 : ∀ p ∈ X.pn ++ pins, p.1 ≠ it) : Inv X pins σ H { s with heap := h', toks := t' } := by
  have nit : ∀ b u, H b = some u → b ≠ it := fun b u e z => by rw [z, hn] at e; cases e
  refine I.step (g' := s.gens) (d' := s.drawn) (ch := [it]) (fun b hb => ?_) (fun b o _ _ hc e _ => k b o (fun z => hc (by simp [z])) e) (fun b o _ _ hc e _ => ⟨o.slots, k b o (fun z => hc (by simp [z])) e⟩) (fun _ _ _ _ n => n)
    (fun b o hc e => ⟨o, k b o (fun z => hc (by simp [z])) e⟩) (fun _ _ e => e) (fun _ _ _ e => e) (fun b ps e => ⟨#[], by rw [e]; simp⟩) (fun m hm => ?_) (fun b u e => ?_) I.bare
  · have e : b = it := by simpa using hb
    subst e
    exact ⟨h1, hL, h2, h3⟩
  · obtain ⟨o, es, ep, ho, r⟩ := hm
    exact ⟨o, es, ep, k _ o (Ne.symm hL) ho, r⟩
  · refine (I.hok b u e).stay (fun c v hc q => k c v ?_ q) (fun _ q => q) fun _ _ q => q
    rcases hc with z | z
    · rw [z]; exact nit b u e
    · exact nit c _ z
theorem Inv.tok (I : Inv X pins σ H s) (t : Nat) : Inv X pins σ H { s with toks := t } := I.un (h' := s.heap) (t' := t) Un.refl I.hok
/-- all objects kept -/
theorem Inv.kept {t' : Nat} (I : Inv X pins σ H s) (k : ∀ b u, s.heap.get? b = some u → h'.get? b = some u) : Inv X pins σ H { s with heap := h', toks := t' } := I.un (Un.kept k) (I.hok.kept k)
/-- a new object laid and tracked -/
theorem Inv.laid {a : Addr} {o : HO} {t' : Nat} (I : Inv X pins σ H s) (k : ∀ b u, s.heap.get? b = some u → h'.get? b = some u) (hp : s.heap.objs.size ≤ a) (new : ObjOk X.prog X.w (upd H a o) h' a o) :
    Inv X pins σ (upd H a o) { s with heap := h', toks := t' } := I.un (Un.laid k hp (I.hok.fresh hp)) (I.hok.laid k hp new)
/-- an object written -/
theorem Inv.write {x e : Addr} {o : HO} {t' : Nat} (I : Inv X pins σ H s) (mu : Mut (H x)) (he : e = x ∨ H e = some (.own x)) (k : ∀ b u, b ≠ e → s.heap.get? b = some u → h'.get? b = some u) (heo : ∃ u, h'.get? e = some u)
    (new : ObjOk X.prog X.w (upd H x o) h' x o) : Inv X pins σ (upd H x o) { s with heap := h', toks := t' } := I.un (Un.write mu he k heo) (I.hok.write mu he k heo new)
theorem Inv.pins_of {pins' : List (Addr × Obj)} (I : Inv X pins σ H s) (h : ∀ p ∈ pins', s.heap.get? p.1 = some p.2 ∧ H p.1 = none ∧ p.1 ≠ X.env.locals ∧ p.1 ∉ X.fs ∧ ∀ v, p.2.data ≠ .cell v) : Inv X pins' σ H s :=
  ⟨I.ok, I.os, I.bare, I.base, I.loc, I.cell, I.free, I.freeC, fun p hp => (List.mem_append.mp hp).elim (fun z => I.pin p (List.mem_append_left _ z)) (h p), I.hok, I.len⟩

theorem nodup_ix {N : List Str} (hN : N.Nodup) {i j : Nat} {x : Str} (a : N[i]? = some x) (b : N[j]? = some x) : i = j := by
  obtain ⟨h1, e1⟩ := List.getElem?_eq_some_iff.mp a
  obtain ⟨h2, e2⟩ := List.getElem?_eq_some_iff.mp b
  exact (List.getElem_inj hN).mp (e1.trans e2.symm)

/-- a name is stored; what changed -/
theorem store_ok2 {M : Model} {A : Around} {E : Value → Shared → Prop} {i : Nat} {x : Str} {v : V} {u : Value} {Q : Unit → Shared → Prop} (I : Inv X pins σ H s) (hN : X.N.Nodup) (hi : X.N[i]? = some x) (hx : Loc X.env.scope x) (r : RelV v u)
    (h : ∀ s', Inv X pins (σ.set i (some v)) H s' → (∃ a, Heap.SameBut a s.heap s'.heap ∧ (a = X.env.locals ∨ X.env.cells.lookup x = some a)) → Q () s') (hf : X.fn x = true ∨ X.env.scope.names.lookup x = some .local := by first | exact .inl rfl | exact .inr rfl | assumption) : wpAny M A (storeName X.env x u) Q E s := by
  obtain ⟨m, hn, hl⟩ := id I.loc
  have hcls : (X.env.scope.kind == .class || (X.env.scope.kind == .module && X.env.locals != X.env.globals)) = false := by rw [I.ok.kind]; rfl
  have hiσ : i < σ.length := by rw [I.len]; exact (List.getElem?_eq_some_iff.mp hi).1
  have cne := I.cne
  have tracked : ∀ {a : Addr} {h' : Heap}, (∃ o, s.heap.get? a = some o ∧ H a = none) → Heap.SameBut a s.heap h' → HOk X.prog X.w H h' := fun {a h'} ha hs b ob e => by
    obtain ⟨_, _, hfree⟩ := ha
    refine (I.hok b ob e).stay (fun c w' hc q => (hs.2 c ?_).trans q) (fun _ q => q) fun _ _ q => q
    rintro rfl
    rcases hc with rfl | hc
    · rw [hfree] at e; cases e
    · rw [hfree] at hc; cases hc
  rcases hx with hk | hk
  · refine wpAny_storeName_local hk hn (fun h' hn' hs => ?_) hcls
    obtain ⟨oL, _, _, hoL, _⟩ := id hn
    refine h _ ⟨I.ok, I.os, I.bare, ⟨fun b o e n hb hx => ?_, fun b o e n hb hx => ?_, I.base.free, fun b o e hx => ?_, I.base.tups, I.base.frzs, I.base.tbls⟩, ⟨_, hn', fun j y v' e1 e2 e3 => ?_⟩, fun y c e => ?_, I.free, I.freeC, fun p hp => ?_, tracked ⟨oL, hoL, I.free⟩ hs, by simpa using I.len⟩ ⟨_, hs, .inl rfl⟩
    · exact (hs.2 b (Nat.ne_of_lt (Nat.lt_of_lt_of_le (Heap.lt_size e) I.ok.above))).trans (I.base.keep b o e n hb hx)
    · obtain ⟨sl, e1⟩ := I.base.slot b o e n hb hx
      exact ⟨sl, (hs.2 b (Nat.ne_of_lt (Nat.lt_of_lt_of_le (Heap.lt_size e) I.ok.above))).trans e1⟩
    · obtain ⟨o', e1⟩ := I.base.there b o e hx
      exact ⟨o', (hs.2 b (Nat.ne_of_lt (Nat.lt_of_lt_of_le (Heap.lt_size e) I.ok.above))).trans e1⟩
    · by_cases hj : j = i
      · subst hj
        rw [hi] at e1; cases e1
        rw [List.getElem?_set_self hiσ] at e2
        cases e2
        exact ⟨u, r, .inl ⟨hk, by simp⟩⟩
      · rw [List.getElem?_set_ne (Ne.symm hj)] at e2
        obtain ⟨u', r', q⟩ := hl j y v' e1 e2 e3
        refine ⟨u', r', ?_⟩
        rcases q with ⟨k, e⟩ | ⟨k, c, e, z⟩
        · refine .inl ⟨k, ?_⟩
          have : y ≠ x := fun e => hj (nodup_ix hN e1 (e ▸ hi))
          simp [this, e]
        · exact .inr ⟨k, c, e, z.sameBut hs (cne y c e)⟩
    · obtain ⟨w', z⟩ := I.cell y c e
      exact ⟨w', z.sameBut hs (cne y c e)⟩
    · obtain ⟨e, n, ne, nf, d⟩ := I.pin p hp
      exact ⟨(hs.2 p.1 ne).trans e, n, ne, nf, d⟩
  · have hfn : X.fn x = true := by
      rcases hf with z | z
      · exact z
      · rw [z] at hk; cases hk
    obtain ⟨c, hc⟩ := I.ok.has x (.inl hk)
    obtain ⟨w', z⟩ := I.cell x c hc
    refine wpAny_storeName_cell I.ok.kind hk hc z (fun h' hc' hs => ?_)
    obtain ⟨oc, hoc, hocd⟩ := id z
    refine h { s with heap := h' } ⟨I.ok, I.os, I.bare, ⟨fun b o e n hb hx => ?_, fun b o e n hb hx => ?_, I.base.free, fun b o e hx => ?_, I.base.tups, I.base.frzs, I.base.tbls⟩, ⟨m, hn.sameBut hs (Ne.symm (cne x c hc)), fun j y v' e1 e2 e3 => ?_⟩, fun y c' e => ?_, I.free, I.freeC, fun p hp => ?_, tracked ⟨oc, hoc, I.freeC x c hc⟩ hs, by simpa using I.len⟩ ⟨c, hs, .inr hc⟩
    · exact (hs.2 b (Nat.ne_of_lt (Nat.lt_of_lt_of_le (Heap.lt_size e) (I.ok.cab x c hfn hc)))).trans (I.base.keep b o e n hb hx)
    · obtain ⟨sl, e1⟩ := I.base.slot b o e n hb hx
      exact ⟨sl, (hs.2 b (Nat.ne_of_lt (Nat.lt_of_lt_of_le (Heap.lt_size e) (I.ok.cab x c hfn hc)))).trans e1⟩
    · obtain ⟨o', e1⟩ := I.base.there b o e hx
      exact ⟨o', (hs.2 b (Nat.ne_of_lt (Nat.lt_of_lt_of_le (Heap.lt_size e) (I.ok.cab x c hfn hc)))).trans e1⟩
    · by_cases hj : j = i
      · subst hj
        rw [hi] at e1; cases e1
        rw [List.getElem?_set_self hiσ] at e2
        cases e2
        exact ⟨u, r, .inr ⟨.inl hk, c, hc, hc'⟩⟩
      · rw [List.getElem?_set_ne (Ne.symm hj)] at e2
        obtain ⟨u', r', q⟩ := hl j y v' e1 e2 e3
        refine ⟨u', r', ?_⟩
        rcases q with q | ⟨k, c', e, z'⟩
        · exact .inl q
        · refine .inr ⟨k, c', e, z'.sameBut hs ?_⟩
          rintro rfl
          exact hj (nodup_ix hN e1 (I.ok.inj _ _ _ e hc ▸ hi))
    · by_cases hcc : c' = c
      · subst hcc; exact ⟨_, hc'⟩
      · obtain ⟨w2, z2⟩ := I.cell y c' e
        exact ⟨w2, z2.sameBut hs hcc⟩
    · obtain ⟨e, n, ne, nf, d⟩ := I.pin p hp
      refine ⟨(hs.2 p.1 ?_).trans e, n, ne, nf, d⟩
      intro q
      rw [q, hoc] at e
      have q' : oc = p.2 := Option.some.inj e
      exact d w' (by rw [← q']; exact hocd)
theorem store_ok {M : Model} {A : Around} {E : Value → Shared → Prop} {i : Nat} {x : Str} {v : V} {u : Value} {Q : Unit → Shared → Prop} (I : Inv X pins σ H s) (hN : X.N.Nodup) (hi : X.N[i]? = some x) (hx : Loc X.env.scope x) (r : RelV v u)
    (h : ∀ s', Inv X pins (σ.set i (some v)) H s' → Q () s') (hf : X.fn x = true ∨ X.env.scope.names.lookup x = some .local := by first | exact .inl rfl | exact .inr rfl | assumption) : wpAny M A (storeName X.env x u) Q E s :=
  store_ok2 I hN hi hx r (fun s' I' _ => h s' I') hf
/-- behind a call or a block, the state as it is -/
theorem Inv.call' {s' : Shared} {ch : List Addr} (I : Inv X pins σ H s) (ho : s'.os = s.os) (u : Un (frs X.stack) ch H H' s.heap s'.heap) (hok : HOk X.prog X.w H' s'.heap) (hg : AllBare s'.gens)
    (hch : ∀ b ∈ ch, (b ∈ X.ex ∨ X.s₀.heap.objs.size ≤ b) ∧ b ≠ X.env.locals ∧ (∀ x c, X.env.cells.lookup x = some c → c ≠ b) ∧ ∀ p ∈ X.pn ++ pins, p.1 ≠ b) : Inv X pins σ H' s' := by
  obtain ⟨h', g', d', t', o'⟩ := s'
  have e : o' = s.os := ho
  subst e
  exact I.call (g' := g') (t' := t') (d' := d') u hok hg hch
end

/-! ### the judgements -/
/-- an exception: its class, its own dict's address (where it has one), the abstract heap behind it -/
abbrev XK := Value → Option Addr → Hp → Prop
abbrev St := List (Option V)
abbrev VK := V → Hp → Prop
/-- an expression's reading; a test's; an argument list's -/
abbrev TE := St → Hp → VK → Prop
abbrev TT := St → Hp → (Bool → Hp → Prop) → Prop
abbrev TA := St → Hp → (List V → Hp → Prop) → Prop
/-- what is wanted behind a statement -/
structure Ends where
  nx : St → Hp → Prop
  rt : VK
  bk : St → Hp → Prop := fun _ _ => False
  ct : St → Hp → Prop := fun _ _ => False
abbrev TS := Ends → St → Hp → Prop

def EP (X : Cx) (pins : List (Addr × Obj)) (σ : St) (Q : VK) (u : Value) (s' : Shared) : Prop := ∃ v H', Inv X pins σ H' s' ∧ RelV v u ∧ Q v H'
def TP (X : Cx) (pins : List (Addr × Obj)) (σ : St) (Q : Bool → Hp → Prop) (b : Bool) (s' : Shared) : Prop := ∃ H', Inv X pins σ H' s' ∧ Q b H'
def AP (X : Cx) (pins : List (Addr × Obj)) (σ : St) (Q : List V → Hp → Prop) (us : List Value) (s' : Shared) : Prop := ∃ vs H', Inv X pins σ H' s' ∧ Vals vs us ∧ Q vs H'
def SP (X : Cx) (pins : List (Addr × Obj)) (D : Ends) (f : Flow) (s' : Shared) : Prop :=
  match f with
  | .next => ∃ σ' H', Inv X pins σ' H' s' ∧ D.nx σ' H'
  | .brk => ∃ σ' H', Inv X pins σ' H' s' ∧ D.bk σ' H'
  | .cont => ∃ σ' H', Inv X pins σ' H' s' ∧ D.ct σ' H'
  | .ret u => ∃ v σ' H', Inv X pins σ' H' s' ∧ RelV v u ∧ D.rt v H'

def PE (X : Cx) (e : Expr) (t : TE) : Prop :=
  ∀ (pins : List (Addr × Obj)) (s : Shared) (σ : St) (H : Hp) (Q : VK), Inv X pins σ H s → t σ H Q → wpAny (model X.prog X.w) X.A (eval e X.env) (EP X pins σ Q) X.xe s
def PT (X : Cx) (e : Expr) (t : TT) : Prop :=
  ∀ (pins : List (Addr × Obj)) (s : Shared) (σ : St) (H : Hp) (Q : Bool → Hp → Prop), Inv X pins σ H s → t σ H Q → wpAny (model X.prog X.w) X.A (isTrue e X.env (eval e X.env)) (TP X pins σ Q) X.xe s
/-- a test whatever its 'whole' is (and, or) -/
def PW (X : Cx) (e : Expr) (t : TT) : Prop :=
  ∀ (whole : Sem Value) (pins : List (Addr × Obj)) (s : Shared) (σ : St) (H : Hp) (Q : Bool → Hp → Prop), Inv X pins σ H s → t σ H Q → wpAny (model X.prog X.w) X.A (isTrue e X.env whole) (TP X pins σ Q) X.xe s
theorem PW.pt {X : Cx} {e : Expr} {t : TT} (h : PW X e t) : PT X e t := h _
/-- an argument list (no star), from the left -/
def PA (X : Cx) (es : List Expr) (t : TA) : Prop :=
  ∀ (pos : Pos) (pins : List (Addr × Obj)) (s : Shared) (σ : St) (H : Hp) (Q : List V → Hp → Prop), Inv X pins σ H s → t σ H Q → wpAny (model X.prog X.w) X.A (spliced (backTo pos (starEach es X.env))) (AP X pins σ Q) X.xe s
def PS (X : Cx) (st : Stmt) (t : TS) : Prop :=
  ∀ (pins : List (Addr × Obj)) (s : Shared) (σ : St) (H : Hp) (D : Ends), Inv X pins σ H s → t D σ H → wpAny (model X.prog X.w) X.A (exec st X.env) (SP X pins D) X.xe s
def PSs (X : Cx) (st : List Stmt) (t : TS) : Prop :=
  ∀ (pins : List (Addr × Obj)) (s : Shared) (σ : St) (H : Hp) (D : Ends), Inv X pins σ H s → t D σ H → wpAny (model X.prog X.w) X.A (execs st X.env) (SP X pins D) X.xe s
/-- weaken the end -/
theorem thn {α : Type} {t : Sem α} {Q Q' : α → Shared → Prop} {M : Model} {A : Around} {E : Value → Shared → Prop} {s : Shared} (h : wpAny M A t Q E s) (hQ : ∀ a s, Q a s → Q' a s) : wpAny M A t Q' E s := wpAny_mono h hQ fun _ _ x => x
end L2

namespace L2
open PySem PySem.Spec PyProof.Rows
section
variable {X : Cx}

/-! ### names and constants -/
def tVar (i : Nat) : TE := fun σ H Q => ∃ v, σ[i]? = some (some v) ∧ Q v H
def tC (v : V) : TE := fun _ H Q => Q v H
theorem pe_var {i : Nat} {x : Str} {pos : Pos} (hN : X.N[i]? = some x) (hv : Vis X.env.scope x) (hd : (x == ("__debug__" : Str)) = false := by decide) (hcd : (x == ("__classdict__" : Str)) = false := by decide) : PE X (.Name x pos) (tVar i) := by
  intro pins s σ H Q I h
  obtain ⟨v, e, h⟩ := h
  obtain ⟨m, hn, hl⟩ := I.loc
  obtain ⟨u, r, l⟩ := hl i x v hN e hv
  have fin : EP X pins σ Q u s := ⟨v, H, I, r, h⟩
  rcases l with ⟨hk, hm⟩ | ⟨hk, c, hc, hcell⟩
  · exact wpAny_Name (wpAny_loadName_local I.ok.kind hk hn hm fin) hd
  · rcases hk with hk | hk
    · exact wpAny_Name (wpAny_loadName_cell I.ok.kind hk hc hcell fin) hd
    · exact wpAny_Name (wpAny_loadName_free I.ok.kind hk hc hcell fin hcd) hd
theorem pe_int {i j pos} : PE X (.Constant (.int i) j pos) (tC (.int i)) := fun _ _ _ H _ I h => wpAny_Constant_int ⟨.int i, H, I.tok _, ⟨_, rfl⟩, h⟩
theorem pe_bl {b j pos} : PE X (.Constant (.bool b) j pos) (tC (.bl b)) := fun _ _ _ H _ I h => Constant_bool ⟨.bl b, H, I, rfl, h⟩
theorem pe_non {j pos} : PE X (.Constant .none j pos) (tC .non) := fun _ _ _ H _ I h => Constant_none ⟨.non, H, I, rfl, h⟩
theorem pe_str {x j pos} : PE X (.Constant (.str x) j pos) (tC (.str x)) := fun _ _ _ H _ I h => Calls.Constant_str ⟨.str x, H, I.tok _, ⟨_, rfl⟩, h⟩

/-- a global name of the def -/
def Gl (X : Cx) (x : Str) : Prop := X.env.kindOf x = some .globalImplicit
theorem ld_glob {E : Value → Shared → Prop} {pins : List (Addr × Obj)} {s : Shared} {σ : St} {H : Hp} {x : Str} {u : Value} {pos : Pos} {Q : Value → Shared → Prop} (I : Inv X pins σ H s) (hg : Gl X x) (hm : X.mg x = some u) (h : Q u s)
    (hd : (x == ("__debug__" : Str)) = false := by decide) : wpAny (model X.prog X.w) X.A (eval (.Name x pos) X.env) Q E s :=
  Calls.Name_function_global I.ok.kind hg (Calls.loadGlobal_global (by rw [I.ok.glob]; exact I.mod.glob.keeps I.bk) hm h) hd
theorem ld_blt {E : Value → Shared → Prop} {pins : List (Addr × Obj)} {s : Shared} {σ : St} {H : Hp} {x : Str} {u : Value} {pos : Pos} {Q : Value → Shared → Prop} (I : Inv X pins σ H s) (hg : Gl X x) (hm : X.mg x = none) (hv : bootBuiltins x = some u) (h : Q u s)
    (hn : x ≠ "__name__" := by decide) (hd : (x == ("__debug__" : Str)) = false := by decide) : wpAny (model X.prog X.w) X.A (eval (.Name x pos) X.env) Q E s := by
  obtain ⟨mb, h1, h2⟩ := I.mod.blt
  exact Calls.Name_function_global I.ok.kind hg (Calls.loadGlobal_builtin (by rw [I.ok.glob]; exact I.mod.glob.keeps I.bk) hm (by rw [I.ok.blt]; exact h1.keeps I.bk) ((h2 x hn).trans hv) h) hd
/-- a module's constant, a class, a function, as a value -/
theorem pe_glob {x : Str} {v : V} {u : Value} {pos : Pos} (hg : Gl X x) (hm : X.mg x = some u) (r : RelV v u) (hd : (x == ("__debug__" : Str)) = false := by decide) : PE X (.Name x pos) (tC v) :=
  fun _ _ _ H _ I h => ld_glob I hg hm ⟨v, H, I, r, h⟩ hd
theorem pe_bltn {x : Str} {v : V} {u : Value} {pos : Pos} (hg : Gl X x) (hm : X.mg x = none) (hv : bootBuiltins x = some u) (r : RelV v u) (hn : x ≠ "__name__" := by decide) (hd : (x == ("__debug__" : Str)) = false := by decide) : PE X (.Name x pos) (tC v) :=
  fun _ _ _ H _ I h => ld_blt I hg hm hv ⟨v, H, I, r, h⟩ hn hd

/-! ### arithmetic -/
variable {a b : Expr} {ta tb : TE} {pos : Pos}
/-! ### comparisons -/
/-! ### and, or, not -/
variable {tA tB' : TT} {rest : List Expr}
def tAnd (t u : TT) : TT := fun σ H Q => t σ H fun c H1 => if c = true then u σ H1 Q else Q false H1
def tOr (t u : TT) : TT := fun σ H Q => t σ H fun c H1 => if c = true then Q true H1 else u σ H1 Q
def tNot (t : TT) : TT := fun σ H Q => t σ H fun c H1 => Q (!c) H1
theorem pw_and1 (ha : PT X a tA) : PW X (.BoolOp .And [a] pos) tA := by
  intro wh pins s σ H Q I h
  refine isTrue_and (thn (ha pins s σ H Q I h) fun c s1 e => ?_)
  cases c with
  | true => exact isTrue_and_nil e
  | false => exact e
theorem pw_or1 (ha : PT X a tA) : PW X (.BoolOp .Or [a] pos) tA := by
  intro wh pins s σ H Q I h
  refine isTrue_or (thn (ha pins s σ H Q I h) fun c s1 e => ?_)
  cases c with
  | false => exact isTrue_or_nil e
  | true => exact e
theorem pw_and (ha : PT X a tA) (hb : PW X (.BoolOp .And (b :: rest) pos) tB') : PW X (.BoolOp .And (a :: b :: rest) pos) (tAnd tA tB') := by
  intro wh pins s σ H Q I h
  refine isTrue_and (thn (ha pins s σ H _ I h) fun c s1 ⟨H1, I1, q1⟩ => ?_)
  cases c with
  | true => exact hb wh pins s1 σ H1 Q I1 q1
  | false => exact ⟨H1, I1, q1⟩
theorem pw_or (ha : PT X a tA) (hb : PW X (.BoolOp .Or (b :: rest) pos) tB') : PW X (.BoolOp .Or (a :: b :: rest) pos) (tOr tA tB') := by
  intro wh pins s σ H Q I h
  refine isTrue_or (thn (ha pins s σ H _ I h) fun c s1 ⟨H1, I1, q1⟩ => ?_)
  cases c with
  | true => exact ⟨H1, I1, q1⟩
  | false => exact hb wh pins s1 σ H1 Q I1 q1
theorem pt_not (ha : PT X a tA) : PT X (.UnaryOp .Not a pos) (tNot tA) := by
  intro pins s σ H Q I h
  exact isTrue_not (ha pins s σ H (fun c H1 => Q (!c) H1) I h)
/-- .. as values (bools) -/
def tAndV (ta tb : TE) : TE := fun σ H Q => ta σ H fun x H1 => ∃ c, x = .bl c ∧ if c = true then tb σ H1 Q else Q (.bl false) H1
def tNotV (ta : TE) : TE := fun σ H Q => ta σ H fun x H1 => ∃ c, x = .bl c ∧ Q (.bl (!c)) H1
theorem pe_one {op} {t : TE} (h : PE X a t) : PE X (.BoolOp op [a] pos) t := fun pins s σ H Q I hw => BoolOp_one (h pins s σ H Q I hw)
theorem pe_and (ha : PE X a ta) (hb : PE X (.BoolOp .And (b :: rest) pos) tb) : PE X (.BoolOp .And (a :: b :: rest) pos) (tAndV ta tb) := by
  intro pins s σ H Q I h
  refine BoolOp_and (thn (ha pins s σ H _ I h) fun v s1 ⟨x, H1, I1, r1, q1⟩ => ?_)
  obtain ⟨c, rfl, q1⟩ := q1
  cases r1
  refine wpAny_truthy_bool ?_
  cases c with
  | true => exact hb pins s1 σ H1 Q I1 q1
  | false => exact ⟨.bl false, H1, I1, rfl, q1⟩
theorem pe_not (ha : PE X a ta) : PE X (.UnaryOp .Not a pos) (tNotV ta) := by
  intro pins s σ H Q I h
  refine UnaryOp_ (thn (ha pins s σ H _ I h) fun v s1 ⟨x, H1, I1, r1, q1⟩ => ?_)
  obtain ⟨c, rfl, q1⟩ := q1
  cases r1
  exact not_of (wpAny_truthy_bool ⟨.bl (!c), H1, I1, rfl, q1⟩)
/-- a if t else b -/
def tIf (t : TT) (ta tb : TE) : TE := fun σ H Q => t σ H fun c H1 => if c = true then ta σ H1 Q else tb σ H1 Q
theorem pe_ifExp {c : Expr} (hc : PT X c tA) (ha : PE X a ta) (hb : PE X b tb) : PE X (.IfExp c a b pos) (tIf tA ta tb) := by
  intro pins s σ H Q I h
  refine wpAny_IfExp (thn (hc pins s σ H _ I h) fun d s1 ⟨H1, I1, q1⟩ => ?_)
  cases d with
  | true => exact ha pins s1 σ H1 Q I1 q1
  | false => exact hb pins s1 σ H1 Q I1 q1
end
end L2

namespace L2
open PySem PySem.Spec PyProof.Rows

/-! ### a list, a tuple that is read: tracked, frozen, or an object of the module -/
def SqL (K : PySem.W.Frag) (H : Hp) (a : Addr) (xs : List V) : Prop :=
  Rd H a (.lst xs) ∨
    ∃ (o : Obj) (its : Array Value) (n : Nat), K.lookup a = some o ∧ o.cls = .type "list" ∧ o.dict = none ∧ o.data = .seq its n ∧ its.size ≤ sizeLine ∧ Vals xs its.toList
def SqT (K : PySem.W.Frag) (H : Hp) (a : Addr) (xs : List V) : Prop :=
  Rd H a (.tup xs) ∨
    ∃ (o : Obj) (its : Array Value) (n : Nat), K.lookup a = some o ∧ o.cls = .type "tuple" ∧ o.data = .seq its n ∧ its.size ≤ sizeLine ∧ Vals xs its.toList
def absV : Value → Option V
  | .none => some .non
  | .bool b => some (.bl b)
  | .int i _ => some (.int i)
  | .str x _ => some (.str x)
  | .bytes b _ => some (.byt b)
  | .float b _ => some (.flt b)
  | .ref a => some (.ref a)
  | .type n => some (.ty n)
  | _ => none
theorem RelV.abs {x : V} {u : Value} (r : RelV x u) : absV u = some x := by
  cases x with
  | non => cases r; rfl
  | bl _ => cases r; rfl
  | int _ => obtain ⟨t, rfl⟩ := r; rfl
  | str _ => obtain ⟨t, rfl⟩ := r; rfl
  | byt _ => obtain ⟨t, rfl⟩ := r; rfl
  | flt _ => obtain ⟨t, rfl⟩ := r; rfl
  | ref _ => cases r; rfl
  | ty _ => cases r; rfl
theorem RelV.inj {x y : V} {u : Value} (r : RelV x u) (q : RelV y u) : x = y := Option.some.inj (r.abs.symm.trans q.abs)
theorem Vals.inj : ∀ {xs ys : List V} {us : List Value}, Vals xs us → Vals ys us → xs = ys
  | _, _, _, .nil, .nil => rfl
  | _, _, _, .cons r t, .cons r' t' => by rw [r.inj r', Vals.inj t t']
section
variable {X : Cx} {pins : List (Addr × Obj)} {σ : St} {H : Hp} {s : Shared} {a : Addr} {xs ys : List V}
theorem SqL.of {K : PySem.W.Frag} (h : H a = some (.lst xs)) : SqL K H a xs := .inl (.inl h)
theorem SqT.of {K : PySem.W.Frag} (h : H a = some (.tup xs)) : SqT K H a xs := .inl (.inl h)
theorem Inv.list (I : Inv X pins σ H s) (h : SqL X.K H a xs) : ∃ its : List Value, Vals xs its ∧ PlainL s.heap a its.toArray ∧ xs.length ≤ sizeLine := by
  rcases h with h | ⟨o, its, n, hk, hc, hd, hs, hz, r⟩
  · obtain ⟨z, its, n, r, e⟩ := h.ok I.hok
    exact ⟨its, r, ⟨_, n, e, rfl, rfl, rfl⟩, z⟩
  · refine ⟨its.toList, r, ⟨o, n, I.kIn a o hk, hc, hd, by simpa using hs⟩, ?_⟩
    have e := r.length
    simp only [Array.length_toList] at e
    (first | lia | omega)
theorem Inv.tuple (I : Inv X pins σ H s) (h : SqT X.K H a xs) : ∃ its : List Value, Vals xs its ∧ IsTup s.heap a its.toArray ∧ xs.length ≤ sizeLine := by
  rcases h with h | ⟨o, its, n, hk, hc, hs, hz, r⟩
  · obtain ⟨z, its, r, p⟩ := h.ok I.hok
    exact ⟨its, r, p, z⟩
  · refine ⟨its.toList, r, ⟨o, I.kIn a o hk, hc, n, by simpa using hs⟩, ?_⟩
    have e := r.length
    simp only [Array.length_toList] at e
    (first | lia | omega)
theorem Inv.list_inj (I : Inv X pins σ H s) (h : SqL X.K H a xs) (h' : SqL X.K H a ys) : xs = ys := by
  obtain ⟨its, r, ⟨o, n, e, _, _, d⟩, _⟩ := I.list h
  obtain ⟨its', r', ⟨o', n', e', _, _, d'⟩, _⟩ := I.list h'
  rw [e] at e'; cases e'
  rw [d] at d'
  injection d' with d1 _
  have : its = its' := by simpa using congrArg Array.toList d1
  subst this
  exact r.inj r'
theorem Inv.tuple_inj (I : Inv X pins σ H s) (h : SqT X.K H a xs) (h' : SqT X.K H a ys) : xs = ys := by
  obtain ⟨its, r, ⟨o, e, _, n, d⟩, _⟩ := I.tuple h
  obtain ⟨its', r', ⟨o', e', _, n', d'⟩, _⟩ := I.tuple h'
  rw [e] at e'; cases e'
  rw [d] at d'
  injection d' with d1 _
  have : its = its' := by simpa using congrArg Array.toList d1
  subst this
  exact r.inj r'
end

/-! ### another wish about exceptions -/
abbrev Cx.wish (X : Cx) (E : Value → Shared → Prop) : Cx := { X with xe := E }
/-- no exception leaves -/
abbrev Cx.nox (X : Cx) : Cx := X.wish fun _ _ => False
theorem Cx.Ok.wish {X : Cx} (ok : X.Ok) (E : Value → Shared → Prop) : (X.wish E).Ok :=
  ⟨ok.mod, ok.kind, ok.glob, ok.blt, ok.above, ok.inj, ok.has, ok.cab, ok.hd, ok.frames, ok.stk, ok.exf, ok.bs, ok.bsz, ok.noex, ok.exfs, ok.funs, ok.frf⟩
theorem Cx.Ok.unwish {X : Cx} {E : Value → Shared → Prop} (ok : (X.wish E).Ok) : X.Ok :=
  ⟨ok.mod, ok.kind, ok.glob, ok.blt, ok.above, ok.inj, ok.has, ok.cab, ok.hd, ok.frames, ok.stk, ok.exf, ok.bs, ok.bsz, ok.noex, ok.exfs, ok.funs, ok.frf⟩
section
variable {X : Cx} {pins : List (Addr × Obj)} {σ : St} {H : Hp} {s : Shared} {E : Value → Shared → Prop}
theorem Inv.wish (I : Inv X pins σ H s) (E : Value → Shared → Prop) : Inv (X.wish E) pins σ H s := ⟨I.ok.wish E, I.os, I.bare, I.base, I.loc, I.cell, I.free, I.freeC, I.pin, I.hok, I.len⟩
theorem Inv.unwish (I : Inv (X.wish E) pins σ H s) : Inv X pins σ H s := ⟨I.ok.unwish, I.os, I.bare, I.base, I.loc, I.cell, I.free, I.freeC, I.pin, I.hok, I.len⟩
theorem SP.unwish {D : Ends} {f : Flow} {s' : Shared} (h : SP (X.wish E) pins D f s') : SP X pins D f s' := by
  cases f with
  | next => obtain ⟨σ', H', I, q⟩ := h; exact ⟨σ', H', I.unwish, q⟩
  | brk => obtain ⟨σ', H', I, q⟩ := h; exact ⟨σ', H', I.unwish, q⟩
  | cont => obtain ⟨σ', H', I, q⟩ := h; exact ⟨σ', H', I.unwish, q⟩
  | ret u => obtain ⟨v, σ', H', I, r, q⟩ := h; exact ⟨v, σ', H', I.unwish, r, q⟩
theorem PSs.nox {st : List Stmt} {t : TS} (h : PSs X.nox st t) : PSs X st t := fun pins s σ H D I hw =>
  wpAny_mono (h pins s σ H D (I.wish _) hw) (fun _ _ q => q.unwish) fun _ _ z => False.elim z
end

/-! ### blocks and small statements -/
section
variable {X : Cx} {st : Stmt} {rest : List Stmt} {t u : TS} {e : Expr} {te : TE} {pos : Pos}
def tNext : TS := fun D σ H => D.nx σ H
def tSeq (t u : TS) : TS := fun D σ H => t { D with nx := u D } σ H
theorem pss_nil : PSs X [] tNext := fun _ _ σ H _ I h => wpAny_execs_nil ⟨σ, H, I, h⟩
theorem pss_cons (h1 : PS X st t) (h2 : PSs X rest u) : PSs X (st :: rest) (tSeq t u) := by
  intro pins s σ H D I h
  refine wpAny_execs_cons (thn (h1 pins s σ H { D with nx := u D } I h) fun f s1 q => ?_)
  cases f with
  | next =>
    obtain ⟨σ', H', I', q⟩ := q
    exact h2 pins s1 σ' H' D I' q
  | ret v => exact q
  | brk => exact q
  | cont => exact q
theorem pss_one (h1 : PS X st t) : PSs X [st] t := by
  intro pins s σ H D I h
  refine wpAny_execs_cons (thn (h1 pins s σ H D I h) fun f s1 q => ?_)
  cases f with
  | next => exact wpAny_execs_nil q
  | ret v => exact q
  | brk => exact q
  | cont => exact q
/-- in a def's body nothing is shown -/
theorem Inv.quiet {pins : List (Addr × Obj)} {σ : St} {H : Hp} {s : Shared} (I : Inv X pins σ H s) : interactive X.env = false := by simp [interactive, I.ok.kind]
/-- an expression whose value is dropped -/
def tDrop (te : TE) : TS := fun D σ H => te σ H fun _ H1 => D.nx σ H1
theorem ps_expr (he : PE X e te) (hs : swapsWith e none pos.line X.env = pure false := by rfl) : PS X (.Expr e pos) (tDrop te) := by
  intro pins s σ H D I h
  exact wpAny_Expr_any (thn (he pins s σ H _ I h) fun v s1 ⟨x, H1, I1, r1, q1⟩ => ⟨σ, H1, I1, q1⟩) I.quiet hs
def tRet (te : TE) : TS := fun D σ H => te σ H D.rt
theorem ps_ret (he : PE X e te) : PS X (.Return (some e) pos) (tRet te) := by
  intro pins s σ H D I h
  exact wpAny_Return_some (thn (he pins s σ H _ I h) fun v s1 ⟨x, H1, I1, r1, q1⟩ => ⟨x, σ, H1, I1, r1, q1⟩)
def tIfS (c : TT) (t u : TS) : TS := fun D σ H => c σ H fun b H1 => if b = true then t D σ H1 else u D σ H1
theorem ps_if {c : Expr} {a b : List Stmt} {tc : TT} (hc : PT X c tc) (ha : PSs X a t) (hb : PSs X b u) : PS X (.If c a b pos) (tIfS tc t u) := by
  intro pins s σ H D I h
  refine wpAny_If (thn (hc pins s σ H _ I h) fun d s1 ⟨H1, I1, q1⟩ => ?_)
  cases d with
  | true => exact ha pins s1 σ H1 D I1 q1
  | false => exact hb pins s1 σ H1 D I1 q1
/-- code that the proof never comes to -/
def tNever : TS := fun _ _ _ => False
theorem ps_never : PS X st tNever := fun _ _ _ _ _ _ h => h.elim
end

/-! ### targets -/
abbrev TG := V → St → Hp → (St → Hp → Prop) → Prop
abbrev TGs := List V → St → Hp → (St → Hp → Prop) → Prop
def PG (X : Cx) (target : Expr) (t : TG) : Prop :=
  ∀ (pins : List (Addr × Obj)) (s : Shared) (σ : St) (H : Hp) (v : V) (u : Value) (Q : St → Hp → Prop), Inv X pins σ H s → RelV v u → t v σ H Q →
    wpAny (model X.prog X.w) X.A (assign target X.env u) (fun _ s' => ∃ σ' H', Inv X pins σ' H' s' ∧ Q σ' H') X.xe s
/-- several targets, one after another -/
def PGs (X : Cx) (ts : List Expr) (t : TGs) : Prop :=
  ∀ (pins : List (Addr × Obj)) (s : Shared) (σ : St) (H : Hp) (vs : List V) (us : List Value) (Q : St → Hp → Prop), Inv X pins σ H s → Vals vs us → t vs σ H Q →
    wpAny (model X.prog X.w) X.A (assignInOrder ((assignEach ts X.env).map (·.2)) us) (fun _ s' => ∃ σ' H', Inv X pins σ' H' s' ∧ Q σ' H') X.xe s
section
variable {X : Cx} {pos : Pos}
def gName (i : Nat) : TG := fun v σ H Q => Q (σ.set i (some v)) H
theorem pg_name {i : Nat} {x : Str} (hN : X.N.Nodup) (hi : X.N[i]? = some x) (hx : Loc X.env.scope x) (hf : X.fn x = true ∨ X.env.scope.names.lookup x = some .local := by first | exact .inl rfl | exact .inr rfl | assumption) : PG X (.Name x pos) (gName i) := by
  intro pins s σ H v u Q I r h
  exact wpAny_assign_Name (store_ok I hN hi hx r (fun s' I' => ⟨_, H, I', h⟩) hf)
def gNil : TGs := fun vs σ H Q => vs = [] ∧ Q σ H
def gCons (t : TG) (u : TGs) : TGs := fun vs σ H Q => ∃ v r, vs = v :: r ∧ t v σ H fun σ' H' => u r σ' H' Q
theorem pgs_nil : PGs X [] gNil := by
  intro pins s σ H vs us Q I r h
  obtain ⟨e, h⟩ := h
  subst e
  cases r
  exact assignInOrder_nil ⟨σ, H, I, h⟩
theorem pgs_cons {e : Expr} {es : List Expr} {t : TG} {u : TGs} (h1 : PG X e t) (h2 : PGs X es u)
    (hs : (assignEach (e :: es) X.env).map (·.2) = assign e X.env :: (assignEach es X.env).map (·.2) := by rfl) : PGs X (e :: es) (gCons t u) := by
  intro pins s σ H vs us Q I r h
  obtain ⟨v, vr, e1, h⟩ := h
  subst e1
  cases r with
  | cons r rr =>
    rw [hs]
    refine assignInOrder_cons (thn (h1 pins s σ H _ _ _ I r h) fun _ s1 ⟨σ1, H1, I1, q1⟩ => ?_)
    exact h2 pins s1 σ1 H1 _ _ Q I1 rr q1
/-- (a, b, ..) = a tuple of that length -/
def gTup (K : PySem.W.Frag) (n : Nat) (t : TGs) : TG := fun v σ H Q => ∃ a xs, v = .ref a ∧ SqT K H a xs ∧ xs.length = n ∧ t xs σ H Q
theorem pg_tup {es : List Expr} {k : Nat} {t : TGs} {n : Nat} (hc : X.calm = true) (h : PGs X es t)
    (hn : (assignEach es X.env).length = n := by rfl) (hst : (assignEach es X.env).findIdx? (·.1) = none := by rfl) : PG X (.Tuple es k pos) (gTup X.K n t) := by
  intro pins s σ H v u Q I r hw
  obtain ⟨a, xs, e1, hq, hl, hw⟩ := hw
  subst e1
  cases r
  obtain ⟨its, rv, ht, hz⟩ := I.tuple hq
  refine assign_Tuple_tuple (I.ok.hd hc) ht (by simp [hn, ← hl, rv.length]) hst fun h' hx => ?_
  have I1 : Inv X pins σ H { s with heap := h' } := I.kept (t' := s.toks) fun b o e => hx b o (Nat.ne_of_lt (Heap.lt_size e)) e
  exact h pins _ σ H xs _ Q I1 (by simpa using rv) hw
/-- target = value -/
def tAsg (te : TE) (g : TG) : TS := fun D σ H => te σ H fun x H1 => g x σ H1 D.nx
/-- name = value -/
theorem ps_set {i : Nat} {x : Str} {e : Expr} {te : TE} {pos' : Pos} (hN : X.N.Nodup) (hi : X.N[i]? = some x) (hx : Loc X.env.scope x) (he : PE X e te) (hs : swapsWith e (some (.Name x pos')) pos.line X.env = pure false := by rfl) (hf : X.fn x = true ∨ X.env.scope.names.lookup x = some .local := by first | exact .inl rfl | exact .inr rfl | assumption) :
    PS X (.Assign [.Name x pos'] e pos) (tAsg te (gName i)) := by
  intro pins s σ H D I h
  refine wpAny_Assign_Name (thn (he pins s σ H _ I h) fun v s1 ⟨y, H1, I1, r1, q1⟩ => ?_) hs
  exact store_ok I1 hN hi hx r1 (fun s2 I2 => ⟨_, H1, I2, q1⟩) hf
end

/-! ### while -/

/-! ### what a loop or a comprehension walks -/
/-- at turn i: it yields x (the heap may grow), or it stops -/
structure It where
  go : Nat → Hp → Prop
  yld : Nat → Hp → V → Hp → Prop
  stop : Nat → Hp → Prop
/-- the iterator's own objects may turn: they are not the frame's, not pinned, younger than the entry (or a comprehension's own) -/
def FpOk (X : Cx) (pins : List (Addr × Obj)) (H : Hp) (b : Addr) : Prop :=
  H b = none ∧ b ≠ X.env.locals ∧ b ∉ X.fs ∧ (b ∈ X.ex ∨ X.s₀.heap.objs.size ≤ b) ∧ (∀ x c, X.env.cells.lookup x = some c → c ≠ b) ∧ ∀ p ∈ X.pn ++ pins, p.1 ≠ b
theorem Inv.fpOk {X : Cx} {pins : List (Addr × Obj)} {σ : St} {H H' : Hp} {s : Shared} {b : Addr} (I : Inv X pins σ H s) (hb : s.heap.objs.size ≤ b) (hn : H' b = none) : FpOk X pins H' b := by
  refine ⟨hn, Nat.ne_of_gt (Nat.lt_of_lt_of_le I.lt hb), I.nofs hb, .inr (Nat.le_trans I.sz hb), fun x c e z => ?_, fun p hp z => ?_⟩
  · obtain ⟨v, q⟩ := I.cell x c e
    exact absurd (Nat.lt_of_lt_of_le q.lt (by rw [z]; exact hb)) (Nat.lt_irrefl _)
  · exact absurd (Nat.lt_of_lt_of_le (Heap.lt_size (I.pin p hp).1) (by rw [z]; exact hb)) (Nat.lt_irrefl _)
structure Turn (P : Program) (w : World) (K : PySem.W.Frag) (tg : Expr) (J : It) (fp : List Addr) (it : Addr) (tn : Nat → Heap → Prop) : Prop where
  mem : it ∈ fp
  obj : ∀ i h, tn i h → ∀ b ∈ fp, ∃ o, h.get? b = some o ∧ ∀ v, o.data ≠ .cell v
  keep : ∀ i h h', tn i h → (∀ b ∈ fp, ∀ o, h.get? b = some o → h'.get? b = some o) → tn i h'
  item : ∀ (X : Cx), X.prog = P → X.w = w → X.K = K → X.calm = true → ∀ (i : Nat) (pins : List (Addr × Obj)) (s : Shared) (σ : St) (H : Hp) (E : Value → Shared → Prop), Inv X pins σ H s → (∀ b ∈ fp, FpOk X pins H b) → tn i s.heap → J.go i H →
    wpAny (model P w) X.A (pyNext (.ref it)) (fun r s1 => ∃ u, r = some u ∧
      wpAny (model P w) X.A (letOwnedTupleGo tg (.ref it) u) (fun _ s2 => ∃ x H', Inv X pins σ H' s2 ∧ RelV x u ∧ J.yld i H x H' ∧ tn (i + 1) s2.heap ∧ ∀ b ∈ fp, H' b = none) E s1) E s
  done : ∀ (X : Cx), X.prog = P → X.w = w → X.K = K → X.calm = true → ∀ (i : Nat) (pins : List (Addr × Obj)) (s : Shared) (σ : St) (H : Hp) (E : Value → Shared → Prop), Inv X pins σ H s → (∀ b ∈ fp, FpOk X pins H b) → tn i s.heap → J.stop i H →
    wpAny (model P w) X.A (pyNext (.ref it)) (fun r s1 => r = none ∧ Inv X pins σ H s1) E s
  self : ∀ (A : Around) (i : Nat) (s : Shared) (Q : Value → Shared → Prop) (E : Value → Shared → Prop), tn i s.heap → Q (.ref it) s → wpAny (model P w) A (pyIter (.ref it)) Q E s
abbrev TI := St → Hp → (It → Hp → Prop) → Prop
/-- an iterator has come -/
def PIE (X : Cx) (pins : List (Addr × Obj)) (σ : St) (tg : Expr) (R : It → Hp → Prop) (itv : Value) (s2 : Shared) : Prop :=
  ∃ (it : Addr) (fp : List Addr) (tn : Nat → Heap → Prop) (J : It) (H' : Hp), itv = .ref it ∧ Inv X pins σ H' s2 ∧ Turn X.prog X.w X.K tg J fp it tn ∧ tn 0 s2.heap ∧ (∀ b ∈ fp, FpOk X pins H' b) ∧ R J H'
def PI (X : Cx) (tg iter : Expr) (wi : TI) : Prop :=
  ∀ (pins : List (Addr × Obj)) (s : Shared) (σ : St) (H : Hp) (R : It → Hp → Prop), Inv X pins σ H s → wi σ H R →
    wpAny (model X.prog X.w) X.A (eval iter X.env) (fun v s1 => wpAny (model X.prog X.w) X.A (pyIter v) (PIE X pins σ tg R) X.xe s1) X.xe s

/-- the step ahead of the store is nothing for an iterator that keeps no tuple -/
theorem go_of {M : Model} {A : Around} {E : Value → Shared → Prop} {s : Shared} {tg : Expr} {it : Addr} {u : Value} {o : Obj} {n : String} {vs : Array Value} {Q : Unit → Shared → Prop} (ho : s.heap.get? it = some o) (hc : o.cls = .type n) (hd : o.data = .fields vs)
    (hn : ["enumerate", "zip", "dict_itemiterator", "dict_reverseitemiterator", "odict_iterator", "itertools.zip_longest", "itertools.pairwise"].contains n = false) (hQ : Q () s) : wpAny M A (letOwnedTupleGo tg (.ref it) u) Q E s := by
  unfold letOwnedTupleGo
  cases tg <;> first
    | exact wpAny_pure hQ
    | (cases u <;> first
        | exact wpAny_pure hQ
        | (refine wpAny_bind (wpAny_load ho ?_)
           rw [hc, hd]
           show wpAny M A (if (["enumerate", "zip", "dict_itemiterator", "dict_reverseitemiterator", "odict_iterator", "itertools.zip_longest", "itertools.pairwise"].contains n && vs[0]? == some (rawInt _)) = true then _ else _) Q E s
           rw [if_neg (by intro h; rw [hn, Bool.false_and] at h; cases h)]
           exact wpAny_pure hQ))

/-- the list at a, as it stands at each turn (a loop may append to it) -/
def Itl (K : PySem.W.Frag) (a : Addr) : It :=
  ⟨fun i H => ∃ xs x, SqL K H a xs ∧ xs[i]? = some x, fun i H x H' => H' = H ∧ ∀ xs, SqL K H a xs → xs[i]? = some x, fun i H => ∃ xs, SqL K H a xs ∧ xs.length ≤ i⟩
def Itt (K : PySem.W.Frag) (a : Addr) : It :=
  ⟨fun i H => ∃ xs x, SqT K H a xs ∧ xs[i]? = some x, fun i H x H' => H' = H ∧ ∀ xs, SqT K H a xs → xs[i]? = some x, fun i H => ∃ xs, SqT K H a xs ∧ xs.length ≤ i⟩
/-- lo, lo + 1, .. (n of them) -/
def Itr (lo : Int) (n : Nat) : It := ⟨fun i _ => i < n, fun i H x H' => H' = H ∧ x = .int (lo + i), fun i _ => n ≤ i⟩
theorem turn_list {P : Program} {w : World} {K : PySem.W.Frag} {tg : Expr} (a it : Addr) : Turn P w K tg (Itl K a) [it] it (fun i h => h.IsListIter it a i) where
  mem := by simp
  obj := fun i h st b hb => by
    have e : b = it := by simpa using hb
    subst e
    obtain ⟨o, e, c, d⟩ := st
    exact ⟨o, e, fun v z => by rw [d] at z; cases z⟩
  keep := fun i h h' st k => st.at fun o e => k it (by simp) o e
  item := by
    intro X hP hw hK hc i pins s σ H E I hf st hg
    subst hP hw hK
    obtain ⟨xs, x, hq, hx⟩ := hg
    obtain ⟨its, rv, p, hz⟩ := I.list hq
    obtain ⟨u, hu, ru⟩ := rv.get hx
    obtain ⟨f0, f1, f2, f3, f4, f5⟩ := hf it (by simp)
    refine wpAny_pyNext_list_item st p.isList (x := u) (by simpa using hu) fun h' st' sb => ?_
    have I1 : Inv X pins σ H { s with heap := h' } := I.turned (t' := s.toks) (fun b o hb e => (sb.2 b hb).trans e) f0 f1 f3 f4 f5
    obtain ⟨o, e, c, d⟩ := id st'
    exact ⟨u, rfl, go_of (s := { s with heap := h' }) e c d (by decide) ⟨x, H, I1, ru, ⟨rfl, fun ys hy => by rw [I.list_inj hy hq]; exact hx⟩, st', fun b hb => (hf b hb).1⟩⟩
  done := by
    intro X hP hw hK hc i pins s σ H E I hf st hg
    subst hP hw hK
    obtain ⟨xs, hq, hx⟩ := hg
    obtain ⟨its, rv, p, hz⟩ := I.list hq
    obtain ⟨f0, f1, f2, f3, f4, f5⟩ := hf it (by simp)
    have hl := rv.length
    exact wpAny_pyNext_list_end (I.ok.hd hc) st p.isList (by simp; (first | lia | omega)) fun h' eb => ⟨rfl, I.turned (t' := s.toks) (fun b o hb e => eb b o hb e) f0 f1 f3 f4 f5⟩
  self := fun _ _ _ _ _ st h => wpAny_pyIter_listiter st h
theorem turn_tuple {P : Program} {w : World} {K : PySem.W.Frag} {tg : Expr} (a it : Addr) : Turn P w K tg (Itt K a) [it] it (fun i h => h.IsTupleIter it a i) where
  mem := by simp
  obj := fun i h st b hb => by
    have e : b = it := by simpa using hb
    subst e
    obtain ⟨o, e, c, d⟩ := st
    exact ⟨o, e, fun v z => by rw [d] at z; cases z⟩
  keep := fun i h h' st k => st.at fun o e => k it (by simp) o e
  item := by
    intro X hP hw hK hc i pins s σ H E I hf st hg
    subst hP hw hK
    obtain ⟨xs, x, hq, hx⟩ := hg
    obtain ⟨its, rv, p, hz⟩ := I.tuple hq
    obtain ⟨u, hu, ru⟩ := rv.get hx
    obtain ⟨f0, f1, f2, f3, f4, f5⟩ := hf it (by simp)
    refine wpAny_pyNext_tuple_item st (show s.heap.IsTuple a its.toArray from p) (x := u) (by simpa using hu) fun h' st' sb => ?_
    have I1 : Inv X pins σ H { s with heap := h' } := I.turned (t' := s.toks) (fun b o hb e => (sb.2 b hb).trans e) f0 f1 f3 f4 f5
    obtain ⟨o, e, c, d⟩ := id st'
    exact ⟨u, rfl, go_of (s := { s with heap := h' }) e c d (by decide) ⟨x, H, I1, ru, ⟨rfl, fun ys hy => by rw [I.tuple_inj hy hq]; exact hx⟩, st', fun b hb => (hf b hb).1⟩⟩
  done := by
    intro X hP hw hK hc i pins s σ H E I hf st hg
    subst hP hw hK
    obtain ⟨xs, hq, hx⟩ := hg
    obtain ⟨its, rv, p, hz⟩ := I.tuple hq
    obtain ⟨f0, f1, f2, f3, f4, f5⟩ := hf it (by simp)
    have hl := rv.length
    exact wpAny_pyNext_tuple_end (I.ok.hd hc) st (show s.heap.IsTuple a its.toArray from p) (by simp; (first | lia | omega)) fun h' eb => ⟨rfl, I.turned (t' := s.toks) (fun b o hb e => eb b o hb e) f0 f1 f3 f4 f5⟩
  self := fun _ _ _ _ _ st h => wpAny_pyIter_tupleiter st h
theorem turn_range {P : Program} {w : World} {K : PySem.W.Frag} {tg : Expr} (it : Addr) (lo : Int) (n : Nat) : Turn P w K tg (Itr lo n) [it] it (fun i h => IsRangeIter h it (lo + (i : Nat) * 1) ((n : Int) - (i : Nat)) 1) where
  mem := by simp
  obj := fun i h st b hb => by
    have e : b = it := by simpa using hb
    subst e
    exact ⟨_, st, fun v z => by
      have z' : Data.fields _ = Data.cell v := z
      cases z'⟩
  keep := fun i h h' st k => k it (by simp) _ st
  item := by
    intro X hP hw hK hc i pins s σ H E I hf st hg
    subst hP hw hK
    obtain ⟨f0, f1, f2, f3, f4, f5⟩ := hf it (by simp)
    have W := Walks.range (prog := X.prog) (w := X.w) (I.ok.hd hc) it lo 1 n
    refine W.item i s _ _ hg st fun v h' tk hv st' kk => ?_
    obtain ⟨t, rfl⟩ := hv
    have I1 : Inv X pins σ H { s with heap := h', toks := tk } := I.turned (fun b o hb e => kk b o (by simpa using hb) e) f0 f1 f3 f4 f5
    refine ⟨_, rfl, go_of (s := { s with heap := h', toks := tk }) (n := "range_iterator") st' rfl rfl (by decide) ⟨.int (lo + i), H, I1, ⟨t, ?_⟩, ⟨rfl, rfl⟩, st', fun b hb => (hf b hb).1⟩⟩
    rw [Int.mul_one]
  done := by
    intro X hP hw hK hc i pins s σ H E I hf st hg
    subst hP hw hK
    obtain ⟨f0, f1, f2, f3, f4, f5⟩ := hf it (by simp)
    exact wpAny_pyNext_range_end (I.ok.hd hc) st (by have : n ≤ i := hg; (first | lia | omega)) fun h' eb => ⟨rfl, I.turned (t' := s.toks) (fun b o hb e => eb b o hb e) f0 f1 f3 f4 f5⟩
  self := fun _ _ _ _ _ st h => wpAny_pyIter_rangeiter st h
end L2

namespace L2
open PySem PySem.Spec PyProof.Rows
section
variable {X : Cx} {tg : Expr}
def iList (K : PySem.W.Frag) (tl : TE) : TI := fun σ H R => tl σ H fun x H1 => ∃ a, x = .ref a ∧ (∃ xs, SqL K H1 a xs) ∧ R (Itl K a) H1
def iTup (K : PySem.W.Frag) (tl : TE) : TI := fun σ H R => tl σ H fun x H1 => ∃ a, x = .ref a ∧ (∃ xs, SqT K H1 a xs) ∧ R (Itt K a) H1
theorem pi_list {l : Expr} {tl : TE} (hl : PE X l tl) : PI X tg l (iList X.K tl) := by
  intro pins s σ H R I h
  refine thn (hl pins s σ H _ I h) fun v s1 ⟨x, H1, I1, r1, q1⟩ => ?_
  obtain ⟨a, e, ⟨xs, hq⟩, q⟩ := q1
  subst e
  cases r1
  obtain ⟨its, rv, p, hz⟩ := I1.list hq
  refine wpAny_pyIter_list p.isList ?_
  refine ⟨s1.heap.objs.size, [s1.heap.objs.size], _, _, H1, rfl, I1.kept (t' := s1.toks) fun b o e => Heap.get?_push_of_some _ e, turn_list a _, ⟨_, Heap.get?_push_size _ rfl, rfl, rfl⟩, fun b hb => ?_, q⟩
  have e : b = s1.heap.objs.size := by simpa using hb
  subst e
  exact I1.fpOk (Nat.le_refl _) (I1.hok.fresh (Nat.le_refl _))
theorem pi_tup {l : Expr} {tl : TE} (hl : PE X l tl) : PI X tg l (iTup X.K tl) := by
  intro pins s σ H R I h
  refine thn (hl pins s σ H _ I h) fun v s1 ⟨x, H1, I1, r1, q1⟩ => ?_
  obtain ⟨a, e, ⟨xs, hq⟩, q⟩ := q1
  subst e
  cases r1
  obtain ⟨its, rv, p, hz⟩ := I1.tuple hq
  refine wpAny_pyIter_tuple (show s1.heap.IsTuple a its.toArray from p) ?_
  refine ⟨s1.heap.objs.size, [s1.heap.objs.size], _, _, H1, rfl, I1.kept (t' := s1.toks) fun b o e => Heap.get?_push_of_some _ e, turn_tuple a _, ⟨_, Heap.get?_push_size _ rfl, rfl, rfl⟩, fun b hb => ?_, q⟩
  have e : b = s1.heap.objs.size := by simpa using hb
  subst e
  exact I1.fpOk (Nat.le_refl _) (I1.hok.fresh (Nat.le_refl _))
/-- a range object just made, walked -/
theorem range_it {pins : List (Addr × Obj)} {σ : St} {H : Hp} {s : Shared} {R : It → Hp → Prop} {E : Value → Shared → Prop} {lo hi : Int} {t u v : Tok} {tk : Nat} (I : Inv X pins σ H s) (h1 : -(2 ^ 62) ≤ lo) (h2 : lo < 2 ^ 62) (h3 : -(2 ^ 62) ≤ hi) (h4 : hi < 2 ^ 62)
    (q : R (Itr lo (hi - lo).toNat) H) : wpAny (model X.prog X.w) X.A (pyIter (.ref s.heap.objs.size)) (PIE X pins σ tg R) E { s with heap := s.heap.push { cls := .type "range", data := .fields #[.int lo t, .int hi u, .int 1 v] }, toks := tk } := by
  refine wpAny_pyIter_range (IsRange.new ..) (small_one h1 h2 h3 h4) ?_
  have I1 : Inv X pins σ H { s with heap := s.heap.push { cls := .type "range", data := .fields #[.int lo t, .int hi u, .int 1 v] }, toks := tk } := I.kept fun b o e => Heap.get?_push_of_some _ e
  refine ⟨(s.heap.push { cls := .type "range", data := .fields #[.int lo t, .int hi u, .int 1 v] }).objs.size, [(s.heap.push { cls := .type "range", data := .fields #[.int lo t, .int hi u, .int 1 v] }).objs.size], _, _, H, rfl,
    I1.kept (t' := tk) fun b o e => Heap.get?_push_of_some _ e, turn_range _ lo (hi - lo).toNat, ?_, fun b hb => ?_, q⟩
  · have e1 : lo + ((0 : Nat) : Int) * 1 = lo := by simp
    have e2 : (((hi - lo).toNat : Nat) : Int) - ((0 : Nat) : Int) = Builtin.Range.rangeSize lo hi 1 := by rw [rangeSize_one]; split <;> (first | lia | omega)
    show IsRangeIter _ _ (lo + ((0 : Nat) : Int) * 1) ((((hi - lo).toNat : Nat) : Int) - ((0 : Nat) : Int)) 1
    rw [e1, e2]
    exact Heap.get?_push_size _ rfl
  · have e : b = (s.heap.push { cls := .type "range", data := .fields #[.int lo t, .int hi u, .int 1 v] }).objs.size := by simpa using hb
    subst e
    exact I1.fpOk (Nat.le_refl _) (I1.hok.fresh (Nat.le_refl _))
def iRng1 (ta : TA) : TI := fun σ H R => ta σ H fun vs H1 => ∃ j : Int, vs = [.int j] ∧ -(2 ^ 62) ≤ j ∧ j < 2 ^ 62 ∧ R (Itr 0 j.toNat) H1
theorem pi_range1 {a : Expr} {ta : TA} {p pos : Pos} (hg : Gl X "range") (hm : X.mg "range" = none) (ha : PA X [a] ta) (hs : starEach [a] X.env = [(false, eval a X.env)] := by rfl) : PI X tg (.Call (.Name "range" p) [a] [] pos) (iRng1 ta) := by
  intro pins s σ H R I h
  refine Call_ (ld_blt I hg hm boot_range (PyProof.Rows.callWith_type1 (thn (ha pos pins s σ H _ I h) fun us s1 ⟨vs, H1, I1, r1, q1⟩ => ?_) hs rfl))
  obtain ⟨j, e, q1, q2, q⟩ := q1
  subst e
  cases r1 with
  | cons r rr =>
    cases rr
    obtain ⟨t, rfl⟩ := r
    exact call_range_1 (range_it I1 (by (first | lia | omega)) (by (first | lia | omega)) q1 q2 (by simpa using q))
/-! ### for -/
/-- W: the invariant by the turn and a measure; N: what the body is to reach -/
def tFor (wi : TI) (g : TG) (tb : TS) : TS := fun D σ H => wi σ H fun J H1 => ∃ W : Nat → Nat → St → Hp → Prop, (∃ m, W 0 m σ H1) ∧ ∀ i m σ H, W i m σ H →
  (J.stop i H ∧ D.nx σ H) ∨ (J.go i H ∧ ∃ N : St → Hp → Prop, (∀ σ' H', N σ' H' → ∃ m', m' < m ∧ W (i + 1) m' σ' H') ∧ ∀ x H', J.yld i H x H' → g x σ H' fun σ2 H2 => tb { D with nx := N, ct := N, bk := D.nx } σ2 H2)
/-- the records at fp as they stand -/
def pinsAt (fp : List Addr) (h : Heap) : List (Addr × Obj) := fp.filterMap fun b => (h.get? b).map fun o => (b, o)
theorem mem_pinsAt {fp : List Addr} {h : Heap} {b : Addr} {o : Obj} (hb : b ∈ fp) (e : h.get? b = some o) : (b, o) ∈ pinsAt fp h := List.mem_filterMap.mpr ⟨b, hb, by rw [e]; rfl⟩
theorem of_pinsAt {fp : List Addr} {h : Heap} {p : Addr × Obj} (hp : p ∈ pinsAt fp h) : p.1 ∈ fp ∧ h.get? p.1 = some p.2 := by
  obtain ⟨b, hb, e⟩ := List.mem_filterMap.mp hp
  cases q : h.get? b with
  | none => rw [q] at e; cases e
  | some o =>
    rw [q] at e
    have e' : (b, o) = p := Option.some.inj e
    subst e'
    exact ⟨hb, q⟩
theorem Inv.pinned {pins : List (Addr × Obj)} {σ : St} {H : Hp} {s : Shared} {fp : List Addr} (I : Inv X pins σ H s) (hf : ∀ b ∈ fp, FpOk X pins H b) (ho : ∀ b ∈ fp, ∃ o, s.heap.get? b = some o ∧ ∀ v, o.data ≠ .cell v) : Inv X (pins ++ pinsAt fp s.heap) σ H s :=
  I.pins_of fun p hp => (List.mem_append.mp hp).elim (fun z => I.pin p (List.mem_append_right _ z)) fun z => by
    obtain ⟨hb, e⟩ := of_pinsAt z
    obtain ⟨f0, f1, f2, _⟩ := hf p.1 hb
    obtain ⟨o, e', d⟩ := ho p.1 hb
    rw [e] at e'; cases e'
    exact ⟨e, f0, f1, f2, d⟩
theorem Inv.unpinned {pins pl : List (Addr × Obj)} {σ : St} {H : Hp} {s : Shared} (I : Inv X (pins ++ pl) σ H s) : Inv X pins σ H s := I.pins_of fun p hp => I.pin p (List.mem_append_right _ (List.mem_append_left _ hp))
theorem ps_for {iter : Expr} {body : List Stmt} {wi : TI} {g : TG} {tb : TS} {pos : Pos} (hp : PassesOwn (model X.prog X.w) X.A X.env X.xe) (hc : X.calm = true) (hi : PI X tg iter wi) (hg : PG X tg g) (hb : PSs X body tb)
    (hs : ∀ x, foldedSetIterable iter X.env x = pure x := by intro _; rfl) : PS X (.For tg iter body [] pos) (tFor wi g tb) := by
  intro pins s σ H D I h
  refine wpAny_For (thn (hi pins s σ H _ I h) fun v s1 h1 => thn h1 fun itv s2 h2 => ?_) hs
  obtain ⟨it, fp, tn, J, H2, e, I2, T, st2, f2, W, ⟨m0, w0⟩, turn⟩ := h2
  subst e
  -- what stays true of the iterator's objects through the loop
  have stat : ∀ {H' : Hp}, (∀ b ∈ fp, H' b = none) → ∀ b ∈ fp, FpOk X pins H' b := fun hn b hb => ⟨hn b hb, (f2 b hb).2⟩
  refine codeAny_forLoop_any (fun n s' => ∃ i σ' H', Inv X pins σ' H' s' ∧ tn i s'.heap ∧ (∀ b ∈ fp, H' b = none) ∧ W i n σ' H') ?_ m0 ⟨0, σ, H2, I2, st2, fun b hb => (f2 b hb).1, w0⟩
  rintro n s3 ⟨i, σ3, H3, I3, st3, fr3, w3⟩
  rcases turn i n σ3 H3 w3 with ⟨stop, qn⟩ | ⟨go, N, hN, step⟩
  · refine wpAny_passesOwn hp (thn (T.done X rfl rfl rfl hc i pins s3 σ3 H3 X.xe I3 (stat fr3) st3 stop) fun r s4 ⟨hr, I4⟩ => ?_)
    subst hr
    exact wpAny_execs_nil ⟨σ3, H3, I4, qn⟩
  · refine wpAny_passesOwn hp (thn (T.item X rfl rfl rfl hc i pins s3 σ3 H3 X.xe I3 (stat fr3) st3 go) fun r s4 ⟨u, hr, h4⟩ => ?_)
    subst hr
    refine wpAny_passesOwn hp (thn h4 fun _ s5 ⟨x, H5, I5, r5, y5, st5, fr5⟩ => ?_)
    have I5' := I5.pinned (stat fr5) (T.obj _ _ st5)
    refine wpAny_passesOwn hp (thn (hg _ s5 σ3 H5 x u _ I5' r5 (step x H5 y5)) fun _ s6 ⟨σ6, H6, I6, q6⟩ => ?_)
    refine wpAny_passesOwn hp (thn (hb _ s6 σ6 H6 _ I6 q6) fun f s7 q7 => ?_)
    have again : ∀ {σ7 : St} {H7 : Hp}, Inv X (pins ++ pinsAt fp s5.heap) σ7 H7 s7 → N σ7 H7 → ∃ m, m < n ∧ ∃ i σ' H', Inv X pins σ' H' s7 ∧ tn i s7.heap ∧ (∀ b ∈ fp, H' b = none) ∧ W i m σ' H' := fun {σ7 H7} I7 n7 => by
      obtain ⟨m', hm, w7⟩ := hN σ7 H7 n7
      refine ⟨m', hm, i + 1, σ7, H7, I7.unpinned, T.keep _ _ _ st5 fun b hb o e => (I7.pin (b, o) (List.mem_append_right _ (List.mem_append_right _ (mem_pinsAt hb e)))).1, fun b hb => ?_, w7⟩
      obtain ⟨o, e, d⟩ := T.obj _ _ st5 b hb
      exact (I7.pin (b, o) (List.mem_append_right _ (List.mem_append_right _ (mem_pinsAt hb e)))).2.1
    cases f with
    | next => obtain ⟨σ7, H7, I7, n7⟩ := q7; exact again I7 n7
    | cont => obtain ⟨σ7, H7, I7, n7⟩ := q7; exact again I7 n7
    | brk => obtain ⟨σ7, H7, I7, q7⟩ := q7; exact ⟨σ7, H7, I7.unpinned, q7⟩
    | ret v => obtain ⟨x7, σ7, H7, I7, r7, q7⟩ := q7; exact ⟨x7, σ7, H7, I7.unpinned, r7, q7⟩
end

/-! ### the forms one uses -/
/-- over a list that the body leaves as it is -/
theorem for_list {K : PySem.W.Frag} {a : Addr} {xs : List V} {g : TG} {tb : TS} {D : Ends} {σ : St} {H : Hp} (Pv : Nat → St → Hp → Prop) (h0 : Pv 0 σ H) (hl : ∀ i σ H, i ≤ xs.length → Pv i σ H → SqL K H a xs)
    (hs : ∀ i x σ H, xs[i]? = some x → Pv i σ H → g x σ H fun σ2 H2 => tb { D with nx := Pv (i + 1), ct := Pv (i + 1), bk := D.nx } σ2 H2) (hd : ∀ σ H, Pv xs.length σ H → D.nx σ H) :
    ∃ W : Nat → Nat → St → Hp → Prop, (∃ m, W 0 m σ H) ∧ ∀ i m σ H, W i m σ H →
      ((Itl K a).stop i H ∧ D.nx σ H) ∨ ((Itl K a).go i H ∧ ∃ N : St → Hp → Prop, (∀ σ' H', N σ' H' → ∃ m', m' < m ∧ W (i + 1) m' σ' H') ∧ ∀ x H', (Itl K a).yld i H x H' → g x σ H' fun σ2 H2 => tb { D with nx := N, ct := N, bk := D.nx } σ2 H2) := by
  refine ⟨fun i m σ H => m = xs.length - i ∧ i ≤ xs.length ∧ Pv i σ H, ⟨xs.length, by simp, Nat.zero_le _, h0⟩, ?_⟩
  rintro i m σ H ⟨rfl, hi, p⟩
  have q := hl i σ H hi p
  by_cases hlt : i < xs.length
  · refine .inr ⟨⟨xs, xs[i], q, by simp [hlt]⟩, Pv (i + 1), fun σ' H' p' => ⟨xs.length - (i + 1), by (first | lia | omega), rfl, hlt, p'⟩, fun x H' y => ?_⟩
    obtain ⟨e, y⟩ := y
    subst e
    exact hs i x σ _ (y xs q) p
  · have e : i = xs.length := by (first | lia | omega)
    subst e
    exact .inl ⟨⟨xs, q, Nat.le_refl _⟩, hd σ H p⟩
theorem for_tup {K : PySem.W.Frag} {a : Addr} {xs : List V} {g : TG} {tb : TS} {D : Ends} {σ : St} {H : Hp} (Pv : Nat → St → Hp → Prop) (h0 : Pv 0 σ H) (hl : ∀ i σ H, i ≤ xs.length → Pv i σ H → SqT K H a xs)
    (hs : ∀ i x σ H, xs[i]? = some x → Pv i σ H → g x σ H fun σ2 H2 => tb { D with nx := Pv (i + 1), ct := Pv (i + 1), bk := D.nx } σ2 H2) (hd : ∀ σ H, Pv xs.length σ H → D.nx σ H) :
    ∃ W : Nat → Nat → St → Hp → Prop, (∃ m, W 0 m σ H) ∧ ∀ i m σ H, W i m σ H →
      ((Itt K a).stop i H ∧ D.nx σ H) ∨ ((Itt K a).go i H ∧ ∃ N : St → Hp → Prop, (∀ σ' H', N σ' H' → ∃ m', m' < m ∧ W (i + 1) m' σ' H') ∧ ∀ x H', (Itt K a).yld i H x H' → g x σ H' fun σ2 H2 => tb { D with nx := N, ct := N, bk := D.nx } σ2 H2) := by
  refine ⟨fun i m σ H => m = xs.length - i ∧ i ≤ xs.length ∧ Pv i σ H, ⟨xs.length, by simp, Nat.zero_le _, h0⟩, ?_⟩
  rintro i m σ H ⟨rfl, hi, p⟩
  have q := hl i σ H hi p
  by_cases hlt : i < xs.length
  · refine .inr ⟨⟨xs, xs[i], q, by simp [hlt]⟩, Pv (i + 1), fun σ' H' p' => ⟨xs.length - (i + 1), by (first | lia | omega), rfl, hlt, p'⟩, fun x H' y => ?_⟩
    obtain ⟨e, y⟩ := y
    subst e
    exact hs i x σ _ (y xs q) p
  · have e : i = xs.length := by (first | lia | omega)
    subst e
    exact .inl ⟨⟨xs, q, Nat.le_refl _⟩, hd σ H p⟩
theorem for_range {lo : Int} {n : Nat} {g : TG} {tb : TS} {D : Ends} {σ : St} {H : Hp} (Pv : Nat → St → Hp → Prop) (h0 : Pv 0 σ H)
    (hs : ∀ i σ H, i < n → Pv i σ H → g (.int (lo + i)) σ H fun σ2 H2 => tb { D with nx := Pv (i + 1), ct := Pv (i + 1), bk := D.nx } σ2 H2) (hd : ∀ σ H, Pv n σ H → D.nx σ H) :
    ∃ W : Nat → Nat → St → Hp → Prop, (∃ m, W 0 m σ H) ∧ ∀ i m σ H, W i m σ H →
      ((Itr lo n).stop i H ∧ D.nx σ H) ∨ ((Itr lo n).go i H ∧ ∃ N : St → Hp → Prop, (∀ σ' H', N σ' H' → ∃ m', m' < m ∧ W (i + 1) m' σ' H') ∧ ∀ x H', (Itr lo n).yld i H x H' → g x σ H' fun σ2 H2 => tb { D with nx := N, ct := N, bk := D.nx } σ2 H2) := by
  refine ⟨fun i m σ H => m = n - i ∧ i ≤ n ∧ Pv i σ H, ⟨n, by simp, Nat.zero_le _, h0⟩, ?_⟩
  rintro i m σ H ⟨rfl, hi, p⟩
  by_cases hlt : i < n
  · refine .inr ⟨hlt, Pv (i + 1), fun σ' H' p' => ⟨n - (i + 1), by (first | lia | omega), rfl, hlt, p'⟩, fun x H' y => ?_⟩
    obtain ⟨e, y⟩ := y
    subst e y
    exact hs i σ _ hlt p
  · have e : i = n := by (first | lia | omega)
    subst e
    exact .inl ⟨Nat.le_refl _, hd σ H p⟩
end L2

namespace L2
open PySem PySem.Spec PyProof.Rows

abbrev R2 := V → V → Hp → VK → Prop
/-- a two-place operation on values: f is binaryOp op, inplaceOp op or compareOp op -/
def OpR (X : Cx) (f : Value → Value → Sem Value) (r : R2) : Prop :=
  ∀ (pins : List (Addr × Obj)) (s : Shared) (σ : St) (H : Hp) (x y : V) (v u : Value) (Q : VK), Inv X pins σ H s → RelV x v → RelV y u → r x y H Q →
    wpAny (model X.prog X.w) X.A (f v u) (EP X pins σ Q) X.xe s
/-- a one-place operation -/
def UnR (X : Cx) (f : Value → Sem Value) (r : V → Hp → VK → Prop) : Prop :=
  ∀ (pins : List (Addr × Obj)) (s : Shared) (σ : St) (H : Hp) (x : V) (v : Value) (Q : VK), Inv X pins σ H s → RelV x v → r x H Q →
    wpAny (model X.prog X.w) X.A (f v) (EP X pins σ Q) X.xe s
/-- a call of a value that is known (a builtin, a type) with values -/
def CallR (X : Cx) (f : Value) (r : List V → Hp → VK → Prop) : Prop :=
  ∀ (pins : List (Addr × Obj)) (s : Shared) (σ : St) (H : Hp) (xs : List V) (us : List Value) (Q : VK), Inv X pins σ H s → Vals xs us → r xs H Q →
    wpAny (model X.prog X.w) X.A (call f us) (EP X pins σ Q) X.xe s
/-- a value's truth -/
def TruR (X : Cx) (r : V → Hp → (Bool → Hp → Prop) → Prop) : Prop :=
  ∀ (pins : List (Addr × Obj)) (s : Shared) (σ : St) (H : Hp) (x : V) (v : Value) (Q : Bool → Hp → Prop), Inv X pins σ H s → RelV x v → r x H Q →
    wpAny (model X.prog X.w) X.A (truthy v) (TP X pins σ Q) X.xe s

def tOp (r : R2) (ta tb : TE) : TE := fun σ H Q => ta σ H fun x H1 => tb σ H1 fun y H2 => r x y H2 Q
def tUn (r : V → Hp → VK → Prop) (ta : TE) : TE := fun σ H Q => ta σ H fun x H1 => r x H1 Q
/-- ints in, under C, and a value out -/
def rI (C : Int → Int → Prop) (g : Int → Int → V) : R2 := fun x y H Q => ∃ i j, x = .int i ∧ y = .int j ∧ C i j ∧ Q (g i j) H
def rI0 (g : Int → Int → V) : R2 := fun x y H Q => ∃ i j, x = .int i ∧ y = .int j ∧ Q (g i j) H
def rU (g : Int → V) : V → Hp → VK → Prop := fun x H Q => ∃ i, x = .int i ∧ Q (g i) H

section
variable {X : Cx} {a b c : Expr} {ta tb tc : TE} {pos : Pos}

theorem binT (ha : PE X a ta) (hb : PE X b tb) {pins : List (Addr × Obj)} {s : Shared} {σ : St} {H : Hp} {R : V → V → Hp → Prop} (I : Inv X pins σ H s)
    (h : ta σ H fun x H1 => tb σ H1 fun y H2 => R x y H2) {Q : Value → Shared → Prop} {f : Value → Value → Sem Value}
    (hf : ∀ v u s2 x y H2, Inv X pins σ H2 s2 → RelV x v → RelV y u → R x y H2 → wpAny (model X.prog X.w) X.A (f v u) Q X.xe s2) :
    wpAny (model X.prog X.w) X.A (eval a X.env) (fun v s₁ => wpAny (model X.prog X.w) X.A (eval b X.env) (fun u s₂ => wpAny (model X.prog X.w) X.A (f v u) Q X.xe s₂) X.xe s₁) X.xe s := by
  refine thn (ha pins s σ H _ I h) fun v s1 ⟨x, H1, I1, r1, q1⟩ => ?_
  refine thn (hb pins s1 σ H1 _ I1 q1) fun u s2 ⟨y, H2, I2, r2, q2⟩ => ?_
  exact hf v u s2 x y H2 I2 r1 r2 q2

theorem pe_op {op : Operator} {r : R2} (ho : OpR X (binaryOp op) r) (ha : PE X a ta) (hb : PE X b tb) : PE X (.BinOp a op b pos) (tOp r ta tb) := by
  intro pins s σ H Q I h
  exact wpAny_BinOp (binT ha hb I h fun v u s2 x y H2 I2 rx ry q => ho pins s2 σ H2 x y v u Q I2 rx ry q)
theorem pe_un {op : UnaryOp} {r : V → Hp → VK → Prop} (ho : UnR X (unaryOp op) r) (ha : PE X a ta) : PE X (.UnaryOp op a pos) (tUn r ta) := by
  intro pins s σ H Q I h
  exact UnaryOp_ (thn (ha pins s σ H _ I h) fun v s1 ⟨x, H1, I1, r1, q1⟩ => ho pins s1 σ H1 x v Q I1 r1 q1)
/-! ### ints -/
theorem opI {f : Value → Value → Sem Value} {C : Int → Int → Prop} {g : Int → Int → Int}
    (rule : ∀ (i j : Int) (t u : Tok) (s : Shared) (Q : Value → Shared → Prop) (E : Value → Shared → Prop), C i j → Q (.int (g i j) s.toks) { s with toks := s.toks + 1 } → wpAny (model X.prog X.w) X.A (f (.int i t) (.int j u)) Q E s) :
    OpR X f (rI C fun i j => .int (g i j)) := by
  intro pins s σ H x y v u Q I rx ry h
  obtain ⟨i, j, rfl, rfl, hc, q⟩ := h
  obtain ⟨t, rfl⟩ := rx
  obtain ⟨t', rfl⟩ := ry
  exact rule i j t t' s _ _ hc ⟨.int (g i j), H, I.tok _, ⟨_, rfl⟩, q⟩
theorem opI0 {f : Value → Value → Sem Value} {g : Int → Int → Int}
    (rule : ∀ (i j : Int) (t u : Tok) (s : Shared) (Q : Value → Shared → Prop) (E : Value → Shared → Prop), Q (.int (g i j) s.toks) { s with toks := s.toks + 1 } → wpAny (model X.prog X.w) X.A (f (.int i t) (.int j u)) Q E s) :
    OpR X f (rI0 fun i j => .int (g i j)) := by
  intro pins s σ H x y v u Q I rx ry h
  obtain ⟨i, j, rfl, rfl, q⟩ := h
  obtain ⟨t, rfl⟩ := rx
  obtain ⟨t', rfl⟩ := ry
  exact rule i j t t' s _ _ ⟨.int (g i j), H, I.tok _, ⟨_, rfl⟩, q⟩
theorem opB0 {f : Value → Value → Sem Value} {g : Int → Int → Bool}
    (rule : ∀ (i j : Int) (t u : Tok) (s : Shared) (Q : Value → Shared → Prop) (E : Value → Shared → Prop), Q (.bool (g i j)) s → wpAny (model X.prog X.w) X.A (f (.int i t) (.int j u)) Q E s) :
    OpR X f (rI0 fun i j => .bl (g i j)) := by
  intro pins s σ H x y v u Q I rx ry h
  obtain ⟨i, j, rfl, rfl, q⟩ := h
  obtain ⟨t, rfl⟩ := rx
  obtain ⟨t', rfl⟩ := ry
  exact rule i j t t' s _ _ ⟨.bl (g i j), H, I, rfl, q⟩

def CDiv (i j : Int) : Prop := 0 < j ∧ j < 1073741824
def CPow (i j : Int) : Prop := 0 ≤ j ∧ j ≤ 1000000 ∧ i.natAbs < 2 ^ 64
def CMul (i j : Int) : Prop := (-(2 ^ 64) < i ∧ i < 2 ^ 64) ∨ (-(2 ^ 64) < j ∧ j < 2 ^ 64)
theorem CMul.ok {i j : Int} (h : CMul i j) : IntMulOk i j := by
  rcases h with ⟨h1, h2⟩ | ⟨h1, h2⟩
  · exact .of_left (intBits_le_64 h1 h2)
  · exact .of_right (intBits_le_64 h1 h2)
theorem op_add : OpR X (binaryOp .Add) (rI0 fun i j => .int (i + j)) := opI0 fun _ _ _ _ _ _ _ q => add_int q
theorem op_sub : OpR X (binaryOp .Sub) (rI0 fun i j => .int (i - j)) := opI0 fun _ _ _ _ _ _ _ q => sub_int q
theorem op_mul : OpR X (binaryOp .Mult) (rI CMul fun i j => .int (i * j)) := opI fun _ _ _ _ _ _ _ hc q => mul_int q hc.ok
/-- // by a positive divisor -/
theorem op_fdiv : OpR X (binaryOp .FloorDiv) (rI CDiv fun i j => .int (i / j)) := opI fun i j _ _ _ _ _ hc q => by
  have h1 : (0 : Int) < j := hc.1
  have h2 : j < 1073741824 := hc.2
  exact floordiv_int (by (first | lia | omega)) (by rw [Int.fdiv_eq_ediv_of_nonneg i (by (first | lia | omega))]; exact q) (.inl (PyProof.noPylong_small (by (first | lia | omega))))
/-- % by a positive divisor of any size -/
theorem op_mod : OpR X (binaryOp .Mod) (rI (fun _ j => 0 < j) fun i j => .int (i % j)) := opI fun i j _ _ _ _ _ hc q => by
  have h1 : (0 : Int) < j := hc
  exact mod_int' (by (first | lia | omega)) (by rw [Int.fmod_eq_emod_of_nonneg i (by (first | lia | omega))]; exact q)
theorem op_pow : OpR X (binaryOp .Pow) (rI CPow fun i j => .int (i ^ j.toNat)) := opI fun _ _ _ _ _ _ _ hc q => pow_int_small hc.1 hc.2.1 hc.2.2 q
theorem unI {f : Value → Sem Value} {g : Int → Int}
    (rule : ∀ (i : Int) (t : Tok) (s : Shared) (Q : Value → Shared → Prop) (E : Value → Shared → Prop), Q (.int (g i) s.toks) { s with toks := s.toks + 1 } → wpAny (model X.prog X.w) X.A (f (.int i t)) Q E s) :
    UnR X f (rU fun i => .int (g i)) := by
  intro pins s σ H x v Q I rx h
  obtain ⟨i, rfl, q⟩ := h
  obtain ⟨t, rfl⟩ := rx
  exact rule i t s _ _ ⟨.int (g i), H, I.tok _, ⟨_, rfl⟩, q⟩
theorem un_neg : UnR X (unaryOp .USub) (rU fun i => .int (-i)) := unI fun _ _ _ _ _ q => neg_int q
/-! ### bools among ints: n += (a < b) -/
end

/-! ### comparisons -/
/-- the scalars that == tells apart as data does -/
def scal : V → V → Bool
  | .non, .non => true | .non, .int _ => true | .int _, .non => true | .non, .bl _ => true | .bl _, .non => true | .non, .str _ => true | .str _, .non => true
  | .int _, .int _ => true | .bl _, .bl _ => true | .str _, .str _ => true | .byt _, .byt _ => true
  | .int _, .str _ => true | .str _, .int _ => true | .bl _, .str _ => true | .str _, .bl _ => true
  | _, _ => false
def rEq : R2 := fun x y H Q => scal x y = true ∧ Q (.bl (decide (x = y))) H
def rNe : R2 := fun x y H Q => scal x y = true ∧ Q (.bl (!decide (x = y))) H

theorem dec_int {i j : Int} : decide (V.int i = V.int j) = (i == j) := by
  rw [Bool.eq_iff_iff]
  simp
theorem dec_bl {i j : Bool} : decide (V.bl i = V.bl j) = (i == j) := by
  rw [Bool.eq_iff_iff]
  simp
theorem dec_str {i j : Str} : decide (V.str i = V.str j) = (i == j) := by
  rw [Bool.eq_iff_iff]
  simp
theorem dec_byt {i j : Array UInt8} : decide (V.byt i = V.byt j) = (i.toList == j.toList) := by
  rw [Bool.eq_iff_iff]
  cases i
  cases j
  simp

section
variable {X : Cx} {a b c : Expr} {ta tb tc : TE} {pos : Pos}
theorem fin_bl {pins : List (Addr × Obj)} {σ : St} {H : Hp} {s : Shared} {Q : VK} {k k' : Bool} (I : Inv X pins σ H s) (q : Q (.bl k) H) (e : k = k') : EP X pins σ Q (.bool k') s := by
  subst e
  exact ⟨.bl k, H, I, rfl, q⟩
theorem op_eq : OpR X (compareOp .Eq) rEq := by
  intro pins s σ H x y v u Q I rx ry h
  obtain ⟨hs, q⟩ := h
  cases x with
  | non =>
    cases rx
    cases y with
    | non => cases ry; exact PySem.EqNone.eq_none_none (fin_bl I q (by simp))
    | bl j => cases ry; exact PySem.EqNone.eq_none_bool (fin_bl I q (by simp))
    | int j => obtain ⟨t', rfl⟩ := ry; exact PySem.EqNone.eq_none_int (fin_bl I q (by simp))
    | str j => obtain ⟨t', rfl⟩ := ry; exact PySem.EqNone.eq_none_str (fin_bl I q (by simp))
    | _ => exact absurd (show false = true from hs) Bool.false_ne_true
  | bl i =>
    cases rx
    cases y with
    | non => cases ry; exact PySem.EqNone.eq_bool_none (fin_bl I q (by simp))
    | bl j => cases ry; exact eq_bool (fin_bl I q dec_bl)
    | str j => obtain ⟨t', rfl⟩ := ry; exact PySem.EqMixed.eq_bool_str (fin_bl I q (by simp))
    | _ => exact absurd (show false = true from hs) Bool.false_ne_true
  | int i =>
    obtain ⟨t, rfl⟩ := rx
    cases y with
    | non => cases ry; exact PySem.EqNone.eq_int_none (fin_bl I q (by simp))
    | int j => obtain ⟨t', rfl⟩ := ry; exact eq_int (fin_bl I q dec_int)
    | str j => obtain ⟨t', rfl⟩ := ry; exact PySem.EqMixed.eq_int_str (fin_bl I q (by simp))
    | _ => exact absurd (show false = true from hs) Bool.false_ne_true
  | str i =>
    obtain ⟨t, rfl⟩ := rx
    cases y with
    | non => cases ry; exact PySem.EqNone.eq_str_none (fin_bl I q (by simp))
    | bl j => cases ry; exact PySem.EqMixed.eq_str_bool (fin_bl I q (by simp))
    | int j => obtain ⟨t', rfl⟩ := ry; exact PySem.EqMixed.eq_str_int (fin_bl I q (by simp))
    | str j => obtain ⟨t', rfl⟩ := ry; exact eq_str (fin_bl I q dec_str)
    | _ => exact absurd (show false = true from hs) Bool.false_ne_true
  | byt i =>
    obtain ⟨t, rfl⟩ := rx
    cases y with
    | byt j => obtain ⟨t', rfl⟩ := ry; exact PySem.W.eq_bytes (fin_bl I q dec_byt)
    | _ => exact absurd (show false = true from hs) Bool.false_ne_true
  | _ => cases y <;> exact absurd (show false = true from hs) Bool.false_ne_true
theorem op_ne : OpR X (compareOp .NotEq) rNe := by
  intro pins s σ H x y v u Q I rx ry h
  obtain ⟨hs, q⟩ := h
  cases x with
  | non =>
    cases rx
    cases y with
    | non => cases ry; exact PySem.EqNone.ne_none_none (fin_bl I q (by simp))
    | bl j => cases ry; exact PySem.EqNone.ne_none_bool (fin_bl I q (by simp))
    | int j => obtain ⟨t', rfl⟩ := ry; exact PySem.EqNone.ne_none_int (fin_bl I q (by simp))
    | str j => obtain ⟨t', rfl⟩ := ry; exact PySem.EqNone.ne_none_str (fin_bl I q (by simp))
    | _ => exact absurd (show false = true from hs) Bool.false_ne_true
  | bl i =>
    cases rx
    cases y with
    | non => cases ry; exact PySem.EqNone.ne_bool_none (fin_bl I q (by simp))
    | bl j => cases ry; exact ne_bool (fin_bl I q (congrArg not dec_bl))
    | str j => obtain ⟨t', rfl⟩ := ry; exact PySem.EqMixed.ne_bool_str (fin_bl I q (by simp))
    | _ => exact absurd (show false = true from hs) Bool.false_ne_true
  | int i =>
    obtain ⟨t, rfl⟩ := rx
    cases y with
    | non => cases ry; exact PySem.EqNone.ne_int_none (fin_bl I q (by simp))
    | int j => obtain ⟨t', rfl⟩ := ry; exact ne_int (fin_bl I q (congrArg not dec_int))
    | str j => obtain ⟨t', rfl⟩ := ry; exact PySem.EqMixed.ne_int_str (fin_bl I q (by simp))
    | _ => exact absurd (show false = true from hs) Bool.false_ne_true
  | str i =>
    obtain ⟨t, rfl⟩ := rx
    cases y with
    | non => cases ry; exact PySem.EqNone.ne_str_none (fin_bl I q (by simp))
    | bl j => cases ry; exact PySem.EqMixed.ne_str_bool (fin_bl I q (by simp))
    | int j => obtain ⟨t', rfl⟩ := ry; exact PySem.EqMixed.ne_str_int (fin_bl I q (by simp))
    | str j => obtain ⟨t', rfl⟩ := ry; exact ne_str (fin_bl I q (congrArg not dec_str))
    | _ => exact absurd (show false = true from hs) Bool.false_ne_true
  | byt i =>
    obtain ⟨t, rfl⟩ := rx
    cases y with
    | byt j => obtain ⟨t', rfl⟩ := ry; exact PySem.W.ne_bytes (fin_bl I q (congrArg not dec_byt))
    | _ => exact absurd (show false = true from hs) Bool.false_ne_true
  | _ => cases y <;> exact absurd (show false = true from hs) Bool.false_ne_true

theorem op_lt : OpR X (compareOp .Lt) (rI0 fun i j => .bl (decide (i < j))) := opB0 fun _ _ _ _ _ _ _ q => lt_int q
theorem op_le : OpR X (compareOp .LtE) (rI0 fun i j => .bl (decide (i ≤ j))) := opB0 fun _ _ _ _ _ _ _ q => le_int q
theorem op_gt : OpR X (compareOp .Gt) (rI0 fun i j => .bl (decide (j < i))) := opB0 fun _ _ _ _ _ _ _ q => gt_int q
/-- the one string within the other -/
theorem op_in_str : OpR X (compareOp .In) (fun x y H Q => ∃ i j, x = .str i ∧ y = .str j ∧ Q (.bl (!(Builtin.Str.occurrences j i 0 j.length 1).isEmpty)) H) := by
  intro pins s σ H x y v u Q I rx ry h
  obtain ⟨i, j, rfl, rfl, q⟩ := h
  obtain ⟨t, rfl⟩ := rx
  obtain ⟨t', rfl⟩ := ry
  exact in_str (fin_bl I q rfl)

/-- is None, is not None: the right side a value none -/
theorem op_isN : OpR X (compareOp .Is) (fun x y H Q => y = .non ∧ Q (.bl (decide (x = .non))) H) := by
  intro pins s σ H x y v u Q I rx ry h
  obtain ⟨rfl, q⟩ := h
  cases ry
  refine is_none_gen (fin_bl I q ?_)
  cases x <;> first
    | (cases rx; rfl)
    | (obtain ⟨t, rfl⟩ := rx; rfl)
theorem nomark (b : Expr) {op : CmpOp} (h : op ≠ .In := by decide) (h2 : op ≠ .NotIn := by decide) : behindInMarks op b = false := by
  have e1 : (op == CmpOp.In) = false := by cases op <;> first | rfl | exact absurd rfl h
  have e2 : (op == CmpOp.NotIn) = false := by cases op <;> first | rfl | exact absurd rfl h2
  cases b <;> simp [behindInMarks, e1, e2]
/-- a comparison as a value; hm: nomark b, or (for in, not in) by with_unfolding_all rfl -/
theorem pe_cmpR {op : CmpOp} {r : R2} (ho : OpR X (compareOp op) r) (ha : PE X a ta) (hb : PE X b tb) (hm : behindInMarks op b = false) : PE X (.Compare a [op] [b] pos) (tOp r ta tb) := by
  intro pins s σ H Q I h
  exact wpAny_Compare1 (binT ha hb I h fun v u s2 x y H2 I2 rx ry q => ho pins s2 σ H2 x y v u Q I2 rx ry q) hm
/-- a reading of a value as a test -/
def tTest (t : TE) : TT := fun σ H Q => t σ H fun x H' => ∃ k, x = .bl k ∧ Q k H'
theorem pt_cmpR {op : CmpOp} {r : R2} (ho : OpR X (compareOp op) r) (ha : PE X a ta) (hb : PE X b tb) (hm : behindInMarks op b = false) : PT X (.Compare a [op] [b] pos) (tTest (tOp r ta tb)) := by
  intro pins s σ H Q I h
  refine wpAny_isTrue_Compare1 (thn (ha pins s σ H _ I h) fun v s1 ⟨x, H1, I1, r1, q1⟩ => thn (hb pins s1 σ H1 _ I1 q1) fun u s2 ⟨y, H2, I2, r2, q2⟩ =>
    thn (ho pins s2 σ H2 x y v u _ I2 r1 r2 q2) fun c s3 ⟨z, H3, I3, r3, k, e, q3⟩ => ?_) hm
  subst e
  cases r3
  exact wpAny_truthy_bool ⟨H3, I3, q3⟩
/-- a op1 b op2 c -/
def tChain (r r' : R2) (ta tb tc : TE) : TE := fun σ H Q => ta σ H fun x H1 => tb σ H1 fun y H2 => r x y H2 fun z H3 => ∃ k, z = .bl k ∧
  (if k = true then tc σ H3 fun w' H4 => r' y w' H4 Q else Q (.bl false) H3)
theorem pe_chain {op op' : CmpOp} {r r' : R2} (ho : OpR X (compareOp op) r) (ho' : OpR X (compareOp op') r') (ha : PE X a ta) (hb : PE X b tb) (hc : PE X c tc)
    (hm : lastMarks [op, op'] [b, c] = false := by with_unfolding_all rfl) : PE X (.Compare a [op, op'] [b, c] pos) (tChain r r' ta tb tc) := by
  intro pins s σ H Q I h
  refine Compare_chain (thn (ha pins s σ H _ I h) fun v s1 ⟨x, H1, I1, r1, q1⟩ => chain_link (thn (hb pins s1 σ H1 _ I1 q1) fun u s2 ⟨y, H2, I2, r2, q2⟩ =>
    thn (ho pins s2 σ H2 x y v u _ I2 r1 r2 q2) fun d s3 ⟨z, H3, I3, r3, k, e, q3⟩ => ?_)) hm
  subst e
  cases r3
  refine wpAny_truthy_bool ?_
  cases k with
  | false => exact ite_ff ⟨.bl false, H3, I3, rfl, q3⟩
  | true => exact ite_tt (chain_last (thn (hc pins s3 σ H3 _ I3 q3) fun w' s4 ⟨z', H4, I4, r4, q4⟩ => ho' pins s4 σ H4 y z' u w' Q I4 r2 r4 q4))
/-! ### truth -/
/-- a value's truth by the abstract heap -/
def TruV (K : PySem.W.Frag) (x : V) (H : Hp) (k : Bool) : Prop :=
  match x with
  | .non => k = false
  | .bl b => k = b
  | .int i => k = (i != 0)
  | .str y => y.length ≤ sizeLine ∧ k = ((y.length : Int) != 0)
  | .byt y => y.size ≤ sizeLine ∧ k = ((y.size : Int) != 0)
  | .ref p => (∃ xs, SqL K H p xs ∧ k = !xs.isEmpty) ∨ (∃ xs, SqT K H p xs ∧ k = !xs.isEmpty) ∨ ∃ kvs, H p = some (.dK kvs) ∧ k = !kvs.isEmpty
  | _ => False
theorem isEmpty_kv {κ : Type} {kvs : List (κ × V)} {vs : List (κ × Value)} (r : KV kvs vs) : (!vs.isEmpty) = !kvs.isEmpty := by
  cases r <;> rfl
theorem isEmpty_of {xs : List V} {its : List Value} (r : Vals xs its) : (!its.toArray.isEmpty) = !xs.isEmpty := by
  cases r <;> simp
theorem line63 : (sizeLine : Nat) < 2 ^ 63 := by rw [sizeLine_eq]; decide
theorem tru_ok : TruR X (fun x H Q => ∃ k, TruV X.K x H k ∧ Q k H) := by
  intro pins s σ H x v Q I rx h
  obtain ⟨k, e, q⟩ := h
  have hl := line63
  have hs : sizeLine = 16777216 := sizeLine_eq
  cases x with
  | non =>
    cases rx
    have e' : k = false := e
    subst e'
    exact truthy_none ⟨H, I, q⟩
  | bl b =>
    cases rx
    have e' : k = b := e
    subst e'
    exact wpAny_truthy_bool ⟨H, I, q⟩
  | int i =>
    obtain ⟨t, rfl⟩ := rx
    have e' : k = (i != 0) := e
    subst e'
    exact PySem.P.truthy_int ⟨H, I, q⟩
  | str y =>
    obtain ⟨t, rfl⟩ := rx
    obtain ⟨hy, e'⟩ : y.length ≤ sizeLine ∧ k = ((y.length : Int) != 0) := e
    subst e'
    exact PySem.P.truthy_str (by (first | lia | omega)) ⟨H, I.tok _, q⟩
  | byt y =>
    obtain ⟨t, rfl⟩ := rx
    obtain ⟨hy, e'⟩ : y.size ≤ sizeLine ∧ k = ((y.size : Int) != 0) := e
    subst e'
    exact PySem.W.truthy_bytes (by (first | lia | omega)) ⟨H, I.tok _, q⟩
  | ref p =>
    cases rx
    have e' : (∃ xs, SqL X.K H p xs ∧ k = !xs.isEmpty) ∨ (∃ xs, SqT X.K H p xs ∧ k = !xs.isEmpty) ∨ ∃ kvs, H p = some (.dK kvs) ∧ k = !kvs.isEmpty := e
    rcases e' with ⟨xs, hx, e'⟩ | ⟨xs, hx, e'⟩ | ⟨kvs, hx, e'⟩
    · subst e'
      obtain ⟨its, r, pl, hz⟩ := I.list hx
      have hlen := r.length
      exact wpAny_truthy_list pl.isList (by simp only [List.size_toArray]; (first | lia | omega)) ⟨H, I.tok _, by rw [isEmpty_of r]; exact q⟩
    · subst e'
      obtain ⟨its, r, pl, hz⟩ := I.tuple hx
      have hlen := r.length
      exact truthy_tuple pl (by simp only [List.size_toArray]; (first | lia | omega)) ⟨H, I.tok _, by rw [isEmpty_of r]; exact q⟩
    · subst e'
      obtain ⟨hz, hS, vs, r, m⟩ : kvs.length ≤ sizeLine ∧ (p == sysModules) = false ∧ ∃ vs, KV kvs vs ∧ s.heap.DictOf (mixKind X.prog X.w) p vs := I.hok p _ hx
      have hlen : kvs.length = vs.length := Paired.length r
      exact wpAny_truthy_dict hS m (by (first | lia | omega)) ⟨H, I.tok _, by rw [isEmpty_kv r]; exact q⟩
  | _ => exact (show False from e).elim
/-- any expression whose test is its value's truth (a name, a call, a subscript, a field ..: he by fun _ => rfl) -/
theorem pt_truth (ha : PE X a ta) (he : ∀ whole, isTrue a X.env whole = (do let v ← whole; standAt a.pos; holding [v] (truthy v))) :
    PT X a (fun σ H Q => ta σ H fun x H' => ∃ k, TruV X.K x H' k ∧ Q k H') := by
  intro pins s σ H Q I h
  exact isTrue_plain (thn (ha pins s σ H _ I h) fun v s1 ⟨x, H1, I1, r1, q1⟩ => tru_ok pins s1 σ H1 x v Q I1 r1 q1) (he _)

/-! ### strs and bytes -/
theorem op_add_str : OpR X (binaryOp .Add) (fun x y H Q => ∃ i j, x = .str i ∧ y = .str j ∧ i.length + j.length ≤ sizeLine ∧ Q (.str (i ++ j)) H) := by
  intro pins s σ H x y v u Q I rx ry h
  obtain ⟨i, j, rfl, rfl, hz, q⟩ := h
  obtain ⟨t, rfl⟩ := rx
  obtain ⟨t', rfl⟩ := ry
  exact add_str (fun t' tk => ⟨.str (i ++ j), H, I.tok _, ⟨_, rfl⟩, q⟩) hz
/-! ### scalar builtins, by CallR -/
theorem vals1 {x : V} {us : List Value} (r : Vals [x] us) : ∃ u, us = [u] ∧ RelV x u := by
  cases r with
  | cons r1 r2 => cases r2; exact ⟨_, rfl, r1⟩
end
end L2

namespace L2
open PySem PySem.Spec PyProof.Rows

/-! ### an instance, its attributes a map -/
structure ObjM (h : Heap) (x dx C : Addr) (mA : Str → Option Value) : Prop where
  obj : h.get? x = some (PySem.W.instObj C dx)
  ns : h.Ns1 dx mA
  ne : dx ≠ x

theorem lookIn_ns {h : Heap} {dx : Addr} {mA : Str → Option Value} (n : h.Ns1 dx mA) : ∃ od, h.get? dx = some od ∧ ∀ name, PySem.W.lookIn name od = some (mA name) := by
  obtain ⟨o, es, ep, ho, hd, hk, _, hm⟩ := n
  refine ⟨o, ho, fun name => ?_⟩
  have e := hm name
  unfold nsFind findBy at e
  rw [← Array.find?_toList] at e
  unfold PySem.W.lookIn
  rw [hd]
  dsimp only
  split
  · rename_i y q
    rw [q] at e
    exact congrArg some e
  · rename_i q
    rw [q] at e
    have a : es.toList.any (·.refKey) = false := by
      rw [List.any_eq_false]
      intro y hy
      obtain ⟨z, t, hkey⟩ := hk y (Array.mem_toList_iff.mp hy)
      simp [DictEntry.refKey, hkey]
    have a' : ¬ es.toList.any (·.refKey) = true := by rw [a]; exact Bool.false_ne_true
    rw [if_neg a']
    exact congrArg some e

theorem ObjM.look {h : Heap} {x dx C : Addr} {mA : Str → Option Value} (I : ObjM h x dx C mA) : ∃ od, PySem.W.InstAt h x (PySem.W.instObj C dx) C (some od) ∧ ∀ name, PySem.W.lookIn name od = some (mA name) :=
  let ⟨od, ho, hl⟩ := lookIn_ns I.ns
  ⟨od, ⟨I.obj, rfl, rfl, ho⟩, hl⟩

section
variable {prog : Program} {w : World} {A : Around} {E : Value → Shared → Prop} {s : Shared} {K : PySem.W.Frag} {x dx C f : Addr} {mA : Str → Option Value} {name : Str} {v : Value}

theorem get_map {expr : Bool} {Q : Value → Shared → Prop} (X : K.In s.heap) (I : ObjM s.heap x dx C mA) (hg : PySem.W.plainGet K C name = true) (hh : PySem.W.hasDictIn K C = true)
    (ha : PySem.W.findIn K (.ref C) name = some none) (hv : mA name = some v) (hv' : PySem.W.handedIn v = true) (h : Q v { s with toks := s.toks + 1 }) :
    wpAny (model prog w) A (getAttr (.ref x) name expr) Q E s := by
  obtain ⟨od, J, hl⟩ := I.look
  exact PySem.W.get_value X J (PySem.W.plainGet_of hg).1 (PySem.W.findObj_own hh ha rfl (by rw [hl, hv])) hv' h

theorem get_meth {pl : Sem Bool} {Q : Value × List Value → Shared → Prop} (X : K.In s.heap) (I : ObjM s.heap x dx C mA) (hg : PySem.W.plainGet K C name = true)
    (hf : PySem.W.findIn K (.ref C) name = some (some (.ref f))) (ht : PySem.W.isFn K (.ref f) = true) (hv : mA name = none) (h : Q (.ref f, [.ref x]) s) :
    wpAny (model prog w) A (getMethod (.ref x) name pl) Q E s := by
  obtain ⟨od, J, hl⟩ := I.look
  exact PySem.W.method_fn X J (PySem.W.plainGet_of hg).1 (PySem.W.plainGet_of hg).2 hf (beq_iff_eq.mp ht) (by show (PySem.W.lookIn name od).map (·.isSome) = some false; rw [hl, hv]; rfl) h

theorem set_map {ns : List Str} {Q : Unit → Shared → Prop} (X : K.In s.heap) (I : ObjM s.heap x dx C mA)
    (hs : PySem.W.findIn K (.ref C) "__setattr__" = some (some (.builtin "object.__setattr__"))) (hp : PySem.W.plainOver K C = true) (ht : PySem.W.takerIn K C name = some none) (hh : PySem.W.hasDictIn K C = true)
    (hw : PySem.Within mA ns) (hsz : ns.length ≤ sizeLine)
    (h : ∀ h', ObjM h' x dx C (fun y => if y = name then some v else mA y) → Heap.SameBut dx s.heap h' → Q () { s with heap := h', toks := s.toks + 2 }) :
    wpAny (model prog w) A (setAttr (.ref x) name v) Q E s := by
  obtain ⟨od, J, hl⟩ := I.look
  refine PySem.W.set_plain X J hs (PySem.W.osa_open (s := { s with toks := s.toks + 1 }) (r := none) X J hp ht fun b => ?_)
  obtain ⟨cd, hc, hd'⟩ := PySem.W.any_some hh
  have hx : s.heap.get? x = some ⟨.ref C, some dx, .plain, #[]⟩ := I.obj
  refine wpAny_bind (wpAny_pure (wpAny_bind (wpAny_bind (wpAny_loadPart hx (wpAny_bind (PySem.W.Looks.here (s := { s with toks := s.toks + 1 }) (PySem.W.looks_clsIn X hc) ?_))))))
  rw [hd']
  refine wpAny_pure (a := some dx) (wpAny_bind (wpAny_pure (wpAny_bind ?_)))
  refine wpAny_nsSet1 (s := { s with toks := s.toks + 1 }) I.ns fun h' hn2 hs2 => ?_
  obtain ⟨oD, esD, epD, hoD, hdD, hcD⟩ := hn2.count (PySem.Within.cons name v hw)
  refine wpAny_bind (wpAny_lookBehind hoD (by rw [hdD]; exact pastItsLine_dict (Nat.le_trans hcD (by rw [List.length_cons]; (first | lia | omega)))) ?_)
  exact wpAny_pure (h _ ⟨(hs2.2 _ (Ne.symm I.ne)).trans I.obj, hn2, I.ne⟩ hs2)

/-- C(..): the dict at the heap's end, the instance behind it; then its __init__ -/
theorem make_map {R : Result → Shared → Prop} {vs : List Value} {kw : List (Str × Value)} (X : K.In s.heap) (hm : PySem.W.makesIn K C = true)
    (hi : PySem.W.findIn K (.ref C) "__init__" = some (some (.ref f))) (hf : PySem.W.typeIn K (.ref f) = some (.type "function"))
    (h : codeAny (model prog w) (A.under (.builtin "type.__call__" ⟨.ref C :: vs, kw⟩)) (.call (.ref f) ⟨.ref (s.heap.objs.size + 1) :: vs, kw⟩) (PySem.W.InitBack (s.heap.objs.size + 1) R)
      { s with heap := (s.heap.push PySem.W.emptyDict).push (PySem.W.instObj C s.heap.objs.size) }) :
    codeAny (model prog w) A (.call (.ref C) ⟨vs, kw⟩) R s := by
  obtain ⟨hh, g, d, t, os⟩ := s
  exact PySem.W.make_core (PySem.W.makes_of X hm) (PySem.W.looks_findIn X hi) (fun self => PySem.W.bind_fn X self hf) (.inl rfl) h
end

/-! ### the attributes as a list of pairs -/
def putF (f : Str) (v : V) : List (Str × V) → List (Str × V)
  | [] => [(f, v)]
  | (g, x) :: r => if g = f then (g, v) :: r else (g, x) :: putF f v r
theorem lookup_putF (f g : Str) (v : V) : ∀ fs : List (Str × V), (putF f v fs).lookup g = if g = f then some v else fs.lookup g
  | [] => by
    show List.lookup g [(f, v)] = _
    by_cases h : g = f
    · have hb : (g == f) = true := beq_iff_eq.mpr h
      simp only [List.lookup, hb, if_pos h]
    · have hb : (g == f) = false := beq_eq_false_iff_ne.mpr h
      simp only [List.lookup, hb, if_neg h]
  | (k, x) :: r => by
    have ih := lookup_putF f g v r
    rw [show putF f v ((k, x) :: r) = (if k = f then (k, v) :: r else (k, x) :: putF f v r) from rfl]
    by_cases hk : k = f
    · rw [if_pos hk]
      by_cases h : g = k
      · have hb : (g == k) = true := beq_iff_eq.mpr h
        simp only [List.lookup, hb, if_pos (h.trans hk)]
      · have hb : (g == k) = false := beq_eq_false_iff_ne.mpr h
        simp only [List.lookup, hb, if_neg (fun e : g = f => h (e.trans hk.symm))]
    · rw [if_neg hk]
      by_cases h : g = k
      · have hb : (g == k) = true := beq_iff_eq.mpr h
        simp only [List.lookup, hb, if_neg (fun e : g = f => hk (h.symm.trans e))]
      · have hb : (g == k) = false := beq_eq_false_iff_ne.mpr h
        simp only [List.lookup, hb]
        exact ih
theorem keys_putF (f : Str) (v : V) : ∀ fs : List (Str × V), f ∈ (putF f v fs).map (·.1) ∧ ∀ g, g ∈ fs.map (·.1) → g ∈ (putF f v fs).map (·.1)
  | [] => ⟨by simp [putF], fun g h => by simp at h⟩
  | (k, x) :: r => by
    obtain ⟨i1, i2⟩ := keys_putF f v r
    rw [show putF f v ((k, x) :: r) = (if k = f then (k, v) :: r else (k, x) :: putF f v r) from rfl]
    by_cases hk : k = f
    · rw [if_pos hk]
      subst hk
      exact ⟨by simp, fun g h => by simpa using h⟩
    · rw [if_neg hk]
      refine ⟨?_, fun g h => ?_⟩
      · rw [List.map_cons]
        exact List.mem_cons_of_mem _ i1
      · rw [List.map_cons] at h ⊢
        rcases List.mem_cons.mp h with e | e
        · exact List.mem_cons.mpr (.inl e)
        · exact List.mem_cons_of_mem _ (i2 g e)
theorem length_putF (f : Str) (v : V) : ∀ fs : List (Str × V), (putF f v fs).length ≤ fs.length + 1
  | [] => by simp [putF]
  | (k, x) :: r => by
    have ih := length_putF f v r
    rw [show putF f v ((k, x) :: r) = (if k = f then (k, v) :: r else (k, x) :: putF f v r) from rfl]
    by_cases hk : k = f
    · rw [if_pos hk, List.length_cons, List.length_cons]; (first | lia | omega)
    · rw [if_neg hk, List.length_cons, List.length_cons]; (first | lia | omega)

theorem RelO.some_of {v : V} {o : Option Value} (r : RelO (some v) o) : ∃ u, o = some u ∧ RelV v u := by
  cases o with
  | none => exact (show False from r).elim
  | some u => exact ⟨u, rfl, r⟩
theorem RelO.none_of {o : Option Value} (r : RelO none o) : o = none := by
  cases o with
  | none => rfl
  | some u => exact (show False from r).elim
theorem handed_of {v : V} {u : Value} (r : RelV v u) : PySem.W.handedIn u = true := by
  cases v with
  | non => cases (show u = Value.none from r); rfl
  | bl b => cases (show u = Value.bool b from r); rfl
  | int i => obtain ⟨t, e⟩ := (show ∃ t, u = Value.int i t from r); cases e; rfl
  | str x => obtain ⟨t, e⟩ := (show ∃ t, u = Value.str x t from r); cases e; rfl
  | byt b => obtain ⟨t, e⟩ := (show ∃ t, u = Value.bytes b t from r); cases e; rfl
  | flt b => obtain ⟨t, e⟩ := (show ∃ t, u = Value.float b t from r); cases e; rfl
  | ref a => cases (show u = Value.ref a from r); rfl
  | ty n => cases (show u = Value.type n from r); rfl

section
variable {P : Program} {w : World} {H H' : Hp} {h h' : Heap} {a C dx : Addr} {fs fs' : List (Str × V)}
theorem ins_get (hok : HOk P w H h) (e : H a = some (.ins C dx fs)) : ∃ mA, ObjM h a dx C mA ∧ (∀ f, RelO (fs.lookup f) (mA f)) ∧ PySem.Within mA (fs.map (·.1)) ∧ fs.length ≤ 1000 ∧ H dx = some (.own a) := by
  obtain ⟨d, z, ne, ob, mA, n, r, q⟩ := (show ObjOk P w H h a (.ins C dx fs) from hok a _ e)
  exact ⟨mA, ⟨ob, n, ne⟩, r, q, z, d⟩
end

/-! ### what of the text a class must have -/
structure Cls (K : PySem.W.Frag) (C : Addr) : Prop where
  pg : PySem.W.plainGet K C Str.empty = true
  hd : PySem.W.hasDictIn K C = true
  po : PySem.W.plainOver K C = true
  sa : PySem.W.findIn K (.ref C) "__setattr__" = some (some (.builtin "object.__setattr__"))
theorem Cls.get {K : PySem.W.Frag} {C : Addr} (c : Cls K C) (f : Str) : PySem.W.plainGet K C f = true := c.pg
/-- no class of it has the name -/
def NoAttr (K : PySem.W.Frag) (C : Addr) (f : Str) : Prop := PySem.W.findIn K (.ref C) f = some none
theorem NoAttr.taker {K : PySem.W.Frag} {C : Addr} {f : Str} (n : NoAttr K C f) : PySem.W.takerIn K C f = some none := by
  unfold PySem.W.takerIn
  rw [show PySem.W.findIn K (.ref C) f = some none from n]
  rfl
/-- a method: a plain def of the class or of one above it -/
structure Meth (K : PySem.W.Frag) (C : Addr) (m : Str) (f : Addr) : Prop where
  at_ : PySem.W.findIn K (.ref C) m = some (some (.ref f))
  fn : PySem.W.isFn K (.ref f) = true
  kp : PySem.W.keepIn K (.ref f) = true

section
variable {X : Cx} {pins : List (Addr × Obj)} {σ : St} {H : Hp} {s : Shared} {a C dx : Addr} {fs : List (Str × V)} {f : Str} {v : V} {A : Around} {E : Value → Shared → Prop}

theorem getattr_ok {b : Bool} {Q : Value → Shared → Prop} (I : Inv X pins σ H s) (e : H a = some (.ins C dx fs)) (c : Cls X.K C) (n : NoAttr X.K C f) (l : fs.lookup f = some v)
    (h : ∀ u s', Inv X pins σ H s' → RelV v u → Q u s') : wpAny (model X.prog X.w) A (getAttr (.ref a) f b) Q E s := by
  obtain ⟨mA, O, r, _, _, _⟩ := ins_get I.hok e
  obtain ⟨u, hu, ru⟩ := RelO.some_of (v := v) (o := mA f) (by rw [← l]; exact r f)
  exact get_map I.kIn O (c.get f) c.hd n hu (handed_of ru) (h u _ (I.tok _) ru)

theorem getmeth_ok {m : Str} {g : Addr} {pl : Sem Bool} {Q : Value × List Value → Shared → Prop} (I : Inv X pins σ H s) (e : H a = some (.ins C dx fs)) (c : Cls X.K C) (k : Meth X.K C m g) (l : fs.lookup m = none)
    (h : Q (.ref g, [.ref a]) s) : wpAny (model X.prog X.w) A (getMethod (.ref a) m pl) Q E s := by
  obtain ⟨mA, O, r, _, _, _⟩ := ins_get I.hok e
  have hn : mA m = none := RelO.none_of (by rw [← l]; exact r m)
  exact get_meth I.kIn O (c.get m) k.at_ k.fn hn h

theorem setattr_ok {y : V} {u : Value} {Q : Unit → Shared → Prop} (I : Inv X pins σ H s) (e : H a = some (.ins C dx fs)) (c : Cls X.K C) (n : NoAttr X.K C f) (hl : fs.length < 1000) (ry : RelV y u)
    (h : ∀ s', Inv X pins σ (upd H a (.ins C dx (putF f y fs))) s' → Q () s') : wpAny (model X.prog X.w) A (setAttr (.ref a) f u) Q E s := by
  obtain ⟨mA, O, r, wi, _, ho⟩ := ins_get I.hok e
  have hz : (fs.map (·.1)).length ≤ sizeLine := by rw [List.length_map, sizeLine_eq]; (first | lia | omega)
  refine set_map I.kIn O c.sa c.po n.taker c.hd wi hz fun h' O' sb => h _ ?_
  have hd : ∃ o, h'.get? dx = some o := let ⟨o, _, _, e', _⟩ := O'.ns; ⟨o, e'⟩
  refine I.write (x := a) (e := dx) (by rw [e]; exact True.intro) (.inr ho) (fun b q hb z => (sb.2 b hb).trans z) hd ?_
  refine ⟨by rw [upd_ne O.ne]; exact ho, ?_, O.ne, O'.obj, _, O'.ns, fun g => ?_, fun g hg => ?_⟩
  · have := length_putF f y fs; (first | lia | omega)
  · show RelO ((putF f y fs).lookup g) (if g = f then some u else mA g)
    rw [lookup_putF]
    by_cases q : g = f
    · rw [if_pos q, if_pos q]; exact ry
    · rw [if_neg q, if_neg q]; exact r g
  · by_cases q : g = f
    · rw [q]; exact (keys_putF f y fs).1
    · refine (keys_putF f y fs).2 g (wi g fun z => hg ?_)
      show (if g = f then some u else mA g) = none
      rw [if_neg q]; exact z

/-- a new instance, tracked, without attributes -/
theorem Inv.made (I : Inv X pins σ H s) : Inv X pins σ (upd (upd H s.heap.objs.size (.own (s.heap.objs.size + 1))) (s.heap.objs.size + 1) (.ins C s.heap.objs.size []))
    { s with heap := (s.heap.push PySem.W.emptyDict).push (PySem.W.instObj C s.heap.objs.size) } := by
  have e1 : (s.heap.push PySem.W.emptyDict).get? s.heap.objs.size = some PySem.W.emptyDict := Heap.get?_push_size s.heap rfl
  have e2 : ((s.heap.push PySem.W.emptyDict).push (PySem.W.instObj C s.heap.objs.size)).get? (s.heap.objs.size + 1) = some (PySem.W.instObj C s.heap.objs.size) := by
    have := Heap.get?_push_size (s.heap.push PySem.W.emptyDict) (o := PySem.W.instObj C s.heap.objs.size) rfl
    rwa [Heap.size_push] at this
  have e3 : (s.heap.push PySem.W.emptyDict).Ns s.heap.objs.size (fun _ => none) := ⟨PySem.W.emptyDict, #[], _, e1, rfl, (fun e he => absurd he (by simp)), fun _ => rfl⟩
  have I1 := I.laid (a := s.heap.objs.size) (o := .own (s.heap.objs.size + 1)) (h' := s.heap.push PySem.W.emptyDict) (t' := s.toks) (fun b u q => Heap.get?_push_of_some _ q) (Nat.le_refl _) ⟨_, e1⟩
  refine I1.laid (a := s.heap.objs.size + 1) (o := .ins C s.heap.objs.size []) (t' := s.toks) (fun b u q => Heap.get?_push_of_some _ q) (Nat.le_of_eq (Heap.size_push _ _)) ?_
  have ne : s.heap.objs.size ≠ s.heap.objs.size + 1 := Nat.ne_of_lt (Nat.lt_succ_self _)
  refine ⟨by rw [upd_ne ne, upd_same], Nat.zero_le _, ne, e2, fun _ => none, (Heap.Ns1.of_empty e3).at fun o q => Heap.get?_push_of_some _ q, fun _ => True.intro, fun y hy => absurd rfl hy⟩

/-- e.f where nothing but the object is asked: through attributeBase (super) and the last hold -/
theorem attr_of {prog : Program} {w : World} {env : Env} {e : Expr} {f : Str} {pos : Pos} {s : Shared} {Q : Value → Shared → Prop} (hb : attributeBase e f env (eval e env) = eval e env)
    (h : wpAny (model prog w) A (eval e env) (fun o s₁ => wpAny (model prog w) A (getAttr o f true) Q E s₁) E s) : wpAny (model prog w) A (eval (.Attribute e f pos) env) Q E s :=
  Attribute_any_ h (by rw [arm_eval_Attribute, hb])
end

/-! ### readings and rules -/
/-- e.f, an attribute of the instance -/
def tFld (K : PySem.W.Frag) (ta : TE) (f : Str) : TE := fun σ H Q => ta σ H fun x H1 => ∃ a C dx fs v, x = .ref a ∧ H1 a = some (.ins C dx fs) ∧ Cls K C ∧ NoAttr K C f ∧ fs.lookup f = some v ∧ Q v H1
/-- e.f = value -/
def sFld (K : PySem.W.Frag) (ta tv : TE) (f : Str) : TS := fun D σ H => tv σ H fun y H1 => ta σ H1 fun x H2 => ∃ a C dx fs, x = .ref a ∧ H2 a = some (.ins C dx fs) ∧ Cls K C ∧ NoAttr K C f ∧ fs.length < 1000 ∧
  D.nx σ (upd H2 a (.ins C dx (putF f y fs)))
/-- an augmented operator on two values -/
def InOp (X : Cx) (op : Operator) (rd : V → V → Hp → VK → Prop) : Prop :=
  ∀ (pins : List (Addr × Obj)) (s : Shared) (σ : St) (H : Hp) (x y : V) (u v : Value) (Q : VK), Inv X pins σ H s → RelV x u → RelV y v → rd x y H Q → wpAny (model X.prog X.w) X.A (inplaceOp op u v) (EP X pins σ Q) X.xe s
/-- e.f op= value -/
def sFldAug (K : PySem.W.Frag) (ta tv : TE) (rd : V → V → Hp → VK → Prop) (f : Str) : TS := fun D σ H => ta σ H fun x H1 => ∃ a C dx fs v, x = .ref a ∧ H1 a = some (.ins C dx fs) ∧ Cls K C ∧ NoAttr K C f ∧ fs.lookup f = some v ∧
  tv σ H1 fun y H2 => rd v y H2 fun z H3 => ∃ dx' fs', H3 a = some (.ins C dx' fs') ∧ fs'.length < 1000 ∧ D.nx σ (upd H3 a (.ins C dx' (putF f z fs')))

section
variable {X : Cx} {o e value : Expr} {f : Str} {pos pos' tpos : Pos} {ta tv : TE}
theorem pe_fld (he : PE X e ta) (hb : attributeBase e f X.env (eval e X.env) = eval e X.env) : PE X (.Attribute e f pos) (tFld X.K ta f) := by
  intro pins s σ H Q I h
  refine attr_of hb (thn (he pins s σ H _ I h) fun u s1 ⟨x, H1, I1, rx, a, C, dx, fs, v, ex, ea, c, n, l, q⟩ => ?_)
  subst ex
  obtain rfl : u = Value.ref a := rx
  exact getattr_ok I1 ea c n l fun u' s2 I2 ru => ⟨v, H1, I2, ru, q⟩
theorem ps_fld (ha : PE X o ta) (hv : PE X value tv) (hs : swapsWith value (some (.Attribute o f pos')) pos.line X.env = pure false) : PS X (.Assign [.Attribute o f pos'] value pos) (sFld X.K ta tv f) := by
  intro pins s σ H D I h
  refine plainObj_wpAny_Assign_Attribute (thn (hv pins s σ H _ I h) fun u s1 ⟨y, H1, I1, ry, q⟩ => thn (ha pins s1 σ H1 _ I1 q) fun ov s2 ⟨x, H2, I2, rx, a, C, dx, fs, ex, ea, c, n, l, q2⟩ => ?_) hs
  subst ex
  obtain rfl : ov = Value.ref a := rx
  exact setattr_ok I2 ea c n l ry fun s3 I3 => ⟨σ, _, I3, q2⟩
theorem ps_fldaug {op : Operator} {rd : V → V → Hp → VK → Prop} (ha : PE X o ta) (hv : PE X value tv) (hop : InOp X op rd) : PS X (.AugAssign (.Attribute o f tpos) op value pos) (sFldAug X.K ta tv rd f) := by
  intro pins s σ H D I h
  refine wpAny_AugAssign_AttributeAny (thn (ha pins s σ H _ I h) fun ov s1 ⟨x, H1, I1, rx, a, C, dx, fs, v, ex, ea, c, n, l, q⟩ => ?_)
  subst ex
  obtain rfl : ov = Value.ref a := rx
  refine getattr_ok I1 ea c n l fun u s2 I2 ru => thn (hv pins s2 σ H1 _ I2 q) fun w3 s3 ⟨y, H2, I3, ry, q3⟩ => thn (hop pins s3 σ H2 v y u w3 _ I3 ru ry q3) fun w4 s4 ⟨z, H3, I4, rz, dx', fs', ea', l', q4⟩ => ?_
  exact setattr_ok I4 ea' c n l' rz fun s5 I5 => ⟨σ, _, I5, q4⟩
def rAdd : V → V → Hp → VK → Prop := fun x y H Q => ∃ i j, x = .int i ∧ y = .int j ∧ Q (.int (i + j)) H
theorem in_add : InOp X .Add rAdd := by
  rintro pins s σ H x y u v Q I rx ry ⟨i, j, rfl, rfl, q⟩
  obtain ⟨t, rfl⟩ := (show ∃ t, u = Value.int i t from rx)
  obtain ⟨t', rfl⟩ := (show ∃ t', v = Value.int j t' from ry)
  exact PyProof.Rows.iadd_int ⟨.int (i + j), H, I.tok _, ⟨_, rfl⟩, q⟩
end

/-! ### isinstance -/
section
variable {X : Cx} {pins : List (Addr × Obj)} {σ : St} {H : Hp} {s : Shared} {A : Around} {E : Value → Shared → Prop} {Q : Value → Shared → Prop} {c : Value} {b : Bool}
/-- the type of a value, as the fragment's deciders take it; for an instance its class -/
inductive TyOf (K : PySem.W.Frag) (H : Hp) : V → Value → Prop where
  | non : TyOf K H .non (.type "NoneType")
  | bl (x : Bool) : TyOf K H (.bl x) (.type "bool")
  | int (i : Int) : TyOf K H (.int i) (.type "int")
  | str (x : Str) : TyOf K H (.str x) (.type "str")
  | flt (x : UInt64) : TyOf K H (.flt x) (.type "float")
  | lst {a : Addr} {xs : List V} (e : H a = some (.lst xs)) : TyOf K H (.ref a) (.type "list")
  | frz {a : Addr} {o : Obj} {xs : List V} (e : H a = some (.frz o (.lst xs))) : TyOf K H (.ref a) (.type "list")
  | tup {a : Addr} {xs : List V} (e : H a = some (.tup xs)) : TyOf K H (.ref a) (.type "tuple")
  | dK {a : Addr} {kvs : List (Key × V)} (e : H a = some (.dK kvs)) : TyOf K H (.ref a) (.type "dict")
  | dT {a : Addr} {kvs : List (List Key × V)} (e : H a = some (.dT kvs)) : TyOf K H (.ref a) (.type "dict")
  | ins {a C dx : Addr} {fs : List (Str × V)} (e : H a = some (.ins C dx fs)) (cl : Cls K C) (ha : PySem.W.findIn K (.ref C) "__class__" = some (some (.builtin "object.__class__")))
      (hn : PySem.W.specialIn K (.builtin "object.__class__") "__get__" = some (some (.builtin "getset_descriptor.__get__"))) (htk : PySem.W.takesIn K (.builtin "object.__class__") = some true)
      (hm : PySem.W.mroIn K C (.type "object") = some true) : TyOf K H (.ref a) (.ref C)
/-- isinstance(x, c) for one class c, a built-in or an own one: kitOne's answer -/
theorem isinst_ok {x : V} {u t : Value} (I : Inv X pins σ H s) (rx : RelV x u) (ty : TyOf X.K H x t) (e : PySem.W.kitOne X.K t c = some b) (h : ∀ tk, Q (.bool b) { s with toks := tk }) :
    wpAny (model X.prog X.w) A (call (.builtin "isinstance") [u, c]) Q E s := by
  cases ty with
  | non => cases (show u = Value.none from rx); exact PySem.W.kia_one PySem.W.kitx_none I.kIn True.intro e (fun z => nomatch z) h
  | bl y => cases (show u = Value.bool y from rx); exact PySem.W.kia_one PySem.W.kitx_bool I.kIn True.intro e (fun z => nomatch z) h
  | int i => obtain ⟨t, q⟩ := (show ∃ t, u = Value.int i t from rx); cases q; exact PySem.W.kia_one PySem.W.kitx_int I.kIn True.intro e (fun z => nomatch z) h
  | str y => obtain ⟨t, q⟩ := (show ∃ t, u = Value.str y t from rx); cases q; exact PySem.W.kia_one PySem.W.kitx_str I.kIn True.intro e (fun z => nomatch z) h
  | flt y => obtain ⟨t, q⟩ := (show ∃ t, u = Value.float y t from rx); cases q; exact PySem.W.kia_one PySem.W.kitx_float I.kIn True.intro e (fun z => nomatch z) h
  | @lst a xs ea =>
    cases (show u = Value.ref a from rx)
    obtain ⟨_, _, n, _, h1⟩ := (show ObjOk X.prog X.w H s.heap a (.lst xs) from I.hok a _ ea)
    exact PySem.W.kia_one PySem.W.kitx_list I.kIn ⟨_, h1, rfl⟩ e (fun z => nomatch z) h
  | @frz a ob xs ea =>
    cases (show u = Value.ref a from rx)
    obtain ⟨_, _, _, n, _, h1⟩ := (show ObjOk X.prog X.w H s.heap a (.frz ob (.lst xs)) from I.hok a _ ea)
    exact PySem.W.kia_one PySem.W.kitx_list I.kIn ⟨_, h1, rfl⟩ e (fun z => nomatch z) h
  | @tup a xs ea =>
    cases (show u = Value.ref a from rx)
    obtain ⟨_, _, _, p⟩ := (show ObjOk X.prog X.w H s.heap a (.tup xs) from I.hok a _ ea)
    obtain ⟨o, h1, h2, _⟩ := p
    exact PySem.W.kia_one PySem.W.kitx_tuple I.kIn ⟨o, h1, h2⟩ e (fun z => nomatch z) h
  | @dK a kvs ea =>
    cases (show u = Value.ref a from rx)
    obtain ⟨_, _, vs, _, p⟩ := (show ObjOk X.prog X.w H s.heap a (.dK kvs) from I.hok a _ ea)
    obtain ⟨o, es, ep, h1, h2, _⟩ := p
    exact PySem.W.kia_one PySem.W.kitx_dict I.kIn ⟨o, h1, h2.1⟩ e (fun z => nomatch z) h
  | @dT a kvs ea =>
    cases (show u = Value.ref a from rx)
    obtain ⟨_, _, xs, _, o, es, ep, h1, h2, _⟩ := (show ObjOk X.prog X.w H s.heap a (.dT kvs) from I.hok a _ ea)
    exact PySem.W.kia_one PySem.W.kitx_dict I.kIn ⟨o, h1, h2.1⟩ e (fun z => nomatch z) h
  | @ins a C dx fs ea cl ha hn htk hm =>
    cases (show u = Value.ref a from rx)
    obtain ⟨mA, O, _⟩ := ins_get I.hok ea
    obtain ⟨od, J, _⟩ := O.look
    exact PySem.W.kia_one (PySem.W.kitx_own (cl.get _) cl.hd ha hn htk hm) I.kIn J e (fun z => nomatch z) h
end
end L2

namespace L2
open PySem PySem.Spec PyProof.Rows

/-! ### room -/
structure Room (k : Nat) (A : Around) : Prop where
  hd : A.handled = none
  dp : A.depth + 3 * k + 5 < recursionLimit
  un : A.units + 16 * k + 200 < cLine
theorem Room.mono {j k : Nat} {A : Around} (r : Room k A) (h : j ≤ k) : Room j A := ⟨r.hd, by have := r.dp; (first | lia | omega), by have := r.un; (first | lia | omega)⟩
theorem Room.deeper {k : Nat} {A : Around} (r : Room (k + 1) A) (env : Env) : Room k (A.deeper env) :=
  ⟨r.hd, by have := r.dp; show A.depth + 1 + 3 * k + 5 < _; (first | lia | omega), by have := r.un; show A.units + 3 + 16 * k + 200 < _; (first | lia | omega)⟩
theorem make_depth {A : Around} {C : Addr} {us : List Value} {kw : List (Str × Value)} : (A.under (.builtin "type.__call__" ⟨.ref C :: us, kw⟩)).depth = A.depth + 1 := by
  first | rfl | simp [Around.under, Code.weight, Code.isCreation, Code.isGuard, Code.isCaller, Code.frames, Code.isFrame, guardIds]
theorem make_units {A : Around} {C : Addr} {us : List Value} {kw : List (Str × Value)} : (A.under (.builtin "type.__call__" ⟨.ref C :: us, kw⟩)).units = A.units + 1 := by
  first | rfl | simp [Around.under, Code.cUnits, Code.frames, Code.isFrame]
theorem Room.make {k : Nat} {A : Around} (r : Room (k + 1) A) (C : Addr) (us : List Value) (kw : List (Str × Value)) : Room k (A.under (.builtin "type.__call__" ⟨.ref C :: us, kw⟩)) :=
  ⟨r.hd, by have := r.dp; rw [make_depth]; (first | lia | omega), by have := r.un; rw [make_units]; (first | lia | omega)⟩
theorem Room.depth {k : Nat} {A : Around} (r : Room k A) : A.depth < recursionLimit := by have := r.dp; (first | lia | omega)
/-! ### argument lists and displays -/
def tNil : TA := fun _ H Q => Q [] H
def tCons (ta : TE) (tr : TA) : TA := fun σ H Q => ta σ H fun x H1 => tr σ H1 fun xs H2 => Q (x :: xs) H2
section
variable {X : Cx} {e : Expr} {es : List Expr} {te : TE} {t : TA} {pos : Pos}
theorem pa_nil : PA X [] tNil := fun _ _ _ _ H Q I h => Calls.spliced_nil ⟨[], H, I, .nil, h⟩
theorem pa_cons (ha : PE X e te) (hr : PA X es t) (hs : starEach (e :: es) X.env = (false, eval e X.env) :: starEach es X.env := by rfl) : PA X (e :: es) (tCons te t) := by
  intro pos pins s σ H Q I h
  rw [hs]
  show wpAny _ _ (spliced ((false, eval e X.env) :: backTo pos (starEach es X.env))) _ _ s
  refine Calls.spliced_cons (thn (ha pins s σ H _ I h) fun u s1 ⟨x, H1, I1, r1, q1⟩ => ?_)
  exact thn (hr pos pins s1 σ H1 _ I1 q1) fun us s2 ⟨xs, H2, I2, r2, q2⟩ => ⟨x :: xs, H2, I2, .cons r1 r2, q2⟩

/-- a tuple, a list of written items -/
def tTup (t : TA) : TE := fun σ H Q => t σ H fun xs H1 => xs.length ≤ sizeLine ∧ ∀ p, H1 p = none → Q (.ref p) (upd H1 p (.tup xs))
def tLst (t : TA) : TE := fun σ H Q => t σ H fun xs H1 => xs.length ≤ sizeLine ∧ ∀ p, H1 p = none → Q (.ref p) (upd H1 p (.lst xs))
theorem pe_tup {x1} (h : PA X es t) : PE X (.Tuple es x1 pos) (tTup t) := by
  intro pins s σ H Q I hq
  refine wpAny_Tuple_spliced (thn (h pos pins s σ H _ I hq) fun us s1 ⟨xs, H1, I1, r, z, q⟩ => ⟨by rw [← r.length]; exact z, ?_⟩)
  have hf : H1 s1.heap.objs.size = none := I1.hok.fresh (Nat.le_refl _)
  refine ⟨.ref s1.heap.objs.size, upd H1 s1.heap.objs.size (.tup xs), I1.laid (t' := s1.toks) (fun b u e => Heap.get?_push_of_some _ e) (Nat.le_refl _) ?_, rfl, q _ hf⟩
  exact ⟨z, us, r, ⟨_, Heap.get?_push_size _ rfl, rfl, _, rfl⟩⟩
theorem pe_lst (h : PA X es t) : PE X (.List es pos) (tLst t) := by
  intro pins s σ H Q I hq
  refine wpAny_List_spliced (thn (h pos pins s σ H _ I hq) fun us s1 ⟨xs, H1, I1, r, z, q⟩ => ⟨by rw [← r.length]; exact z, ?_⟩)
  have hf : H1 s1.heap.objs.size = none := I1.hok.fresh (Nat.le_refl _)
  refine ⟨.ref s1.heap.objs.size, upd H1 s1.heap.objs.size (.lst xs), I1.laid (t' := s1.toks) (fun b u e => Heap.get?_push_of_some _ e) (Nat.le_refl _) ?_, rfl, q _ hf⟩
  exact ⟨z, us, 0, r, Heap.get?_push_size _ rfl⟩
end

/-! ### what a def promises -/
/-- a def's promise: the bound arguments in the parameters' order, the heap, the wanted end, the wanted exception -/
abbrev Sp := List V → Hp → VK → XK → Prop
/-- how an exception lies behind a call (file 08 gives it): the callers' frames, abstract heap and state ahead of the call, the wish, the exception, the state -/
abbrev CXT := List Env → Hp → Shared → XK → Value → Shared → Prop

/-- the state at a call -/
structure Env0 (P : Program) (w : World) (K : PySem.W.Frag) (mg : Str → Option Value) (base : Heap) (A : Around) (outer : List Env) (s : Shared) (H : Hp) : Prop where
  frames : A.frames = some outer
  mod : Mod K mg base
  bs : ∀ b o, base.get? b = some o → s.heap.get? b = some o ∧ H b = none
  bsz : base.objs.size ≤ s.heap.objs.size
  funs : s.heap.FunFrames base outer
  frf : ∀ b ∈ frs outer, H b = none
  hok : HOk P w H s.heap
  bare : AllBare s.gens
/-- a call's end -/
def CE (outer : List Env) (P : Program) (w : World) (H : Hp) (s : Shared) (Q : VK) (u : Value) (s' : Shared) : Prop :=
  ∃ v H', s'.os = s.os ∧ AllBare s'.gens ∧ Un (frs outer) [] H H' s.heap s'.heap ∧ HOk P w H' s'.heap ∧ RelV v u ∧ Q v H'
def CR (CX : CXT) (outer : List Env) (P : Program) (w : World) (H : Hp) (s : Shared) (Q : VK) (E : XK) (r : Result) (s' : Shared) : Prop :=
  match r with
  | .ok (.ret u) => CE outer P w H s Q u s'
  | .ok _ => False
  | .error e => CX outer H s E e s'
structure FnOk (P : Program) (w : World) (K : PySem.W.Frag) (mg : Str → Option Value) (base : Heap) (CX : CXT) (k : Nat) (f : Addr) (fd : FuncData) (ps : List Str) (sp : Sp) : Prop where
  len : ∀ vs H Q E, sp vs H Q E → vs.length = ps.length
  run : ∀ (A : Around) (outer : List Env) (s : Shared) (H : Hp) (args : Args) (us : List Value) (vs : List V) (Q : VK) (E : XK), Room k A → Env0 P w K mg base A outer s H → BindsTo s fd args (ps.zip us) → Vals vs us → sp vs H Q E →
    codeAny (model P w) A (.call (.ref f) args) (CR CX outer P w H s Q E) s
theorem Env0.make {P : Program} {w : World} {K : PySem.W.Frag} {mg : Str → Option Value} {base : Heap} {A : Around} {outer : List Env} {s : Shared} {H : Hp} (e : Env0 P w K mg base A outer s H) (C : Addr) (us : List Value) (kw : List (Str × Value)) :
    Env0 P w K mg base (A.under (.builtin "type.__call__" ⟨.ref C :: us, kw⟩)) outer s H := ⟨by first | exact e.frames | (simpa [Around.under, Code.envs, Code.isFrame, pushEnvs] using e.frames), e.mod, e.bs, e.bsz, e.funs, e.frf, e.hok, e.bare⟩
section
variable {X : Cx} {pins : List (Addr × Obj)} {σ : St} {H : Hp} {s s' : Shared}
/-- from a body: what a callee wants -/
theorem Inv.env0 (I : Inv X pins σ H s) : Env0 X.prog X.w X.K X.mg X.base X.A X.stack s H :=
  ⟨I.ok.frames, I.ok.mod, I.bs, Nat.le_trans I.ok.bsz I.sz, I.stack, I.stkFree, I.hok, I.bare⟩
/-- behind a call -/
theorem Inv.after {Q : VK} {u : Value} (I : Inv X pins σ H s) (h : CE X.stack X.prog X.w H s Q u s') : EP X pins σ Q u s' := by
  obtain ⟨v, H', os, bare, un, hok, r, q⟩ := h
  obtain ⟨hh, g, d, t, os'⟩ := s'
  obtain rfl : os' = s.os := os
  exact ⟨v, H', I.call (h' := hh) (g' := g) (d' := d) (t' := t) (ch := []) un hok bare (fun b z => absurd z (by simp)), r, q⟩
end

/-! ### calls -/
/-- f(..): the written arguments, then the defaults dvs; E: what is wanted of an exception -/
def tCall (sp : Sp) (dvs : List V) (E : XK) (t : TA) : TE := fun σ H Q => t σ H fun vs H1 => sp (vs ++ dvs) H1 Q E
/-- o.m(..) of an instance of the class at C -/
def tMeth (C : Addr) (m : Str) (sp : Sp) (dvs : List V) (E : XK) (ta : TE) (t : TA) : TE := fun σ H Q => ta σ H fun x H1 => ∃ a dx fs, x = .ref a ∧ H1 a = some (.ins C dx fs) ∧ fs.lookup m = none ∧
  t σ H1 fun vs H2 => sp (x :: (vs ++ dvs)) H2 Q E
/-- C(..): a new instance and its dict, then __init__ -/
def tMake (C : Addr) (sp : Sp) (dvs : List V) (E : XK) (t : TA) : TE := fun σ H Q => t σ H fun vs H1 => ∀ x dx, H1 x = none → H1 dx = none → dx ≠ x →
  sp (.ref x :: (vs ++ dvs)) (upd (upd H1 dx (.own x)) x (.ins C dx [])) (fun v H2 => v = .non ∧ Q (.ref x) H2) E

/-- how the parameters are bound: us the positional arguments, kw the keywords' values by name, ds the defaults that fill up -/
def Binds (K : PySem.W.Frag) (fd : FuncData) (ps : List Str) (ds : List Value) : Prop :=
  ∀ (s : Shared) (us : List Value), K.In s.heap → (us ++ ds).length = ps.length → BindsTo s fd ⟨us, []⟩ (ps.zip (us ++ ds))
/-- every parameter is given -/
theorem Binds.all {K : PySem.W.Frag} {fd : FuncData} {ps : List Str} (h : ∀ us : List Value, us.length = ps.length → bindArgs fd ⟨us, []⟩ = pure (ps.zip us)) : Binds K fd ps [] := fun s us _ hl => by
  rw [List.append_nil] at hl ⊢
  exact .of_eq (h us hl)

/-- an exception of a callee reaches what this body wants of exceptions -/
def Passes (CX : CXT) (X : Cx) (E : XK) : Prop := ∀ (pins : List (Addr × Obj)) (σ : St) (H : Hp) (s : Shared) (e : Value) (s' : Shared), Inv X pins σ H s → CX X.stack H s E e s' → X.xe e s'

section
variable {X : Cx} {CX : CXT} {k : Nat} {f C : Addr} {fd : FuncData} {ps : List Str} {sp : Sp} {dvs : List V} {ds : List Value} {E : XK} {x m : Str} {p pos apos : Pos} {e o : Expr} {es : List Expr} {ta : TE} {t : TA}

/-- the callee runs -/
theorem run_fn {pins : List (Addr × Obj)} {σ : St} {H : Hp} {s : Shared} {Q : VK} {us : List Value} {vs : List V} (F : FnOk X.prog X.w X.K X.mg X.base CX k f fd ps sp) (hr : Room k X.A) (hb : Binds X.K fd ps ds) (hd : Vals dvs ds) (hx : Passes CX X E)
    (I : Inv X pins σ H s) (r : Vals vs us) (h : sp (vs ++ dvs) H Q E) : wpAny (model X.prog X.w) X.A (call (.ref f) us) (EP X pins σ Q) X.xe s := by
  have r2 : Vals (vs ++ dvs) (us ++ ds) := r.append hd
  have hl : (us ++ ds).length = ps.length := by rw [← r2.length]; exact F.len _ _ _ _ h
  refine wpAny_call (codeAny_mono (F.run X.A X.stack s H ⟨us, []⟩ (us ++ ds) (vs ++ dvs) Q E hr I.env0 (hb s us I.kIn hl) r2 h) fun r s' hq => ?_)
  cases r with
  | error e => exact hx pins σ H s e s' I hq
  | ok fl =>
    cases fl with
    | ret u => exact I.after hq
    | next => exact False.elim hq
    | brk => exact False.elim hq
    | cont => exact False.elim hq

theorem pe_call (F : FnOk X.prog X.w X.K X.mg X.base CX k f fd ps sp) (hr : Room k X.A) (hg : Gl X x) (hm : X.mg x = some (.ref f)) (hk : PySem.W.keepIn X.K (.ref f) = true) (hb : Binds X.K fd ps ds) (hd : Vals dvs ds) (hx : Passes CX X E)
    (ha : PA X (e :: es) t) (hdb : (x == ("__debug__" : Str)) = false := by decide) (he : starEach (e :: es) X.env = (false, eval e X.env) :: starEach es X.env := by rfl) (hpl : (backTo pos (starEach es X.env)).any (·.1) = false := by rfl) :
    PE X (.Call (.Name x p) (e :: es) [] pos) (tCall sp dvs E t) := by
  intro pins s σ H Q I h
  refine wpAny_Call_Name_kw (ld_glob I hg hm ?_ hdb)
  refine PySem.W.callWith_K (h₀ := X.base) I.ok.mod.kin hk (thn (ha pos pins s σ H _ I h) fun us s1 ⟨vs, H1, I1, r, q⟩ => ⟨I1.kIn, ?_⟩) he hpl
  exact run_fn F hr hb hd hx I1 r q
/-- o.m(e, ..) -/
theorem pe_meth {pl : Sem Bool} (he : PE X o ta) (c : Cls X.K C) (hm : Meth X.K C m f) (F : FnOk X.prog X.w X.K X.mg X.base CX k f fd ps sp) (hr : Room k X.A) (hb : Binds X.K fd ps ds) (hd : Vals dvs ds) (hx : Passes CX X E) (ha : PA X (e :: es) t)
    (hst : starEach (e :: es) X.env = (false, eval e X.env) :: starEach es X.env := by rfl) (hpl : (backTo pos (starEach es X.env)).any (·.1) = false := by rfl)
    (ht : eval (.Call (.Attribute o m apos) (e :: es) [] pos) X.env = (do
      let ov ← eval o X.env
      standAt apos.atName
      let (f, first) ← holding [ov] (getMethod ov m pl)
      callWith pos f first (backTo pos (starEach (e :: es) X.env)) (backToKw pos (keywordEach [] X.env))) := by rfl) :
    PE X (.Call (.Attribute o m apos) (e :: es) [] pos) (tMeth C m sp dvs E ta t) := by
  intro pins s σ H Q I h
  refine PySem.W.methodCall_KW (pl := pl) (thn (he pins s σ H _ I h) fun u s1 ⟨x, H1, I1, rx, a, dx, fs, ex, ea, l, q⟩ => ?_) ht
  subst ex
  obtain rfl : u = Value.ref a := rx
  refine getmeth_ok I1 ea c hm l ?_
  refine PySem.W.callWith_K (first := [.ref a]) (h₀ := X.base) I.ok.mod.kin hm.kp (thn (ha pos pins s1 σ H1 _ I1 q) fun us s2 ⟨vs, H2, I2, r, q2⟩ => ⟨I2.kIn, ?_⟩) hst hpl
  exact run_fn (us := .ref a :: us) (vs := .ref a :: vs) F hr hb hd hx I2 (.cons rfl r) q2
/-- o.m() -/
theorem pe_meth0 {pl : Sem Bool} (he : PE X o ta) (c : Cls X.K C) (hm : Meth X.K C m f) (F : FnOk X.prog X.w X.K X.mg X.base CX k f fd ps sp) (hr : Room k X.A) (hb : Binds X.K fd ps ds) (hd : Vals dvs ds) (hx : Passes CX X E)
    (ht : eval (.Call (.Attribute o m apos) [] [] pos) X.env = (do
      let ov ← eval o X.env
      standAt apos.atName
      let (f, first) ← holding [ov] (getMethod ov m pl)
      callWith pos f first (backTo pos (starEach [] X.env)) (backToKw pos (keywordEach [] X.env))) := by rfl) :
    PE X (.Call (.Attribute o m apos) [] [] pos) (tMeth C m sp dvs E ta tNil) := by
  intro pins s σ H Q I h
  refine PySem.W.methodCall_KW (pl := pl) (thn (he pins s σ H _ I h) fun u s1 ⟨x, H1, I1, rx, a, dx, fs, ex, ea, l, q⟩ => ?_) ht
  subst ex
  obtain rfl : u = Value.ref a := rx
  refine getmeth_ok I1 ea c hm l ?_
  exact PySem.W.callWith_K0 (first := [.ref a]) I1.kIn hm.kp (run_fn (us := [.ref a]) (vs := [.ref a]) F hr hb hd hx I1 (.cons rfl .nil) q)

/-- what a class must have to be made -/
structure Mk (K : PySem.W.Frag) (C f : Addr) : Prop where
  makes : PySem.W.makesIn K C = true
  init : PySem.W.findIn K (.ref C) "__init__" = some (some (.ref f))
  fn : PySem.W.isFn K (.ref f) = true
  kp : PySem.W.keepIn K (.ref C) = true

theorem run_make {pins : List (Addr × Obj)} {σ : St} {H : Hp} {s : Shared} {Q : VK} {us : List Value} {vs : List V} (M : Mk X.K C f) (F : FnOk X.prog X.w X.K X.mg X.base CX k f fd ps sp) (hr : Room (k + 1) X.A) (hb : Binds X.K fd ps ds) (hd : Vals dvs ds)
    (hx : Passes CX X E) (I : Inv X pins σ H s) (r : Vals vs us)
    (h : ∀ x dx, H x = none → H dx = none → dx ≠ x → sp (.ref x :: (vs ++ dvs)) (upd (upd H dx (.own x)) x (.ins C dx [])) (fun v H2 => v = .non ∧ Q (.ref x) H2) E) :
    wpAny (model X.prog X.w) X.A (call (.ref C) us) (EP X pins σ Q) X.xe s := by
  have hq := h (s.heap.objs.size + 1) s.heap.objs.size (I.hok.fresh (Nat.le_succ _)) (I.hok.fresh (Nat.le_refl _)) (Nat.ne_of_lt (Nat.lt_succ_self _))
  have I2 := Inv.made (C := C) I
  have r2 : Vals (V.ref (s.heap.objs.size + 1) :: (vs ++ dvs)) (Value.ref (s.heap.objs.size + 1) :: (us ++ ds)) := .cons rfl (r.append hd)
  have hl : (Value.ref (s.heap.objs.size + 1) :: us ++ ds).length = ps.length := by
    have e := r2.length
    rw [F.len _ _ _ _ hq] at e
    exact e.symm
  refine wpAny_call (make_map (f := f) I.kIn M.makes M.init (beq_iff_eq.mp M.fn) (codeAny_mono (F.run _ X.stack _ _ ⟨Value.ref (s.heap.objs.size + 1) :: us, []⟩ (Value.ref (s.heap.objs.size + 1) :: (us ++ ds)) _ _ E (hr.make C us [])
    (I2.env0.make C us []) (hb _ (Value.ref (s.heap.objs.size + 1) :: us) I2.kIn hl) r2 hq) fun r s' hq' => ?_))
  cases r with
  | error e => exact hx pins σ _ _ e s' I2 hq'
  | ok fl =>
    cases fl with
    | ret u =>
      obtain ⟨v, H', I3, rv, ev, q3⟩ := I2.after hq'
      subst ev
      exact ⟨rv, ⟨V.ref (s.heap.objs.size + 1), H', I3, rfl, q3⟩⟩
    | next => exact False.elim hq'
    | brk => exact False.elim hq'
    | cont => exact False.elim hq'
theorem pe_make (M : Mk X.K C f) (F : FnOk X.prog X.w X.K X.mg X.base CX k f fd ps sp) (hr : Room (k + 1) X.A) (hg : Gl X x) (hm : X.mg x = some (.ref C)) (hb : Binds X.K fd ps ds) (hd : Vals dvs ds) (hx : Passes CX X E)
    (ha : PA X (e :: es) t) (hdb : (x == ("__debug__" : Str)) = false := by decide) (he : starEach (e :: es) X.env = (false, eval e X.env) :: starEach es X.env := by rfl) (hpl : (backTo pos (starEach es X.env)).any (·.1) = false := by rfl) :
    PE X (.Call (.Name x p) (e :: es) [] pos) (tMake C sp dvs E t) := by
  intro pins s σ H Q I h
  refine wpAny_Call_Name_kw (ld_glob I hg hm ?_ hdb)
  refine PySem.W.callWith_K (h₀ := X.base) I.ok.mod.kin M.kp (thn (ha pos pins s σ H _ I h) fun us s1 ⟨vs, H1, I1, r, q⟩ => ⟨I1.kIn, ?_⟩) he hpl
  exact run_make M F hr hb hd hx I1 r q
end

/-! ### keywords -/

/-! ### a def's body keeps its promise -/
/-- names: the parameters first -/
structure FnScope (N P : List Str) (sc : Scope) : Prop where
  kind : sc.kind = .function
  co : sc.isCoroutine = false
  gen : sc.isGenerator = false
  nd : N.Nodup
  pre : N.take P.length = P
  par : ∀ x ∈ P, sc.names.lookup x = some .local ∨ sc.names.lookup x = some .cell
  nofree : ∀ y ∈ sc.names, y.2 ≠ .free

theorem bindL_out {kindOf : Str → Option NameKind} {x : Str} : ∀ {binds : List (Str × Value)} {m : Str → Option Value}, (∀ v, (x, v) ∉ binds) → bindL kindOf binds m x = m x
  | [], _, _ => rfl
  | (n, v) :: r, m, h => by
    unfold bindL
    rw [bindL_out fun w hw => h w (List.mem_cons_of_mem _ hw)]
    split
    · have : x ≠ n := by rintro rfl; exact h v List.mem_cons_self
      simp [this]
    · rfl
theorem bindC_out {kindOf : Str → Option NameKind} {x : Str} : ∀ {binds : List (Str × Value)} {m : Str → Option Value}, (∀ v, (x, v) ∉ binds) → bindC kindOf binds m x = m x
  | [], _, _ => rfl
  | (n, v) :: r, m, h => by
    unfold bindC
    rw [bindC_out fun w hw => h w (List.mem_cons_of_mem _ hw)]
    split
    · rfl
    · have : x ≠ n := by rintro rfl; exact h v List.mem_cons_self
      simp [this]
theorem bindL_get {kindOf : Str → Option NameKind} {x : Str} {v : Value} : ∀ {P : List Str} {vs : List Value} {i : Nat} {m : Str → Option Value}, P.Nodup → P[i]? = some x → vs[i]? = some v → kindOf x = some .local →
    bindL kindOf (P.zip vs) m x = some v
  | [], _, _, _, _, h, _, _ => by simp at h
  | _ :: _, [], _, _, _, _, h, _ => by simp at h
  | p :: P, w :: vs, 0, m, nd, h1, h2, hk => by
    simp at h1 h2; subst h1; subst h2
    show bindL kindOf ((p, w) :: P.zip vs) m p = _
    unfold bindL
    rw [bindL_out fun v hv => (List.nodup_cons.mp nd).1 (List.of_mem_zip hv).1, if_pos hk]
    simp
  | p :: P, w :: vs, i + 1, m, nd, h1, h2, hk => by
    show bindL kindOf ((p, w) :: P.zip vs) m x = _
    unfold bindL
    exact bindL_get (i := i) (List.nodup_cons.mp nd).2 (by simpa using h1) (by simpa using h2) hk
theorem bindC_get {kindOf : Str → Option NameKind} {x : Str} {v : Value} : ∀ {P : List Str} {vs : List Value} {i : Nat} {m : Str → Option Value}, P.Nodup → P[i]? = some x → vs[i]? = some v → kindOf x ≠ some .local →
    bindC kindOf (P.zip vs) m x = some v
  | [], _, _, _, _, h, _, _ => by simp at h
  | _ :: _, [], _, _, _, _, h, _ => by simp at h
  | p :: P, w :: vs, 0, m, nd, h1, h2, hk => by
    simp at h1 h2; subst h1; subst h2
    show bindC kindOf ((p, w) :: P.zip vs) m p = _
    unfold bindC
    rw [bindC_out fun v hv => (List.nodup_cons.mp nd).1 (List.of_mem_zip hv).1, if_neg hk]
    simp
  | p :: P, w :: vs, i + 1, m, nd, h1, h2, hk => by
    show bindC kindOf ((p, w) :: P.zip vs) m x = _
    unfold bindC
    exact bindC_get (i := i) (List.nodup_cons.mp nd).2 (by simpa using h1) (by simpa using h2) hk

/-- the names' values at the entry -/
def start (N : List Str) (vs : List V) : St := vs.map some ++ List.replicate (N.length - vs.length) none

/-- the context of a def's body, at its entry; an exception leaves the frame, then lies as CX says -/
def cxOf (CX : CXT) (P : Program) (w : World) (K : PySem.W.Frag) (mg : Str → Option Value) (base : Heap) (N : List Str) (qual : Str) (scope : Scope) (f : Addr) (cd : Value) (A : Around) (outer : List Env) (s : Shared) (H : Hp) (E : XK) : Cx where
  prog := P
  w := w
  K := K
  mg := mg
  base := base
  A := A.deeper (envOfC qual scope s.heap.objs.size f cd)
  N := N
  s₀ := s
  H₀ := H
  env := envOfC qual scope s.heap.objs.size f cd
  outer := outer
  stack := envOfC qual scope s.heap.objs.size f cd :: outer
  ex := []
  calm := true
  fn := fun _ => true
  pn := []
  xe := fun e s' => wpAny (model P w) (A.deeper (envOfC qual scope s.heap.objs.size f cd)) (leaving (envOfC qual scope s.heap.objs.size f cd) e) (fun _ s'' => CX outer H s E e s'') (fun e' s'' => CX outer H s E e' s'') s'

theorem cell_has {sc : Scope} {n : Nat} {x : Str} (h : sc.names.lookup x = some .cell) : ∃ c, (cellsFrom n sc.names []).lookup x = some c := by
  have q := PySem.W.cellsFrom_some sc.names n [] (.inl h)
  exact Option.isSome_iff_exists.mp q

theorem inv_start {CX : CXT} {P : Program} {w : World} {K : PySem.W.Frag} {mg : Str → Option Value} {base : Heap} {N ps : List Str} {qual : Str} {scope : Scope} {f : Addr} {cd : Value} {A : Around} {outer : List Env} {s s1 : Shared} {H : Hp} {E : XK} {us : List Value} {vs : List V}
    (S : FnScope N ps scope) (hd : A.handled = none) (e0 : Env0 P w K mg base A outer s H) (hl : vs.length = ps.length) (r : Vals vs us)
    (x : InCallC s s.heap.objs.size (bindL (envOfC qual scope s.heap.objs.size f cd).kindOf (ps.zip us) fun _ => none) (cellsFrom (s.heap.objs.size + 1) scope.names []) (bindC (envOfC qual scope s.heap.objs.size f cd).kindOf (ps.zip us) fun _ => none) s1) :
    Inv (cxOf CX P w K mg base N qual scope f cd A outer s H E) [] (start N vs) H s1 := by
  have hpl : ps.length ≤ N.length := by have := congrArg List.length S.pre; rw [List.length_take] at this; (first | lia | omega)
  obtain ⟨h1, tk, rfl, hk⟩ := x.done
  have noA : ∀ b : Addr, b ∉ (cxOf CX P w K mg base N qual scope f cd A outer s H E).ex := fun b z => absurd (show b ∈ ([] : List Addr) from z) (by simp)
  refine ⟨⟨e0.mod, S.kind, rfl, rfl, Nat.le_refl _, fun y z c h1 h2 => ?_, fun y hy => ?_, fun y c _ h => ?_, fun _ => hd, Around.frames_deeper e0.frames, .inr ⟨rfl, rfl⟩, fun b z => absurd z (noA b), e0.bs, e0.bsz, fun b _ _ => noA b, fun b z => absurd z (noA b), e0.funs, e0.frf⟩,
    rfl, e0.bare, Un.kept hk, ⟨_, x.toInCall.ns, fun i y v h1 h2 h3 => ?_⟩, fun y c h => ⟨_, x.cell y c h⟩, e0.hok.fresh (Nat.le_refl _), fun y c h => ?_, fun p hp => absurd (show p ∈ ([] : List (Addr × Obj)) from hp) (by simp), e0.hok.kept hk, ?_⟩
  · exact name_of_addr x.apart (PySem.mem_of_lookup h1) (PySem.mem_of_lookup h2)
  · have hy : scope.names.lookup y = some .cell ∨ scope.names.lookup y = some .free := hy
    rcases hy with hy | hy
    · exact cell_has hy
    · exact absurd rfl (S.nofree _ (PySem.mem_of_lookup hy))
  · exact Nat.le_of_lt (x.above y c (PySem.mem_of_lookup h))
  · have hi : i < vs.length := by
      unfold start at h2
      by_cases hi : i < vs.length
      · exact hi
      · rw [List.getElem?_append_right (by simpa using hi)] at h2
        rw [List.getElem?_replicate] at h2
        split at h2 <;> cases h2
    have ha : vs[i]? = some v := by
      unfold start at h2
      rw [List.getElem?_append_left (by simpa using hi), List.getElem?_map] at h2
      cases e : vs[i]? with
      | none => rw [e] at h2; cases h2
      | some a => rw [e] at h2; cases h2; rfl
    obtain ⟨u, hu, rv⟩ := r.get ha
    have hp : ps[i]? = some y := by
      rw [← S.pre, List.getElem?_take_of_lt (by (first | lia | omega))]; exact h1
    have ndP : ps.Nodup := by rw [← S.pre]; exact S.nd.sublist (List.take_sublist _ _)
    refine ⟨u, rv, ?_⟩
    rcases S.par y (List.mem_of_getElem? hp) with k | k
    · exact .inl ⟨k, bindL_get ndP hp hu k⟩
    · obtain ⟨c, e⟩ := cell_has (n := s.heap.objs.size + 1) k
      refine .inr ⟨.inl k, c, e, ?_⟩
      have q := x.cell y c e
      rw [bindC_get ndP hp hu (by show scope.names.lookup y ≠ _; rw [k]; decide)] at q
      exact q
  · exact e0.hok.fresh (Nat.le_of_lt (x.above y c (PySem.mem_of_lookup h)))
  · unfold start
    show _ = N.length
    rw [List.length_append, List.length_map, List.length_replicate]
    (first | lia | omega)

/-- THE RULE: a def (or a method) of the text, by its body. The body's reading t is chosen for each entry; it is run at the parameters' values -/
theorem fn_of {CX : CXT} {P : Program} {w : World} {K : PySem.W.Frag} {mg : Str → Option Value} {base : Heap} {k : Nat} {f : Addr} {name qual : Str} {params : Arguments} {body : List Stmt} {scope : Scope} {dV kV doc pm cdv ct oc : Value} {an od : Option Addr}
    {osl : Array (Option Value)} {N ps : List Str} {sp : Sp} (lk : K.lookup f = some ⟨oc, od, .func (PySem.W.fnOf name qual params body scope dV kV doc pm an cdv ct), osl⟩) (hcd : PySem.W.codeIn K cdv qual = true) (S : FnScope N ps scope)
    (len : ∀ vs H Q E, sp vs H Q E → vs.length = ps.length)
    (hbody : ∀ (A : Around) (outer : List Env) (s : Shared) (H : Hp) (vs : List V) (Q : VK) (E : XK), Room k (A.deeper (envOfC qual scope s.heap.objs.size f cdv)) → sp vs H Q E →
      ∃ t, PSs (cxOf CX P w K mg base N qual scope f cdv A outer s H E) body t ∧ t { nx := fun _ H' => Q .non H', rt := Q } (start N vs) H) :
    FnOk P w K mg base CX (k + 1) f (PySem.W.fnOf name qual params body scope dV kV doc pm an cdv ct) ps sp := by
  refine ⟨len, fun A outer s H args us vs Q E hr e0 hb r hsp => ?_⟩
  have hl := len _ _ _ _ hsp
  have KX : K.In s.heap := e0.mod.kin.keeps fun b o e => (e0.bs b o e).1
  have lim : s.heap.NoLimit := e0.mod.nolimit.keeps fun b o e => (e0.bs b o e).1
  have hkind : ∀ y ∈ ps.zip us, scope.names.lookup y.1 = some .local ∨ (scope.names.lookup y.1 = some .cell ∧ ((cellsFrom (s.heap.objs.size + 1) scope.names []).lookup y.1).isSome = true) := fun ⟨n, v⟩ hy => by
    rcases S.par n (List.of_mem_zip hy).1 with q | q
    · exact .inl q
    · exact .inr ⟨q, PySem.W.cellsFrom_some _ _ _ (.inl q)⟩
  refine codeAny_call_function hr.depth (KX _ _ lk) rfl S.co S.gen rfl (PySem.W.codeRec_of KX hcd) (hb _ _ _ _ ?_)
  refine wpAny_newFunctionEnv_cells S.kind hkind fun env he s1 x => ?_
  subst he
  refine ⟨lim.keeps x.toInCall.keep, codeAny_func ?_⟩
  obtain ⟨t, ht, hq⟩ := hbody A outer s H vs Q E (hr.deeper _) hsp
  have I : Inv (cxOf CX P w K mg base N qual scope f cdv A outer s H E) [] (start N vs) H s1 := inv_start S hr.hd e0 hl r x
  refine wpAny_mono (ht [] s1 (start N vs) H _ I hq) (fun fl s' hs => ?_) fun e s' hs => hs
  have fin : ∀ {σ' : St} {H' : Hp} {v : V} {u : Value}, Inv (cxOf CX P w K mg base N qual scope f cdv A outer s H E) [] σ' H' s' → RelV v u → Q v H' → CE outer P w H s Q u s' :=
    fun {σ' H' v u} J rv q => ⟨v, H', J.os, J.bare, J.base, J.hok, rv, q⟩
  cases fl with
  | ret u =>
    obtain ⟨v, σ', H', J, rv, q⟩ := hs
    exact fin J rv q
  | next =>
    obtain ⟨σ', H', J, q⟩ := hs
    exact fin (v := V.non) (u := Value.none) J rfl q
  | brk =>
    obtain ⟨_, _, _, q⟩ := hs
    exact False.elim q
  | cont =>
    obtain ⟨_, _, _, q⟩ := hs
    exact False.elim q
end L2

namespace L2
open PySem PySem.Spec PyProof.Rows
section
variable {X : Cx} {x : Str} {p pos : Pos} {e : Expr} {es : List Expr} {t : TA} {id T : String} {r : List V → Hp → VK → Prop}

def tCB (r : List V → Hp → VK → Prop) (t : TA) : TE := fun σ H Q => t σ H fun vs H1 => r vs H1 Q
/-- f(e, ..), f a built-in function -/
theorem pe_callB (hc : CallR X (.builtin id) r) (hg : Gl X x) (hm : X.mg x = none) (hv : bootBuiltins x = some (.builtin id)) (ha : PA X (e :: es) t) (hn : x ≠ "__name__" := by decide) (hdb : (x == ("__debug__" : Str)) = false := by decide)
    (he : starEach (e :: es) X.env = (false, eval e X.env) :: starEach es X.env := by rfl) (hpl : (backTo pos (starEach es X.env)).any (·.1) = false := by rfl) : PE X (.Call (.Name x p) (e :: es) [] pos) (tCB r t) := by
  intro pins s σ H Q I h
  refine wpAny_Call_Name_kw (ld_blt I hg hm hv ?_ hn hdb)
  exact PyProof.Rows.callWith_builtin1 (thn (ha pos pins s σ H _ I h) fun us s1 ⟨vs, H1, I1, r1, q1⟩ => hc pins s1 σ H1 vs us Q I1 r1 q1) he hpl
/-- T(e, ..), T a built-in type -/
theorem pe_callTy (hc : CallR X (.type T) r) (hg : Gl X x) (hm : X.mg x = none) (hv : bootBuiltins x = some (.type T)) (ha : PA X (e :: es) t) (hn : x ≠ "__name__" := by decide) (hdb : (x == ("__debug__" : Str)) = false := by decide)
    (he : starEach (e :: es) X.env = (false, eval e X.env) :: starEach es X.env := by rfl) (hpl : (backTo pos (starEach es X.env)).any (·.1) = false := by rfl) : PE X (.Call (.Name x p) (e :: es) [] pos) (tCB r t) := by
  intro pins s σ H Q I h
  refine wpAny_Call_Name_kw (ld_blt I hg hm hv ?_ hn hdb)
  exact PyProof.Rows.callWith_type1 (thn (ha pos pins s σ H _ I h) fun us s1 ⟨vs, H1, I1, r1, q1⟩ => hc pins s1 σ H1 vs us Q I1 r1 q1) he hpl
end
end L2

namespace HT
open PySem PyProof.Rows


section
variable {prog : Program} {w : World} {A : Around} {E : Value → Shared → Prop} {s : Shared}

/-! ### t[a:b], not the whole -/
/-- a slice's bound as a place among n (d where it is left out) -/
def sIx (n d : Nat) : Option Int → Nat
  | none => d
  | some v => if v < 0 then (v + (n : Int)).toNat else min v.toNat n
theorem sIx_none (n d : Nat) : sIx n d none = d := rfl
theorem sIx_nat (n d k : Nat) : sIx n d (some (k : Int)) = min k n := by
  show (if (k : Int) < 0 then ((k : Int) + (n : Int)).toNat else min (k : Int).toNat n) = min k n
  rw [if_neg (by (first | lia | omega)), Int.toNat_natCast]
end
end HT

namespace L2
open PySem PySem.Spec PyProof.Rows

/-! ### the parts of a slice -/
abbrev TO := St → Hp → (Option Int → Hp → Prop) → Prop
/-- a slice's part (left out, or an int) -/
def PO (X : Cx) (e : Option Expr) (t : TO) : Prop :=
  ∀ (pins : List (Addr × Obj)) (s : Shared) (σ : St) (H : Hp) (Q : Option Int → Hp → Prop), Inv X pins σ H s → t σ H Q →
    wpAny (model X.prog X.w) X.A (evalPart e X.env) (fun u s' => ∃ o H', Inv X pins σ H' s' ∧ IsPart u o ∧ Q o H') X.xe s
def tNoPart : TO := fun _ H Q => Q none H
def tPart (t : TE) : TO := fun σ H Q => t σ H fun x H1 => ∃ i, x = .int i ∧ Q (some i) H1

section
variable {X : Cx} {e : Expr} {te : TE} {lo hi : Option Expr} {tl th : TO} {pos p2 : Pos}

theorem po_none : PO X none tNoPart := by
  intro pins s σ H Q I h
  rw [evalPart_none]
  exact wpAny_pure ⟨none, H, I, .none, h⟩
theorem po_some (h : PE X e te) : PO X (some e) (tPart te) := by
  intro pins s σ H Q I hw
  rw [evalPart_some]
  refine thn (h pins s σ H _ I hw) fun u s1 ⟨x, H1, I1, r1, q1⟩ => ?_
  obtain ⟨i, rfl, q⟩ := q1
  obtain ⟨t, rfl⟩ := r1
  exact ⟨some i, H1, I1, .int i t, q⟩

/-- what a slice of a value is, by values: the slice object stands at sl -/
def SlR (X : Cx) (r : V → Option Int → Option Int → Hp → VK → Prop) : Prop :=
  ∀ (pins : List (Addr × Obj)) (s : Shared) (σ : St) (H : Hp) (x : V) (v vl vu : Value) (lo hi : Option Int) (sl : Addr) (Q : VK), Inv X pins σ H s → RelV x v → s.heap.IsSliceOf sl vl vu .none → IsPart vl lo → IsPart vu hi → r x lo hi H Q →
    ∃ T id, typeLookup (.type T) "__getitem__" = pure (some (.builtin id)) ∧ s.TypeIs v T ∧ wpAny (model X.prog X.w) X.A (getItem v (.ref sl)) (EP X pins σ Q) X.xe s
def tSl (r : V → Option Int → Option Int → Hp → VK → Prop) (te : TE) (tl th : TO) : TE := fun σ H Q => te σ H fun x H1 => tl σ H1 fun l H2 => th σ H2 fun u H3 => r x l u H3 Q
/-- a[lo:hi], any a -/
theorem pe_slice {r : V → Option Int → Option Int → Hp → VK → Prop} (hr : SlR X r) (he : PE X e te) (hl : PO X lo tl) (hu : PO X hi th) : PE X (.Subscript e (.Slice lo hi none p2) pos) (tSl r te tl th) := by
  intro pins s σ H Q I h
  refine Subscript_ (thn (he pins s σ H _ I h) fun v s1 ⟨x, H1, I1, r1, q1⟩ => ?_)
  refine wpAny_Slice (thn (hl pins s1 σ H1 _ I1 q1) fun vl s2 ⟨l, H2, I2, pl, q2⟩ => thn (hu pins s2 σ H2 _ I2 q2) fun vu s3 ⟨u, H3, I3, pu, q3⟩ => ?_)
  rw [evalPart_none]
  refine wpAny_pure ?_
  have I4 : Inv X pins σ H3 { s3 with heap := s3.heap.push { cls := .type "slice", data := .fields #[vl, vu, .none] } } := I3.kept (t' := s3.toks) fun b ob q => Heap.get?_push_of_some _ q
  obtain ⟨T, id, hT, ht, hg⟩ := hr pins { s3 with heap := s3.heap.push { cls := .type "slice", data := .fields #[vl, vu, .none] } } σ H3 x v vl vu l u s3.heap.objs.size Q I4 r1 (Heap.IsSliceOf.new ..) pl pu q3
  show wpAny (model X.prog X.w) X.A (subscriptTail e (.Slice lo hi none p2) v (.ref s3.heap.objs.size)) (EP X pins σ Q) X.xe { s3 with heap := s3.heap.push { cls := .type "slice", data := .fields #[vl, vu, .none] } }
  exact tail_any (ops := [.ref s3.heap.objs.size, v]) ht hT hg (by with_unfolding_all rfl)

/-- the items of xs[lo:hi] -/
def cutV (xs : List V) (lo hi : Option Int) : List V := (xs.drop (HT.sIx xs.length 0 lo)).take (HT.sIx xs.length xs.length hi - HT.sIx xs.length 0 lo)
theorem cutV_length (xs : List V) (lo hi : Option Int) : (cutV xs lo hi).length ≤ xs.length := by
  unfold cutV
  rw [List.length_take, List.length_drop]
  (first | lia | omega)
/-! ### t < u, t + u -/
end
end L2

namespace L2
open PySem PySem.Spec PyProof.Rows

/-! ### places -/
/-- the place that an index of any sign means -/
def ixN (n : Nat) (i : Int) : Option Nat := if 0 ≤ i then (if i < n then some i.toNat else none) else if -(n : Int) ≤ i then some (i + n).toNat else none
def atI {α : Type} (xs : List α) (i : Int) : Option α := (ixN xs.length i).bind fun j => xs[j]?
theorem ixN_seq {n : Nat} {i : Int} {j : Nat} (h : ixN n i = some j) : seqIndex? i n = some j ∧ j < n ∧ -(n : Int) ≤ i ∧ i < n := by
  unfold ixN at h
  by_cases h0 : 0 ≤ i
  · rw [if_pos h0] at h
    by_cases h1 : i < n
    · rw [if_pos h1] at h
      have e : i.toNat = j := Option.some.inj h
      exact ⟨by rw [seqIndex_of h0 h1, e], by (first | lia | omega), by (first | lia | omega), h1⟩
    · rw [if_neg h1] at h; cases h
  · rw [if_neg h0] at h
    by_cases h1 : -(n : Int) ≤ i
    · rw [if_pos h1] at h
      have e : (i + n).toNat = j := Option.some.inj h
      exact ⟨by rw [seqIndex_neg (by (first | lia | omega)) h1, e], by (first | lia | omega), h1, by (first | lia | omega)⟩
    · rw [if_neg h1] at h; cases h
theorem atI_get {α : Type} {xs : List α} {i : Int} {v : α} (h : atI xs i = some v) : ∃ j, seqIndex? i xs.length = some j ∧ xs[j]? = some v ∧ j < xs.length ∧ -(xs.length : Int) ≤ i ∧ i < xs.length := by
  unfold atI at h
  cases e : ixN xs.length i with
  | none => rw [e] at h; cases h
  | some j =>
    rw [e] at h
    obtain ⟨h1, h2, h3, h4⟩ := ixN_seq e
    exact ⟨j, h1, h, h2, h3, h4⟩
theorem atI_nat {α : Type} {xs : List α} {j : Nat} {v : α} (h : xs[j]? = some v) : atI xs (j : Int) = some v := by
  have hj : j < xs.length := (List.getElem?_eq_some_iff.mp h).1
  have e : ixN xs.length (j : Int) = some j := by
    unfold ixN
    rw [if_pos (by (first | lia | omega)), if_pos (by (first | lia | omega))]; simp
  unfold atI; rw [e]; exact h
theorem atI_last {α : Type} (xs : List α) (v : α) : atI (xs ++ [v]) (-1) = some v := by
  have hl : (xs ++ [v]).length = xs.length + 1 := by simp
  have e : ixN (xs ++ [v]).length (-1) = some xs.length := by
    unfold ixN
    rw [hl, if_neg (by decide), if_pos (by (first | lia | omega))]
    congr 1
    (first | lia | omega)
  unfold atI
  rw [e]
  show (xs ++ [v])[xs.length]? = some v
  simp

/-! ### what may be subscripted -/
/-- what stands as an index of a plain subscript -/
def PlainIx (b : Expr) : Prop := ∀ o i, subscripted b false o i = operate [o, i] (getItem o i)
/-- a subscript by values -/
def IxR (X : Cx) (r : R2) : Prop :=
  ∀ (value slice : Expr) (pins : List (Addr × Obj)) (s : Shared) (σ : St) (H : Hp) (x y : V) (v u : Value) (Q : VK), Inv X pins σ H s → RelV x v → RelV y u → r x y H Q →
    subscripted slice false v u = operate [v, u] (getItem v u) → wpAny (model X.prog X.w) X.A (subscriptTail value slice v u) (EP X pins σ Q) X.xe s
/-- a call of a builtin's method by values: the receiver, the arguments -/
def MtR (X : Cx) (id : String) (r : V → List V → Hp → VK → Prop) : Prop :=
  ∀ (pins : List (Addr × Obj)) (s : Shared) (σ : St) (H : Hp) (x : V) (xs : List V) (v : Value) (us : List Value) (Q : VK), Inv X pins σ H s → RelV x v → Vals xs us → r x xs H Q →
    wpAny (model X.prog X.w) X.A (call (.builtin id) (v :: us)) (EP X pins σ Q) X.xe s
section
variable {X : Cx} {a b : Expr} {ta tb : TE} {pos : Pos}
/-- a[b] -/
theorem pe_ix {r : R2} (hr : IxR X r) (ha : PE X a ta) (hb : PE X b tb) (hs : PlainIx b) : PE X (.Subscript a b pos) (tOp r ta tb) := by
  intro pins s σ H Q I h
  exact Subscript_ (binT ha hb I h fun v u s2 x y H2 I2 rx ry q => hr a b pins s2 σ H2 x y v u Q I2 rx ry q (hs _ _))

def rIxL (K : PySem.W.Frag) : R2 := fun x y H Q => ∃ p xs i v, x = .ref p ∧ y = .int i ∧ SqL K H p xs ∧ atI xs i = some v ∧ Q v H
def rIxT (K : PySem.W.Frag) : R2 := fun x y H Q => ∃ p xs i v, x = .ref p ∧ y = .int i ∧ SqT K H p xs ∧ atI xs i = some v ∧ Q v H
def rIxS : R2 := fun x y H Q => ∃ z i c, x = .str z ∧ y = .int i ∧ z.length ≤ sizeLine ∧ atI z.cps.toList i = some c ∧ Q (.str ⟨#[c]⟩) H
theorem ix_list : IxR X (rIxL X.K) := by
  intro value slice pins s σ H x y v u Q I rx ry h hs
  obtain ⟨p, xs, i, z, rfl, rfl, hq, he, q⟩ := h
  cases rx
  obtain ⟨t, rfl⟩ := ry
  obtain ⟨its, r, pl, hz⟩ := I.list hq
  obtain ⟨j, h1, h2, h3, h4, h5⟩ := atI_get he
  obtain ⟨w, ew, rw'⟩ := r.get h2
  have hl := r.length
  have hn := line63
  have fin : EP X pins σ Q w s := ⟨z, H, I, rw', q⟩
  by_cases h0 : 0 ≤ i
  · have hj : i.toNat = j := by
      rw [seqIndex_of h0 h5] at h1
      exact Option.some.inj h1
    exact item_listR pl.isList h0 (by (first | lia | omega)) (by rw [hj]; simpa using ew) fin hs
  · have hj : (i + (its.toArray.size : Int)).toNat = j := by
      rw [seqIndex_neg (by (first | lia | omega)) h4] at h1
      rw [List.size_toArray, ← hl]
      exact Option.some.inj h1
    exact subscriptTail_builtinR (x := w) pl.isList.typeIs slot_list_getitem.lookup
      (wpAny_getItem_list_neg (Q := fun r s' => r = w ∧ EP X pins σ Q r s') pl.isList (by (first | lia | omega)) (by rw [List.size_toArray] <;> (first | lia | omega)) (by (first | lia | omega)) (by rw [hj]; simpa using ew) ⟨rfl, fin⟩) hs
theorem ix_tup : IxR X (rIxT X.K) := by
  intro value slice pins s σ H x y v u Q I rx ry h hs
  obtain ⟨p, xs, i, z, rfl, rfl, hq, he, q⟩ := h
  cases rx
  obtain ⟨t, rfl⟩ := ry
  obtain ⟨its, r, pl, hz⟩ := I.tuple hq
  obtain ⟨j, h1, h2, h3, h4, h5⟩ := atI_get he
  obtain ⟨w, ew, rw'⟩ := r.get h2
  have hl := r.length
  have hn := line63
  have fin : EP X pins σ Q w s := ⟨z, H, I, rw', q⟩
  exact subscriptTail_builtinR (x := w) pl.typeIs slot_tuple_getitem.lookup
    (getItem_tuple (j := j) (Q := fun r s' => r = w ∧ EP X pins σ Q r s') pl (by (first | lia | omega)) (by (first | lia | omega)) (by rw [List.size_toArray, ← hl]; exact h1) (by simpa using ew) ⟨rfl, fin⟩) hs
theorem ix_str : IxR X rIxS := by
  intro value slice pins s σ H x y v u Q I rx ry h hs
  obtain ⟨z, i, c, rfl, rfl, hz, he, q⟩ := h
  obtain ⟨t, rfl⟩ := rx
  obtain ⟨t', rfl⟩ := ry
  obtain ⟨j, h1, h2, h3, h4, h5⟩ := atI_get he
  have hl : z.cps.toList.length = z.length := by simp [Str.length]
  rw [hl] at h1 h4 h5
  have hn := line63
  exact tail_any (typeIs_str s z t) slot_str_getitem.lookup (getItem_str (c := c) (by
    have e1 : decide (i < -(2 ^ 63 : Int)) = false := decide_eq_false (by (first | lia | omega))
    have e2 : decide (i ≥ 2 ^ 63) = false := decide_eq_false (by (first | lia | omega))
    rw [e1, e2, Bool.or_false]) (by rw [h1]; simpa using h2) ⟨.str ⟨#[c]⟩, H, I.tok _, ⟨_, rfl⟩, q⟩) hs
/-! ### xs[i] = v, any sign -/
/-! ### slices -/
theorem slice_bounds (lo hi : Option Int) (n : Nat) : (sliceBounds lo hi none n).1 = ((HT.sIx n 0 lo : Nat) : Int) ∧ (sliceBounds lo hi none n).2.1 = ((HT.sIx n n hi : Nat) : Int) ∧ (sliceBounds lo hi none n).2.2 = 1 := by
  refine ⟨?_, ?_, rfl⟩
  · cases lo with
    | none => simp [sliceBounds, HT.sIx]
    | some i =>
      simp only [sliceBounds, HT.sIx, Option.getD_none, show (1 : Int) > 0 by decide, if_true]
      by_cases h : i < 0
      · simp only [h, if_true] <;> (first | lia | omega)
      · simp only [h, if_false] <;> (first | lia | omega)
  · cases hi with
    | none => simp [sliceBounds, HT.sIx]
    | some i =>
      simp only [sliceBounds, HT.sIx, Option.getD_none, show (1 : Int) > 0 by decide, if_true]
      by_cases h : i < 0
      · simp only [h, if_true] <;> (first | lia | omega)
      · simp only [h, if_false] <;> (first | lia | omega)
theorem slicePick_cut (its : List Value) (lo hi : Option Int) : slicePick its.toArray lo hi none = ((its.drop (HT.sIx its.length 0 lo)).take (HT.sIx its.length its.length hi - HT.sIx its.length 0 lo)).toArray := by
  obtain ⟨h1, h2, h3⟩ := slice_bounds lo hi its.toArray.size
  unfold slicePick
  rw [h1, h2, h3]
  simp only [sliceRange_one, pick_run, List.size_toArray] <;> rfl
/-- xs[lo:hi] of a list: a new list -/
def rSlL (K : PySem.W.Frag) : V → Option Int → Option Int → Hp → VK → Prop := fun x lo hi H Q => ∃ a xs, x = .ref a ∧ SqL K H a xs ∧ ∀ p, H p = none → Q (.ref p) (upd H p (.lst (cutV xs lo hi)))
theorem sl_list : SlR X (rSlL X.K) := by
  intro pins s σ H x v vl vu lo hi sl Q I rx hs pl pu h
  obtain ⟨a, xs, rfl, hx, q⟩ := h
  cases rx
  obtain ⟨its, r, ht, hz⟩ := I.list hx
  have hlen := r.length
  refine ⟨"list", _, slot_list_getitem.lookup, ht.isList.typeIs, ?_⟩
  refine wpAny_getItem_list_slice ht.isList hs pl pu .none (by simp) ?_ (by rw [List.size_toArray] <;> (first | lia | omega))
  rw [slicePick_cut, ← hlen]
  refine ⟨.ref s.heap.objs.size, _, I.laid (t' := s.toks) (o := .lst (cutV xs lo hi)) (fun b ob q => Heap.get?_push_of_some _ q) (Nat.le_refl _) ?_, rfl, q _ (I.hok.fresh (Nat.le_refl _))⟩
  exact ⟨Nat.le_trans (cutV_length xs lo hi) hz, _, 0, (r.drop (HT.sIx xs.length 0 lo)).take (HT.sIx xs.length xs.length hi - HT.sIx xs.length 0 lo), Heap.get?_push_size _ rfl⟩

/-! ### in, not in: flat items -/
/-! ### len, list(x), tuple(x) of any list or tuple that is read -/
theorem call_len_seq : CallR X (.builtin "len") (fun xs H Q => ∃ p ys, xs = [.ref p] ∧ (SqL X.K H p ys ∨ SqT X.K H p ys) ∧ Q (.int ys.length) H) := by
  intro pins s σ H xs us Q I r h
  obtain ⟨p, ys, rfl, hq, q⟩ := h
  obtain ⟨u, rfl, rx⟩ := vals1 r
  cases rx
  have hn := line63
  rcases hq with hq | hq
  · obtain ⟨its, r', pl, hz⟩ := I.list hq
    have hlen := r'.length
    exact Calls.call_len_list pl.isList (by simp only [List.size_toArray] <;> (first | lia | omega)) ⟨.int ys.length, H, I.tok _, ⟨s.toks + 1, by rw [List.size_toArray, hlen]⟩, q⟩
  · obtain ⟨its, r', pl, hz⟩ := I.tuple hq
    have hlen := r'.length
    exact len_tuple pl (by simp only [List.size_toArray] <;> (first | lia | omega)) ⟨.int ys.length, H, I.tok _, ⟨s.toks + 1, by rw [List.size_toArray, hlen]⟩, q⟩
theorem call_len_str : CallR X (.builtin "len") (fun xs H Q => ∃ z, xs = [.str z] ∧ z.length ≤ sizeLine ∧ Q (.int z.length) H) := by
  intro pins s σ H xs us Q I r h
  obtain ⟨z, rfl, hz, q⟩ := h
  obtain ⟨u, rfl, t, rfl⟩ := vals1 r
  have hn := line63
  exact len_str (by (first | lia | omega)) ⟨.int z.length, H, I.tok _, ⟨_, rfl⟩, q⟩
theorem call_tuple_of : CallR X (.type "tuple") (fun xs H Q => ∃ p ys, xs = [.ref p] ∧ ((SqL X.K H p ys ∧ ∀ l, H l = none → Q (.ref l) (upd H l (.tup ys))) ∨ (SqT X.K H p ys ∧ Q (.ref p) H))) := by
  intro pins s σ H xs us Q I r h
  obtain ⟨p, ys, rfl, h⟩ := h
  obtain ⟨u, rfl, rx⟩ := vals1 r
  cases rx
  rcases h with ⟨hq, q⟩ | ⟨hq, q⟩
  · obtain ⟨its, r', pl, hz⟩ := I.list hq
    have hlen := r'.length
    refine call_tuple_list pl.isList (fun h' kp => ?_) (by simp only [List.size_toArray] <;> (first | lia | omega))
    have I1 : Inv X pins σ H { s with heap := h' } := I.kept (t' := s.toks) kp
    have I2 : Inv X pins σ (upd H h'.objs.size (.tup ys)) { s with heap := h'.push { cls := .type "tuple", data := .seq its.toArray } } :=
      I1.laid (t' := s.toks) (fun b o e => Heap.get?_push_of_some _ e) (Nat.le_refl _) (show ObjOk X.prog X.w _ _ _ (.tup ys) from ⟨hz, its, r', IsTup.new _ _⟩)
    exact ⟨.ref h'.objs.size, _, I2, rfl, q _ (I1.hok.fresh (Nat.le_refl _))⟩
  · obtain ⟨its, r', pl, hz⟩ := I.tuple hq
    exact call_tuple_same pl ⟨.ref p, H, I, rfl, q⟩

/-! ### the call of a builtin's method: o.m(..) -/
/-- the value is of that builtin type -/
def tyV (K : PySem.W.Frag) (T : String) (x : V) (H : Hp) : Prop := match x with
  | .str _ => T = "str"
  | .int _ => T = "int"
  | .ref p => (T = "list" ∧ ∃ xs, SqL K H p xs) ∨ (T = "tuple" ∧ ∃ o, K.lookup p = some o ∧ o.cls = .type "tuple" ∧ o.dict = none) ∨
      (T = "dict" ∧ ((∃ kvs, H p = some (.dK kvs)) ∨ ∃ kvs, H p = some (.dT kvs))) ∨ (T = "set" ∧ ∃ S n, H p = some (.set S n))
  | _ => False
theorem tyV_is {pins : List (Addr × Obj)} {σ : St} {H : Hp} {s : Shared} {T : String} {x : V} {v : Value} (I : Inv X pins σ H s) (r : RelV x v) (ty : tyV X.K T x H) :
    s.TypeIs v T ∧ ∀ a, v = .ref a → ∃ ob, s.heap.get? a = some ob ∧ ob.dict = none := by
  cases x with
  | str z =>
    obtain ⟨t, rfl⟩ := r
    cases (show T = "str" from ty)
    exact ⟨typeIs_str s z t, fun _ e => nomatch e⟩
  | int i =>
    obtain ⟨t, rfl⟩ := r
    cases (show T = "int" from ty)
    exact ⟨typeIs_int s i t, fun _ e => nomatch e⟩
  | ref p =>
    cases r
    rcases ty with ⟨rfl, xs, hq⟩ | ⟨rfl, o, hk, hc, hd⟩ | ⟨rfl, hk⟩ | ⟨rfl, S, n, hk⟩
    · obtain ⟨its, _, pl, _⟩ := I.list hq
      refine ⟨pl.isList.typeIs, fun a e => ?_⟩
      cases e
      obtain ⟨o, n, e, c, hd, _⟩ := pl
      exact ⟨o, e, hd⟩
    · refine ⟨⟨o, I.kIn p o hk, hc⟩, fun a e => ?_⟩
      cases e
      exact ⟨o, I.kIn _ o hk, hd⟩
    · have z : ∃ o, s.heap.get? p = some o ∧ o.ExactDict := by
        rcases hk with ⟨kvs, hk⟩ | ⟨kvs, hk⟩
        · obtain ⟨_, _, _, _, o, _, _, e, ex, _⟩ := I.hok p _ hk
          exact ⟨o, e, ex⟩
        · obtain ⟨_, _, _, _, o, _, _, e, ex, _⟩ := I.hok p _ hk
          exact ⟨o, e, ex⟩
      obtain ⟨o, e, ex⟩ := z
      refine ⟨⟨o, e, ex.1⟩, fun a e2 => ?_⟩
      cases e2
      exact ⟨o, e, ex.2.1⟩
    · obtain ⟨o, _, _, _, e, ex, _⟩ := I.hok p _ hk
      refine ⟨⟨o, e, ex.1⟩, fun a e2 => ?_⟩
      cases e2
      exact ⟨o, e, ex.2.1⟩
  | _ => exact False.elim ty
def tBM0 (K : PySem.W.Frag) (T : String) (r : V → List V → Hp → VK → Prop) (to : TE) : TE := fun σ H Q => to σ H fun x H1 => tyV K T x H1 ∧ r x [] H1 Q
def tBM (K : PySem.W.Frag) (T : String) (r : V → List V → Hp → VK → Prop) (to : TE) (t : TA) : TE := fun σ H Q => to σ H fun x H1 => tyV K T x H1 ∧ t σ H1 fun xs H2 => r x xs H2 Q
variable {o e : Expr} {es : List Expr} {to : TE} {t : TA} {name : Str} {apos cpos : Pos} {T id : String} {r : V → List V → Hp → VK → Prop}
theorem pe_bm0 (pa : PlainAttrs T) (slot : Slot T name id) (hty : typeOf (.builtin id) = pure (.type "method_descriptor")) (hm : MtR X id r) (ho : PE X o to)
    (hbase : attributeBase o name X.env (eval o X.env) = eval o X.env := by rfl) (hline : (apos.endLine == cpos.line) = true := by rfl) : PE X (.Call (.Attribute o name apos) [] [] cpos) (tBM0 X.K T r to) := by
  intro pins s σ H Q I h
  refine wpAny_Call_method0_late hbase hline (thn (ho pins s σ H _ I h) fun v s1 ⟨x, H1, I1, r1, ty, q1⟩ => ?_)
  obtain ⟨h1, h2⟩ := tyV_is I1 r1 ty
  exact ⟨T, id, pa, slot, hty, h1, h2, Calls.callWith_builtin rfl (PySem.evalArgs_none (hm pins s1 σ H1 x [] v [] Q I1 r1 .nil q1))⟩
theorem pe_bm (pa : PlainAttrs T) (slot : Slot T name id) (hty : typeOf (.builtin id) = pure (.type "method_descriptor")) (hm : MtR X id r) (ho : PE X o to) (ha : PA X (e :: es) t)
    (hbase : attributeBase o name X.env (eval o X.env) = eval o X.env := by rfl)
    (hfew : ((backTo cpos (starEach (e :: es) X.env)).all (fun x => !x.1) && (backToKw cpos (keywordEach [] X.env)).all (fun x => x.1.isSome)
      && decide ((e :: es).length + ([] : List Keyword).length + (if ([] : List Keyword).isEmpty then 0 else 1) < 30)) = true := by rfl)
    (hline : (apos.endLine == cpos.line) = true := by rfl) (hs : starEach (e :: es) X.env = (false, eval e X.env) :: starEach es X.env := by rfl) (hplain : (backTo cpos (starEach es X.env)).any (·.1) = false := by rfl) :
    PE X (.Call (.Attribute o name apos) (e :: es) [] cpos) (tBM X.K T r to t) := by
  intro pins s σ H Q I h
  refine wpAny_Call_method_late hbase hfew hline rfl (thn (ho pins s σ H _ I h) fun v s1 ⟨x, H1, I1, r1, ty, q1⟩ => ?_)
  obtain ⟨h1, h2⟩ := tyV_is I1 r1 ty
  refine ⟨T, id, pa, slot, hty, h1, h2, ?_⟩
  have hA := ha cpos pins s1 σ H1 _ I1 q1
  rw [hs] at hA ⊢
  refine Calls.callWith_builtin (by show (false || (backTo cpos (starEach es X.env)).any (·.1)) = false; rw [hplain] <;> rfl) (Calls.evalArgs_plain ?_)
  exact thn hA fun us s2 ⟨vs, H2, I2, r2, q2⟩ => hm pins s2 σ H2 x vs v us Q I2 r1 r2 q2
/- xs.append(e), list.index on a module's tuple .. are MtR facts of 06m -/
end
end L2

namespace L2
open PySem PySem.Spec PyProof.Rows

def MtM (X : Cx) (id : String) (r : V → List V → Hp → VK → Prop) : Prop :=
  ∀ (pins : List (Addr × Obj)) (s : Shared) (σ : St) (H : Hp) (x : V) (xs : List V) (v : Value) (us : List Value) (Q : VK), Inv X pins σ H s → RelV x v → Vals xs us → r x xs H Q →
    wpAny (model X.prog X.w) X.A (call (.builtin id) (v :: us)) (EP X pins σ Q) X.xe s

/-! ### lists of values -/
theorem Vals.one : ∀ {x : V} {us : List Value}, Vals [x] us → ∃ u, us = [u] ∧ RelV x u
  | _, _, .cons r .nil => ⟨_, rfl, r⟩
theorem Vals.two : ∀ {x y : V} {us : List Value}, Vals [x, y] us → ∃ u v, us = [u, v] ∧ RelV x u ∧ RelV y v
  | _, _, _, .cons r (.cons q .nil) => ⟨_, _, rfl, r, q⟩
theorem Vals.zero : ∀ {us : List Value}, Vals [] us → us = []
  | _, .nil => rfl
theorem Vals.dropLast {xs : List V} {us : List Value} (h : Vals xs us) : Vals xs.dropLast us.dropLast := by
  induction h with
  | nil => exact .nil
  | cons r t ih =>
    cases t with
    | nil => exact .nil
    | cons q t' => exact .cons r ih
theorem Vals.reverse {xs : List V} {us : List Value} (h : Vals xs us) : Vals xs.reverse us.reverse := by
  induction h with
  | nil => exact .nil
  | cons r t ih => rw [List.reverse_cons, List.reverse_cons]; exact Vals.append ih (.cons r .nil)
theorem erase_last {α : Type} (l : List α) : l.eraseIdx (l.length - 1) = l.dropLast := by
  induction l with
  | nil => rfl
  | cons a r ih =>
    cases r with
    | nil => rfl
    | cons b r =>
      have e : (a :: b :: r).length - 1 = ((b :: r).length - 1) + 1 := by
        have h1 : (a :: b :: r).length = r.length + 2 := rfl
        have h2 : (b :: r).length = r.length + 1 := rfl
        (first | lia | omega)
      rw [e, List.eraseIdx_cons_succ, ih]
      all_goals rfl
section
variable {X : Cx} {pins : List (Addr × Obj)} {σ : St} {H : Hp} {s : Shared} {l b : Addr} {xs ys zs : List V}

/-! ### the two steps: a tracked list is rewritten, a new list is laid -/
theorem Inv.lset {its its' : List Value} {n : Nat} {f : Array Value → Array Value} {t' : Nat} (I : Inv X pins σ H s) (hH : H l = some (.lst xs))
    (e : s.heap.get? l = some { cls := .type "list", data := .seq its.toArray n }) (hf : f its.toArray = its'.toArray) (hv : Vals ys its') (hz : ys.length ≤ sizeLine) :
    Inv X pins σ (upd H l (.lst ys)) { s with heap := s.heap.update l (Obj.mapSeq f), toks := t' } := by
  have q := PySem.IsL.update e f
  rw [hf] at q
  refine I.write (x := l) (e := l) (by rw [hH]; exact trivial) (.inl rfl) (fun b' u hb hu => (Heap.get?_update_other s.heap (Obj.mapSeq f) (Ne.symm hb)).trans hu) ⟨_, q⟩ ?_
  exact ⟨hz, its', _, hv, q⟩
theorem Inv.lnew {its : List Value} {t' : Nat} (I : Inv X pins σ H s) (hv : Vals ys its) (hz : ys.length ≤ sizeLine) :
    Inv X pins σ (upd H s.heap.objs.size (.lst ys)) { s with heap := s.heap.push { cls := .type "list", data := .seq its.toArray }, toks := t' } :=
  I.laid (fun _ _ q => Heap.get?_push_of_some _ q) (Nat.le_refl _) ⟨hz, its, 0, hv, Heap.get?_push_size _ rfl⟩
theorem Inv.fresh (I : Inv X pins σ H s) : H s.heap.objs.size = none := I.hok.fresh (Nat.le_refl _)
theorem Inv.lstM (I : Inv X pins σ H s) (hH : H l = some (.lst xs)) : xs.length ≤ sizeLine ∧ ∃ (its : List Value) (n : Nat), Vals xs its ∧ xs.length = its.length ∧ s.heap.get? l = some { cls := .type "list", data := .seq its.toArray n } := by
  obtain ⟨z, its, n, r, e⟩ := I.hok l _ hH
  exact ⟨z, its, n, r, r.length, e⟩

theorem notLongL {n : Nat} (h : n ≤ sizeLine) : Builtin.List.listTooLong n = false := by
  unfold Builtin.List.listTooLong
  exact decide_eq_false (by (first | lia | omega))
end

section
variable {X : Cx}

/-! ### methods -/
def rAppend : V → List V → Hp → VK → Prop := fun x vs H Q => ∃ l xs y, x = .ref l ∧ vs = [y] ∧ H l = some (.lst xs) ∧ xs.length < sizeLine ∧ Q .non (upd H l (.lst (xs ++ [y])))
theorem mt_append : MtM X "list.append" rAppend := by
  intro pins s σ H x vs v us Q I rx rv h
  obtain ⟨l, xs, y, rfl, rfl, hH, hz, q⟩ := h
  cases rx
  obtain ⟨u, rfl, ru⟩ := rv.one
  obtain ⟨z, its, n, r, hl, e⟩ := I.lstM hH
  refine call_meets F.slot_list_append ⟨_, e, rfl⟩ F.entry_list_append (F.args_list_append_2 _ _) (PySem.list_append l its.toArray n u (by rw [List.size_toArray]; (first | lia | omega))) ⟨e, ?_⟩
  refine ⟨.non, _, I.lset (its' := its ++ [u]) hH e (by simp) (r.append (.cons ru .nil)) ?_, rfl, q⟩
  rw [List.length_append, List.length_singleton]
  (first | lia | omega)

def rExtend : V → List V → Hp → VK → Prop := fun x vs H Q => ∃ l b xs zs, x = .ref l ∧ vs = [.ref b] ∧ H l = some (.lst xs) ∧ H b = some (.lst zs) ∧ xs.length + zs.length ≤ sizeLine ∧ Q .non (upd H l (.lst (xs ++ zs)))
theorem mt_extend : MtM X "list.extend" rExtend := by
  intro pins s σ H x vs v us Q I rx rv h
  obtain ⟨l, b, xs, zs, rfl, rfl, hH, hB, hz, q⟩ := h
  cases rx
  obtain ⟨u, rfl, ru⟩ := rv.one
  cases ru
  obtain ⟨z, its, n, r, hl, e⟩ := I.lstM hH
  obtain ⟨z2, its2, n2, r2, hl2, e2⟩ := I.lstM hB
  have hsz : its.toArray.size + its2.toArray.size ≤ sizeLine := by rw [List.size_toArray, List.size_toArray]; (first | lia | omega)
  have hlong : ¬ (!its.toArray.isEmpty && Builtin.List.listTooLong (its.toArray.size + its2.toArray.size)) = true := by
    rw [notLongL hsz, Bool.and_false]
    exact Bool.false_ne_true
  refine call_meets F.slot_list_extend ⟨_, e, rfl⟩ F.entry_list_extend (F.args_list_extend_2 _ _)
    (AutoSeq1.list_extend_list_list_0 l its.toArray n b its2.toArray n2 hlong (by rw [List.size_toArray]; (first | lia | omega)) (by (first | lia | omega))) ⟨e, e2, ?_⟩
  refine ⟨.non, _, I.lset (its' := its ++ its2) hH e (by simp) (r.append r2) ?_, rfl, q⟩
  rw [List.length_append]
  (first | lia | omega)

def rPop : V → List V → Hp → VK → Prop := fun x vs H Q => ∃ l xs y, x = .ref l ∧ vs = [] ∧ H l = some (.lst xs) ∧ xs[xs.length - 1]? = some y ∧ Q y (upd H l (.lst xs.dropLast))
theorem mt_pop : MtM X "list.pop" rPop := by
  intro pins s σ H x vs v us Q I rx rv h
  obtain ⟨l, xs, y, rfl, rfl, hH, hy, q⟩ := h
  cases rx
  have hus := rv.zero
  subst hus
  obtain ⟨z, its, n, r, hl, e⟩ := I.lstM hH
  obtain ⟨u, hu, ru⟩ := r.get hy
  have hy' : its.toArray[its.toArray.size - 1]? = some u := by
    show its.toArray[its.length - 1]? = some u
    rw [← Array.getElem?_toList, ← hl]
    exact hu
  refine call_meets F.slot_list_pop ⟨_, e, rfl⟩ F.entry_list_pop (F.args_list_pop_1 _) (MeetsSeq.list_pop_last l its.toArray n u hy' (by rw [List.size_toArray]; (first | lia | omega))) ⟨e, ?_⟩
  refine ⟨y, _, I.lset (its' := its.dropLast) hH e ?_ r.dropLast ?_, ru, q⟩
  · show its.toArray.eraseIdxIfInBounds (its.toArray.size - 1) = its.dropLast.toArray
    rw [List.size_toArray, List.eraseIdxIfInBounds_toArray, erase_last]
  · rw [List.length_dropLast]
    (first | lia | omega)

/-! ### list + list, list += list, list * int -/
def rCat : R2 := fun x y H Q => ∃ l b xs zs, x = .ref l ∧ y = .ref b ∧ H l = some (.lst xs) ∧ H b = some (.lst zs) ∧ xs.length + zs.length ≤ sizeLine ∧ ∀ p, H p = none → Q (.ref p) (upd H p (.lst (xs ++ zs)))
theorem op_cat : OpR X (binaryOp .Add) rCat := by
  intro pins s σ H x y v u Q I rx ry h
  obtain ⟨l, b, xs, zs, rfl, rfl, hH, hB, hz, q⟩ := h
  cases rx
  cases ry
  obtain ⟨z, its, n, r, hl, e⟩ := I.lstM hH
  obtain ⟨z2, its2, n2, r2, hl2, e2⟩ := I.lstM hB
  refine PySem.P.add_list e e2 ?_ (by rw [List.size_toArray, List.size_toArray]; (first | lia | omega))
  have ea : its.toArray ++ its2.toArray = (its ++ its2).toArray := by simp
  rw [ea]
  exact ⟨.ref _, _, I.lnew (t' := s.toks) (r.append r2) (by rw [List.length_append]; (first | lia | omega)), rfl, q _ I.fresh⟩
/-! ### del xs[i] -/
end

/-! ### xs[a:b] = ys -/

end L2

namespace Att
open PySem PySem.W PySem.Calls PyProof.Rows

/-! ### the script -/
theorem ints_of_wellAll {P : Params} {h : Heap} : ∀ (ns : List Int) (vs : List Value), WellAll P h vs (ns.map WData.int) → IntsAre vs ns := by
  intro ns
  induction ns with
  | nil =>
    intro vs w
    rw [List.map_nil] at w
    cases w
    exact .nil
  | cons n ns ih =>
    intro vs w
    rw [List.map_cons] at w
    cases w with
    | cons a b =>
      cases a
      exact .cons _ _ (ih _ b)

theorem script_of {l : OpenLaw} {n : Nat} (hn : l.most = some n) {P : Params} {h : Heap} {args : List WData} {vals : List Value}
    (hpre : l.row.toRowW.claim.pre args = true) (hwl : WellAll P h vals args) :
    ∃ a vs ns, vals = [Value.ref a] ∧ args = [WData.list (ns.map WData.int)] ∧ h.get? a = some { cls := .type "list", data := .seq vs.toArray } ∧ IntsAre vs ns ∧ ns.length ≤ n := by
  have hsh : WShape.hasAll [] args [.list .int] = true := (pre_splitW hpre).1
  have hc : l.pre.holds [] { args := args } = true := (pre_splitW hpre).2
  obtain ⟨d, r, rfl, h1, h2⟩ := hasAllW_cons hsh
  obtain rfl := hasAllW_nil h2
  obtain ⟨xs, rfl, h3⟩ := hasW_list h1
  obtain ⟨ns, rfl⟩ := items_int h3
  have hlen : ns.length ≤ n := by
    unfold OpenLaw.pre at hc
    have h4 : (WTm.not (.lt (.lit (.int (n : Int))) (.len (.arg 0)))).holds [] { args := [.list (ns.map .int)] } = true := by
      have h4 := (holds_andW hc).1
      rw [hn] at h4
      exact h4
    have h5 := condW_of h4 (w_not (w_lt w_lit (w_len_list (w_arg rfl))))
    rw [List.length_map] at h5
    refine Nat.le_of_not_lt fun q => ?_
    have q' : (n : Int) < ((ns.length : Nat) : Int) := by (first | lia | omega)
    first
      | (rw [decide_eq_true q'] at h5; exact absurd h5 (by decide))
      | (simp at h5; (first | lia | omega))
  cases hwl with
  | cons w1 w2 =>
    cases w2
    cases w1 with
    | list ho hall => exact ⟨_, _, ns, rfl, rfl, ho, ints_of_wellAll ns _ hall, hlen⟩

theorem post_true (l : OpenLaw) (args : List WData) : l.row.toRowW.claim.post args (.bool true) args = true :=
  postW_of (r := l.row.toRowW) (X := (true == true))
    (show WShape.has [] (.bool true) .bool = true by first | rfl | decide | simp [WShape.has, WShape.arms, WShape.armsAll])
    (show (WTm.eq .res (.lit (.bool true))).value [] { args := args, res := some (.bool true), after := args } = some (.bool (true == true)) from w_eq_bool (w_res rfl) w_lit) rfl

/-! ### the attachment: holds_open's last premise (the goal 'hc' behind k_head) from a wpAny of the law's body -/
/-- the same from a codeAny of the CALL (for a layer whose function contracts speak of calls) -/
theorem attach_call {l : OpenLaw} {n : Nat} {q : Program} {loose : List Str} {XP : (Str → Option Value) → Heap → Prop} {YP : World → Heap → Prop} {d : DefRec}
    (hn : l.most = some n) (hdf : d.params.defaults = [])
    (call : ∀ (w : World) (s₀ s₁ : Shared) (mg mb : Str → Option Value) (fa : Addr) (o : Obj) (pm cd doc : Value) (a : Addr) (vs : List Value) (ns : List Int),
      Ground q loose [] XP w s₀ mg mb s₁.heap → YP w s₁.heap →
      s₁.heap.get? fa = some o → o.data = .func (docDef d.name d.params d.body d.scope pm cd doc) → s₁.heap.CodeRec cd d.name → mg d.name = some (.ref fa) →
      s₁.heap.get? a = some { cls := .type "list", data := .seq vs.toArray } → IntsAre vs ns → ns.length ≤ n → s₁.gens = #[] →
      codeAny (model l.prog w) callerA (.call (.ref fa) ⟨[.ref a], []⟩) (fun r s' => r = .ok (.ret (.bool true)) ∧ OldK s₁.heap s'.heap ∧ s'.os = s₁.os ∧ AllBare s'.gens) s₁) :
    WalkO q loose XP YP l.row.toRowW d [] (fun f vs => PySem.call f vs) := by
  intro w s₀ s₁ mg mb G Y fa o pm cd doc dV kV ho hd hcd hD hmg hg args vals as hpre hlay hrd hwl hlo
  obtain rfl : dV = .none := Dflts.none hD hdf
  obtain rfl : kV = .none := Dflts.noKw hD
  obtain ⟨a, vs, ns, rfl, rfl, hobj, hints, hlen⟩ := script_of hn hpre hwl
  refine enter_call (codeAny_mono (call w s₀ s₁ mg mb fa o pm cd doc a vs ns G Y ho (fd_plain hd) hcd hmg hobj hints hlen hg) fun r s' hq => ?_)
  obtain ⟨rfl, h2, h3, h4⟩ := hq
  exact ⟨.inl ⟨.bool true, .bool true, [], rfl, fun _ => rfl, .bool true, post_true l _, fun _ => ⟨List.Pairwise.nil, fun _ hm => (nomatch hm)⟩⟩, h2, h3, h4⟩

/-! ### rules over ANY heap (no ledger) from facts about the written part K: the library's own take a ledger (News) for what they write -/
end Att

namespace L2
open PySem PySem.Spec PyProof.Rows

theorem vals_ints : ∀ {vs : List Value} {ns : List Int}, IntsAre vs ns → Vals (ns.map V.int) vs
  | _, _, .nil => .nil
  | _, _, .cons n t h => .cons ⟨t, rfl⟩ (vals_ints h)

/-- nothing is tracked but the script, known to the object (or it is an object of the module) -/
def Only (H : Hp) : Prop := ∀ b, H b = none ∨ ∃ o xs, H b = some (.frz o (.lst xs))

/-- THE HEAD: the law's promise, at the heap behind the top. F, the promise of the law's def, may use that base is part of the heap (so K.In base, base.Ns mainGlobals mg stand in Mod) -/
theorem law_call {P : Program} {w : World} {K : PySem.W.Frag} {mg mb : Str → Option Value} {CX : CXT} {k : Nat} {fa a : Addr} {fd : FuncData} {x : Str} {sp : Sp} {s₁ : Shared} {vs : List Value} {ns : List Int}
    (KX : K.In s₁.heap) (hns : s₁.heap.Ns mainGlobals mg) (hb : s₁.heap.Ns builtinsNs mb) (hbb : ∀ x : Str, x ≠ "__name__" → mb x = bootBuiltins x) (hlim : s₁.heap.NoLimit) (hg : s₁.gens = #[])
    (ha : s₁.heap.get? a = some { cls := .type "list", data := .seq vs.toArray }) (hi : IntsAre vs ns) (hl : ns.length ≤ sizeLine) (hr : Room k callerA)
    (F : ∀ base : Heap, K.In base → base.Ns mainGlobals mg → FnOk P w K mg base CX k fa fd [x] sp) (hbind : ∀ (s : Shared) (u : Value), BindsTo s fd ⟨[u], []⟩ [(x, u)])
    (hsp : ∀ H : Hp, Only H → SqL K H a (ns.map V.int) → sp [.ref a] H (fun v _ => v = .bl true) fun _ _ _ => False)
    (hCX : ∀ H e s', CX [] H s₁ (fun _ _ _ => False) e s' → False) :
    codeAny (model P w) callerA (.call (.ref fa) ⟨[.ref a], []⟩) (fun r s' => r = .ok (.ret (.bool true)) ∧ OldK s₁.heap s'.heap ∧ s'.os = s₁.os ∧ AllBare s'.gens) s₁ := by
  have rv := vals_ints hi
  have lenV := hi.length
  -- from an abstract heap in which nothing but the script may be tracked
  have core : ∀ H : Hp, Only H → SqL K H a (ns.map V.int) → HOk P w H s₁.heap → (∀ b, H b ≠ none → b = a) → (H a ≠ none → K.lookup a = none) →
      codeAny (model P w) callerA (.call (.ref fa) ⟨[.ref a], []⟩) (fun r s' => r = .ok (.ret (.bool true)) ∧ OldK s₁.heap s'.heap ∧ s'.os = s₁.os ∧ AllBare s'.gens) s₁ := by
    intro H hO hS hok hA hK
    have base_of : ∀ {b : Addr} {o : Obj}, s₁.heap.get? b = some o → H b = none → (hidT s₁.heap H).get? b = some o := fun e n => hidT_get e n
    have noA : ∀ {b : Addr} {o : Obj} {es : Array DictEntry} {ep : Nat}, s₁.heap.get? b = some o → o.data = .dict es ep → H b = none := fun {b o es ep} e d => by
      cases q : H b with
      | none => rfl
      | some u =>
        have e' : b = a := hA b (by rw [q]; simp)
        subst e'
        rw [ha] at e; cases e
        have d' : Data.seq vs.toArray _ = Data.dict es ep := d
        cases d'
    have nsK : ∀ {b : Addr} {m : Str → Option Value}, s₁.heap.Ns b m → (hidT s₁.heap H).Ns b m := fun {b m} ⟨o, es, ep, e, d, r⟩ => ⟨o, es, ep, base_of e (noA e d), d, r⟩
    have hKb : K.In (hidT s₁.heap H) := fun b o e => base_of (KX b o e) (by
      cases q : H b with
      | none => rfl
      | some u =>
        have e' : b = a := hA b (by rw [q]; simp)
        subst e'
        rw [hK (by rw [q]; simp)] at e; cases e)
    have hM : Mod K mg (hidT s₁.heap H) := ⟨hKb, nsK hns, ⟨mb, nsK hb, hbb⟩, let ⟨mc, h1, h2⟩ := hlim; ⟨mc, nsK h1, h2⟩⟩
    have e0 : Env0 P w K mg (hidT s₁.heap H) callerA [] s₁ H := ⟨rfl, hM, fun b o e => of_hidT e, Nat.le_of_eq (hidT_size _ _), trivial, fun b hb => absurd (show b ∈ ([] : List Addr) from hb) (by simp), hok, .of_eq hg⟩
    refine codeAny_mono ((F _ hKb (nsK hns)).run callerA [] s₁ H ⟨[.ref a], []⟩ [.ref a] [.ref a] _ _ hr e0 (hbind s₁ (.ref a)) (.cons rfl .nil) (hsp H hO hS)) fun r s' h => ?_
    cases r with
    | error e => exact (hCX H e s' h).elim
    | ok fl =>
      cases fl with
      | next => exact False.elim h
      | brk => exact False.elim h
      | cont => exact False.elim h
      | ret u =>
        obtain ⟨v, H', os, bare, un, hok', r', q⟩ := h
        have q' : v = .bl true := q
        subst q'
        obtain rfl : u = Value.bool true := r'
        refine ⟨rfl, OldK.of_keep fun b o e => ?_, os, bare⟩
        cases q : H b with
        | none => exact un.keep b o e q (by intro z; exact absurd (show b ∈ ([] : List Addr) from z) (by simp)) (by simp)
        | some u =>
          rcases hO b with z | ⟨ob, xs, z⟩
          · rw [q] at z; cases z
          · have z2 := un.frzs b ob _ z
            obtain ⟨e1, _⟩ := hok b _ z
            obtain ⟨e2, _⟩ := hok' b _ z2
            rw [e] at e1; cases e1
            exact e2
  cases hk : K.lookup a with
  | some o =>
    -- the script is one of the module's own objects
    have e := KX a o hk
    rw [ha] at e
    cases e
    refine core (fun _ => none) (fun _ => .inl rfl) (.inr ⟨_, vs.toArray, _, hk, rfl, rfl, rfl, by rw [List.size_toArray, lenV]; exact hl, by simpa using rv⟩) (fun b u z => by have z' : (none : Option HO) = some u := z; cases z') (fun b z => absurd rfl z) fun z => absurd rfl z
  | none =>
    refine core (fun b => if b = a then some (.frz { cls := .type "list", data := .seq vs.toArray } (.lst (ns.map V.int))) else none) (fun b => ?_) (.inl (.inr ⟨{ cls := .type "list", data := .seq vs.toArray }, if_pos rfl⟩)) (fun b u z => ?_) (fun b z => ?_) fun _ => hk
    · by_cases hb : b = a
      · exact .inr ⟨_, _, if_pos hb⟩
      · exact .inl (if_neg hb)
    · by_cases hb : b = a
      · have z' := (if_pos hb).symm.trans z
        cases z'
        subst hb
        exact ⟨ha, by rw [List.length_map]; exact hl, vs, _, rv, ha⟩
      · have z' := (if_neg hb).symm.trans z
        cases z'
    · by_cases hb : b = a
      · exact hb
      · exact absurd (if_neg hb) z
end L2

namespace L2
open PySem PySem.Spec PyProof.Rows

/-- the goal that k_head leaves (case hc), from the law's promise. F gives the function object fd (K's own) once, then the promise over every base -/
theorem walk_of {l : PySem.W.OpenLaw} {n k : Nat} {q : Program} {loose : List Str} {XP : (Str → Option Value) → Heap → Prop} {YP : World → Heap → Prop} {d : DefRec} {K : Params → PySem.W.Frag} {CX : World → CXT} {sp : World → Sp} {x : Str}
    (hn : l.most = some n) (hn2 : n ≤ sizeLine) (hdf : d.params.defaults = []) (hr : Room k callerA)
    (hY : ∀ (w : World) (h : Heap), YP w h → (K w.params).In h)
    (F : ∀ (w : World) (mg : Str → Option Value) (fa : Addr) (h : Heap), (K w.params).In h → h.Ns mainGlobals mg → mg d.name = some (.ref fa) →
      ∃ fd : FuncData, (∀ (s : Shared) (u : Value), BindsTo s fd ⟨[u], []⟩ [(x, u)]) ∧
        ∀ base : Heap, (K w.params).In base → base.Ns mainGlobals mg → FnOk l.prog w (K w.params) mg base (CX w) k fa fd [x] (sp w))
    (hsp : ∀ (w : World) (H : Hp) (a : Addr) (ns : List Int), ns.length ≤ n → Only H → SqL (K w.params) H a (ns.map V.int) → sp w [.ref a] H (fun v _ => v = .bl true) fun _ _ _ => False)
    (hCX : ∀ (w : World) (H : Hp) (s : Shared) (e : Value) (s' : Shared), CX w [] H s (fun _ _ _ => False) e s' → False) :
    PySem.W.WalkO q loose XP YP l.row.toRowW d [] (fun f vs => PySem.call f vs) := by
  refine Att.attach_call hn hdf fun w s₀ s₁ mg mb fa o pm cd doc a vs ns G Y ho hd hcd hmg hobj hints hlen hg => ?_
  have KX := hY w _ Y
  obtain ⟨fd, hb, hF⟩ := F w mg fa _ KX G.T.g hmg
  exact law_call KX G.T.g G.T.b G.T.builtins G.T.nolimit hg hobj hints (Nat.le_trans hlen hn2) hr hF hb (fun H hO hS => hsp w H a ns hlen hO hS) fun H e s' => hCX w H s₁ e s'
end L2

/- THE LAST THEOREM (shape; LID, My.* are yours):
   My.Adr: a structure of the addresses that your layer names (classes, functions); My.Txt K t: a structure (Prop) of the equations over K;
   My.txt_mk : {K} {implicit addresses ..} (e1 : nsIn K mainGlobals "law" = some (some (.ref f))) (e2 : K.lookup f = some ⟨oc, od, .func (fnOf "law" "law" params body scope dV kV doc pm an cdv ct), sl⟩) (e3 : codeIn K cdv "law" = true) .. : ∃ t, My.Txt K t

set_option maxRecDepth 100000 in
set_option maxHeartbeats 0 in
theorem PySem.Challenge.cw_LID_holds : PySem.Challenge.rw_LID.Holds := by
  w_on; o_law; k_head; (case hw => w_witness2)
  k_fill
  refine L2.walk_of (l := PySem.Challenge.rw_LID) (n := 63) (k := 40) (x := "script") (CX := fun w => ..) (sp := fun _ => My.sp_law) rfl (by decide) rfl ⟨rfl, by decide, by decide⟩ (fun w h Y => PySem.W.kIn_of Y) ?F ?S ?C
  case F =>
    intro w mg fa h KX G hmg
    have T : ∃ t, My.Txt (L2.KOf KX) t := by
      dsimp only [L2.KOf]                          -- K must stand as «<heap const> w.params» for k_is
      refine' My.txt_mk ?e1 ?e2 ?e3 ..
      (case e1 => PySem.W.k_is)                    -- in the order: a name -> its address -> its object -> its parts
      (case e2 => PySem.W.k_is)
      ..
    obtain ⟨t, T⟩ := T
    have e0 := hmg.symm.trans (PySem.W.mg_of KX G T.law)
    cases e0                                       -- fa is the law's own address
    exact ⟨_, fun s u => .of_eq rfl, fun base kb nb => My.law_fn T kb nb⟩     -- if «.of_eq rfl» comes too early: refine' ⟨_, ?b, fun base kb nb => My.law_fn T kb nb⟩; exact fun s u => .of_eq rfl
  case S => exact fun w H a ns hl hO hS => ..
  case C => exact ..
(the tactic k_is has no namespace: write k_is) -/

/-! SHORT WORDS over the layer: a def of the text, its body, what a loop and a test want. -/
namespace L2
open PySem PySem.Spec PyProof.Rows

/-! ### the text by places -/
/-- the j-th statement of a class's body -/
def inClass (s : Stmt) (j : Nat) : Stmt := match s with
  | .ClassDef _ _ _ body _ _ _ _ _ _ _ => body.getD j (.Pass ⟨0, 0, 0, 0⟩)
  | _ => .Pass ⟨0, 0, 0, 0⟩
def defArgs (s : Stmt) : Arguments := match s with
  | .FunctionDef _ a _ _ _ _ _ _ _ _ => a
  | _ => { posonlyargs := [], args := [], vararg := none, kwonlyargs := [], kw_defaults := [], kwarg := none, defaults := [] }
def defBody (s : Stmt) : List Stmt := match s with
  | .FunctionDef _ _ b _ _ _ _ _ _ _ => b
  | _ => []
def defScope (s : Stmt) : Scope := match s with
  | .FunctionDef _ _ _ _ _ _ sc _ _ _ => sc
  | _ => { kind := .function, names := [], isGenerator := false, isCoroutine := false }

/-! ### no exception leaves a def -/
abbrev CX0 : CXT := fun _ _ _ _ _ _ => False
abbrev E0 : XK := fun _ _ _ => False
theorem pass0 {X : Cx} : Passes CX0 X E0 := fun _ _ _ _ _ _ _ h => h.elim

/-! ### a def (or method) of the text as it stands behind the top -/
structure Fun (K : PySem.W.Frag) (x qual : Str) (st : Stmt) (f : Addr) (fd : FuncData) : Prop where
  ex : ∃ (oc : Value) (od : Option Addr) (kV doc pm : Value) (an : Option Addr) (cdv ct : Value) (osl : Array (Option Value)),
    fd = PySem.W.fnOf x qual (defArgs st) (defBody st) (defScope st) .none kV doc pm an cdv ct ∧ K.lookup f = some ⟨oc, od, .func fd, osl⟩ ∧ PySem.W.codeIn K cdv qual = true
  kp : PySem.W.keepIn K (.ref f) = true
section
variable {P : Program} {w : World} {K : PySem.W.Frag} {mg : Str → Option Value} {base : Heap}
/-- THE RULE for a def: its body as a term of rules, and the reading of that term -/
theorem Fun.ok {x qual : Str} {st : Stmt} {f : Addr} {fd : FuncData} {N ps : List Str} {k : Nat} {sp : Sp} (F : Fun K x qual st f fd) (S : FnScope N ps (defScope st)) (len : ∀ vs H Q E, sp vs H Q E → vs.length = ps.length)
    (hbody : ∀ (cdv : Value) (A : Around) (outer : List Env) (s : Shared) (H : Hp) (vs : List V) (Q : VK) (E : XK), Room k (A.deeper (envOfC qual (defScope st) s.heap.objs.size f cdv)) → sp vs H Q E →
      ∃ t, PSs (cxOf CX0 P w K mg base N qual (defScope st) f cdv A outer s H E).nox (defBody st) t ∧ t { nx := fun _ H' => Q .non H', rt := Q } (start N vs) H) : FnOk P w K mg base CX0 (k + 1) f fd ps sp := by
  obtain ⟨oc, od, kV, doc, pm, an, cdv, ct, osl, rfl, lk, hcd⟩ := F.ex
  refine fn_of lk hcd S len fun A outer s H vs Q E hr hsp => ?_
  obtain ⟨t, h, q⟩ := hbody cdv A outer s H vs Q E hr hsp
  exact ⟨t, h.nox, q⟩
/-- how its arguments bind (no defaults): h is «fun _ _ _ _ _ _ us hl => match us, hl with | [_, _], _ => rfl», one _ a parameter -/
theorem Fun.binds {x qual : Str} {st : Stmt} {f : Addr} {fd : FuncData} {ps : List Str} (F : Fun K x qual st f fd)
    (h : ∀ (kV doc pm : Value) (an : Option Addr) (cdv ct : Value) (us : List Value), us.length = ps.length → bindArgs (PySem.W.fnOf x qual (defArgs st) (defBody st) (defScope st) .none kV doc pm an cdv ct) ⟨us, []⟩ = pure (ps.zip us)) : Binds K fd ps [] := by
  obtain ⟨oc, od, kV, doc, pm, an, cdv, ct, osl, rfl, lk, hcd⟩ := F.ex
  exact .all (h kV doc pm an cdv ct)
theorem fun_mk {x qual : Str} {st : Stmt} {f : Addr} {oc : Value} {od an : Option Addr} {osl : Array (Option Value)} {kV doc pm cdv ct : Value} (l : K.lookup f = some ⟨oc, od, .func (PySem.W.fnOf x qual (defArgs st) (defBody st) (defScope st) .none kV doc pm an cdv ct), osl⟩)
    (c : PySem.W.codeIn K cdv qual = true) (k : PySem.W.keepIn K (.ref f) = true) : Fun K x qual st f (PySem.W.fnOf x qual (defArgs st) (defBody st) (defScope st) .none kV doc pm an cdv ct) := ⟨⟨oc, od, kV, doc, pm, an, cdv, ct, osl, rfl, l, c⟩, k⟩
end
/-! ### expressions in short: the name that stands in the i-th slot -/
section
variable {X : Cx}
theorem pv (i : Nat) {x : Str} {pos : Pos} (hN : X.N[i]? = some x := by rfl) (hv : Vis X.env.scope x := by first | exact Or.inl rfl | exact Or.inr (Or.inl rfl) | exact Or.inr (Or.inr rfl)) (hd : (x == ("__debug__" : Str)) = false := by decide)
    (hcd : (x == ("__classdict__" : Str)) = false := by decide) : PE X (.Name x pos) (tVar i) := pe_var hN hv hd hcd
end

/-! ### tests -/
theorem iteF {A B : Prop} (h : B) : if false = true then A else B := by
  rw [if_neg Bool.false_ne_true]
  exact h
theorem iteT {A B : Prop} (h : A) : if true = true then A else B := by
  rw [if_pos rfl]
  exact h
theorem ite2 {c A B : Prop} [Decidable c] (h1 : c → A) (h2 : ¬ c → B) : if c then A else B := by
  by_cases h : c
  · rw [if_pos h]
    exact h1 h
  · rw [if_neg h]
    exact h2 h
/-! ### heaps -/
/-- all that was tracked is as it was -/
def Same (H H' : Hp) : Prop := ∀ b o, H b = some o → H' b = some o
theorem Same.refl (H : Hp) : Same H H := fun _ _ h => h
theorem Same.trans {H H1 H2 : Hp} (a : Same H H1) (b : Same H1 H2) : Same H H2 := fun c o h => b c o (a c o h)
theorem Same.free {H H' : Hp} (e : Same H H') {l : Addr} (h : H' l = Option.none) : H l = Option.none := by
  cases q : H l with
  | none => rfl
  | some o =>
    rw [e l o q] at h
    cases h
theorem Same.seq {K : PySem.W.Frag} {H H' : Hp} {a : Addr} {xs : List V} (e : Same H H') (h : SqL K H a xs) : SqL K H' a xs := by
  rcases h with (h | ⟨o, h⟩) | h
  · exact .inl (.inl (e _ _ h))
  · exact .inl (.inr ⟨o, e _ _ h⟩)
  · exact .inr h

end L2

/-! Groves as data: a grove is nil, or a first tree (tag, what is within) and the others. Words with an end sl. -/
namespace FgM
end FgM

/-! RULES OF OUR OWN over the layer: isinstance, t[::-1], whole slices of tuples, extend by a tuple, text * int, == of data at any depth, calls of own defs in short. -/
namespace L2
open PySem PySem.Spec PyProof.Rows
theorem bt_tuple : bootBuiltins "tuple" = some (.type "tuple") := by decide +kernel
theorem bt_int : bootBuiltins "int" = some (.type "int") := by decide +kernel
theorem bt_bool : bootBuiltins "bool" = some (.type "bool") := by decide +kernel
theorem bt_dict : bootBuiltins "dict" = some (.type "dict") := by decide +kernel
theorem bt_isinstance : bootBuiltins "isinstance" = some (.builtin "isinstance") := by decide +kernel
section
variable {X : Cx}
/-- the name of a built-in type -/
theorem pe_ty {x : Str} {n : String} {pos : Pos} (hg : Gl X x) (hm : X.mg x = none) (hv : bootBuiltins x = some (.type n)) (hn : x ≠ "__name__" := by decide) (hd : (x == ("__debug__" : Str)) = false := by decide) : PE X (.Name x pos) (tC (.ty n)) :=
  pe_bltn (v := .ty n) hg hm hv rfl hn hd
/-- isinstance(x, T), T a built-in type -/
theorem call_isinst : CallR X (.builtin "isinstance") (fun xs H Q => ∃ x n t b, xs = [x, .ty n] ∧ TyOf X.K H x t ∧ PySem.W.kitOne X.K t (.type n) = some b ∧ Q (.bl b) H) := by
  intro pins s σ H xs us Q I r h
  obtain ⟨x, n, t, b, rfl, ty, e, q⟩ := h
  obtain ⟨u, v, rfl, rx, ry⟩ := Vals.two r
  obtain rfl : v = Value.type n := ry
  exact isinst_ok I rx ty e fun tk => ⟨.bl b, H, I.tok tk, rfl, q⟩
end
/-! ### calls of own defs -/
structure Has (P : Program) (w : World) (K : PySem.W.Frag) (mg : Str → Option Value) (base : Heap) (x : Str) (ps : List Str) (k : Nat) (sp : Sp) : Prop where
  ex : ∃ (f : Addr) (fd : FuncData), FnOk P w K mg base CX0 k f fd ps sp ∧ Binds K fd ps [] ∧ PySem.W.keepIn K (.ref f) = true ∧ mg x = some (.ref f)
section
variable {X : Cx} {x : Str} {ps : List Str} {j k : Nat} {sp : Sp} {e : Expr} {es : List Expr} {t : TA} {p pos : Pos}
theorem FnOk.room {P : Program} {w : World} {K : PySem.W.Frag} {mg : Str → Option Value} {base : Heap} {CX : CXT} {f : Addr} {fd : FuncData} (F : FnOk P w K mg base CX j f fd ps sp) (h : j ≤ k) : FnOk P w K mg base CX k f fd ps sp :=
  ⟨F.len, fun A outer s H args us vs Q E hr => F.run A outer s H args us vs Q E (hr.mono h)⟩
theorem pe_has (G : Has X.prog X.w X.K X.mg X.base x ps j sp) (hr : Room k X.A) (hg : Gl X x) (ha : PA X (e :: es) t) (hk : j ≤ k := by decide) (hdb : (x == ("__debug__" : Str)) = false := by decide)
    (he : starEach (e :: es) X.env = (false, eval e X.env) :: starEach es X.env := by rfl) (hpl : (backTo pos (starEach es X.env)).any (·.1) = false := by rfl) :
    PE X (.Call (.Name x p) (e :: es) [] pos) (tCall sp [] E0 t) := by
  obtain ⟨f, fd, F, b, kp, m⟩ := G.ex
  exact pe_call (F.room hk) hr hg m kp b .nil pass0 ha hdb he hpl
end
/-! ### extend by a tuple -/
/-! ### text * int -/
section
variable {X : Cx}
def repS (z : Str) (n : Nat) : Str := ⟨(List.replicate n z.cps).foldl (· ++ ·) #[]⟩
theorem repS_zero (z : Str) : repS z 0 = Str.empty := rfl
theorem foldl_app {α : Type} : ∀ (l : List (Array α)) (a : Array α), (l.foldl (· ++ ·) a).toList = a.toList ++ l.flatMap (·.toList)
  | [], a => by simp
  | x :: l, a => by rw [List.foldl_cons, foldl_app l]; simp
theorem repS_cps (z : Str) (n : Nat) : (repS z n).cps.toList = (List.replicate n z.cps.toList).flatten := by
  unfold repS
  rw [foldl_app]
  induction n with
  | zero => rfl
  | succ n ih =>
    rw [List.replicate_succ, List.replicate_succ, List.flatMap_cons, List.flatten_cons]
    simp at ih ⊢
    exact ih
theorem repS_one (z : Str) : repS z 1 = z := by
  cases z with
  | mk c => unfold repS; simp
theorem repS_len (z : Str) (n : Nat) : (repS z n).length = n * z.length := by
  show (repS z n).cps.size = n * z.cps.size
  rw [← Array.length_toList, repS_cps]
  simp
theorem op_mul_str : OpR X (binaryOp .Mult) (fun x y H Q => ∃ z k, x = .str z ∧ y = .int k ∧ -(2 ^ 63) ≤ k ∧ k < 2 ^ 63 ∧ k.toNat * z.length ≤ sizeLine ∧ Q (.str (repS z k.toNat)) H) := by
  intro pins s σ H x y v u Q I rx ry h
  obtain ⟨z, k, rfl, rfl, h1, h2, hz, q⟩ := h
  obtain ⟨t, rfl⟩ := rx
  obtain ⟨t', rfl⟩ := ry
  have hline := sizeLine_eq
  refine PySem.P.mul_str ?_ (fun hk hc => ?_) (fun hk hc => ?_) ?_
  · rw [decide_eq_false (by (first | lia | omega)), decide_eq_false (by (first | lia | omega))]
    rfl
  · intro hgt
    have hzk : (z.length : Int) * k ≤ (2 ^ 63 - 1) := by
      have : ((k.toNat * z.length : Nat) : Int) ≤ sizeLine := by exact_mod_cast hz
      rw [Int.natCast_mul, show ((k.toNat : Nat) : Int) = k by (first | lia | omega), Int.mul_comm] at this
      (first | lia | omega)
    have := (Int.le_ediv_iff_mul_le (by (first | lia | omega) : 0 < k)).mpr hzk
    (first | lia | omega)
  · unfold Builtin.Str.tooLong
    refine decide_eq_false ?_
    rw [Nat.mul_comm]
    (first | lia | omega)
  · by_cases c1 : k < 1
    · rw [if_pos c1]
      have e : k.toNat = 0 := by (first | lia | omega)
      rw [e, repS_zero] at q
      exact ⟨by decide, .str Str.empty, H, I.tok _, ⟨_, rfl⟩, q⟩
    · rw [if_neg c1]
      by_cases c2 : (k == 1 || z.length == 0) = true
      · rw [if_pos c2]
        have e : repS z k.toNat = z := by
          rw [Bool.or_eq_true] at c2
          rcases c2 with c2 | c2
          · have : k = 1 := eq_of_beq c2
            subst this
            exact repS_one z
          · have hz0 : z.length = 0 := eq_of_beq c2
            have a : (repS z k.toNat).cps.toList = z.cps.toList := by
              have l1 : (repS z k.toNat).cps.toList.length = 0 := by
                rw [Array.length_toList]
                have := repS_len z k.toNat
                rw [hz0, Nat.mul_zero] at this
                exact this
              have l2 : z.cps.toList.length = 0 := by
                rw [Array.length_toList]
                exact hz0
              rw [List.eq_nil_of_length_eq_zero l1, List.eq_nil_of_length_eq_zero l2]
            cases z with
            | mk c =>
              have b : (repS ⟨c⟩ k.toNat).cps = c := Array.toList_inj.mp a
              cases hr : repS ⟨c⟩ k.toNat with
              | mk d => rw [hr] at b; exact congrArg Str.mk b
        rw [e] at q
        exact ⟨.str z, H, I, ⟨_, rfl⟩, q⟩
      · rw [if_neg c2]
        refine ⟨?_, .str (repS z k.toNat), H, I.tok _, ⟨_, rfl⟩, q⟩
        have := repS_len z k.toNat
        show (repS z k.toNat).length ≤ sizeLine
        rw [this]
        exact hz
end
end L2
namespace HT
open PySem PyProof.Rows
end HT

namespace L2
open PySem PySem.Spec PyProof.Rows
/-! ### == and != of data at any depth -/
mutual
inductive Dp (K : PySem.W.Frag) (H : Hp) : V → PyData → Prop
  | non : Dp K H .non .none
  | bl (b : Bool) : Dp K H (.bl b) (.bool b)
  | int (i : Int) : Dp K H (.int i) (.int i)
  | str (x : Str) : Dp K H (.str x) (.str x)
  | lst {a : Addr} {xs : List V} {ds : List PyData} : SqL K H a xs → DpAll K H xs ds → Dp K H (.ref a) (.list ds)
  | tup {a : Addr} {xs : List V} {ds : List PyData} : SqT K H a xs → DpAll K H xs ds → Dp K H (.ref a) (.tuple ds)
inductive DpAll (K : PySem.W.Frag) (H : Hp) : List V → List PyData → Prop
  | nil : DpAll K H [] []
  | cons {v : V} {vs : List V} {d : PyData} {ds : List PyData} : Dp K H v d → DpAll K H vs ds → DpAll K H (v :: vs) (d :: ds)
end
section
variable {X : Cx} {pins : List (Addr × Obj)} {σ : St} {H : Hp} {s : Shared}
mutual
theorem Dp.reads (I : Inv X pins σ H s) : ∀ {v : V} {d : PyData} {u : Value}, Dp X.K H v d → RelV v u → ∃ as, Reads s.heap u d as
  | _, _, u, .non, r => by
    obtain rfl : u = Value.none := r
    exact ⟨_, .none⟩
  | _, _, u, .bl b, r => by
    obtain rfl : u = Value.bool b := r
    exact ⟨_, .bool b⟩
  | _, _, _, .int i, ⟨t, e⟩ => by
    subst e
    exact ⟨_, .int i t⟩
  | _, _, _, .str x, ⟨t, e⟩ => by
    subst e
    exact ⟨_, .str x t⟩
  | _, _, u, @Dp.lst _ _ a xs ds hq hall, r => by
    obtain rfl : u = Value.ref a := r
    obtain ⟨its, rv, ⟨o, n, e, hc, _, hd⟩, _⟩ := I.list hq
    obtain ⟨as, ha⟩ := DpAll.reads I hall rv
    exact ⟨_, .list e hc hd (by simpa using ha)⟩
  | _, _, u, @Dp.tup _ _ a xs ds hq hall, r => by
    obtain rfl : u = Value.ref a := r
    obtain ⟨its, rv, ⟨o, e, hc, n, hd⟩, _⟩ := I.tuple hq
    obtain ⟨as, ha⟩ := DpAll.reads I hall rv
    exact ⟨_, .tuple e hc hd (by simpa using ha)⟩
theorem DpAll.reads (I : Inv X pins σ H s) : ∀ {vs : List V} {ds : List PyData} {us : List Value}, DpAll X.K H vs ds → Vals vs us → ∃ as, ReadsAll s.heap us ds as
  | _, _, _, .nil, .nil => ⟨_, .nil⟩
  | _, _, _, .cons h t, .cons r rs => by
    obtain ⟨as, ha⟩ := Dp.reads I h r
    obtain ⟨bs, hb⟩ := DpAll.reads I t rs
    exact ⟨_, .cons ha hb⟩
end
end
section
variable {X : Cx}
def rEqD (K : PySem.W.Frag) (neg : Bool) : R2 := fun x y H Q => ∃ d e, Dp K H x d ∧ Dp K H y e ∧ d.canLay0 = true ∧ e.canLay0 = true ∧ min d.depth e.depth ≤ 200 ∧ Q (.bl (if neg then !PyData.eqv d e else PyData.eqv d e)) H
theorem op_eqD (hu : X.A.units + 200 < cLine) : OpR X (compareOp .Eq) (rEqD X.K false) := by
  intro pins s σ H x y v u Q I rx ry h
  obtain ⟨d, e, hx, hy, h1, h2, hd, q⟩ := h
  obtain ⟨as, ra⟩ := hx.reads I rx
  obtain ⟨bs, rb⟩ := hy.reads I ry
  exact PySem.SeqAt.compareEq_reads ra rb h1 h2 (by (first | lia | omega)) ⟨.bl _, H, I, rfl, q⟩
theorem op_neD (hu : X.A.units + 200 < cLine) : OpR X (compareOp .NotEq) (rEqD X.K true) := by
  intro pins s σ H x y v u Q I rx ry h
  obtain ⟨d, e, hx, hy, h1, h2, hd, q⟩ := h
  obtain ⟨as, ra⟩ := hx.reads I rx
  obtain ⟨bs, rb⟩ := hy.reads I ry
  exact PySem.SeqAt.compareNe_reads ra rb h1 h2 (by (first | lia | omega)) ⟨.bl _, H, I, rfl, q⟩
theorem hu_room {A : Around} {k : Nat} (hr : Room k A) : A.units + 200 < cLine := by
  have := hr.un
  (first | lia | omega)
end
/-! ### t[::-1], slices of tuples whole or not -/
/-! ### heaps: tuples are kept -/
/-- what is no list that may change: the tuples stay -/
def TK (H H' : Hp) : Prop := ∀ b xs, H b = some (.tup xs) → H' b = some (.tup xs)
theorem TK.trans {H H1 H2 : Hp} (a : TK H H1) (b : TK H1 H2) : TK H H2 := fun c xs h => b c xs (a c xs h)
theorem TK.lst {H : Hp} {p : Addr} {xs : List V} {o : HO} (h : H p = some (.lst xs)) : TK H (upd H p o) := fun b ys q => by
  by_cases e : b = p
  · subst e
    rw [h] at q
    cases q
  · rw [upd_ne e]
    exact q
theorem Same.tk {H H' : Hp} (h : Same H H') : TK H H' := fun b xs q => h b _ q
theorem Same.new {H : Hp} {p : Addr} {o : HO} (h : H p = none) : Same H (upd H p o) := fun b u q => by
  rw [upd_ne (ne_of_none q h)]
  exact q
theorem Same.upd_new {H H' : Hp} {p : Addr} {o : HO} (h : Same H H') (hp : H p = none) : Same H (upd H' p o) := fun b u q => by
  rw [upd_ne (ne_of_none q hp)]
  exact h b u q
end L2
namespace L2
open PySem PySem.Spec PyProof.Rows
theorem upd_none {H : Hp} {p b : Addr} {o : HO} (h : upd H p o b = none) : b ≠ p ∧ H b = none := by
  by_cases e : b = p
  · subst e
    rw [upd_same] at h
    cases h
  · rw [upd_ne e] at h
    exact ⟨e, h⟩
end L2
namespace L2
open PySem PySem.Spec PyProof.Rows
end L2
namespace L2
open PySem PySem.Spec PyProof.Rows
end L2
namespace L2
end L2

namespace L2
open PySem PySem.Spec PyProof.Rows
theorem Paired.app {α β : Type} {F : α → β → Prop} : ∀ {l₁ k₁ : List α} {l₂ k₂ : List β}, Paired F l₁ l₂ → Paired F k₁ k₂ → Paired F (l₁ ++ k₁) (l₂ ++ k₂)
  | _, _, _, _, .nil, s => s
  | _, _, _, _, .cons r t, s => .cons r (Paired.app t s)
theorem snoc_last {α : Type} (l : List α) (a : α) : (l ++ [a])[(l ++ [a]).length - 1]? = some a := by
  simp
theorem snoc_drop {α : Type} (l : List α) (a : α) : (l ++ [a]).dropLast = l := by
  simp
end L2
namespace Fg
open PySem L2 FgM
abbrev SL : Str := "/"
/-- small letters, one or more -/
def Lets (t : Str) : Prop := t.cps.toList ≠ [] ∧ ∀ c ∈ t.cps.toList, 97 ≤ c ∧ c ≤ 122
def Let0 (t : Str) : Prop := ∀ c ∈ t.cps.toList, 97 ≤ c ∧ c ≤ 122
theorem app_cps (x y : Str) : (x ++ y).cps.toList = x.cps.toList ++ y.cps.toList := by
  show (x.cps ++ y.cps).toList = _
  simp
theorem let0_rep {x : Str} (hx : Let0 x) (n : Nat) : Let0 (repS x n) := fun c hc => by
  rw [repS_cps] at hc
  obtain ⟨l, hl, hc⟩ := List.mem_flatten.mp hc
  rw [(List.mem_replicate.mp hl).2] at hc
  exact hx c hc
theorem lets_rep {x : Str} (hx : Lets x) {n : Nat} (hn : 1 ≤ n) : Lets (repS x n) := ⟨by
    rw [repS_cps]
    intro z
    cases n with
    | zero => (first | lia | omega)
    | succ n =>
      rw [List.replicate_succ, List.flatten_cons] at z
      exact hx.1 (List.append_eq_nil_iff.mp z).1, let0_rep hx.2 n⟩
theorem Lets.let0 {t : Str} (h : Lets t) : Let0 t := h.2
theorem Lets.ne {t : Str} (h : Lets t) : t ≠ SL := fun e => by
  subst e
  have := h.2 47 (by decide)
  (first | lia | omega)
theorem Let0.ok {t : Str} (h : Let0 t) : PyData.strOk t = true := by
  unfold PyData.strOk
  rw [Array.all_eq_true_iff_forall_mem]
  intro c hc
  have := h c (by simpa using hc)
  exact decide_eq_true (by (first | lia | omega))
theorem sl_ok : PyData.strOk SL = true := by decide +kernel
def ABC : Str := "abcdefghijklmnopqrstuvwxyz"
theorem abc_all : ∀ n : _root_.Fin 26, 97 ≤ ABC.cps.toList.getD n.val 0 ∧ ABC.cps.toList.getD n.val 0 ≤ 122 ∧ n.val < ABC.cps.toList.length := by decide
theorem abc_at {i : Int} (h0 : 0 ≤ i) (h1 : i < 26) : ∃ c, atI ABC.cps.toList i = some c ∧ 97 ≤ c ∧ c ≤ 122 := by
  obtain ⟨n, rfl⟩ := Int.eq_ofNat_of_zero_le h0
  obtain ⟨a, b, c⟩ := abc_all ⟨n, by (first | lia | omega)⟩
  refine ⟨_, atI_nat (List.getElem?_eq_getElem c), ?_, ?_⟩
  · rw [List.getD_eq_getElem?_getD, List.getElem?_eq_getElem c] at a
    exact a
  · rw [List.getD_eq_getElem?_getD, List.getElem?_eq_getElem c] at b
    exact b
theorem ints_at {ns : List Int} {k : Int} (h0 : 0 ≤ k) (h : k < (ns.length : Int)) : ∃ v : Int, atI (ns.map V.int) k = some (.int v) := by
  obtain ⟨n, rfl⟩ := Int.eq_ofNat_of_zero_le h0
  have hn : n < ns.length := by (first | lia | omega)
  exact ⟨ns[n], atI_nat (by rw [List.getElem?_map, List.getElem?_eq_getElem hn]; rfl)⟩
end Fg

namespace Fg
open PySem L2 FgM
/-! ### what the laws' own helpers promise -/
def spLaw (K : PySem.W.Frag) : Sp := fun vs H Q _ => ∃ (a : Addr) (ns : List Int), vs = [.ref a] ∧ SqL K H a (ns.map V.int) ∧ ns.length ≤ 63 ∧ ∀ H', Q (.bl true) H'
theorem len1000 {n : Nat} (h : n ≤ 100000) : n ≤ sizeLine := Nat.le_trans h (by decide)
theorem len1000' {n : Nat} (h : n ≤ 100000) : n < sizeLine := Nat.lt_of_le_of_lt h (by decide)
end Fg
namespace Fg
open PySem L2 FgM
theorem app_len (x y : Str) : (x ++ y).length = x.length + y.length := by
  show (x.cps ++ y.cps).size = _
  rw [Array.size_append]
  rfl
end Fg
namespace Fg
open PySem L2 FgM
end Fg
namespace Fg
open PySem L2 FgM
theorem cut_from (xs : List V) (n : Nat) : cutV xs (some (n : Int)) none = xs.drop n := by
  unfold cutV
  rw [HT.sIx_nat, HT.sIx_none]
  rw [List.take_of_length_le (by rw [List.length_drop]; exact Nat.le_refl _)]
  by_cases h : n ≤ xs.length
  · rw [Nat.min_eq_left h]
  · rw [Nat.min_eq_right (by (first | lia | omega)), List.drop_length, List.drop_eq_nil_of_le (by (first | lia | omega))]
theorem dp_strs {K : PySem.W.Frag} {H : Hp} : ∀ ws : List Str, DpAll K H (ws.map V.str) (ws.map PyData.str)
  | [] => .nil
  | w :: ws => .cons (.str w) (dp_strs ws)
theorem lay_strs : ∀ {ws : List Str}, (∀ w ∈ ws, PyData.strOk w = true) → PyData.canLayAll0 (ws.map PyData.str) = true
  | [], _ => rfl
  | w :: ws, h => by
    show (PyData.strOk w && PyData.canLayAll0 (ws.map PyData.str)) = true
    rw [h w (List.mem_cons_self ..), lay_strs fun x hx => h x (List.mem_cons_of_mem _ hx)]
    rfl
theorem depth_strs : ∀ ws : List Str, PyData.depthAll (ws.map PyData.str) = 0
  | [] => rfl
  | w :: ws => by
    show max (PyData.depth (.str w)) (PyData.depthAll (ws.map PyData.str)) = 0
    rw [depth_strs ws]
    rfl
end Fg
namespace Fg
open PySem L2 FgM
theorem cut_upto (xs : List V) (n : Nat) : cutV xs none (some (n : Int)) = xs.take n := by
  unfold cutV
  rw [HT.sIx_nat, HT.sIx_none, List.drop_zero, Nat.sub_zero]
  by_cases h : n ≤ xs.length
  · rw [Nat.min_eq_left h]
  · rw [Nat.min_eq_right (by (first | lia | omega)), List.take_length, List.take_of_length_le (by (first | lia | omega))]
end Fg

namespace L2
open PySem PySem.Spec PyProof.Rows
theorem strsAre_of : ∀ {ys : List Str} {us : List Value}, Vals (ys.map V.str) us → StrsAre us ys
  | [], _, .nil => .nil
  | y :: ys, _, .cons r t => by
    obtain ⟨tk, e⟩ := r
    subst e
    exact .cons y tk (strsAre_of t)
section
variable {X : Cx}
/-- sep.join(xs), a list of texts -/
def rJoin (K : PySem.W.Frag) : V → List V → Hp → VK → Prop := fun x vs H Q => ∃ z a ys, x = .str z ∧ vs = [.ref a] ∧ SqL K H a (ys.map V.str) ∧ (ys.map (·.length)).sum + ys.length * z.length ≤ 16777216 ∧ Q (.str (Txt.join z ys)) H
theorem mt_join : MtM X "str.join" (rJoin X.K) := by
  intro pins s σ H x vs v us Q I rx rv h
  obtain ⟨z, a, ys, rfl, rfl, hS, hz, q⟩ := h
  obtain ⟨t, rfl⟩ := rx
  obtain ⟨u, rfl, ru⟩ := rv.one
  cases ru
  obtain ⟨its, r, pl, _⟩ := I.list hS
  exact join_list pl.isList (by simpa using strsAre_of r) hz fun t' k => ⟨.str _, H, I.tok _, ⟨_, rfl⟩, q⟩
end
end L2
namespace Fg
open PySem L2 FgM
/-! ### groves as texts -/
def cs (x : Str) : List Nat := x.cps.toList
theorem cs_app (x y : Str) : cs (x ++ y) = cs x ++ cs y := app_cps x y
def jn (sep : Str) : List Str → List Nat
  | [] => []
  | [x] => cs x
  | x :: y :: r => cs x ++ (cs sep ++ jn sep (y :: r))
theorem cs_strJoin (sep : Str) : ∀ ys : List Str, cs (Str.join sep ys) = jn sep ys
  | [] => rfl
  | [x] => rfl
  | x :: y :: r => by
    show cs (x ++ sep ++ Str.join sep (y :: r)) = _
    rw [cs_app, cs_app, cs_strJoin sep (y :: r), List.append_assoc]
    rfl
theorem cs_join (sep : Str) (ys : List Str) : cs (Txt.join sep ys) = jn sep ys := by
  have e : Txt.join sep ys = Str.join sep ys := PySem.StrLaws.glued_eq_join sep ys
  rw [e, cs_strJoin]
/-! ### what the laws want of texts -/
end Fg

/-! Texts: their signs walked, cut and compared; all(..) of truths; the comprehension of a tag's test. -/
namespace L2
open PySem PySem.Spec PyProof.Rows
section
variable {P : Program} {w : World} {H : Hp} {h h' : Heap} {a : Addr} {o : HO}
theorem ObjOk.there (x : ObjOk P w H h a o) : ∃ ob, h.get? a = some ob := by
  cases o with
  | lst xs => obtain ⟨_, _, _, _, e⟩ := x; exact ⟨_, e⟩
  | tup xs => obtain ⟨_, _, _, ob, e, _⟩ := x; exact ⟨_, e⟩
  | dK kvs => obtain ⟨_, _, _, _, ob, _, _, e, _⟩ := x; exact ⟨_, e⟩
  | dT kvs => obtain ⟨_, _, _, _, ob, _, _, e, _⟩ := x; exact ⟨_, e⟩
  | set S n => obtain ⟨ob, _, _, _, e, _⟩ := x; exact ⟨_, e⟩
  | ins C dx fs => obtain ⟨_, _, _, e, _⟩ := x; exact ⟨_, e⟩
  | own y => obtain ⟨_, e⟩ := x; exact ⟨_, e⟩
  | xd fs => obtain ⟨_, ⟨_, _, _, e, _⟩, _⟩ := x; exact ⟨_, e⟩
  | rng lo hi => obtain ⟨_, _, _, e⟩ := x; exact ⟨_, e⟩
  | frz ob u => obtain ⟨e, _⟩ := x; exact ⟨_, e⟩
  | tbl ps => exact ⟨_, (show h.get? a = some _ from x)⟩
  | met f y => exact ⟨_, (show h.get? a = some _ from x)⟩
  | ext φ => obtain ⟨_, ⟨_, e⟩, _⟩ := x; exact ⟨_, e⟩
theorem HOk.freshN (x : HOk P w H h) (e : h.get? a = none) : H a = none := by
  cases q : H a with
  | none => rfl
  | some u =>
    obtain ⟨ob, e'⟩ := (x a u q).there
    rw [e] at e'
    cases e'
end
section
variable {X : Cx} {pins : List (Addr × Obj)} {σ : St} {H : Hp} {s : Shared} {h' : Heap}
/-- a new object laid at an address where none stood -/
theorem Inv.laidN {a : Addr} {o : HO} {t' : Nat} (I : Inv X pins σ H s) (k : ∀ b u, s.heap.get? b = some u → h'.get? b = some u) (hp : s.heap.get? a = none) (new : ObjOk X.prog X.w (upd H a o) h' a o) :
    Inv X pins σ (upd H a o) { s with heap := h', toks := t' } := by
  have hn := I.hok.freshN hp
  have ne : ∀ b u, s.heap.get? b = some u → b ≠ a := fun b u e z => by
    rw [z, hp] at e
    cases e
  refine I.un ⟨fun b u q _ _ _ => k b u q, fun b u q _ _ _ => ⟨u.slots, k b u q⟩, fun b u q n _ => by rw [upd_ne (ne b u q)]; exact n, fun b u q _ => ⟨u, k b u q⟩,
    fun b xs q => by rw [upd_ne (ne_of_none q hn)]; exact q, fun b u xs q => by rw [upd_ne (ne_of_none q hn)]; exact q, fun b ps q => ⟨#[], by rw [upd_ne (ne_of_none q hn), q]; simp⟩⟩ fun b u e => ?_
  by_cases hb : b = a
  · subst hb
    rw [upd_same] at e
    cases e
    exact new
  · rw [upd_ne hb] at e
    exact (I.hok b u e).stay (fun c v _ q => k c v q) (fun c q => by rw [upd_ne (ne_of_none q hn)]; exact q) fun c xs q => by rw [upd_ne (ne_of_none q hn)]; exact q
end
/-! ### for x in text -/
def Its (z : Str) : It := ⟨fun i _ => i < z.cps.size, fun i H x H' => H' = H ∧ ∃ c, z.cps[i]? = some c ∧ x = .str ⟨#[c]⟩, fun i _ => z.cps.size ≤ i⟩
def Asc (z : Str) : Prop := z.cps.all (· < 128) = true
theorem turn_str {P : Program} {w : World} {K : PySem.W.Frag} {tg : Expr} (z : Str) (t : Tok) (it : Addr) : Turn P w K tg (Its z) [it] it (fun i h => h.IsStrIter it "str_ascii_iterator" z t i) where
  mem := by simp
  obj := fun i h st b hb => by
    have e : b = it := by simpa using hb
    subst e
    obtain ⟨o, e, c, d⟩ := st
    exact ⟨o, e, fun v y => by rw [d] at y; cases y⟩
  keep := fun i h h' st k => by
    obtain ⟨o, e, r⟩ := st
    exact ⟨o, k it (by simp) o e, r⟩
  item := by
    intro X hP hw hK hc i pins s σ H E I hf st hg
    subst hP hw hK
    have hg' : i < z.cps.size := hg
    obtain ⟨f0, f1, f2, f3, f4, f5⟩ := hf it (by simp)
    have hx : z.cps[i]? = some z.cps[i] := Array.getElem?_eq_getElem hg'
    refine wpAny_pyNext_ascii_item st hx fun h' st' sb => ?_
    have I1 : Inv X pins σ H { s with heap := h', toks := s.toks + 1 } := I.turned (t' := s.toks + 1) (fun b o hb e => (sb.2 b hb).trans e) f0 f1 f3 f4 f5
    obtain ⟨o, e, c, d⟩ := id st'
    exact ⟨_, rfl, go_of (s := { s with heap := h', toks := s.toks + 1 }) e c d (by decide) ⟨.str _, H, I1, ⟨_, rfl⟩, ⟨rfl, _, hx, rfl⟩, st', fun b hb => (hf b hb).1⟩⟩
  done := by
    intro X hP hw hK hc i pins s σ H E I hf st hg
    subst hP hw hK
    have hg' : z.cps.size ≤ i := hg
    obtain ⟨f0, f1, f2, f3, f4, f5⟩ := hf it (by simp)
    exact wpAny_pyNext_ascii_end (I.ok.hd hc) st (Array.getElem?_eq_none hg') fun h' eb => ⟨rfl, I.turned (t' := s.toks) (fun b o hb e => eb b o hb e) f0 f1 f3 f4 f5⟩
  self := fun _ _ _ _ _ st h => wpAny_pyIter_striter_ascii st h
section
variable {X : Cx} {tg : Expr}
def iStr (tl : TE) : TI := fun σ H R => tl σ H fun x H1 => ∃ z, x = .str z ∧ Asc z ∧ R (Its z) H1
theorem pi_str {l : Expr} {tl : TE} (hl : PE X l tl) : PI X tg l (iStr tl) := by
  intro pins s σ H R I h
  refine thn (hl pins s σ H _ I h) fun v s1 ⟨x, H1, I1, r1, q1⟩ => ?_
  obtain ⟨z, e, ha, q⟩ := q1
  subst e
  obtain ⟨t, rfl⟩ := r1
  refine wpAny_pyIter_ascii ha ⟨s1.heap.objs.size, [s1.heap.objs.size], _, _, H1, rfl, I1.kept (t' := s1.toks) fun b o e => Heap.get?_push_of_some _ e, turn_str z t _, ⟨_, Heap.get?_push_size _ rfl, rfl, rfl⟩, fun b hb => ?_, q⟩
  have e : b = s1.heap.objs.size := by simpa using hb
  subst e
  exact I1.fpOk (Nat.le_refl _) (I1.hok.fresh (Nat.le_refl _))
end
/-! ### all(..), texts compared and cut -/
section
variable {X : Cx}
theorem boolsGet : ∀ {bs : List Bool} {us : List Value}, Vals (bs.map V.bl) us → ∀ (i : Nat) (v : Value), us[i]? = some v → ∃ b, bs[i]? = some b ∧ v = .bool b
  | [], _, .nil, i, v, e => by simp at e
  | b :: bs, _, .cons r t, 0, v, e => by
    obtain rfl : _ = Value.bool b := r
    simp at e
    exact ⟨b, rfl, e.symm⟩
  | b :: bs, _, .cons r t, i + 1, v, e => by
    obtain ⟨c, h1, h2⟩ := boolsGet t i v (by simpa using e)
    exact ⟨c, by simpa using h1, h2⟩
theorem all_range : ∀ (bs : List Bool), ((List.range bs.length).all fun i => (bs[i]?).getD true) = bs.all id := by
  intro bs
  rw [Bool.eq_iff_iff, List.all_eq_true, List.all_eq_true]
  constructor
  · intro h b hb
    obtain ⟨i, hi, rfl⟩ := List.getElem_of_mem hb
    have := h i (List.mem_range.mpr hi)
    rw [List.getElem?_eq_getElem hi] at this
    exact this
  · intro h i hi
    have hi' := List.mem_range.mp hi
    rw [List.getElem?_eq_getElem hi']
    exact h _ (List.getElem_mem hi')
theorem call_all (hc : X.calm = true) : CallR X (.builtin "all") (fun xs H Q => ∃ (p : Addr) (bs : List Bool), xs = [.ref p] ∧ SqL X.K H p (bs.map V.bl) ∧ Q (.bl (bs.all id)) H) := by
  intro pins s σ H xs us Q I r h
  obtain ⟨p, bs, rfl, hS, q⟩ := h
  obtain ⟨u, rfl, ru⟩ := Vals.one r
  cases ru
  obtain ⟨its, rv, pl, hz⟩ := I.list hS
  have hl := pl.isList
  have hlen : bs.length = its.length := by
    have := rv.length
    rw [List.length_map] at this
    exact this
  refine call_all_walk (wpAny_pyIter_list hl ⟨s.heap.objs.size, [s.heap.objs.size, p], [s.heap.objs.size], its.toArray.size, _, _, fun i => (bs[i]?).getD true, rfl,
    Walks.list (A := X.A.in1) (I.ok.hd hc) _ p (Nat.ne_of_lt pl.lt) its.toArray, ⟨⟨_, Heap.get?_push_size _ rfl, rfl, rfl⟩, hl.push _⟩, fun i v s' Q' E' hP hQ => ?_, fun h' tk hk => ?_⟩)
  · obtain ⟨b, e, e2⟩ := boolsGet rv i v (by simpa using hP)
    subst e2
    simp only [e, Option.getD_some] at hQ
    exact wpAny_truthy_bool hQ
  · rw [List.size_toArray, ← hlen, all_range]
    refine ⟨.bl _, H, I.kept (t' := tk) fun b o e => hk b o (fun hm => ?_) (Heap.get?_push_of_some _ e), rfl, q⟩
    rw [List.mem_singleton.mp hm] at e
    exact Nat.lt_irrefl _ (Heap.lt_size e)
theorem sl_str : SlR X (fun x lo hi H Q => ∃ z, x = .str z ∧ z.length ≤ sizeLine ∧ Q (.str (PySem.StrLaws.sliceText z lo hi)) H) := by
  intro pins s σ H x v vl vu lo hi sl Q I rx hs pl pu h
  obtain ⟨z, rfl, hz, q⟩ := h
  obtain ⟨t, rfl⟩ := rx
  refine ⟨"str", _, F.slot_str_getitem.lookup, typeIs_str s z t, ?_⟩
  have key : ∀ l u : Option (Int × Tok), s.heap.IsSlice sl l u none → l.map (·.1) = lo → u.map (·.1) = hi → wpAny (model X.prog X.w) X.A (getItem (.str z t) (.ref sl)) (EP X pins σ Q) X.xe s := by
    intro l u hsl el eu
    refine wpAny_getItem_str_slice hsl rfl ?_
    unfold sliceMade slicePicked
    rw [el, eu]
    unfold PySem.StrLaws.sliceText at q
    by_cases c : ((1 : Int) == 1 && (Builtin.Str.strSliceIndices lo hi 1 z.length).length == z.length) = true
    · rw [if_pos c] at q
      rw [if_pos (show ((((none : Option (Int × Tok)).map (·.1)).getD 1 == 1) && (Builtin.Str.strSliceIndices lo hi (((none : Option (Int × Tok)).map (·.1)).getD 1) z.length).length == z.length) = true from c)]
      exact ⟨.str z, H, I, ⟨_, rfl⟩, q⟩
    · rw [if_neg c] at q
      rw [if_neg (show ¬ ((((none : Option (Int × Tok)).map (·.1)).getD 1 == 1) && (Builtin.Str.strSliceIndices lo hi (((none : Option (Int × Tok)).map (·.1)).getD 1) z.length).length == z.length) = true from c)]
      refine ⟨?_, .str _, H, I.tok _, ⟨_, rfl⟩, q⟩
      show (((Builtin.Str.strSliceIndices lo hi 1 z.length).filterMap (z.cps[·]?)).toArray).size ≤ sizeLine
      rw [List.size_toArray]
      refine Nat.le_trans (List.length_filterMap_le _ _) (Nat.le_trans ?_ hz)
      refine sliceRange_length_le _ _ _ _ (fun _ => ?_) (fun z => absurd (by decide) z)
      cases lo with
      | none =>
        cases hi with
        | none => exact ⟨Int.le_refl 0, Int.le_refl _⟩
        | some j => exact ⟨Int.le_refl 0, by simp only [show (1 : Int) > 0 by decide, if_true]; (first | lia | omega)⟩
      | some i =>
        cases hi with
        | none => exact ⟨by simp only [show (1 : Int) > 0 by decide, if_true]; (first | lia | omega), Int.le_refl _⟩
        | some j => exact ⟨by simp only [show (1 : Int) > 0 by decide, if_true]; (first | lia | omega), by simp only [show (1 : Int) > 0 by decide, if_true]; (first | lia | omega)⟩
  cases pl with
  | none =>
    cases pu with
    | none => exact key none none hs rfl rfl
    | int j tj => exact key none (some (j, tj)) hs rfl rfl
  | int i ti =>
    cases pu with
    | none => exact key (some (i, ti)) none hs rfl rfl
    | int j tj => exact key (some (i, ti)) (some (j, tj)) hs rfl rfl
end
/-! ### ['a' <= x <= 'z' for x in text] -/
def azB (c : Nat) : Bool := decide (97 ≤ c) && decide (c ≤ 122)
theorem lt_one (a b : Nat) : decide (([a] : List Nat) < [b]) = decide (a < b) := by
  have h : (([a] : List Nat) < [b]) ↔ a < b := by
    constructor
    · intro h
      cases h with
      | rel h => exact h
      | cons h => cases h
    · intro h
      exact List.Lex.rel h
  exact decide_eq_decide.mpr h
section
variable {prog : Program} {w : World} {A : Around} {E : Value → Shared → Prop} {s : Shared}
theorem le_az {x y : Str} {t u : Tok} {Q : Value → Shared → Prop} (h : Q (.bool (!decide (y.cps.toList < x.cps.toList))) s) : wpAny (model prog w) A (compareOp .LtE (.str x t) (.str y u)) Q E s := PySem.P.le_str h
theorem ld_az {s₂ : Shared} {C : Addr} {m : Str → Option Value} {sc : Scope} {env : Env} {n : Str} {pos : Pos} {v : Value} {Q : Value → Shared → Prop} (x : InComp s₂ C m s) (hk : sc.kind = .function) (hl : sc.names.lookup n = some .local)
    (hv : m n = some v) (hd : (n == ("__debug__" : Str)) = false) (h : Q v s) : wpAny (model prog w) A (eval (.Name n pos) (compEnv sc C env)) Q E s := PySem.ldK x hk hl hv h hd
theorem elt_az {scope : Scope} {C : Addr} {env : Env} {m : Str → Option Value} {x : Str} {c : Nat} {u : Tok} {j j2 : Nat} {p1 p2 p3 pos : Pos} (hk : scope.kind = .function) (hx : scope.names.lookup x = some .local) (hd : (x == ("__debug__" : Str)) = false)
    (hn : s.heap.Ns C m) (hm : m x = some (.str ⟨#[c]⟩ u)) :
    wpAny (model prog w) A (eval (.Compare (.Constant (.str "a") j p1) [.LtE, .LtE] [.Name x p2, .Constant (.str "z") j2 p3] pos) (compEnv scope C env)) (fun r s' => r = .bool (azB c) ∧ Keeps s s') E s := by
  have I0 := (InComp.start hn).tok (s.toks + 1)
  have ea : ("a" : Str).cps.toList = [97] := by decide +kernel
  have ez : ("z" : Str).cps.toList = [122] := by decide +kernel
  have e1 : decide (([c] : List Nat) < [97]) = decide (c < 97) := lt_one c 97
  have e2 : decide (([122] : List Nat) < [c]) = decide (122 < c) := lt_one 122 c
  refine Compare_chain (Calls.Constant_str ?_)
  refine chain_link ?_
  refine ld_az I0 hk hx hm hd ?_
  refine le_az ?_
  rw [ea]
  show wpAny (model prog w) A (truthy (.bool (!decide (([c] : List Nat) < [97])))) _ _ _
  rw [e1]
  refine wpAny_truthy_bool ?_
  by_cases h1 : c < 97
  · rw [decide_eq_true h1]
    refine ite_ff ⟨?_, I0.done⟩
    unfold azB
    rw [decide_eq_false (by (first | lia | omega) : ¬ 97 ≤ c)]
    rfl
  · rw [decide_eq_false h1]
    refine ite_tt ?_
    refine chain_last ?_
    refine Calls.Constant_str ?_
    refine le_az ?_
    rw [ez]
    refine ⟨?_, (I0.tok _).done⟩
    show Value.bool (!decide (([122] : List Nat) < [c])) = _
    rw [e2]
    unfold azB
    rw [decide_eq_true (by (first | lia | omega) : 97 ≤ c)]
    by_cases h2 : c ≤ 122
    · rw [decide_eq_true h2, decide_eq_false (by (first | lia | omega))]
      rfl
    · rw [decide_eq_false h2, decide_eq_true (by (first | lia | omega))]
      rfl
end
theorem azVals : ∀ {cs : List Nat} {vs us : List Value}, (∀ (j : Nat) (v : Value), vs[j]? = some v → ∃ (c : Nat) (u : Tok), cs[j]? = some c ∧ v = Value.str ⟨#[c]⟩ u) → vs.length = cs.length → Paired (fun v r => ∃ c u, v = Value.str ⟨#[c]⟩ u ∧ r = Value.bool (azB c)) vs us →
    Vals (cs.map fun c => .bl (azB c)) us
  | [], [], _, _, _, .nil => .nil
  | [], v :: vs, _, _, h, _ => by simp at h
  | c :: cs, [], _, _, h, _ => by simp at h
  | c :: cs, v :: vs, _, hP, hl, .cons hr t => by
    obtain ⟨c', u', e1, e2⟩ := hP 0 v rfl
    obtain ⟨c2, u2, e3, e4⟩ := hr
    simp at e1
    subst e1
    rw [e2] at e3
    injection e3 with e5 _
    injection e5 with e6
    simp at e6
    subst e6
    refine .cons e4 (azVals (fun j v hv => ?_) (by simpa using hl) t)
    obtain ⟨c3, u3, f1, f2⟩ := hP (j + 1) v (by simpa using hv)
    exact ⟨c3, u3, by simpa using f1, f2⟩
section
variable {X : Cx} {iter : Expr} {te : TE} {scope : Scope} {x : Str} {px p1 p2 p3 p4 pos : Pos} {j j2 : Nat}
theorem pe_comp_az (hi : PE X iter te) (hc : X.calm = true) (hfree : ∀ y ∈ scope.names, y.2 ≠ .free) (hcell : ∀ y ∈ scope.names, y.2 ≠ .cell) (hk : scope.kind = .function)
    (hnames : ∀ y ∈ scope.names, y.2 = .local → scope.names.lookup y.1 = some .local) (hx : scope.names.lookup x = some .local) (hd : (x == ("__debug__" : Str)) = false) (hs : ∀ v, foldedSetIterable iter X.env v = pure v) :
    PE X (.ListComp (.Compare (.Constant (.str "a") j p1) [.LtE, .LtE] [.Name x p2, .Constant (.str "z") j2 p3] p4) [⟨.Name x px, iter, [], 0⟩] scope pos)
      (fun σ H Q => te σ H fun v H1 => ∃ z, v = .str z ∧ z.length ≤ sizeLine ∧ ∀ p, H1 p = none → Q (.ref p) (upd H1 p (.lst (z.cps.toList.map fun c => .bl (azB c))))) := by
  intro pins s σ H Q I h
  refine wpAny_ListComp_walk (fun _ => true) (fun v r => ∃ c u, v = Value.str ⟨#[c]⟩ u ∧ r = Value.bool (azB c)) hfree hcell hk hnames hx (thn (hi pins s σ H _ I h) fun v s1 ⟨xv, H1, I1, r1, q1⟩ => ?_) hs
  obtain ⟨z, rfl, hz, q⟩ := q1
  obtain ⟨t, rfl⟩ := r1
  refine wpAny_pyIter_str fun o St W hst => ⟨s1.heap.objs.size, [s1.heap.objs.size], [s1.heap.objs.size], z.cps.size, SignAt z, St, rfl, W X.A (I1.ok.hd hc), hz, hst, fun b hb => ?_, ⟨?_, ?_⟩, ?_⟩
  · show b < (s1.heap.push o).objs.size
    rw [Heap.size_push, List.mem_singleton.mp hb]
    exact Nat.lt_succ_self _
  · intro C i v s3 m3 E' hP hn hm _ _
    exact wpAny_pure ⟨rfl, (InComp.start hn).done⟩
  · intro C i v s3 m3 E' hP hp hn hm _ _
    obtain ⟨c, u, _, e⟩ := hP
    subst e
    exact wpAny_mono (elt_az hk hx hd hn hm) (fun r s4 h4 => ⟨⟨c, u, rfl, h4.1⟩, h4.2⟩) fun _ _ e => e
  · intro D h' tk ys vs hnew hlD hplD hlen hP hF hkp
    have hF' : Paired (fun v r => ∃ c u, v = Value.str ⟨#[c]⟩ u ∧ r = Value.bool (azB c)) vs ys.toList := by
      rw [List.filter_eq_self.mpr (fun _ _ => rfl)] at hF
      exact hF
    have hV := azVals (cs := z.cps.toList) (fun j v hv => by
      obtain ⟨c, u, e1, e2⟩ := hP j v hv
      exact ⟨c, u, by rw [Array.getElem?_toList]; exact e1, e2⟩) (by rw [hlen, Array.length_toList]) hF'
    have up : ∀ b ob, s1.heap.get? b = some ob → h'.get? b = some ob := fun b ob e => hkp b ob (fun hm => by
      rw [List.mem_singleton.mp hm] at e
      exact Nat.lt_irrefl _ (Heap.lt_size e)) (Heap.get?_push_of_some _ e)
    have hD : s1.heap.get? D = none := by
      cases e : s1.heap.get? D with
      | none => rfl
      | some ob =>
        rw [Heap.get?_push_of_some _ e] at hnew
        cases hnew
    obtain ⟨nD, eD⟩ := hplD
    refine ⟨.ref D, _, I1.laidN (a := D) (o := .lst (z.cps.toList.map fun c => .bl (azB c))) (t' := tk) up hD ⟨?_, ys.toList, nD, hV, by rw [Array.toArray_toList]; exact eD⟩, rfl, q D (I1.hok.freshN hD)⟩
    rw [List.length_map, Array.length_toList]
    exact hz
end
end L2

namespace L2
open PySem
theorem bt_all : bootBuiltins "all" = some (.builtin "all") := by decide +kernel
end L2
namespace Fg
open PySem L2 FgM
def tagB (z : Str) : Bool := decide (1 ≤ z.length) && decide (z.length ≤ 8) && z.cps.toList.all azB
def spIsTag : Sp := fun vs H Q _ => ∃ z : Str, vs = [.str z] ∧ z.length ≤ 100000 ∧ ∀ H', Same H H' → Q (.bl (tagB z)) H'
def AscL (z : Str) : Prop := ∀ c ∈ z.cps.toList, c < 128
theorem AscL.asc {z : Str} (h : AscL z) : Asc z := by
  unfold Asc
  rw [Array.all_eq_true_iff_forall_mem]
  intro c hc
  exact decide_eq_true (h c (by simpa using hc))
theorem Let0.ascL {z : Str} (h : Let0 z) : AscL z := fun c hc => by
  have := h c hc
  (first | lia | omega)
theorem notin_all : ∀ c : _root_.Fin 128, (Builtin.Str.occurrences ABC ⟨#[c.val]⟩ 0 ABC.length 1).isEmpty = !azB c.val := by decide +kernel
theorem notin_az {c : Nat} (h : c < 128) : (Builtin.Str.occurrences ABC ⟨#[c]⟩ 0 ABC.length 1).isEmpty = !azB c := notin_all ⟨c, h⟩
end Fg

/-! for i, x in enumerate(xs) -/
namespace L2
open PySem PySem.Spec PyProof.Rows
end L2

/-! [elt for tg in iter]: the block as a context of its own -/
namespace L2
open PySem PySem.Spec PyProof.Rows
section
variable {prog : Program} {w : World} {A : Around} {s : Shared} {R : Result → Shared → Prop}
abbrev no0 : Value → Shared → Prop := fun _ _ => False
theorem comp_loop0 {elt target iter : Expr} {scope : Scope} {pos : Pos} {it acc : Value} {env : Env} (I : Nat → Shared → Prop)
    (turn : ∀ n s, I n s → wpAny (model prog w) A (pyNext it) (fun r s1 => match r with
      | none => R (.ok .next) s1
      | some v => wpAny (model prog w) A (letOwnedTupleGo target it v) (fun _ s2 => wpAny (model prog w) A (assign target env v) (fun _ s3 => wpAny (model prog w) A (eval elt env) (fun x s4 =>
          wpAny (model prog w) A (call (.builtin "list.append") [acc, x]) (fun _ s5 => ∃ m, m < n ∧ I m s5) no0 s4) no0 s3) no0 s2) no0 s1) no0 s)
    (n : Nat) (h : I n s) : codeAny (model prog w) A (.compLoop (.ListComp elt [⟨target, iter, [], 0⟩] scope pos) 0 it acc env) R s := by
  refine codeAny_loop rfl I (fun n s hI => ?_) n h
  show wpAny _ _ ((compTurn (.ListComp elt [⟨target, iter, [], 0⟩] scope pos) 0 it acc env).onRaise (fun x => do noteFrame x env; theTreesLotGoes x)) _ _ s
  refine wpAny_noted ?_
  rw [compTurn_list1]
  refine wpAny_bind (wpAny_standAt (wpAny_bind (wpAny_mono (turn n s hI) (fun r s1 h1 => ?_) fun _ _ h' => h'.elim)))
  cases r with
  | none => exact wpAny_pure h1
  | some v =>
    refine wpAny_bind (wpAny_mono h1 (fun _ s2 h2 => ?_) fun _ _ h' => h'.elim)
    refine wpAny_bind (wpAny_mono h2 (fun _ s3 h3 => ?_) fun _ _ h' => h'.elim)
    refine wpAny_bind (wpAny_bind (wpAny_mono h3 (fun x s4 h4 => ?_) fun _ _ h' => h'.elim))
    exact wpAny_bind (wpAny_mono h4 (fun _ s5 h5 => wpAny_pure (wpAny_pure ⟨rfl, h5⟩)) fun _ _ h' => h'.elim)
end
/-- the context of a comprehension's block: its frame at C, the cells cl of captured names, the iterator's records fp -/
def cxComp (X : Cx) (N : List Str) (scope : Scope) (cl : List (Str × Addr)) (C : Addr) (fp : List Addr) (s : Shared) (H : Hp) : Cx where
  prog := X.prog
  w := X.w
  K := X.K
  mg := X.mg
  base := X.base
  A := X.A
  N := N
  s₀ := s
  H₀ := H
  env := compEnvC scope cl C X.env
  outer := X.stack
  stack := X.stack
  ex := fp
  fn := fun _ => false
  calm := X.calm
  pn := []
  xe := no0
section
variable {X : Cx} {pins : List (Addr × Obj)} {σ : St} {H : Hp} {s : Shared}
theorem cxComp_ok {N : List Str} {scope : Scope} {cl : List (Str × Addr)} {C : Addr} {fp : List Addr} (I : Inv X pins σ H s) (hk : scope.kind = .function) (hC : s.heap.objs.size ≤ C) (hcl : ∀ x c, cl.lookup x = some c → X.env.cells.lookup x = some c)
    (hhas : ∀ x, ((compEnvC scope cl C X.env).kindOf x = some .cell ∨ (compEnvC scope cl C X.env).kindOf x = some .free) → ∃ c, cl.lookup x = some c)
    (hf : ∀ b ∈ fp, FpOk X pins H b) (hlt : ∀ b ∈ fp, b < s.heap.objs.size) : (cxComp X N scope cl C fp s H).Ok where
  mod := I.ok.mod
  kind := hk
  glob := I.ok.glob
  blt := I.ok.blt
  above := hC
  inj := fun x y c e1 e2 => I.ok.inj x y c (hcl x c e1) (hcl y c e2)
  has := hhas
  cab := fun x c e => by cases e
  hd := I.ok.hd
  frames := I.ok.frames
  stk := .inl rfl
  exf := fun b hb => ⟨fun z => absurd (Nat.lt_of_lt_of_le (hlt b hb) hC) (by rw [show b = C from z]; exact Nat.lt_irrefl _), fun x c e => (hf b hb).2.2.2.2.1 x c (hcl x c e)⟩
  bs := fun b o e => ⟨(I.bs b o e).1, (I.bs b o e).2⟩
  bsz := Nat.le_trans I.ok.bsz I.sz
  noex := fun b o e hb => by
    rcases (hf b hb).2.2.2.1 with z | z
    · exact I.ok.noex b o e z
    · exact absurd (Nat.lt_of_lt_of_le (Heap.lt_size e) (Nat.le_trans I.ok.bsz z)) (Nat.lt_irrefl _)
  exfs := fun b hb hm => by
    rcases List.mem_cons.mp (I.stkSub b hm) with z | z
    · exact (hf b hb).2.1 z
    · exact (hf b hb).2.2.1 z
  funs := I.stack
  frf := I.stkFree
/-- the values of the block's names at its start: the targets' none, the captured ones' as they stand -/
def capσ (σ : St) (k : Nat) (cap : List (Str × Nat)) : St := List.replicate k none ++ cap.map fun p => (σ[p.2]?).getD none
theorem cxComp_start {scope : Scope} {cl : List (Str × Addr)} {fp : List Addr} {tn : List Str} {cap : List (Str × Nat)} {h1 : Heap} (I : Inv X pins σ H s) (hk : scope.kind = .function) (hcl : ∀ x c, cl.lookup x = some c → X.env.cells.lookup x = some c)
    (hhas : ∀ x, ((compEnvC scope cl s.heap.objs.size X.env).kindOf x = some .cell ∨ (compEnvC scope cl s.heap.objs.size X.env).kindOf x = some .free) → ∃ c, cl.lookup x = some c)
    (hf : ∀ b ∈ fp, FpOk X pins H b) (hlt : ∀ b ∈ fp, b < s.heap.objs.size)
    (hcap : ∀ p ∈ cap, X.N[p.2]? = some p.1 ∧ X.env.scope.names.lookup p.1 = some .cell ∧ ((compEnvC scope cl s.heap.objs.size X.env).kindOf p.1 = some .cell ∨ (compEnvC scope cl s.heap.objs.size X.env).kindOf p.1 = some .free))
    (hns : h1.Ns s.heap.objs.size (fun _ => none)) (hkp : ∀ b o, s.heap.get? b = some o → h1.get? b = some o) :
    Inv (cxComp X (tn ++ cap.map (·.1)) scope cl s.heap.objs.size fp s H) [] (capσ σ tn.length cap) H { s with heap := h1 } where
  ok := cxComp_ok I hk (Nat.le_refl _) hcl hhas hf hlt
  os := rfl
  bare := I.bare
  base := Un.kept hkp
  loc := by
    refine ⟨fun _ => none, hns, fun i x v e1 e2 hv => ?_⟩
    unfold capσ at e2
    by_cases hi : i < tn.length
    · rw [List.getElem?_append_left (by rw [List.length_replicate]; exact hi), List.getElem?_replicate, if_pos hi] at e2
      cases e2
    · have hN : (cap.map (·.1))[i - tn.length]? = some x := by
        have : (tn ++ cap.map (·.1))[i]? = some x := e1
        rw [List.getElem?_append_right (by (first | lia | omega))] at this
        exact this
      rw [List.getElem?_append_right (by rw [List.length_replicate]; (first | lia | omega)), List.length_replicate, List.getElem?_map] at e2
      rw [List.getElem?_map] at hN
      cases hp : cap[i - tn.length]? with
      | none => rw [hp] at hN; cases hN
      | some p =>
        rw [hp] at hN e2
        have hx : p.1 = x := Option.some.inj hN
        have he : (σ[p.2]?).getD none = some v := Option.some.inj e2
        obtain ⟨c1, c2, c3⟩ := hcap p (List.mem_of_getElem? hp)
        subst hx
        have hs : σ[p.2]? = some (some v) := by
          cases q : σ[p.2]? with
          | none => rw [q] at he; cases he
          | some z => rw [q] at he; rw [show z = some v from he]
        obtain ⟨m, hn, hl⟩ := I.loc
        obtain ⟨u, r, l⟩ := hl p.2 p.1 v c1 hs (.inr (.inl c2))
        refine ⟨u, r, .inr ⟨c3, ?_⟩⟩
        obtain ⟨c, hc⟩ := hhas p.1 c3
        refine ⟨c, hc, ?_⟩
        rcases l with ⟨l1, _⟩ | ⟨_, c', l2, o, ho, hd⟩
        · have : X.env.kindOf p.1 = some .cell := c2
          rw [this] at l1
          cases l1
        · have : c = c' := Option.some.inj ((hcl p.1 c hc).symm.trans l2)
          subst this
          exact ⟨o, hkp _ _ ho, hd⟩
  cell := fun x c e => by
    obtain ⟨v, o, ho, hd⟩ := I.cell x c (hcl x c e)
    exact ⟨v, o, hkp _ _ ho, hd⟩
  free := I.hok.fresh (Nat.le_refl _)
  freeC := fun x c e => I.freeC x c (hcl x c e)
  pin := fun p hp => by cases hp
  hok := I.hok.kept hkp
  len := by
    unfold capσ
    show _ = (tn ++ cap.map (·.1)).length
    rw [List.length_append, List.length_append, List.length_replicate, List.length_map, List.length_map]
end
end L2

namespace L2
open PySem PySem.Spec PyProof.Rows
/-- a comprehension's reading: W by the turn, a measure, the items so far, the block's names, the heap; p: the list under way -/
def tComp (wi : TI) (k : Nat) (cap : List (Str × Nat)) (g : TG) (te : TE) : TE := fun σ H Q => wi σ H fun J H1 => ∀ p, H1 p = none → ∃ W : Nat → Nat → List V → St → Hp → Prop, (∃ m, W 0 m [] (capσ σ k cap) (upd H1 p (.lst []))) ∧
  ∀ i m ys σc H2, W i m ys σc H2 → H2 p = some (.lst ys) ∧ ((J.stop i H2 ∧ Q (.ref p) H2) ∨ (J.go i H2 ∧ ∀ x H3, J.yld i H2 x H3 → g x σc H3 fun σ3 H4 => te σ3 H4 fun v H5 =>
    H5 p = some (.lst ys) ∧ ys.length < sizeLine ∧ ∃ m', m' < m ∧ W (i + 1) m' (ys ++ [v]) σ3 (upd H5 p (.lst (ys ++ [v])))))
section
variable {X : Cx} {elt iter tg : Expr} {scope : Scope} {pos : Pos} {wi : TI} {g : TG} {te : TE} {cl : List (Str × Addr)}
theorem comp_core0 {pins : List (Addr × Obj)} {σ : St} {H2 : Hp} {s2 : Shared} {it : Addr} {fp : List Addr} {tnn : Nat → Heap → Prop} {J : It} {R : Addr → Hp → Prop} {use : Option (Value → Sem Unit)} {Qp : Value → Shared → Prop} (tn : List Str) (cap : List (Str × Nat)) (hg : ∀ C fp s H, PG (cxComp X (tn ++ cap.map (·.1)) scope cl C fp s H) tg g) (he : ∀ C fp s H, PE (cxComp X (tn ++ cap.map (·.1)) scope cl C fp s H) elt te) (hc : X.calm = true) (hcell : ∀ y ∈ scope.names, y.2 ≠ .cell) (hk : scope.kind = .function) (hcl : ∀ x c, cl.lookup x = some c → X.env.cells.lookup x = some c) (hhas : ∀ C x, ((compEnvC scope cl C X.env).kindOf x = some .cell ∨ (compEnvC scope cl C X.env).kindOf x = some .free) → ∃ c, cl.lookup x = some c) (hcap : ∀ C, ∀ p ∈ cap, X.N[p.2]? = some p.1 ∧ X.env.scope.names.lookup p.1 = some .cell ∧ ((compEnvC scope cl C X.env).kindOf p.1 = some .cell ∨ (compEnvC scope cl C X.env).kindOf p.1 = some .free))
    (I2 : Inv X pins σ H2 s2) (T : Turn X.prog X.w X.K tg J fp it tnn) (st2 : tnn 0 s2.heap) (f2 : ∀ b ∈ fp, FpOk X pins H2 b) (q2 : ∀ p, H2 p = none → ∃ W : Nat → Nat → List V → St → Hp → Prop, (∃ m, W 0 m [] (capσ σ tn.length cap) (upd H2 p (.lst []))) ∧
  ∀ i m ys σc H2, W i m ys σc H2 → H2 p = some (.lst ys) ∧ ((J.stop i H2 ∧ R p H2) ∨ (J.go i H2 ∧ ∀ x H3, J.yld i H2 x H3 → g x σc H3 fun σ3 H4 => te σ3 H4 fun v H5 => H5 p = some (.lst ys) ∧ ys.length < sizeLine ∧ ∃ m', m' < m ∧ W (i + 1) m' (ys ++ [v]) σ3 (upd H5 p (.lst (ys ++ [v]))))))
    (hfin : ∀ (s3 : Shared) (H3 : Hp), Inv X pins σ H3 s3 → (∀ b ∈ fp, FpOk X pins H3 b) → ∀ (acc : Addr) (σ6 : St) (H6 : Hp) (s6 : Shared), Inv (cxComp X (tn ++ cap.map (·.1)) scope cl s3.heap.objs.size fp s3 H3) [] σ6 H6 s6 → R acc H6 → compPost (model X.prog X.w) X.A X.xe use Qp (.ref acc) s3.heap.objs.size (.ok .next) s6) :
    wpAny (model X.prog X.w) X.A (newList []) (fun acc s₃ => wpAny (model X.prog X.w) X.A (newFunctionEnv scope X.env.globals cl [] X.env.qual none Value.none (some X.env)) (fun cenv s₄ => codeAny (model X.prog X.w) X.A (Code.compStart (.ListComp elt [⟨tg, iter, [], 0⟩] scope pos) 0 (Value.ref it) acc { cenv with scope := relabel scope X.env }) (compPost (model X.prog X.w) X.A X.xe use Qp acc cenv.locals) s₄) X.xe s₃) X.xe s2 := by
  have fresh : H2 s2.heap.objs.size = none := I2.fresh
  obtain ⟨W, ⟨m0, w0⟩, turn⟩ := q2 s2.heap.objs.size fresh
  have lt2 : ∀ b ∈ fp, b < s2.heap.objs.size := fun b hb => by
    obtain ⟨o, ho, _⟩ := T.obj _ _ st2 b hb
    exact Heap.lt_size ho
  have I3 : Inv X pins σ (upd H2 s2.heap.objs.size (.lst [])) { s2 with heap := s2.heap.push { cls := .type "list", data := .seq ([] : List Value).toArray } } := I2.lnew (its := []) (t' := s2.toks) .nil (Nat.zero_le _)
  refine wpAny_newObj_type (wpAny_newFunctionEnv hcell (by intro y hy; simp at hy) (fun h1 hns1 hsb1 => ?_) hk)
  dsimp only at hns1 hsb1 ⊢
  generalize hS3 : ({ s2 with heap := s2.heap.push { cls := .type "list", dict := none, data := .seq ([] : List Value).toArray } } : Shared) = s3 at I3
  have hh3 : s2.heap.push { cls := .type "list", dict := none, data := .seq ([] : List Value).toArray } = s3.heap := by rw [← hS3]
  rw [hh3] at hns1 hsb1 ⊢
  have sz3 : s3.heap.objs.size = s2.heap.objs.size + 1 := by rw [← hh3, Heap.size_push]
  have lt3 : ∀ b ∈ fp, b < s3.heap.objs.size := fun b hb => Nat.lt_of_lt_of_le (lt2 b hb) (by rw [sz3]; exact Nat.le_succ _)
  have f3 : ∀ b ∈ fp, FpOk X pins (upd H2 s2.heap.objs.size (.lst [])) b := fun b hb => ⟨by rw [upd_ne (Nat.ne_of_lt (lt2 b hb))]; exact (f2 b hb).1, (f2 b hb).2⟩
  have keep3 : ∀ b o, s3.heap.get? b = some o → h1.get? b = some o := fun b o q => hsb1.extBut b o (Nat.ne_of_lt (Heap.lt_size q)) (Heap.get?_push_of_some _ q)
  have st3 : tnn 0 h1 := T.keep _ _ _ st2 fun b hb o q => keep3 b o (by rw [← hh3]; exact Heap.get?_push_of_some _ q)
  have I4 := (cxComp_start (tn := tn) I3 hk hcl (hhas _) f3 lt3 (hcap _) hns1 keep3).tok (s2.toks + ([] : List (Str × Value)).length)
  have loop : codeAny (model X.prog X.w) X.A (.compLoop (.ListComp elt [⟨tg, iter, [], 0⟩] scope pos) 0 (.ref it) (.ref s2.heap.objs.size) (compEnvC scope cl s3.heap.objs.size X.env))
      (compPost (model X.prog X.w) X.A X.xe use Qp (.ref s2.heap.objs.size) s3.heap.objs.size) { s3 with heap := h1, toks := s2.toks + ([] : List (Str × Value)).length } := by
    refine comp_loop0 (fun n s' => ∃ i ys σ' H', Inv (cxComp X (tn ++ cap.map (·.1)) scope cl s3.heap.objs.size fp s3 (upd H2 s2.heap.objs.size (.lst []))) [] σ' H' s' ∧ tnn i s'.heap ∧ (∀ b ∈ fp, H' b = none) ∧ W i n ys σ' H') ?_ m0
      ⟨0, [], _, _, I4, st3, fun b hb => (f3 b hb).1, w0⟩
    rintro n s5 ⟨i, ys, σ5, H5, I5, st5, fr5, w5⟩
    obtain ⟨hD, alt⟩ := turn i n ys σ5 H5 w5
    have stat : ∀ {H' : Hp}, (∀ b ∈ fp, H' b = none) → ∀ b ∈ fp, FpOk (cxComp X (tn ++ cap.map (·.1)) scope cl s3.heap.objs.size fp s3 (upd H2 s2.heap.objs.size (.lst []))) [] H' b :=
      fun hn b hb => ⟨hn b hb, (I4.ok.exf b hb).1, I4.ok.exfs b hb, .inl hb, (I4.ok.exf b hb).2, fun p hp => by cases hp⟩
    rcases alt with ⟨stop, qn⟩ | ⟨go, step⟩
    · refine thn (T.done (cxComp X (tn ++ cap.map (·.1)) scope cl s3.heap.objs.size fp s3 (upd H2 s2.heap.objs.size (.lst []))) rfl rfl rfl hc i [] s5 σ5 H5 no0 I5 (stat fr5) st5 stop) fun r s6 ⟨hr, I6⟩ => ?_
      subst hr
      exact hfin s3 _ I3 f3 _ σ5 H5 s6 I6 qn
    · refine thn (T.item (cxComp X (tn ++ cap.map (·.1)) scope cl s3.heap.objs.size fp s3 (upd H2 s2.heap.objs.size (.lst []))) rfl rfl rfl hc i [] s5 σ5 H5 no0 I5 (stat fr5) st5 go) fun r s6 ⟨u, hr, h6⟩ => ?_
      subst hr
      refine thn h6 fun _ s7 ⟨x, H7, I7, r7, y7, st7, fr7⟩ => ?_
      have I7' := I7.pinned (stat fr7) (T.obj _ _ st7)
      refine thn (hg _ _ _ _ _ s7 σ5 H7 x u _ I7' r7 (step x H7 y7)) fun _ s8 ⟨σ8, H8, I8, q8⟩ => ?_
      refine thn (he _ _ _ _ _ s8 σ8 H8 _ I8 q8) fun xv s9 ⟨v9, H9, I9, r9, q9⟩ => ?_
      obtain ⟨hD9, hl9, m', hm', w9⟩ := q9
      refine thn (mt_append _ s9 σ8 H9 (.ref s2.heap.objs.size) [v9] (.ref s2.heap.objs.size) [xv] (fun z H' => z = .non ∧ H' = upd H9 s2.heap.objs.size (.lst (ys ++ [v9]))) I9 rfl (.cons r9 .nil)
        ⟨s2.heap.objs.size, ys, v9, rfl, rfl, hD9, hl9, rfl, rfl⟩) fun z s10 ⟨zv, H10, I10, _, _, eH⟩ => ?_
      subst eH
      refine ⟨m', hm', i + 1, ys ++ [v9], σ8, _, I10.unpinned, T.keep _ _ _ st7 fun b hb o q => (I10.pin (b, o) (List.mem_append_right _ (List.mem_append_right _ (mem_pinsAt hb q)))).1, fun b hb => ?_, w9⟩
      obtain ⟨o, q, d⟩ := T.obj _ _ st7 b hb
      exact (I10.pin (b, o) (List.mem_append_right _ (List.mem_append_right _ (mem_pinsAt hb q)))).2.1
  subst hS3
  exact codeAny_compStart_list loop (T.self X.A 0 _ _ _ st3 loop)
theorem pe_comp (tn : List Str) (cap : List (Str × Nat)) (hi : PI X tg iter wi) (hg : ∀ C fp s H, PG (cxComp X (tn ++ cap.map (·.1)) scope cl C fp s H) tg g) (he : ∀ C fp s H, PE (cxComp X (tn ++ cap.map (·.1)) scope cl C fp s H) elt te)
    (hc : X.calm = true) (hclos : closureFor scope X.env = pure cl) (hcell : ∀ y ∈ scope.names, y.2 ≠ .cell) (hk : scope.kind = .function) (hnames : ∀ y ∈ scope.names, y.2 = .local → scope.names.lookup y.1 = some .local)
    (hcl : ∀ x c, cl.lookup x = some c → X.env.cells.lookup x = some c)
    (hhas : ∀ C x, ((compEnvC scope cl C X.env).kindOf x = some .cell ∨ (compEnvC scope cl C X.env).kindOf x = some .free) → ∃ c, cl.lookup x = some c)
    (hcap : ∀ C, ∀ p ∈ cap, X.N[p.2]? = some p.1 ∧ X.env.scope.names.lookup p.1 = some .cell ∧ ((compEnvC scope cl C X.env).kindOf p.1 = some .cell ∨ (compEnvC scope cl C X.env).kindOf p.1 = some .free))
    (hs : ∀ v, foldedSetIterable iter X.env v = pure v) : PE X (.ListComp elt [⟨tg, iter, [], 0⟩] scope pos) (tComp wi tn.length cap g te) := by
  intro pins s σ H Q I h
  rw [eval_ListComp]
  refine wpAny_comprehension_free (use := none) rfl hs hclos hk hnames (thn (hi pins s σ H _ I h) fun v s1 h1 => thn h1 fun itv s2 h2 => ?_)
  obtain ⟨it, fp, tnn, J, H2, e, I2, T, st2, f2, q2⟩ := h2
  subst e
  refine comp_core0 (R := fun p H6 => Q (.ref p) H6) tn cap hg he hc hcell hk hcl hhas hcap I2 T st2 f2 q2 fun s3 H3 I3 f3 acc σ6 H6 s6 I6 q6 => ?_
  obtain ⟨m, hn, _⟩ := I6.loc
  refine ⟨m, hn, fun h' sb => ?_⟩
  have nC : ∀ b o, s3.heap.get? b = some o → b ≠ s3.heap.objs.size := fun b o q => Nat.ne_of_lt (Heap.lt_size q)
  have u : Un (frs X.stack) fp H3 H6 s3.heap h' := by
    have u0 := I6.base
    refine ⟨fun b o q n hb hx => (sb.2 b (nC b o q)).trans (u0.keep b o q n hb hx), fun b o q n hb hx => ?_, u0.free, fun b o q hx => ?_, u0.tups, u0.frzs, u0.tbls⟩
    · obtain ⟨sl, e⟩ := u0.slot b o q n hb hx
      exact ⟨sl, (sb.2 b (nC b o q)).trans e⟩
    · obtain ⟨o', e⟩ := u0.there b o q hx
      exact ⟨o', (sb.2 b (nC b o q)).trans e⟩
  have free6 : H6 s3.heap.objs.size = none := I6.free
  have ok6 : HOk X.prog X.w H6 h' := fun b o q => (I6.hok b o q).stay (fun c v hcv r => (sb.2 c (by
    rcases hcv with z | z
    · rw [z]
      exact ne_of_none q free6
    · exact ne_of_none z free6)).trans r) (fun _ q => q) fun _ _ q => q
  have I' := I3.call (g' := s6.gens) (d' := s6.drawn) (t' := s6.toks) (ch := fp) u ok6 I6.bare fun b hb => ⟨(f3 b hb).2.2.2.1, (f3 b hb).2.1, (f3 b hb).2.2.2.2.1, (f3 b hb).2.2.2.2.2⟩
  have e : ({ s6 with heap := h' } : Shared) = { s3 with heap := h', gens := s6.gens, drawn := s6.drawn, toks := s6.toks } := by
    have ho : s6.os = s3.os := I6.os
    obtain ⟨a1, a2, a3, a4, a5⟩ := s6
    obtain ⟨b1, b2, b3, b4, b5⟩ := s3
    simp only at ho
    subst ho
    rfl
  rw [e]
  exact ⟨.ref _, H6, I', rfl, q6⟩
end
end L2

/-! [elt for tg in iter if ct] -/
namespace L2
open PySem PySem.Spec PyProof.Rows
section
variable {prog : Program} {w : World} {A : Around} {s : Shared} {R : Result → Shared → Prop}
theorem comp_loop1 {elt ct target iter : Expr} {scope : Scope} {pos : Pos} {it acc : Value} {env : Env} (I : Nat → Shared → Prop)
    (turn : ∀ n s, I n s → wpAny (model prog w) A (pyNext it) (fun r s1 => match r with
      | none => R (.ok .next) s1
      | some v => wpAny (model prog w) A (letOwnedTupleGo target it v) (fun _ s2 => wpAny (model prog w) A (assign target env v) (fun _ s3 => wpAny (model prog w) A (isTrue ct env (eval ct env)) (fun ok s3' =>
          if ok = true then wpAny (model prog w) A (eval elt env) (fun x s4 =>
          wpAny (model prog w) A (call (.builtin "list.append") [acc, x]) (fun _ s5 => ∃ m, m < n ∧ I m s5) no0 s4) no0 s3' else ∃ m, m < n ∧ I m s3') no0 s3) no0 s2) no0 s1) no0 s)
    (n : Nat) (h : I n s) : codeAny (model prog w) A (.compLoop (.ListComp elt [⟨target, iter, [ct], 0⟩] scope pos) 0 it acc env) R s := by
  refine codeAny_loop rfl I (fun n s hI => ?_) n h
  show wpAny _ _ ((compTurn (.ListComp elt [⟨target, iter, [ct], 0⟩] scope pos) 0 it acc env).onRaise (fun x => do noteFrame x env; theTreesLotGoes x)) _ _ s
  refine wpAny_noted ?_
  rw [compTurn_list]
  refine wpAny_bind (wpAny_standAt (wpAny_bind (wpAny_mono (turn n s hI) (fun r s1 h1 => ?_) fun _ _ h' => h'.elim)))
  cases r with
  | none => exact wpAny_pure h1
  | some v =>
    refine wpAny_bind (wpAny_mono h1 (fun _ s2 h2 => ?_) fun _ _ h' => h'.elim)
    refine wpAny_bind (wpAny_mono h2 (fun _ s3 h3 => ?_) fun _ _ h' => h'.elim)
    refine wpAny_bind (wpAny_tests_one (wpAny_mono h3 (fun ok s3' h3' => ?_) fun _ _ h' => h'.elim))
    cases ok with
    | true =>
      simp only [if_true] at h3' ⊢
      refine wpAny_bind (wpAny_bind (wpAny_mono h3' (fun x s4 h4 => ?_) fun _ _ h' => h'.elim))
      exact wpAny_bind (wpAny_mono h4 (fun _ s5 h5 => wpAny_pure (wpAny_pure ⟨rfl, h5⟩)) fun _ _ h' => h'.elim)
    | false =>
      simp only [Bool.false_eq_true, if_false] at h3' ⊢
      exact wpAny_pure ⟨rfl, h3'⟩
end
/-- a comprehension's reading with a test: W by the turn, a measure, the items so far, the block's names, the heap; p: the list under way -/
def tCompT (wi : TI) (k : Nat) (cap : List (Str × Nat)) (g : TG) (tt : TT) (te : TE) : TE := fun σ H Q => wi σ H fun J H1 => ∀ p, H1 p = none → ∃ W : Nat → Nat → List V → St → Hp → Prop, (∃ m, W 0 m [] (capσ σ k cap) (upd H1 p (.lst []))) ∧
  ∀ i m ys σc H2, W i m ys σc H2 → H2 p = some (.lst ys) ∧ ((J.stop i H2 ∧ Q (.ref p) H2) ∨ (J.go i H2 ∧ ∀ x H3, J.yld i H2 x H3 → g x σc H3 fun σ3 H4 => tt σ3 H4 fun b H4' => if b = true then te σ3 H4' fun v H5 =>
    H5 p = some (.lst ys) ∧ ys.length < sizeLine ∧ ∃ m', m' < m ∧ W (i + 1) m' (ys ++ [v]) σ3 (upd H5 p (.lst (ys ++ [v])))
    else ∃ m', m' < m ∧ W (i + 1) m' ys σ3 H4'))
section
variable {X : Cx} {elt ct iter tg : Expr} {scope : Scope} {pos : Pos} {wi : TI} {g : TG} {tt : TT} {te : TE} {cl : List (Str × Addr)}
theorem comp_core1 {pins : List (Addr × Obj)} {σ : St} {H2 : Hp} {s2 : Shared} {it : Addr} {fp : List Addr} {tnn : Nat → Heap → Prop} {J : It} {R : Addr → Hp → Prop} {use : Option (Value → Sem Unit)} {Qp : Value → Shared → Prop} (tn : List Str) (cap : List (Str × Nat)) (hg : ∀ C fp s H, PG (cxComp X (tn ++ cap.map (·.1)) scope cl C fp s H) tg g) (ht : ∀ C fp s H, PT (cxComp X (tn ++ cap.map (·.1)) scope cl C fp s H) ct tt) (he : ∀ C fp s H, PE (cxComp X (tn ++ cap.map (·.1)) scope cl C fp s H) elt te) (hc : X.calm = true) (hcell : ∀ y ∈ scope.names, y.2 ≠ .cell) (hk : scope.kind = .function) (hcl : ∀ x c, cl.lookup x = some c → X.env.cells.lookup x = some c) (hhas : ∀ C x, ((compEnvC scope cl C X.env).kindOf x = some .cell ∨ (compEnvC scope cl C X.env).kindOf x = some .free) → ∃ c, cl.lookup x = some c) (hcap : ∀ C, ∀ p ∈ cap, X.N[p.2]? = some p.1 ∧ X.env.scope.names.lookup p.1 = some .cell ∧ ((compEnvC scope cl C X.env).kindOf p.1 = some .cell ∨ (compEnvC scope cl C X.env).kindOf p.1 = some .free))
    (I2 : Inv X pins σ H2 s2) (T : Turn X.prog X.w X.K tg J fp it tnn) (st2 : tnn 0 s2.heap) (f2 : ∀ b ∈ fp, FpOk X pins H2 b) (q2 : ∀ p, H2 p = none → ∃ W : Nat → Nat → List V → St → Hp → Prop, (∃ m, W 0 m [] (capσ σ tn.length cap) (upd H2 p (.lst []))) ∧
  ∀ i m ys σc H2, W i m ys σc H2 → H2 p = some (.lst ys) ∧ ((J.stop i H2 ∧ R p H2) ∨ (J.go i H2 ∧ ∀ x H3, J.yld i H2 x H3 → g x σc H3 fun σ3 H4 => tt σ3 H4 fun b H4' => if b = true then te σ3 H4' fun v H5 => H5 p = some (.lst ys) ∧ ys.length < sizeLine ∧ ∃ m', m' < m ∧ W (i + 1) m' (ys ++ [v]) σ3 (upd H5 p (.lst (ys ++ [v]))) else ∃ m', m' < m ∧ W (i + 1) m' ys σ3 H4')))
    (hfin : ∀ (s3 : Shared) (H3 : Hp), Inv X pins σ H3 s3 → (∀ b ∈ fp, FpOk X pins H3 b) → ∀ (acc : Addr) (σ6 : St) (H6 : Hp) (s6 : Shared), Inv (cxComp X (tn ++ cap.map (·.1)) scope cl s3.heap.objs.size fp s3 H3) [] σ6 H6 s6 → R acc H6 → compPost (model X.prog X.w) X.A X.xe use Qp (.ref acc) s3.heap.objs.size (.ok .next) s6) :
    wpAny (model X.prog X.w) X.A (newList []) (fun acc s₃ => wpAny (model X.prog X.w) X.A (newFunctionEnv scope X.env.globals cl [] X.env.qual none Value.none (some X.env)) (fun cenv s₄ => codeAny (model X.prog X.w) X.A (Code.compStart (.ListComp elt [⟨tg, iter, [ct], 0⟩] scope pos) 0 (Value.ref it) acc { cenv with scope := relabel scope X.env }) (compPost (model X.prog X.w) X.A X.xe use Qp acc cenv.locals) s₄) X.xe s₃) X.xe s2 := by
  have fresh : H2 s2.heap.objs.size = none := I2.fresh
  obtain ⟨W, ⟨m0, w0⟩, turn⟩ := q2 s2.heap.objs.size fresh
  have lt2 : ∀ b ∈ fp, b < s2.heap.objs.size := fun b hb => by
    obtain ⟨o, ho, _⟩ := T.obj _ _ st2 b hb
    exact Heap.lt_size ho
  have I3 : Inv X pins σ (upd H2 s2.heap.objs.size (.lst [])) { s2 with heap := s2.heap.push { cls := .type "list", data := .seq ([] : List Value).toArray } } := I2.lnew (its := []) (t' := s2.toks) .nil (Nat.zero_le _)
  refine wpAny_newObj_type (wpAny_newFunctionEnv hcell (by intro y hy; simp at hy) (fun h1 hns1 hsb1 => ?_) hk)
  dsimp only at hns1 hsb1 ⊢
  generalize hS3 : ({ s2 with heap := s2.heap.push { cls := .type "list", dict := none, data := .seq ([] : List Value).toArray } } : Shared) = s3 at I3
  have hh3 : s2.heap.push { cls := .type "list", dict := none, data := .seq ([] : List Value).toArray } = s3.heap := by rw [← hS3]
  rw [hh3] at hns1 hsb1 ⊢
  have sz3 : s3.heap.objs.size = s2.heap.objs.size + 1 := by rw [← hh3, Heap.size_push]
  have lt3 : ∀ b ∈ fp, b < s3.heap.objs.size := fun b hb => Nat.lt_of_lt_of_le (lt2 b hb) (by rw [sz3]; exact Nat.le_succ _)
  have f3 : ∀ b ∈ fp, FpOk X pins (upd H2 s2.heap.objs.size (.lst [])) b := fun b hb => ⟨by rw [upd_ne (Nat.ne_of_lt (lt2 b hb))]; exact (f2 b hb).1, (f2 b hb).2⟩
  have keep3 : ∀ b o, s3.heap.get? b = some o → h1.get? b = some o := fun b o q => hsb1.extBut b o (Nat.ne_of_lt (Heap.lt_size q)) (Heap.get?_push_of_some _ q)
  have st3 : tnn 0 h1 := T.keep _ _ _ st2 fun b hb o q => keep3 b o (by rw [← hh3]; exact Heap.get?_push_of_some _ q)
  have I4 := (cxComp_start (tn := tn) I3 hk hcl (hhas _) f3 lt3 (hcap _) hns1 keep3).tok (s2.toks + ([] : List (Str × Value)).length)
  have loop : codeAny (model X.prog X.w) X.A (.compLoop (.ListComp elt [⟨tg, iter, [ct], 0⟩] scope pos) 0 (.ref it) (.ref s2.heap.objs.size) (compEnvC scope cl s3.heap.objs.size X.env))
      (compPost (model X.prog X.w) X.A X.xe use Qp (.ref s2.heap.objs.size) s3.heap.objs.size) { s3 with heap := h1, toks := s2.toks + ([] : List (Str × Value)).length } := by
    refine comp_loop1 (fun n s' => ∃ i ys σ' H', Inv (cxComp X (tn ++ cap.map (·.1)) scope cl s3.heap.objs.size fp s3 (upd H2 s2.heap.objs.size (.lst []))) [] σ' H' s' ∧ tnn i s'.heap ∧ (∀ b ∈ fp, H' b = none) ∧ W i n ys σ' H') ?_ m0
      ⟨0, [], _, _, I4, st3, fun b hb => (f3 b hb).1, w0⟩
    rintro n s5 ⟨i, ys, σ5, H5, I5, st5, fr5, w5⟩
    obtain ⟨hD, alt⟩ := turn i n ys σ5 H5 w5
    have stat : ∀ {H' : Hp}, (∀ b ∈ fp, H' b = none) → ∀ b ∈ fp, FpOk (cxComp X (tn ++ cap.map (·.1)) scope cl s3.heap.objs.size fp s3 (upd H2 s2.heap.objs.size (.lst []))) [] H' b :=
      fun hn b hb => ⟨hn b hb, (I4.ok.exf b hb).1, I4.ok.exfs b hb, .inl hb, (I4.ok.exf b hb).2, fun p hp => by cases hp⟩
    rcases alt with ⟨stop, qn⟩ | ⟨go, step⟩
    · refine thn (T.done (cxComp X (tn ++ cap.map (·.1)) scope cl s3.heap.objs.size fp s3 (upd H2 s2.heap.objs.size (.lst []))) rfl rfl rfl hc i [] s5 σ5 H5 no0 I5 (stat fr5) st5 stop) fun r s6 ⟨hr, I6⟩ => ?_
      subst hr
      exact hfin s3 _ I3 f3 _ σ5 H5 s6 I6 qn
    · refine thn (T.item (cxComp X (tn ++ cap.map (·.1)) scope cl s3.heap.objs.size fp s3 (upd H2 s2.heap.objs.size (.lst []))) rfl rfl rfl hc i [] s5 σ5 H5 no0 I5 (stat fr5) st5 go) fun r s6 ⟨u, hr, h6⟩ => ?_
      subst hr
      refine thn h6 fun _ s7 ⟨x, H7, I7, r7, y7, st7, fr7⟩ => ?_
      have I7' := I7.pinned (stat fr7) (T.obj _ _ st7)
      refine thn (hg _ _ _ _ _ s7 σ5 H7 x u _ I7' r7 (step x H7 y7)) fun _ s8 ⟨σ8, H8, I8, q8⟩ => ?_
      refine thn (ht _ _ _ _ _ s8 σ8 H8 _ I8 q8) fun ok s8' ⟨H8', I8', q8'⟩ => ?_
      cases ok with
      | true =>
        simp only [if_true] at q8' ⊢
        refine thn (he _ _ _ _ _ s8' σ8 H8' _ I8' q8') fun xv s9 ⟨v9, H9, I9, r9, q9⟩ => ?_
        obtain ⟨hD9, hl9, m', hm', w9⟩ := q9
        refine thn (mt_append _ s9 σ8 H9 (.ref s2.heap.objs.size) [v9] (.ref s2.heap.objs.size) [xv] (fun z H' => z = .non ∧ H' = upd H9 s2.heap.objs.size (.lst (ys ++ [v9]))) I9 rfl (.cons r9 .nil)
          ⟨s2.heap.objs.size, ys, v9, rfl, rfl, hD9, hl9, rfl, rfl⟩) fun z s10 ⟨zv, H10, I10, _, _, eH⟩ => ?_
        subst eH
        refine ⟨m', hm', i + 1, ys ++ [v9], σ8, _, I10.unpinned, T.keep _ _ _ st7 fun b hb o q => (I10.pin (b, o) (List.mem_append_right _ (List.mem_append_right _ (mem_pinsAt hb q)))).1, fun b hb => ?_, w9⟩
        obtain ⟨o, q, d⟩ := T.obj _ _ st7 b hb
        exact (I10.pin (b, o) (List.mem_append_right _ (List.mem_append_right _ (mem_pinsAt hb q)))).2.1
      | false =>
        simp only [Bool.false_eq_true, if_false] at q8' ⊢
        obtain ⟨m', hm', w9⟩ := q8'
        refine ⟨m', hm', i + 1, ys, σ8, _, I8'.unpinned, T.keep _ _ _ st7 fun b hb o q => (I8'.pin (b, o) (List.mem_append_right _ (List.mem_append_right _ (mem_pinsAt hb q)))).1, fun b hb => ?_, w9⟩
        obtain ⟨o, q, d⟩ := T.obj _ _ st7 b hb
        exact (I8'.pin (b, o) (List.mem_append_right _ (List.mem_append_right _ (mem_pinsAt hb q)))).2.1
  subst hS3
  exact codeAny_compStart_list loop (T.self X.A 0 _ _ _ st3 loop)
theorem pe_comp_if (tn : List Str) (cap : List (Str × Nat)) (hi : PI X tg iter wi) (hg : ∀ C fp s H, PG (cxComp X (tn ++ cap.map (·.1)) scope cl C fp s H) tg g) (ht : ∀ C fp s H, PT (cxComp X (tn ++ cap.map (·.1)) scope cl C fp s H) ct tt) (he : ∀ C fp s H, PE (cxComp X (tn ++ cap.map (·.1)) scope cl C fp s H) elt te)
    (hc : X.calm = true) (hclos : closureFor scope X.env = pure cl) (hcell : ∀ y ∈ scope.names, y.2 ≠ .cell) (hk : scope.kind = .function) (hnames : ∀ y ∈ scope.names, y.2 = .local → scope.names.lookup y.1 = some .local)
    (hcl : ∀ x c, cl.lookup x = some c → X.env.cells.lookup x = some c)
    (hhas : ∀ C x, ((compEnvC scope cl C X.env).kindOf x = some .cell ∨ (compEnvC scope cl C X.env).kindOf x = some .free) → ∃ c, cl.lookup x = some c)
    (hcap : ∀ C, ∀ p ∈ cap, X.N[p.2]? = some p.1 ∧ X.env.scope.names.lookup p.1 = some .cell ∧ ((compEnvC scope cl C X.env).kindOf p.1 = some .cell ∨ (compEnvC scope cl C X.env).kindOf p.1 = some .free))
    (hs : ∀ v, foldedSetIterable iter X.env v = pure v) : PE X (.ListComp elt [⟨tg, iter, [ct], 0⟩] scope pos) (tCompT wi tn.length cap g tt te) := by
  intro pins s σ H Q I h
  rw [eval_ListComp]
  refine wpAny_comprehension_free (use := none) rfl hs hclos hk hnames (thn (hi pins s σ H _ I h) fun v s1 h1 => thn h1 fun itv s2 h2 => ?_)
  obtain ⟨it, fp, tnn, J, H2, e, I2, T, st2, f2, q2⟩ := h2
  subst e
  refine comp_core1 (R := fun p H6 => Q (.ref p) H6) tn cap hg ht he hc hcell hk hcl hhas hcap I2 T st2 f2 q2 fun s3 H3 I3 f3 acc σ6 H6 s6 I6 q6 => ?_
  obtain ⟨m, hn, _⟩ := I6.loc
  refine ⟨m, hn, fun h' sb => ?_⟩
  have nC : ∀ b o, s3.heap.get? b = some o → b ≠ s3.heap.objs.size := fun b o q => Nat.ne_of_lt (Heap.lt_size q)
  have u : Un (frs X.stack) fp H3 H6 s3.heap h' := by
    have u0 := I6.base
    refine ⟨fun b o q n hb hx => (sb.2 b (nC b o q)).trans (u0.keep b o q n hb hx), fun b o q n hb hx => ?_, u0.free, fun b o q hx => ?_, u0.tups, u0.frzs, u0.tbls⟩
    · obtain ⟨sl, e⟩ := u0.slot b o q n hb hx
      exact ⟨sl, (sb.2 b (nC b o q)).trans e⟩
    · obtain ⟨o', e⟩ := u0.there b o q hx
      exact ⟨o', (sb.2 b (nC b o q)).trans e⟩
  have free6 : H6 s3.heap.objs.size = none := I6.free
  have ok6 : HOk X.prog X.w H6 h' := fun b o q => (I6.hok b o q).stay (fun c v hcv r => (sb.2 c (by
    rcases hcv with z | z
    · rw [z]
      exact ne_of_none q free6
    · exact ne_of_none z free6)).trans r) (fun _ q => q) fun _ _ q => q
  have I' := I3.call (g' := s6.gens) (d' := s6.drawn) (t' := s6.toks) (ch := fp) u ok6 I6.bare fun b hb => ⟨(f3 b hb).2.2.2.1, (f3 b hb).2.1, (f3 b hb).2.2.2.2.1, (f3 b hb).2.2.2.2.2⟩
  have e : ({ s6 with heap := h' } : Shared) = { s3 with heap := h', gens := s6.gens, drawn := s6.drawn, toks := s6.toks } := by
    have ho : s6.os = s3.os := I6.os
    obtain ⟨a1, a2, a3, a4, a5⟩ := s6
    obtain ⟨b1, b2, b3, b4, b5⟩ := s3
    simp only at ho
    subst ho
    rfl
  rw [e]
  exact ⟨.ref _, H6, I', rfl, q6⟩
end
end L2

/-! < of lists and of tuples, place by place, of data at any depth -/
namespace PySem.SeqAt
open AutoSeq1 (wpAny_loadPart')
open MeetsSeq MeetsSeq2 MeetsSeq3 SeqRoads2
end PySem.SeqAt

/-! < of data: one relation for ints, texts, lists and tuples of them -/
namespace L2
open PySem PySem.Spec PyProof.Rows PySem.SeqAt
end L2

/-! min(l, key=f, default=d) over a list, the key a def of the text -/
namespace L2
open PySem PySem.Spec PyProof.Rows PySem.SeqAt
end L2
namespace L2
open PySem PySem.Spec PyProof.Rows PySem.SeqAt
end L2
namespace L2
open PySem PySem.Spec PyProof.Rows PySem.SeqAt
end L2
namespace L2
open PySem PySem.Spec PyProof.Rows PySem.SeqAt
end L2

/-! the order of groves: the promises of rank, before, least_among -/
namespace Fg
open PySem L2 FgM PySem.SeqAt
theorem eqv_str (x y : Str) : PyData.eqv (.str x) (.str y) = decide (x = y) := by
  show (x == y) = _
  by_cases e : x = y
  · subst e; simp
  · rw [decide_eq_false e]; exact beq_eq_false_iff_ne.mpr e
theorem eqv_strs : ∀ xs ys : List Str, PyData.eqvAll (xs.map PyData.str) (ys.map PyData.str) = decide (xs = ys)
  | [], [] => rfl
  | [], _ :: _ => by simp [PyData.eqvAll]
  | _ :: _, [] => by simp [PyData.eqvAll]
  | x :: xs, y :: ys => by
    show (PyData.eqv (.str x) (.str y) && PyData.eqvAll (xs.map PyData.str) (ys.map PyData.str)) = _
    rw [eqv_str, eqv_strs xs ys]
    by_cases e : x = y <;> by_cases e2 : xs = ys <;> simp [e, e2]
def OkW (ws : List Str) : Prop := ∀ x ∈ ws, PyData.strOk x = true
end Fg

/-! == of groves, whatever their depth: the data of a grove -/
namespace L2
open PySem PySem.Spec PyProof.Rows
section
variable {X : Cx}
def rEqDn (K : PySem.W.Frag) (n : Nat) (neg : Bool) : R2 := fun x y H Q => ∃ d e, Dp K H x d ∧ Dp K H y e ∧ d.canLay0 = true ∧ e.canLay0 = true ∧ min d.depth e.depth ≤ n ∧ Q (.bl (if neg then !PyData.eqv d e else PyData.eqv d e)) H
end
end L2
namespace Fg
open PySem L2 FgM
end Fg

namespace L2
open PySem PySem.Spec PyProof.Rows PySem.SeqAt
/-! list(reversed(l)) -/
end L2

/-! the reading of [e for x in l], and what a block without captured names is -/
namespace L2
open PySem PySem.Spec PyProof.Rows
def CW (n : Nat) (Pv : Nat → List V → St → Hp → Prop) : Nat → Nat → List V → St → Hp → Prop := fun i m ys σ H => m = n - i ∧ i ≤ n ∧ Pv i ys σ H
theorem CW.next {n i : Nat} {Pv : Nat → List V → St → Hp → Prop} {ys : List V} {σ : St} {H : Hp} (hi : i < n) (h : Pv (i + 1) ys σ H) : ∃ m', m' < n - i ∧ CW n Pv (i + 1) m' ys σ H := ⟨_, by (first | lia | omega), rfl, hi, h⟩
theorem nd1 {x : Str} : [x].Nodup := by simp
theorem nofree {scope : Scope} {env : Env} (h : ∀ y ∈ scope.names, y.2 ≠ .cell ∧ y.2 ≠ .free) {cl : List (Str × Addr)} : ∀ (C : Addr) (x : Str), ((compEnvC scope cl C env).kindOf x = some .cell ∨ (compEnvC scope cl C env).kindOf x = some .free) → ∃ c, cl.lookup x = some c := by
  have key : ∀ (l : List (Str × NameKind)) (x : Str), (∀ y ∈ l, y.2 ≠ .cell ∧ y.2 ≠ .free) → ∀ k, (l.map fun (n, k) => if (k == .free && env.scope.kind == .function && env.kindOf n == some .cell) then (n, .cell) else (n, k)).lookup x = some k → k ≠ .cell ∧ k ≠ .free := by
    intro l
    induction l with
    | nil => intro x _ k e; simp at e
    | cons y l ih =>
      intro x hy k e
      obtain ⟨n, kd⟩ := y
      have hk := hy _ (List.mem_cons_self ..)
      have e0 : (kd == NameKind.free && env.scope.kind == .function && env.kindOf n == some .cell) = false := by
        have : (kd == NameKind.free) = false := by
          cases kd <;> first | rfl | exact absurd rfl hk.2
        rw [this]; rfl
      simp only [List.map_cons, e0, Bool.false_eq_true, if_false, List.lookup_cons] at e
      cases hx : x == n with
      | true =>
        rw [hx] at e
        cases e
        exact hk
      | false =>
        rw [hx] at e
        exact ih x (fun y hm => hy y (List.mem_cons_of_mem _ hm)) k e
  intro C x hx
  rcases hx with e | e
  · exact absurd rfl (key _ x h _ e).1
  · exact absurd rfl (key _ x h _ e).2
end L2
namespace FgM
end FgM

/-! x = [elt for tg in iter], x = [elt for tg in iter if ct]: the name is bound ahead of the block's end -/
namespace L2
open PySem PySem.Spec PyProof.Rows
end L2
namespace L2
open PySem PySem.Spec PyProof.Rows
end L2

namespace L2
open PySem PySem.Spec PyProof.Rows

/-! ### lists of pairs as tables -/
section
variable {κ : Type} [DecidableEq κ]
def valV (kvs : List (κ × V)) (k : κ) : Option V := (kvs.find? fun kv => decide (kv.1 = k)).map (·.2)
/-- in its place, or at the end -/
def putK (kvs : List (κ × V)) (k : κ) (v : V) : List (κ × V) :=
  if (kvs.any fun kv => decide (kv.1 = k)) = true then kvs.map (fun kv => if kv.1 = k then (kv.1, v) else kv) else kvs ++ [(k, v)]
theorem valV_pos {p : κ × V} {r : List (κ × V)} {k : κ} (e : p.1 = k) : valV (p :: r) k = some p.2 := by simp [valV, List.find?_cons, e]
theorem valV_neg {p : κ × V} {r : List (κ × V)} {k : κ} (e : ¬ p.1 = k) : valV (p :: r) k = valV r k := by simp [valV, List.find?_cons, e]
theorem valV_any (k : κ) : ∀ kvs : List (κ × V), (kvs.any fun kv => decide (kv.1 = k)) = (valV kvs k).isSome
  | [] => rfl
  | p :: r => by
    rw [List.any_cons]
    by_cases e : p.1 = k
    · simp only [valV_pos e, decide_eq_true e, Bool.true_or, Option.isSome_some]
    · rw [valV_neg e, decide_eq_false e, Bool.false_or]; exact valV_any k r
theorem valV_map (k j : κ) (y : V) : ∀ kvs : List (κ × V), valV (kvs.map fun kv => if kv.1 = k then (kv.1, y) else kv) j = (valV kvs j).map fun x => if j = k then y else x
  | [] => rfl
  | p :: r => by
    have ih := valV_map k j y r
    rw [List.map_cons]
    by_cases h : p.1 = k
    · rw [if_pos h]
      by_cases e : p.1 = j
      · rw [valV_pos (p := (p.1, y)) e, valV_pos e, Option.map_some, if_pos (e.symm.trans h)]
      · rw [valV_neg (p := (p.1, y)) e, valV_neg e, ih]
    · rw [if_neg h]
      by_cases e : p.1 = j
      · rw [valV_pos (p := p) e, valV_pos e, Option.map_some, if_neg (fun z => h (e.trans z))]
      · rw [valV_neg (p := p) e, valV_neg e, ih]
theorem valV_snoc (k j : κ) (y : V) : ∀ kvs : List (κ × V), valV kvs k = none → valV (kvs ++ [(k, y)]) j = if j = k then some y else valV kvs j
  | [], _ => by
    by_cases e : k = j
    · rw [if_pos e.symm]; exact valV_pos (p := (k, y)) e
    · rw [if_neg (fun z => e z.symm)]; exact valV_neg (p := (k, y)) e
  | p :: r, hn => by
    rw [List.cons_append]
    have hk : ¬ p.1 = k := fun z => by rw [valV_pos z] at hn; cases hn
    rw [valV_neg hk] at hn
    have ih := valV_snoc k j y r hn
    by_cases e : p.1 = j
    · rw [valV_pos e, valV_pos e, if_neg (fun z => hk (e.trans z))]
    · rw [valV_neg e, valV_neg e, ih]
theorem valV_put (kvs : List (κ × V)) (k j : κ) (y : V) : valV (putK kvs k y) j = if j = k then some y else valV kvs j := by
  unfold putK
  by_cases a : (kvs.any fun kv => decide (kv.1 = k)) = true
  · rw [if_pos a, valV_map]
    rw [valV_any] at a
    by_cases e : j = k
    · obtain ⟨x, hx⟩ := Option.isSome_iff_exists.mp a
      rw [if_pos e, e, hx, Option.map_some, if_pos rfl]
    · rw [if_neg e]
      cases valV kvs j with
      | none => rfl
      | some x => rw [Option.map_some, if_neg e]
  · rw [if_neg a]
    refine valV_snoc k j y kvs ?_
    rw [valV_any] at a
    cases q : valV kvs k with
    | none => rfl
    | some x => rw [q] at a; exact (a rfl).elim
theorem length_putK (kvs : List (κ × V)) (k : κ) (v : V) : (putK kvs k v).length ≤ kvs.length + 1 := by
  unfold putK
  split
  · rw [List.length_map]; (first | lia | omega)
  · rw [List.length_append, List.length_cons, List.length_nil]; (first | lia | omega)
theorem RelO.isSome_eq {o : Option V} {u : Option Value} (r : RelO o u) : o.isSome = u.isSome := by
  cases o with
  | none => cases u with
    | none => rfl
    | some _ => exact (show False from r).elim
  | some _ => cases u with
    | none => exact (show False from r).elim
    | some _ => rfl
theorem RelO.getD {o : Option V} {u : Option Value} {d : V} {d' : Value} (r : RelO o u) (rd : RelV d d') : RelV (o.getD d) (u.getD d') := by
  cases o with
  | none => cases u with
    | none => exact rd
    | some _ => exact (show False from r).elim
  | some _ => cases u with
    | none => exact (show False from r).elim
    | some _ => exact r

/-- raw tables of the same keys -/
theorem KV.val {kvs : List (κ × V)} {vs : List (κ × Value)} (r : KV kvs vs) (k : κ) : RelO (valV kvs k) (valueAt vs k) := by
  unfold KV at r
  induction r with
  | nil => exact True.intro
  | @cons p q ps qs h t ih =>
    obtain ⟨h1, h2⟩ := h
    by_cases e : p.1 = k
    · have e' : q.1 = k := h1.symm.trans e
      have b : valueAt (q :: qs) k = some q.2 := by simp [valueAt, List.find?_cons, e']
      rw [valV_pos e, b]; exact h2
    · have e' : ¬ q.1 = k := fun z => e (h1.trans z)
      have b : valueAt (q :: qs) k = valueAt qs k := by simp [valueAt, List.find?_cons, e']
      rw [valV_neg e, b]; exact ih
end


/-! ### a tracked dict, its keys ints and texts or tuples of these -/
theorem kV_is {P : Program} {w : World} {k : Key} {u : Value} (r : RelV (kV k) u) : (mixKind P w).is k u = true := by
  cases k with
  | inl i => obtain ⟨t, e⟩ := (show ∃ t, u = Value.int i t from r); subst e; exact mixKind_int P w i t
  | inr x => obtain ⟨t, e⟩ := (show ∃ t, u = Value.str x t from r); subst e; exact mixKind_str P w x t
theorem items_are {P : Program} {w : World} : ∀ {ks : List Key} {us : List Value}, Vals (ks.map kV) us → ItemsAre (mixKind P w) ks us
  | [], _, r => by rw [List.map_nil] at r; cases r; exact .nil
  | k :: ks, _, r => by
    rw [List.map_cons] at r
    cases r with
    | cons h t => exact .cons (kV_is h) (items_are t)

/-- raw entries of a dict with tuple keys -/
abbrev KT (H : Hp) : List (List Key × V) → List (List Key × Addr × Value) → Prop := Paired fun p q => p.1 = q.1 ∧ H q.2.1 = some (.tup (p.1.map kV)) ∧ RelV p.2 q.2.2
theorem KT.val {H : Hp} {kvs : List (List Key × V)} {xs : List (List Key × Addr × Value)} (r : KT H kvs xs) (k : List Key) : RelO (valV kvs k) ((atKey xs k).map (·.2)) := by
  induction r with
  | nil => exact True.intro
  | @cons p q ps qs h t ih =>
    obtain ⟨h1, _, h2⟩ := h
    by_cases e : p.1 = k
    · have e' : q.1 = k := h1.symm.trans e
      have b : atKey (q :: qs) k = some q.2 := by simp [atKey, List.find?_cons, e']
      rw [valV_pos e, b]; exact h2
    · have e' : ¬ q.1 = k := fun z => e (h1.trans z)
      have b : atKey (q :: qs) k = atKey qs k := by simp [atKey, List.find?_cons, e']
      rw [valV_neg e, b]; exact ih
theorem KT.repl {H : Hp} {kvs : List (List Key × V)} {xs : List (List Key × Addr × Value)} (r : KT H kvs xs) (k : List Key) {y : V} {u : Value} (ry : RelV y u) :
    KT H (kvs.map fun kv => if kv.1 = k then (kv.1, y) else kv) (xs.map (putAt k u)) := by
  induction r with
  | nil => exact .nil
  | @cons p q ps qs h t ih =>
    rw [List.map_cons, List.map_cons]
    refine .cons ?_ ih
    obtain ⟨h1, h2, h3⟩ := h
    unfold putAt
    by_cases e : p.1 = k
    · rw [if_pos e, if_pos (h1.symm.trans e)]; exact ⟨h1, h2, ry⟩
    · rw [if_neg e, if_neg (fun z => e (h1.trans z))]; exact ⟨h1, h2, h3⟩
theorem KT.put {H : Hp} {kvs : List (List Key × V)} {xs : List (List Key × Addr × Value)} (r : KT H kvs xs) (k : List Key) {b : Addr} {y : V} {u : Value} (hb : H b = some (.tup (k.map kV))) (ry : RelV y u) :
    KT H (putK kvs k y) (storedH xs k b u) := by
  have e : (kvs.any fun kv => decide (kv.1 = k)) = (atKey xs k).isSome := by
    rw [valV_any, (r.val k).isSome_eq, Option.isSome_map]
  unfold putK storedH
  rw [e]
  by_cases q : (atKey xs k).isSome = true
  · rw [if_pos q, if_pos q]; exact r.repl k ry
  · rw [if_neg q, if_neg q]; exact Paired.snoc r ⟨rfl, hb, ry⟩
theorem KT.keeps {H H' : Hp} {kvs : List (List Key × V)} {xs : List (List Key × Addr × Value)} (r : KT H kvs xs) (ht : ∀ b ys, H b = some (.tup ys) → H' b = some (.tup ys)) : KT H' kvs xs :=
  Paired.mapP r fun _ _ z => ⟨z.1, ht _ _ z.2.1, z.2.2⟩

section
variable {P : Program} {w : World} {H : Hp} {h : Heap} {a : Addr}
theorem rd_of {u : HO} (ok : HOk P w H h) (e : Rd H a u) : ObjOk P w H h a u := e.ok ok
theorem dk_rd {kvs : List (Key × V)} (ok : HOk P w H h) (e : Rd H a (.dK kvs)) : kvs.length ≤ sizeLine ∧ (a == sysModules) = false ∧ ∃ vs, KV kvs vs ∧ h.DictOf (mixKind P w) a vs :=
  show ObjOk P w H h a (.dK kvs) from rd_of ok e
/-- a tracked tuple of ints and texts is a key -/
theorem key_of {ks : List Key} (ok : HOk P w H h) (e : H a = some (.tup (ks.map kV))) : (tupleKind (mixKind P w)).is h ks a := by
  obtain ⟨_, its, r, o, h1, h2, n, h3⟩ := (show ObjOk P w H h a (.tup (ks.map kV)) from ok a _ e)
  exact ⟨o, its.toArray, n, h1, h2, h3, by simpa using items_are r⟩
theorem dt_rd {kvs : List (List Key × V)} (ok : HOk P w H h) (e : Rd H a (.dT kvs)) : kvs.length ≤ sizeLine ∧ (a == sysModules) = false ∧
    ∃ xs, KT H kvs xs ∧ h.DictOfH (tupleKind (mixKind P w)) a xs := by
  obtain ⟨z, y, xs, r, o, es, ep, h1, h2, h3, h4, h5⟩ := (show ObjOk P w H h a (.dT kvs) from rd_of ok e)
  refine ⟨z, y, xs, r, o, es, ep, h1, h2, h3, h4, fun x hx => ?_, h5⟩
  have all : ∀ {l : List (List Key × V)} {m : List (List Key × Addr × Value)}, KT H l m → ∀ x ∈ m, (tupleKind (mixKind P w)).is h x.1 x.2.1 := by
    intro l m q
    induction q with
    | nil => intro x hx; exact nomatch hx
    | @cons p q ps qs hq t ih =>
      intro x hx
      rcases List.mem_cons.mp hx with e | hx
      · subst e
        exact key_of ok (by rw [← hq.1]; exact hq.2.1)
      · exact ih x hx
  exact all r x hx
end

/-- what the dict at a holds at the key y -/
def DGet (H : Hp) (a : Addr) (y : V) (r : Option V) : Prop :=
  (∃ kvs k, Rd H a (.dK kvs) ∧ y = kV k ∧ r = valV kvs k) ∨ ∃ kvs k b, Rd H a (.dT kvs) ∧ y = .ref b ∧ H b = some (.tup (k.map kV)) ∧ r = valV kvs k
theorem DGet.t {H : Hp} {a b : Addr} {kvs : List (List Key × V)} {k : List Key} (e : H a = some (.dT kvs)) (eb : H b = some (.tup (k.map kV))) : DGet H a (.ref b) (valV kvs k) := .inr ⟨kvs, k, b, .inl e, rfl, eb, rfl⟩
section
variable {X : Cx} {pins : List (Addr × Obj)} {σ : St} {H : Hp} {s : Shared} {a : Addr} {y v : V} {u r : Value} {o : Option V} {A : Around} {E : Value → Shared → Prop}

theorem Inv.big (I : Inv X pins σ H s) : sysModules < s.heap.objs.size := by
  have h : mainGlobals < s.heap.objs.size := (I.mod.glob.keeps I.bk).lt
  exact Nat.lt_trans (by decide) h

end



/-! ### readings and rules -/


/-! ### displays -/

/-! ### methods -/
structure M2 (X : Cx) (o : Expr) (m : Str) (apos : Pos) (e f : Expr) (cpos : Pos) : Prop where
  base : attributeBase o m X.env (eval o X.env) = eval o X.env
  few : ((backTo cpos (starEach [e, f] X.env)).all (fun x => !x.1) && (backToKw cpos (keywordEach [] X.env)).all (fun x => x.1.isSome)
    && decide (([e, f] : List Expr).length + ([] : List Keyword).length + (if ([] : List Keyword).isEmpty then 0 else 1) < 30)) = true
  line : (apos.endLine == cpos.line) = true
  trees : backTo cpos (starEach [e, f] X.env) = [(false, eval e X.env), (false, eval f X.env)]

/-- a is a dict, whatever its keys -/
def IsD (H : Hp) (a : Addr) : Prop := (∃ kvs, Rd H a (.dK kvs)) ∨ ∃ kvs, Rd H a (.dT kvs)
theorem isD_at {X : Cx} {pins : List (Addr × Obj)} {σ : St} {H : Hp} {s : Shared} {a : Addr} (I : Inv X pins σ H s) (d : IsD H a) :
    s.TypeIs (.ref a) "dict" ∧ (∀ b, Value.ref a = .ref b → ∃ ob, s.heap.get? b = some ob ∧ ob.dict = none) ∧ (a == sysModules) = false := by
  rcases d with ⟨kvs, e⟩ | ⟨kvs, e⟩
  · obtain ⟨_, hd, vs, _, dd⟩ := dk_rd I.hok e
    refine ⟨dd.typeIs, fun b q => ?_, hd⟩
    cases q
    obtain ⟨ob, _, _, h1, h2, _⟩ := dd
    exact ⟨ob, h1, h2.2.1⟩
  · obtain ⟨_, hd, xs, _, dd⟩ := dt_rd I.hok e
    refine ⟨dd.typeIs, fun b q => ?_, hd⟩
    cases q
    obtain ⟨ob, _, _, h1, h2, _⟩ := dd
    exact ⟨ob, h1, h2.2.1⟩

section
variable {X : Cx} {pins : List (Addr × Obj)} {σ : St} {H : Hp} {s : Shared} {a : Addr} {y d : V} {u r : Value} {o : Option V} {A : Around} {E : Value → Shared → Prop}
/-- d.get(y, x) -/
theorem d_get2 {Q : Value → Shared → Prop} (hu : A.units + 1 < cLine) (I : Inv X pins σ H s) (g : DGet H a y o) (ry : RelV y u) (rd : RelV d r) (h : ∀ w' s', Inv X pins σ H s' → RelV (o.getD d) w' → Q w' s') :
    wpAny (model X.prog X.w) A (call (.builtin "dict.get") [.ref a, u, r]) Q E s := by
  rcases g with ⟨kvs, k, e, ey, l⟩ | ⟨kvs, k, b, e, ey, eb, l⟩
  · subst ey
    obtain ⟨z, hd, vs, rel, dd⟩ := dk_rd I.hok e
    refine call_meetsIn PySem.F.slot_dict_get dd.typeIs PySem.F.entry_dict_get (PySem.F.args_dict_get_3 _ _ _) (meets_dict_get_default (mixKind X.prog X.w) a (kV_is ry) hd r) ⟨_, dd.mapOf, h _ _ (I.tok _) ?_⟩
    rw [l]
    exact (rel.val k).getD rd
  · subst ey
    cases (show u = Value.ref b from ry)
    obtain ⟨z, hd, xs, rel, dd⟩ := dt_rd I.hok e
    refine call_meetsIn PySem.F.slot_dict_get dd.typeIs PySem.F.entry_dict_get (PySem.F.args_dict_get_3 _ _ _) (meetsH_dict_get_default (tupleKind (mixKind X.prog X.w)) a b hd r) ⟨tupleKind_room_in1 hu, k, xs, key_of I.hok eb, dd, h _ _ (I.tok _) ?_⟩
    rw [l]
    exact (rel.val k).getD rd
end

def tDGet2 (td ty tx : TE) : TE := fun σ H Q => td σ H fun x H1 => ∃ a, x = .ref a ∧ IsD H1 a ∧ ty σ H1 fun y H2 => tx σ H2 fun z H3 => ∃ o, DGet H3 a y o ∧ Q (o.getD z) H3
section
variable {X : Cx} {o e f : Expr} {apos cpos : Pos} {td ty tx : TE}
theorem pe_dget2 (hu : X.A.units + 1 < cLine) (ho : PE X o td) (he : PE X e ty) (hf : PE X f tx) (m : M2 X o "get" apos e f cpos) : PE X (.Call (.Attribute o "get" apos) [e, f] [] cpos) (tDGet2 td ty tx) := by
  intro pins s σ H Q I h
  refine wpAny_Call_method m.base m.few m.line PySem.F.plainAttrs_dict PySem.F.slot_dict_get PySem.F.type_dict_get (thn (ho pins s σ H _ I h) fun u s1 ⟨x, H1, I1, rx, a, ex, d, q1⟩ => ?_)
  subst ex
  obtain rfl : u = Value.ref a := rx
  obtain ⟨t1, t2, _⟩ := isD_at I1 d
  refine ⟨t1, t2, ?_⟩
  rw [m.trees]
  refine Calls.callWith_builtin rfl (Calls.evalArgs_plain (Calls.spliced_cons (thn (he pins s1 σ H1 _ I1 q1) fun iv s2 ⟨y, H2, I2, ry, q2⟩ =>
    Calls.spliced_cons (thn (hf pins s2 σ H2 _ I2 q2) fun fv s3 ⟨z, H3, I3, rz, ov, g, q3⟩ => Calls.spliced_nil ?_))))
  exact d_get2 hu I3 g ry rz fun w' s4 I4 rw' => ⟨_, H3, I4, rw', q3⟩
end

/-! ### dict(d): a copy -/


end L2
namespace L2
open PySem PySem.Spec PyProof.Rows
/-! ### a dict's pairs: keys that differ -/
end L2
/-! own classes: their methods and their making, as Has; a statement that is never come to; int(truth) -/
namespace L2
open PySem PySem.Spec PyProof.Rows
structure HasM (P : Program) (w : World) (K : PySem.W.Frag) (mg : Str → Option Value) (base : Heap) (C : Addr) (m : Str) (ps : List Str) (j : Nat) (sp : Sp) : Prop where
  ex : ∃ f fd, FnOk P w K mg base CX0 j f fd ps sp ∧ Binds K fd ps [] ∧ Meth K C m f
structure HasC (P : Program) (w : World) (K : PySem.W.Frag) (mg : Str → Option Value) (base : Heap) (C : Addr) (x : Str) (ps : List Str) (j : Nat) (sp : Sp) : Prop where
  ex : ∃ f fd, FnOk P w K mg base CX0 j f fd ps sp ∧ Binds K fd ps [] ∧ Mk K C f ∧ mg x = some (.ref C)
section
variable {X : Cx} {C : Addr} {m x : Str} {ps : List Str} {j k : Nat} {sp : Sp} {o e : Expr} {es : List Expr} {ta : TE} {t : TA} {p pos apos : Pos}
theorem pe_hasm {pl : Sem Bool} (G : HasM X.prog X.w X.K X.mg X.base C m ps j sp) (hr : Room k X.A) (he : PE X o ta) (c : Cls X.K C) (ha : PA X (e :: es) t) (hk : j ≤ k := by decide)
    (hst : starEach (e :: es) X.env = (false, eval e X.env) :: starEach es X.env := by rfl) (hpl : (backTo pos (starEach es X.env)).any (·.1) = false := by rfl)
    (ht : eval (.Call (.Attribute o m apos) (e :: es) [] pos) X.env = (do
      let ov ← eval o X.env
      standAt apos.atName
      let (f, first) ← holding [ov] (getMethod ov m pl)
      callWith pos f first (backTo pos (starEach (e :: es) X.env)) (backToKw pos (keywordEach [] X.env))) := by rfl) : PE X (.Call (.Attribute o m apos) (e :: es) [] pos) (tMeth C m sp [] E0 ta t) := by
  obtain ⟨f, fd, F, b, hm⟩ := G.ex
  exact pe_meth (pl := pl) he c hm (F.room hk) hr b .nil pass0 ha hst hpl ht
theorem pe_hasm0 {pl : Sem Bool} (G : HasM X.prog X.w X.K X.mg X.base C m ps j sp) (hr : Room k X.A) (he : PE X o ta) (c : Cls X.K C) (hk : j ≤ k := by decide)
    (ht : eval (.Call (.Attribute o m apos) [] [] pos) X.env = (do
      let ov ← eval o X.env
      standAt apos.atName
      let (f, first) ← holding [ov] (getMethod ov m pl)
      callWith pos f first (backTo pos (starEach [] X.env)) (backToKw pos (keywordEach [] X.env))) := by rfl) : PE X (.Call (.Attribute o m apos) [] [] pos) (tMeth C m sp [] E0 ta tNil) := by
  obtain ⟨f, fd, F, b, hm⟩ := G.ex
  exact pe_meth0 (pl := pl) he c hm (F.room hk) hr b .nil pass0 ht
end
end L2
namespace L2
open PySem PySem.Spec PyProof.Rows
theorem call_intB {X : Cx} : CallR X (.type "int") (fun xs H Q => ∃ b, xs = [.bl b] ∧ Q (.int (if b = true then 1 else 0)) H) := by
  intro pins s σ H xs us Q I r h
  obtain ⟨b, rfl, q⟩ := h
  obtain ⟨u, rfl, ru⟩ := vals1 r
  cases ru
  exact call_int_bool ⟨.int (if b = true then 1 else 0), H, I.tok _, ⟨_, rfl⟩, q⟩
end L2

/-! for i, c in enumerate(text) -/
namespace L2
open PySem PySem.Spec PyProof.Rows
end L2

/-! t + u of tuples, == of lists of texts, groves behind one another -/
namespace L2
open PySem PySem.Spec PyProof.Rows
end L2
namespace Fg
open PySem L2 FgM
theorem eqn_lists {K : PySem.W.Frag} {H : Hp} {a b : Addr} {xs ys : List Str} {n : Nat} {neg : Bool} {Q : VK} (hA : SqL K H a (xs.map V.str)) (hB : SqL K H b (ys.map V.str)) (o1 : OkW xs) (o2 : OkW ys) (hn : 1 ≤ n)
    (q : Q (.bl (if neg then !decide (xs = ys) else decide (xs = ys))) H) : rEqDn K n neg (.ref a) (.ref b) H Q := by
  refine ⟨.list (xs.map PyData.str), .list (ys.map PyData.str), .lst hA (dp_strs xs), .lst hB (dp_strs ys), lay_strs o1, lay_strs o2, ?_, ?_⟩
  · show min (PyData.depthAll (xs.map PyData.str) + 1) (PyData.depthAll (ys.map PyData.str) + 1) ≤ n
    rw [depth_strs, depth_strs]
    exact hn
  · have e : PyData.eqv (.list (xs.map PyData.str)) (.list (ys.map PyData.str)) = decide (xs = ys) := eqv_strs xs ys
    rw [e]
    exact q
end Fg
namespace FgM
end FgM
namespace Fg
open PySem L2 FgM
end Fg

/-! recursion's ground, constants of the module, == of tuples by their lengths, blocks with captured names -/
namespace L2
open PySem PySem.Spec PyProof.Rows
theorem FnOk.none {P : Program} {w : World} {K : PySem.W.Frag} {mg : Str → Option Value} {base : Heap} {CX : CXT} {k : Nat} {f : Addr} {fd : FuncData} {ps : List Str} {sp : Sp} (h : ∀ vs H Q E, ¬ sp vs H Q E) : FnOk P w K mg base CX k f fd ps sp :=
  ⟨fun vs H Q E z => absurd z (h vs H Q E), fun A outer s H args us vs Q E hr e0 hb r z => absurd z (h vs H Q E)⟩
/-! captured names -/
theorem lookup_mem {β : Type} {x : Str} {c : β} : ∀ {l : List (Str × β)}, l.lookup x = some c → (x, c) ∈ l
  | [], h => by cases h
  | (y, d) :: l, h => by
    rw [List.lookup_cons] at h
    cases e : x == y with
    | true =>
      rw [e] at h
      cases h
      rw [beq_iff_eq.mp e]
      exact List.mem_cons_self ..
    | false =>
      rw [e] at h
      exact List.mem_cons_of_mem _ (lookup_mem h)
theorem cap_cl {env : Env} {cl : List (Str × Addr)} (h : ∀ p ∈ cl, env.cells.lookup p.1 = some p.2) : ∀ x c, cl.lookup x = some c → env.cells.lookup x = some c := fun x c e => h (x, c) (lookup_mem e)
theorem cap_has {scope : Scope} {env : Env} {cl : List (Str × Addr)} (h : ∀ y ∈ scope.names, (y.2 = .cell ∨ y.2 = .free) → ∃ c, cl.lookup y.1 = some c) : ∀ (C : Addr) (x : Str), ((compEnvC scope cl C env).kindOf x = some .cell ∨ (compEnvC scope cl C env).kindOf x = some .free) → ∃ c, cl.lookup x = some c := by
  have key : ∀ (k : NameKind) (x : Str), (k = .cell ∨ k = .free) → (scope.names.map fun (n, k) => if (k == .free && env.scope.kind == .function && env.kindOf n == some .cell) then (n, .cell) else (n, k)).lookup x = some k → ∃ c, cl.lookup x = some c := by
    intro k x hk e
    obtain ⟨⟨n, k0⟩, hy, he⟩ := List.mem_map.mp (lookup_mem e)
    by_cases hc : (k0 == .free && env.scope.kind == .function && env.kindOf n == some .cell) = true
    · simp only [hc, if_true] at he
      have h0 : k0 = .free := by
        simp only [Bool.and_eq_true] at hc
        have := hc.1.1
        cases k0 <;> first | rfl | exact absurd this (by decide)
      injection he with e1 e2
      subst e1
      exact h _ hy (.inr h0)
    · simp only [hc] at he
      injection he with e1 e2
      subst e1 e2
      exact h _ hy hk
  intro C x hx
  rcases hx with e | e
  · exact key _ x (.inl rfl) e
  · exact key _ x (.inr rfl) e
end L2
namespace L2
open PySem PySem.Spec PyProof.Rows
theorem ix_tupK {X : Cx} {K : PySem.W.Frag} (h : X.K = K) : IxR X (rIxT K) := by
  subst h
  exact ix_tup
end L2

/-! a block's parts by names of their own (what comes behind a statement is then one word in a proof) -/
namespace L2
open PySem PySem.Spec PyProof.Rows
def sBody : Stmt → List Stmt
  | .For _ _ b _ _ => b
  | .While _ b _ _ => b
  | .If _ b _ _ => b
  | _ => []
def sElse : Stmt → List Stmt
  | .If _ _ b _ => b
  | _ => []
theorem hideI {X : Cx} {b : List Stmt} {D : Ends} {σ : St} {H : Hp} (s : List Stmt) {t : TS} (h : PSs X s t) (k : ∀ u, PSs X s u → u = t → ∃ t, PSs X b t ∧ t D σ H) : ∃ t, PSs X b t ∧ t D σ H := k t h rfl
theorem by_eq {u t : TS} (e : u = t) {D : Ends} {σ : St} {H : Hp} (h : t D σ H) : u D σ H := e ▸ h
theorem len1 {α : Type} : ∀ {us : List α}, us.length = 1 → ∃ a, us = [a]
  | [a], _ => ⟨a, rfl⟩
theorem lenS {α : Type} {n : Nat} : ∀ {us : List α}, us.length = n + 1 → ∃ a vs, us = a :: vs ∧ vs.length = n
  | a :: vs, h => ⟨a, vs, rfl, Nat.succ.inj h⟩
theorem len2 {α : Type} {us : List α} (h : us.length = 2) : ∃ a b, us = [a, b] := by
  obtain ⟨a, vs, rfl, h2⟩ := lenS h
  obtain ⟨b, rfl⟩ := len1 h2
  exact ⟨a, b, rfl⟩
theorem len3 {α : Type} {us : List α} (h : us.length = 3) : ∃ a b c, us = [a, b, c] := by
  obtain ⟨a, vs, rfl, h2⟩ := lenS h
  obtain ⟨b, c, rfl⟩ := len2 h2
  exact ⟨a, b, c, rfl⟩
end L2

/-! exceptions of own classes: raised, passed on, caught -/
namespace L2
open PySem PySem.Spec PyProof.Rows
/-- the exception at e: its class, its own dict -/
def XO (e : Addr) (C : Value) (d : Option Addr) : Heap → Prop := fun h => ∃ oe vs, h.get? e = some oe ∧ oe.cls = C ∧ oe.dict = d ∧ oe.data = .fields vs ∧ 4 < vs.size
theorem XO.ext_ok {P : Program} {w : World} {H : Hp} {h : Heap} {e : Addr} {C : Value} {d : Option Addr} (x : XO e C d h) : ObjOk P w H h e (.ext (XO e C d)) := by
  refine ⟨x, ?_, fun h1 h2 p k => ?_⟩
  · obtain ⟨oe, _, ho, _⟩ := x
    exact ⟨oe, ho⟩
  · obtain ⟨oe, vs, ho, r⟩ := p
    exact ⟨oe, vs, k oe ho, r⟩
theorem upd_self {H : Hp} {a : Addr} {o : HO} (h : H a = some o) : upd H a o = H := by
  funext b
  unfold upd
  by_cases e : b = a
  · subst e; rw [if_pos rfl, h]
  · rw [if_neg e]
section
variable {X : Cx} {pins : List (Addr × Obj)} {σ : St} {H : Hp} {s : Shared} {e T : Addr} {C : Value} {d : Option Addr} {M : Model} {A : Around} {E : Value → Shared → Prop} {Q : Unit → Shared → Prop}
theorem Inv.xo (I : Inv X pins σ H s) (he : H e = some (.ext (XO e C d))) : XO e C d s.heap := (I.hok e _ he).1
/-- the exception's own object is changed -/
theorem Inv.poke {h' : Heap} {t' : Nat} (I : Inv X pins σ H s) (he : H e = some (.ext (XO e C d))) (k : ∀ b u, b ≠ e → s.heap.get? b = some u → h'.get? b = some u) (x : XO e C d h') : Inv X pins σ H { s with heap := h', toks := t' } := by
  have := I.write (x := e) (e := e) (o := .ext (XO e C d)) (h' := h') (t' := t') (by rw [he]; trivial) (.inl rfl) k (by obtain ⟨oe, _, ho, _⟩ := x; exact ⟨oe, ho⟩) x.ext_ok
  rwa [upd_self he] at this
/-- the head of the traceback -/
def XHead (X : Cx) (pins : List (Addr × Obj)) (H : Hp) (h : Heap) (e : Addr) (fl : Value) : Prop :=
  ∃ T oT ts oe vs, h.get? e = some oe ∧ oe.data = .fields vs ∧ vs[1]? = some (.ref T) ∧ FpOk X pins H T ∧ h.get? T = some oT ∧ oT.data = .fields ts ∧ ts[3]? = some fl
def XSt (X : Cx) (pins : List (Addr × Obj)) (H : Hp) (h : Heap) (e : Addr) : Prop := (∃ oe vs, h.get? e = some oe ∧ oe.data = .fields vs ∧ vs[1]? = some .none) ∨ XHead X pins H h e .none
theorem fld_up {h : Heap} {a : Addr} {o : Obj} {vs : Array Value} (i : Nat) (x : Value) (ho : h.get? a = some o) (hd : o.data = .fields vs) :
    (h.update a (Obj.mapFields (·.setIfInBounds i x))).get? a = some (o.mapFields (·.setIfInBounds i x)) := Heap.get?_update_self _ ho (Obj.isFreed_of_fields (Obj.data_mapFields hd _))
theorem dict_map (o : Obj) (f : Array Value → Array Value) : (o.mapFields f).dict = o.dict := by
  obtain ⟨c, d, dt, sl⟩ := o
  cases dt <;> rfl
theorem XO.put {h : Heap} (x : XO e C d h) (i : Nat) (v : Value) : XO e C d (h.update e (Obj.mapFields (·.setIfInBounds i v))) := by
  obtain ⟨oe, vs, ho, hc, hdd, hd, hz⟩ := x
  exact ⟨_, _, fld_up i v ho hd, (Obj.cls_mapFields ..).trans hc, (dict_map ..).trans hdd, Obj.data_mapFields hd _, by simpa using hz⟩
/-- the slots of the frames that run have changed -/
theorem Inv.slots {h' : Heap} (I : Inv X pins σ H s) (hs : Heap.SlotsOnly (frs X.stack) s.heap h') : Inv X pins σ H { s with heap := h' } := by
  refine I.call' (s' := { s with heap := h' }) (ch := []) rfl ⟨fun b o q n hb _ => (hs.2.1 b hb).trans q, fun b o q _ _ _ => hs.2.2 b o q, fun _ _ _ n _ => n, fun b o q _ => let ⟨sl, e⟩ := hs.2.2 b o q; ⟨_, e⟩, fun _ _ q => q, fun _ _ _ q => q, fun _ ps q => ⟨#[], by rw [q]; simp⟩⟩ ?_ I.bare (fun b z => absurd z (by simp))
  intro b o q
  have hfr := I.stkFree
  refine (I.hok b o q).stay (fun c u hc z => ?_) (fun _ z => z) (fun _ _ z => z)
  have hn : c ∉ frs X.stack := by
    intro hm
    rcases hc with rfl | hc
    · rw [hfr _ hm] at q; cases q
    · rw [hfr _ hm] at hc; cases hc
  exact (hs.2.1 c hn).trans z
theorem entry_ok {head : Value} {hadNext : Bool} (hA : A.frames = some (X.env :: X.outer)) (hstk : X.stack = X.env :: X.outer) (hf : X.env.frame = some X.env.locals) (I : Inv X pins σ H s) (he : H e = some (.ext (XO e C d)))
    (h : ∀ h', Inv X pins σ H { s with heap := h' } → XHead X pins H h' e (rawInt X.env.locals) → Q () { s with heap := h' }) :
    wpAny M A (frameOf X.env >>= fun a => entryPlaceOf X.env.locals hadNext >>= fun pl => EntryCells.newEntry head a .none (rawInt X.env.locals) .none pl >>= fun b => setField (.ref e) 1 b) Q E s := by
  have hl : s.heap.FunFrames X.base (X.env :: X.outer) := hstk ▸ I.stack
  refine wpAny_bind (wpAny_frameOf_fun hA hl hf fun h1 hs1 => ?_)
  have I1 : Inv X pins σ H { s with heap := h1 } := I.slots (by rw [hstk]; exact hs1)
  refine wpAny_bind (wpAny_entryPlaceOf fun pl hpl => ?_)
  unfold EntryCells.newEntry newFields
  refine wpAny_bind (wpAny_newObj_type ?_ (hpl.sizeOk5 _ _ _ _ _))
  generalize hob : ({ cls := Value.type "traceback", dict := none, data := Data.fields ([head, Value.ref X.env.locals, Value.none, rawInt X.env.locals, Value.none] ++ (if pl.isEmpty then List.replicate 6 Value.none else pl)).toArray } : Obj) = ob
  have I2 : Inv X pins σ H { s with heap := h1.push ob } := I1.kept (h' := h1.push ob) (t' := s.toks) fun b u q => Heap.get?_push_of_some _ q
  obtain ⟨oe, vs, ho, hc, hdd, hd, hz⟩ := I2.xo he
  refine wpAny_setField ho hd (by (first | lia | omega)) (h _ (I2.poke (t' := s.toks) he (fun b u hb q => (Heap.get?_update_other _ _ (Ne.symm hb)).trans q) ((I2.xo he).put 1 _)) ?_)
  have hT : (h1.push ob).get? h1.objs.size = some ob := Heap.get?_push_size _ (by rw [← hob]; rfl)
  have hne : e ≠ h1.objs.size := fun z => by
    have := I1.hok.lt he
    rw [z] at this
    exact absurd this (Nat.lt_irrefl _)
  refine ⟨h1.objs.size, ob, ([head, Value.ref X.env.locals, Value.none, rawInt X.env.locals, Value.none] ++ (if pl.isEmpty then List.replicate 6 Value.none else pl)).toArray, _, _, fld_up 1 _ ho hd, Obj.data_mapFields hd _, ?_, I1.fpOk (Nat.le_refl _) (I1.hok.fresh (Nat.le_refl _)), (Heap.get?_update_other _ _ hne).trans hT, ?_, ?_⟩
  · rw [Array.getElem?_setIfInBounds_self_of_lt (by (first | lia | omega))]
  · rw [← hob]
  · simp
theorem note_ok (hA : A.frames = some (X.env :: X.outer)) (hstk : X.stack = X.env :: X.outer) (hf : X.env.frame = some X.env.locals) (I : Inv X pins σ H s) (he : H e = some (.ext (XO e C d))) (x : XSt X pins H s.heap e)
    (h : ∀ h', Inv X pins σ H { s with heap := h' } → XHead X pins H h' e (rawInt X.env.locals) → Q () { s with heap := h' }) : wpAny M A (noteFrame (.ref e) X.env) Q E s := by
  unfold noteFrame
  simp only [hf]
  rcases x with ⟨oe, vs, ho, hd, h1⟩ | ⟨T, oT, ts, oe, vs, ho, hd, h1, fT, hT, hdT, h3⟩
  · refine wpAny_bind (wpAny_field ho hd h1 ?_)
    rw [if_neg (by decide)]
    exact entry_ok hA hstk hf I he h
  · refine wpAny_bind (wpAny_field ho hd h1 ?_)
    rw [if_pos (show (Value.ref T != Value.none) = true by simp)]
    refine wpAny_bind (wpAny_field hT hdT h3 ?_)
    rw [if_neg (show ¬ ((Value.none == rawInt X.env.locals) = true) by simp [rawInt])]
    refine wpAny_bind (wpAny_setField hT hdT (Array.getElem?_eq_some_iff.mp h3).1 ?_)
    obtain ⟨f0, f1, f2, f3, f4, f5⟩ := fT
    have I1 := I.turned (t' := s.toks) (h' := s.heap.update T (Obj.mapFields (·.setIfInBounds 3 Value.none))) (fun b u hb q => (Heap.get?_update_other _ _ (Ne.symm hb)).trans q) f0 f1 f3 f4 f5
    exact entry_ok hA hstk hf I1 he h
theorem land_ok {fl : Value} (I : Inv X pins σ H s) (he : H e = some (.ext (XO e C d))) (x : XHead X pins H s.heap e fl)
    (h : ∀ h', Inv X pins σ H { s with heap := h' } → XHead X pins H h' e .none → Q () { s with heap := h' }) : wpAny M A (setFlight (.ref e) none) Q E s := by
  obtain ⟨T, oT, ts, oe, vs, ho, hd, h1, fT, hT, hdT, h3⟩ := x
  unfold setFlight
  refine wpAny_bind (wpAny_field ho hd h1 ?_)
  rw [if_pos (show (Value.ref T != Value.none) = true by simp)]
  refine wpAny_setField hT hdT (Array.getElem?_eq_some_iff.mp h3).1 ?_
  obtain ⟨f0, f1, f2, f3, f4, f5⟩ := id fT
  have hne : T ≠ e := fun z => by subst z; rw [f0] at he; cases he
  refine h _ (I.turned (t' := s.toks) (fun b u hb q => (Heap.get?_update_other _ _ (Ne.symm hb)).trans q) f0 f1 f3 f4 f5) ⟨T, _, _, oe, vs, (Heap.get?_update_other _ _ hne).trans ho, hd, h1, fT, fld_up 3 _ hT hdT, Obj.data_mapFields hdT _, ?_⟩
  rw [Array.getElem?_setIfInBounds_self_of_lt (Array.getElem?_eq_some_iff.mp h3).1]
  rfl
end
/-- what a body wants of an exception, by its names' values -/
abbrev XKS := St → XK
/-- how an exception lies behind a call -/
def CXE (P : Program) (w : World) : CXT := fun outer H s E ev s' => ∃ (e : Addr) (C : Value) (d : Option Addr) (H' : Hp), ev = .ref e ∧ s'.os = s.os ∧ AllBare s'.gens ∧ Un (frs outer) [] H H' s.heap s'.heap ∧ HOk P w H' s'.heap ∧
  H' e = some (.ext (XO e C d)) ∧ s.heap.objs.size ≤ e ∧ (∃ T oT ts oe vs, s'.heap.get? e = some oe ∧ oe.data = .fields vs ∧ vs[1]? = some (.ref T) ∧ H' T = none ∧ s.heap.objs.size ≤ T ∧ s'.heap.get? T = some oT ∧ oT.data = .fields ts ∧ ts[3]? = some .none) ∧ E C d H'
def Takes (X : Cx) (E : XKS) : Prop := ∀ (pins : List (Addr × Obj)) (σ : St) (H : Hp) (s : Shared) (e : Addr) (C : Value) (d : Option Addr), Inv X pins σ H s → H e = some (.ext (XO e C d)) → (X.ex = [] → X.s₀.heap.objs.size ≤ e) → XSt X pins H s.heap e → E σ C d H → X.xe (.ref e) s
theorem takes_def {P : Program} {w : World} {K : PySem.W.Frag} {mg : Str → Option Value} {base : Heap} {N : List Str} {qual : Str} {scope : Scope} {f : Addr} {cd : Value} {A : Around} {outer : List Env} {s : Shared} {H : Hp} {E : XK} :
    Takes (cxOf (CXE P w) P w K mg base N qual scope f cd A outer s H E) (fun _ => E) := by
  intro pins σ H1 s1 e C d I he hy x hE
  show wpAny _ _ (leaving _ _) _ _ s1
  unfold leaving
  refine wpAny_bind (note_ok (X := cxOf (CXE P w) P w K mg base N qual scope f cd A outer s H E) I.ok.frames rfl rfl I he x fun h2 I2 x2 => land_ok I2 he x2 fun h3 I3 x3 => ?_)
  obtain ⟨T, oT, ts, oe, vs, ho, hd, h1, fT, hT, hdT, h3'⟩ := x3
  refine ⟨e, C, d, H1, rfl, I3.os, I3.bare, I3.base, I3.hok, he, hy rfl, ⟨T, oT, ts, oe, vs, ho, hd, h1, fT.1, ?_, hT, hdT, h3'⟩, hE⟩
  rcases fT.2.2.2.1 with z | z
  · exact absurd z (by show T ∉ ([] : List Addr); simp)
  · exact z
/-- a callee's exception comes to a body that takes it -/
theorem takes_pass {X : Cx} {E : XKS} (hT : Takes X E) {pins : List (Addr × Obj)} {σ : St} {H : Hp} {s s' : Shared} {ev : Value} (I : Inv X pins σ H s) (h : CXE X.prog X.w X.stack H s (E σ) ev s') : X.xe ev s' := by
  obtain ⟨e, C, d, H', rfl, os, bare, un, hok, he, hes, ⟨T, oT, ts, oe, vs, ho, hd, h1, hTn, hTs, hT', hdT, h3⟩, hE⟩ := h
  have I1 := I.call' (ch := []) os un hok bare (fun b z => absurd z (by simp))
  exact hT pins σ H' s' e C d I1 he (fun _ => Nat.le_trans I.sz hes) (.inr ⟨T, oT, ts, oe, vs, ho, hd, h1, I.fpOk hTs hTn, hT', hdT, h3⟩) hE
end L2

namespace L2
open PySem PySem.Spec PyProof.Rows
/-! ### callees that may raise -/
section
variable {X : Cx} {j k : Nat} {f : Addr} {fd : FuncData} {ps : List Str} {sp : Sp} {E : XKS} {x : Str} {p pos : Pos} {e : Expr} {es : List Expr} {t : TA}
theorem run_fnX {pins : List (Addr × Obj)} {σ : St} {H : Hp} {s : Shared} {Q : VK} {us : List Value} {vs : List V} (F : FnOk X.prog X.w X.K X.mg X.base (CXE X.prog X.w) k f fd ps sp) (hr : Room k X.A) (hb : Binds X.K fd ps []) (hT : Takes X E)
    (I : Inv X pins σ H s) (r : Vals vs us) (h : sp vs H Q (E σ)) : wpAny (model X.prog X.w) X.A (call (.ref f) us) (EP X pins σ Q) X.xe s := by
  have hl : us.length = ps.length := by rw [← r.length]; exact F.len _ _ _ _ h
  have hbb := hb s us I.kIn (by rw [List.append_nil]; exact hl)
  rw [List.append_nil] at hbb
  refine wpAny_call (codeAny_mono (F.run X.A X.stack s H ⟨us, []⟩ us vs Q (E σ) hr I.env0 hbb r h) fun r s' hq => ?_)
  cases r with
  | error e => exact takes_pass hT I hq
  | ok fl =>
    cases fl with
    | ret u => exact I.after hq
    | next => exact False.elim hq
    | brk => exact False.elim hq
    | cont => exact False.elim hq
end
/-- a def of the text that may raise -/
theorem Fun.okX {P : Program} {w : World} {K : PySem.W.Frag} {mg : Str → Option Value} {base : Heap} {x qual : Str} {st : Stmt} {f : Addr} {fd : FuncData} {N ps : List Str} {k : Nat} {sp : Sp} (F : Fun K x qual st f fd) (S : FnScope N ps (defScope st)) (len : ∀ vs H Q E, sp vs H Q E → vs.length = ps.length)
    (hbody : ∀ (cdv : Value) (A : Around) (outer : List Env) (s : Shared) (H : Hp) (vs : List V) (Q : VK) (E : XK), Room k (A.deeper (envOfC qual (defScope st) s.heap.objs.size f cdv)) → sp vs H Q E →
      ∃ t, PSs (cxOf (CXE P w) P w K mg base N qual (defScope st) f cdv A outer s H E) (defBody st) t ∧ t { nx := fun _ H' => Q .non H', rt := Q } (start N vs) H) : FnOk P w K mg base (CXE P w) (k + 1) f fd ps sp := by
  obtain ⟨oc, od, kV, doc, pm, an, cdv, ct, osl, rfl, lk, hcd⟩ := F.ex
  exact fn_of lk hcd S len fun A outer s H vs Q E hr hsp => hbody cdv A outer s H vs Q E hr hsp
/-! ### which classes an except names -/
structure XCl (K : PySem.W.Frag) (D : Addr) : Prop where
  cl : PySem.W.isClsIn K D = true
  exc : PySem.W.mroIn K D (.type "BaseException") = some true
  nt : PySem.W.instIn K (.ref D) (.type "tuple") = some false
inductive Spec (K : PySem.W.Frag) (H : Hp) : V → List Addr → Prop
  | one {D : Addr} : XCl K D → Spec K H (.ref D) [D]
  | many {p : Addr} {Ds : List Addr} : SqT K H p (Ds.map V.ref) → (∀ D ∈ Ds, XCl K D) → Spec K H (.ref p) Ds
theorem vals_refs : ∀ {Ds : List Addr} {us : List Value}, Vals (Ds.map V.ref) us → us = Ds.map Value.ref
  | [], _, .nil => rfl
  | D :: Ds, _, .cons r t => by
    rw [vals_refs t]
    obtain rfl : _ = Value.ref D := r
    rfl
section
variable {M : Model} {A : Around} {E : Value → Shared → Prop} {s : Shared} {K : PySem.W.Frag} {D : Addr}
theorem XCl.isExc (x : XCl K D) (X : K.In s.heap) {Q : Bool → Shared → Prop} (h : Q true s) : wpAny M A (isExcClass (.ref D)) Q E s := by
  have hc := x.cl
  unfold PySem.W.isClsIn PySem.W.clsIn at hc
  split at hc
  · rename_i ho
    unfold isExcClass
    refine wpAny_bind ?_
    show wpAny M A (loadHead D >>= _) _ _ s
    refine wpAny_bind (wpAny_loadPart (X _ _ ho) (wpAny_pure ?_))
    dsimp only
    rw [if_pos rfl]
    exact (PySem.W.looks_mroIn X x.exc).here h
  · cases hc
theorem each_ok {g : Value → PUnit → Sem (ForInStep PUnit)} : ∀ (Ls : List Addr), (∀ D ∈ Ls, ∀ {Q : ForInStep PUnit → Shared → Prop}, Q (.yield PUnit.unit) s → wpAny M A (g (.ref D) PUnit.unit) Q E s) → ∀ {Q : PUnit → Shared → Prop}, Q PUnit.unit s → wpAny M A (forIn (Ls.map Value.ref) PUnit.unit g) Q E s
  | [], _, _, h => wpAny_pure h
  | D :: Ls, hg, _, h => by
    rw [List.map_cons, List.forIn_cons]
    exact wpAny_bind (hg D (List.mem_cons_self ..) (each_ok Ls (fun y hy => hg y (List.mem_cons_of_mem _ hy)) h))
theorem any_ok {f : Addr → Bool} {g : Value → Option Bool × Unit → Sem (ForInStep (Option Bool × Unit))} : ∀ (Ls : List Addr), (∀ D ∈ Ls, ∀ {Q : ForInStep (Option Bool × Unit) → Shared → Prop}, Q (if f D = true then .done (some true, ()) else .yield (none, ())) s → wpAny M A (g (.ref D) (none, ())) Q E s) →
    ∀ {Q : Option Bool × Unit → Shared → Prop}, Q (if Ls.any f = true then some true else none, ()) s → wpAny M A (forIn (Ls.map Value.ref) ((none, ()) : Option Bool × Unit) g) Q E s
  | [], _, _, h => wpAny_pure h
  | D :: Ls, hg, _, h => by
    rw [List.map_cons, List.forIn_cons]
    rw [List.any_cons] at h
    refine wpAny_bind (hg D (List.mem_cons_self ..) ?_)
    cases hf : f D with
    | true =>
      rw [hf] at h
      exact wpAny_pure h
    | false =>
      rw [hf] at h
      exact any_ok Ls (fun y hy => hg y (List.mem_cons_of_mem _ hy)) h
theorem em_ok {X : Cx} {pins : List (Addr × Obj)} {σ : St} {H : Hp} {f : Addr → Bool} {C e : Addr} {oe : Obj} {Q : Bool → Shared → Prop} {v : V} {u : Value} {Ds : List Addr} (I : Inv X pins σ H s) (hv : Spec X.K H v Ds) (r : RelV v u) (he : s.heap.get? e = some oe) (hc : oe.cls = .ref C)
    (hb : ∀ D ∈ Ds, PySem.W.mroIn X.K C (.ref D) = some (f D)) (h : Q (Ds.any f) s) : wpAny M A (excMatches (.ref e) u) Q E s := by
  cases hv with
  | @one D hD =>
    obtain rfl : u = Value.ref D := r
    unfold excMatches
    refine wpAny_bind ((PySem.W.looks_instIn I.kIn hD.nt).here ?_)
    dsimp only
    rw [if_neg Bool.false_ne_true]
    refine wpAny_bind (wpAny_pure ?_)
    refine wpAny_bind (each_ok [D] (fun y hy {Q} q => ?_) (wpAny_bind (wpAny_typeOf_ref he (wpAny_bind (any_ok (f := f) [D] (fun y hy {Q} q => ?_) ?_)))))
    · obtain rfl := List.mem_singleton.mp hy
      exact wpAny_bind (hD.isExc I.kIn (wpAny_pure q))
    · rw [hc]
      refine wpAny_bind ((PySem.W.looks_mroIn I.kIn (hb y hy)).here ?_)
      cases hf : f y with
      | true => rw [hf] at q; exact wpAny_pure q
      | false => rw [hf] at q; exact wpAny_pure q
    · cases hf : [D].any f with
      | true => rw [hf] at h; exact wpAny_pure h
      | false => rw [hf] at h; exact wpAny_pure h
  | @many p _ hp hD =>
    obtain rfl : u = Value.ref p := r
    obtain ⟨its, rv, ⟨o, ho, hcl, n, hd⟩, _⟩ := I.tuple hp
    unfold excMatches
    refine wpAny_bind (wpAny_isInstance (T := "tuple") ⟨o, ho, hcl⟩ (show isSubtype (.type "tuple") (.type "tuple") = pure true by rw [isSubtype_type]; kernel_rfl) ?_)
    dsimp only
    rw [if_pos rfl]
    refine wpAny_bind (wpAny_seqItems ho hd (wpAny_bind (wpAny_pure ?_)))
    have e1 : ((some its.toArray).getD #[]).toList = Ds.map Value.ref := by
      rw [← vals_refs rv]; rfl
    rw [e1]
    refine wpAny_bind (each_ok Ds (fun y hy {Q} q => ?_) (wpAny_bind (wpAny_typeOf_ref he (wpAny_bind (any_ok (f := f) Ds (fun y hy {Q} q => ?_) ?_)))))
    · exact wpAny_bind ((hD y hy).isExc I.kIn (wpAny_pure q))
    · rw [hc]
      refine wpAny_bind ((PySem.W.looks_mroIn I.kIn (hb y hy)).here ?_)
      cases hf : f y with
      | true => rw [hf] at q; exact wpAny_pure q
      | false => rw [hf] at q; exact wpAny_pure q
    · cases hf : Ds.any f with
      | true => rw [hf] at h; exact wpAny_pure h
      | false => rw [hf] at h; exact wpAny_pure h
end
end L2

namespace L2
open PySem PySem.Spec PyProof.Rows
/-! ### try -/
/-- the body of a try: the pins are borne by every state -/
abbrev Cx.tr (X : Cx) (pins : List (Addr × Obj)) (E : Value → Shared → Prop) : Cx := { X with pn := X.pn ++ pins, xe := E }
/-- an except's test or suite -/
abbrev Cx.hd (X : Cx) (e : Addr) : Cx := { X with A := X.A.mark (some (.ref e)), calm := false, xe := fun _ _ => False }
section
variable {X : Cx} {pins pins' : List (Addr × Obj)} {σ : St} {H : Hp} {s : Shared} {e : Addr} {E : Value → Shared → Prop}
theorem Inv.tr (I : Inv X pins σ H s) (E : Value → Shared → Prop) : Inv (X.tr pins E) [] σ H s :=
  ⟨⟨I.ok.mod, I.ok.kind, I.ok.glob, I.ok.blt, I.ok.above, I.ok.inj, I.ok.has, I.ok.cab, I.ok.hd, I.ok.frames, I.ok.stk, I.ok.exf, I.ok.bs, I.ok.bsz, I.ok.noex, I.ok.exfs, I.ok.funs, I.ok.frf⟩, I.os, I.bare, I.base, I.loc, I.cell, I.free, I.freeC, fun p hp => I.pin p (by simpa using hp), I.hok, I.len⟩
theorem Inv.untr (I : Inv (X.tr pins E) pins' σ H s) : Inv X pins σ H s :=
  ⟨⟨I.ok.mod, I.ok.kind, I.ok.glob, I.ok.blt, I.ok.above, I.ok.inj, I.ok.has, I.ok.cab, I.ok.hd, I.ok.frames, I.ok.stk, I.ok.exf, I.ok.bs, I.ok.bsz, I.ok.noex, I.ok.exfs, I.ok.funs, I.ok.frf⟩, I.os, I.bare, I.base, I.loc, I.cell, I.free, I.freeC, fun p hp => I.pin p (List.mem_append_left _ hp), I.hok, I.len⟩
theorem FpOk.untr {T : Addr} (f : FpOk (X.tr pins E) pins' H T) : FpOk X pins H T := ⟨f.1, f.2.1, f.2.2.1, f.2.2.2.1, f.2.2.2.2.1, fun p hp => f.2.2.2.2.2 p (List.mem_append_left _ hp)⟩
theorem Inv.hd (I : Inv X pins σ H s) (e : Addr) : Inv (X.hd e) pins σ H s :=
  ⟨⟨I.ok.mod, I.ok.kind, I.ok.glob, I.ok.blt, I.ok.above, I.ok.inj, I.ok.has, I.ok.cab, (fun z => nomatch z), I.ok.frames, I.ok.stk, I.ok.exf, I.ok.bs, I.ok.bsz, I.ok.noex, I.ok.exfs, I.ok.funs, I.ok.frf⟩, I.os, I.bare, I.base, I.loc, I.cell, I.free, I.freeC, I.pin, I.hok, I.len⟩
theorem Inv.unhd (I : Inv (X.hd e) pins σ H s) (ok : X.Ok) : Inv X pins σ H s := ⟨ok, I.os, I.bare, I.base, I.loc, I.cell, I.free, I.freeC, I.pin, I.hok, I.len⟩
theorem Inv.drop1 {p : Addr × Obj} (I : Inv X (p :: pins) σ H s) : Inv X pins σ H s := I.pins_of fun q hq => I.pin q (List.mem_append_right _ (List.mem_cons_of_mem _ hq))
theorem SP.untr {D : Ends} {f : Flow} {s' : Shared} (h : SP (X.tr pins E) pins' D f s') : SP X pins D f s' := by
  cases f with
  | next => obtain ⟨σ', H', I, q⟩ := h; exact ⟨σ', H', I.untr, q⟩
  | brk => obtain ⟨σ', H', I, q⟩ := h; exact ⟨σ', H', I.untr, q⟩
  | cont => obtain ⟨σ', H', I, q⟩ := h; exact ⟨σ', H', I.untr, q⟩
  | ret u => obtain ⟨v, σ', H', I, r, q⟩ := h; exact ⟨v, σ', H', I.untr, r, q⟩
end
/-- an object that is known -/
def Known (e : Addr) (oe : Obj) : HO := .ext fun h => h.get? e = some oe
theorem known_ok {P : Program} {w : World} {H : Hp} {h : Heap} {e : Addr} {oe : Obj} (x : h.get? e = some oe) : ObjOk P w H h e (Known e oe) := ⟨x, ⟨oe, x⟩, fun _ _ p k => k _ p⟩
abbrev THS := Ends → St → Hp → Addr → Obj → Prop
def PH (X : Cx) (hs : List ExceptHandler) (t : THS) : Prop := ∀ (pins : List (Addr × Obj)) (s : Shared) (σ : St) (H : Hp) (D : Ends) (e : Addr) (oe : Obj) (T : Addr) (oT : Obj) (ts vs : Array Value),
  Inv X ((T, oT) :: pins) σ H s → FpOk X pins H T → oe.data = .fields vs → vs[1]? = some (.ref T) → oT.data = .fields ts → ts[3]? = some .none → H e = some (Known e oe) → t D σ H e oe →
  wpAny (model X.prog X.w) X.A (handleBy (.ref e) X.env hs) (SP X pins D) X.xe s
def tTry (tb : XKS → TS) (th : THS) : TS := fun D σ H => ∃ E : XKS, tb E D σ H ∧ ∀ (σ' : St) (C : Value) (d : Option Addr) (H' : Hp) (e : Addr) (oe : Obj), E σ' C d H' → H' e = some (.ext (XO e C d)) → oe.cls = C → oe.dict = d → (∃ vs, oe.data = .fields vs) → th D σ' (upd H' e (Known e oe)) e oe
section
variable {X : Cx} {body : List Stmt} {h₀ : ExceptHandler} {hs rest : List ExceptHandler} {tb : XKS → TS} {th tr : THS} {pos : Pos}
theorem ps_try (hstk : X.stack = X.env :: X.outer) (hf : X.env.frame = some X.env.locals)
    (hb : ∀ (E : XKS) (pins : List (Addr × Obj)) (E₁ : Value → Shared → Prop), Takes (X.tr pins E₁) E → PassesOwn (model X.prog X.w) X.A X.env E₁ → PSs (X.tr pins E₁) body (tb E)) (hh : PH X (h₀ :: hs) th) : PS X (.Try body (h₀ :: hs) [] [] pos) (tTry tb th) := by
  intro pins s σ H D I h
  obtain ⟨E, h1, h2⟩ := h
  refine wpAny_Try_except ?_
  refine wpAny_mono (hb E pins _ ?_ PassesOwn.looking [] s σ H D (I.tr _) h1) (fun f s1 q => ?_) fun e s1 q => q
  · intro pins' σ' H' s1 e C d I1 he hy x hE
    refine note_ok (X := X.tr pins _) (by rw [I.ok.frames, hstk]) hstk hf I1 he x fun h2' I2 x2 => land_ok I2 he x2 fun h3 I3 x3 => ?_
    obtain ⟨T, oT, ts, oe, vs, ho, hd, hv1, fT, hT, hdT, h3'⟩ := x3
    obtain ⟨oe', vs', ho', hc, hdd, _⟩ := I3.xo he
    rw [ho] at ho'
    cases ho'
    have I4 := I3.untr
    have I5 := I4.write (x := e) (e := e) (o := Known e oe) (t' := s1.toks) (h' := h3) (by rw [he]; trivial) (.inl rfl) (fun b u _ z => z) ⟨oe, ho⟩ (known_ok ho)
    have fT' := fT.untr
    have hne : T ≠ e := fun z => by subst z; rw [fT'.1] at he; cases he
    have fT2 : FpOk X pins (upd H' e (Known e oe)) T := ⟨by rw [upd_ne hne]; exact fT'.1, fT'.2⟩
    have I6 : Inv X ((T, oT) :: pins) σ' (upd H' e (Known e oe)) { s1 with heap := h3 } := I5.pins_of fun p hp => by
      rcases List.mem_cons.mp hp with rfl | hp
      · exact ⟨hT, fT2.1, fT2.2.1, fT2.2.2.1, fun v z => by rw [hdT] at z; cases z⟩
      · exact I5.pin p (List.mem_append_right _ hp)
    exact hh pins _ σ' _ D e oe T oT ts vs I6 fT2 hd hv1 hdT h3' upd_same (h2 σ' C d H' e oe hE he hc hdd ⟨vs, hd⟩)
  · cases f with
    | next =>
      obtain ⟨σ', H', I', q⟩ := q
      exact wpAny_execs_nil ⟨σ', H', I'.untr, q⟩
    | brk => exact SP.untr q
    | cont => exact SP.untr q
    | ret u => exact SP.untr q
/-- a name goes -/
theorem unbind_ok {M : Model} {A : Around} {E : Value → Shared → Prop} {pins : List (Addr × Obj)} {σ : St} {H : Hp} {s : Shared} {i : Nat} {n : Str} {Q : Unit → Shared → Prop} (I : Inv X pins σ H s) (hN : X.N.Nodup) (hi : X.N[i]? = some n) (hk : X.env.scope.names.lookup n = some .local)
    (h : ∀ s', Inv X pins (σ.set i none) H s' → Q () s') : wpAny M A (bindName X.env n .none >>= fun _ => unbindBehindTheSuite X.env n pos) Q E s := by
  obtain ⟨m, hn, hl⟩ := id I.loc
  have hcls : (X.env.scope.kind == .class || (X.env.scope.kind == .module && X.env.locals != X.env.globals)) = false := by rw [I.ok.kind]; rfl
  have hl0 : X.env.kindOf n = some .local := hk
  refine wpAny_bind (wpAny_bindName (wpAny_storeName_local hl0 hn (fun ha hna hsa => ?_) hcls))
  unfold unbindBehindTheSuite
  refine wpAny_onRaise ?_
  unfold unbindName deleteName
  refine wpAny_bind (wpAny_point (wpAny_bind ?_)); simp only [hl0, hcls]
  rw [if_neg (by decide)]
  refine wpAny_bind (wpAny_nsDel_keeps hna fun hb v hnb hsb => ?_)
  simp only [if_true, Option.isSome_some, Bool.not_true, Bool.false_eq_true, if_false]
  refine wpAny_pure (wpAny_point (h _ ?_))
  have hs := hsa.trans hsb
  obtain ⟨oL, _, _, hoL, _⟩ := id hn
  have cne := I.cne
  refine ⟨I.ok, I.os, I.bare, ⟨fun b o e n hb hx => ?_, fun b o e n hb hx => ?_, I.base.free, fun b o e hx => ?_, I.base.tups, I.base.frzs, I.base.tbls⟩, ⟨_, hnb, fun j y v' e1 e2 e3 => ?_⟩, fun y c e => ?_, I.free, I.freeC, fun p hp => ?_, fun b ob e => ?_, by simpa using I.len⟩
  · exact (hs.2 b (Nat.ne_of_lt (Nat.lt_of_lt_of_le (Heap.lt_size e) I.ok.above))).trans (I.base.keep b o e n hb hx)
  · obtain ⟨sl, e1⟩ := I.base.slot b o e n hb hx
    exact ⟨sl, (hs.2 b (Nat.ne_of_lt (Nat.lt_of_lt_of_le (Heap.lt_size e) I.ok.above))).trans e1⟩
  · obtain ⟨o', e1⟩ := I.base.there b o e hx
    exact ⟨o', (hs.2 b (Nat.ne_of_lt (Nat.lt_of_lt_of_le (Heap.lt_size e) I.ok.above))).trans e1⟩
  · by_cases hj : j = i
    · subst hj
      by_cases hlt : j < σ.length
      · rw [List.getElem?_set_self hlt] at e2; cases e2
      · rw [List.getElem?_eq_none (by rw [List.length_set]; (first | lia | omega))] at e2; cases e2
    · rw [List.getElem?_set_ne (Ne.symm hj)] at e2
      obtain ⟨u', r', q⟩ := hl j y v' e1 e2 e3
      refine ⟨u', r', ?_⟩
      rcases q with ⟨k, e⟩ | ⟨k, c, e, z⟩
      · refine .inl ⟨k, ?_⟩
        have : y ≠ n := fun e => hj (nodup_ix hN e1 (e ▸ hi))
        simp [this, e]
      · exact .inr ⟨k, c, e, z.sameBut hs (cne y c e)⟩
  · obtain ⟨w', z⟩ := I.cell y c e
    exact ⟨w', z.sameBut hs (cne y c e)⟩
  · obtain ⟨e, n, ne, nf, d⟩ := I.pin p hp
    exact ⟨(hs.2 p.1 ne).trans e, n, ne, nf, d⟩
  · refine (I.hok b ob e).stay (fun c w' hc q => (hs.2 c ?_).trans q) (fun _ q => q) fun _ _ q => q
    rintro rfl
    rcases hc with rfl | hc
    · rw [I.free] at e; cases e
    · rw [I.free] at hc; cases hc
def unb (D : Ends) (i : Nat) : Ends := { nx := fun σ H => D.nx (σ.set i none) H, rt := D.rt, bk := fun σ H => D.bk (σ.set i none) H, ct := fun σ H => D.ct (σ.set i none) H }
theorem flight_same {M : Model} {A : Around} {E : Value → Shared → Prop} {s : Shared} {e T : Addr} {oe oT : Obj} {vs ts : Array Value} {Q : Unit → Shared → Prop} (ho : s.heap.get? e = some oe) (hd : oe.data = .fields vs) (h1 : vs[1]? = some (.ref T)) (hT : s.heap.get? T = some oT) (hdT : oT.data = .fields ts) (h3 : ts[3]? = some .none) (h : Q () s) :
    wpAny M A (setFlight (.ref e) none) Q E s := by
  unfold setFlight
  refine wpAny_bind (wpAny_field ho hd h1 ?_)
  rw [if_pos (show (Value.ref T != Value.none) = true by simp)]
  refine wpAny_setField hT hdT (Array.getElem?_eq_some_iff.mp h3).1 ?_
  show Q () { s with heap := s.heap.update T (Obj.mapFields (·.setIfInBounds 3 Value.none)) }
  rw [Heap.update_setField_same s.heap T oT ts 3 .none hT hdT h3]
  exact h
theorem ph_as {t : Expr} {n : Str} {b₀ : Stmt} {sb : List Stmt} {tt : TE} {tu : TS} {i : Nat} (ht : ∀ e, PE (X.hd e) t tt) (hN : X.N.Nodup) (hi : X.N[i]? = some n) (hk : X.env.scope.names.lookup n = some .local) (hs : ∀ e, PSs (X.hd e) (b₀ :: sb) tu) : PH X (.ExceptHandler (some t) (some n) (b₀ :: sb) pos :: rest)
    (fun D σ H e oe => tt σ H fun v H1 => ∃ Ds C f, Spec X.K H1 v Ds ∧ oe.cls = .ref C ∧ (∀ D ∈ Ds, PySem.W.mroIn X.K C (.ref D) = some (f D)) ∧ Ds.any f = true ∧ H1 e = some (Known e oe) ∧ tu (unb D i) (σ.set i (some (.ref e))) H1) := by
  intro pins s σ H D e oe T oT ts vs I fT hd h1 hdT h3 he h
  refine wpAny_handleBy_cons (codeAny_handlers_test (wpAny_mono ((ht e) ((T, oT) :: pins) s σ H _ (I.hd e) h) (fun u s1 q => ?_) fun _ _ z => z.elim)) (by intro z; cases z)
  obtain ⟨v, H1, I1, r, Ds, C, f, hsp, hc, hb, hany, hkn, q⟩ := q
  have I1' := I1.unhd I.ok
  have hoe := (I1'.hok e _ hkn).1
  refine em_ok (f := f) I1' hsp r hoe hc hb ?_
  rw [hany]
  refine codeAny_handlers_suite_as ?_
  have hTo := (I1'.pin (T, oT) (List.mem_append_right _ (List.mem_cons_self ..))).1
  refine flight_same hoe hd h1 hTo hdT h3 ?_
  refine store_ok I1'.drop1 hN hi (.inl hk) (show RelV (.ref e) (.ref e) from rfl) (fun s2 I2 => ?_) (.inr hk)
  refine wpAny_mono ((hs e) pins s2 _ H1 (unb D i) (I2.hd e) q) (fun fl s3 q3 => ?_) fun _ _ z => z.elim
  show wpAny _ X.A (bindName X.env n .none >>= fun _ => unbindBehindTheSuite X.env n pos) _ _ s3
  cases fl with
  | next =>
    obtain ⟨σ', H', I3, q3⟩ := q3
    exact unbind_ok (I3.unhd I.ok) hN hi hk fun s' I' => ⟨_, _, I', q3⟩
  | brk =>
    obtain ⟨σ', H', I3, q3⟩ := q3
    exact unbind_ok (I3.unhd I.ok) hN hi hk fun s' I' => ⟨_, _, I', q3⟩
  | cont =>
    obtain ⟨σ', H', I3, q3⟩ := q3
    exact unbind_ok (I3.unhd I.ok) hN hi hk fun s' I' => ⟨_, _, I', q3⟩
  | ret u =>
    obtain ⟨v3, σ', H', I3, r3, q3⟩ := q3
    exact unbind_ok (I3.unhd I.ok) hN hi hk fun s' I' => ⟨v3, _, _, I', r3, q3⟩
end
end L2

namespace L2
open PySem PySem.Spec PyProof.Rows PySem.W
/-! ### an own class of errors, under ValueError by one class more -/
abbrev bmV : List Value := [.type "ValueError", .type "Exception", .type "BaseException", .type "object"]
def keysOk (es : Array DictEntry) : Bool := es.toList.all fun e => match e.key with | .str _ _ => true | _ => false
/-- the class in the middle: it has no __init__ of its own -/
structure XMid (K : Frag) (G : Addr) : Prop where
  ob : ∃ c0 dd cd sl oc od es ep sl', K.lookup G = some ⟨c0, dd, .cls cd, sl⟩ ∧ K.lookup cd.ns = some ⟨oc, od, .dict es ep, sl'⟩ ∧ keysOk es = true ∧ nsIn K cd.ns "__init__" = some none
structure XTop (K : Frag) (C G : Addr) : Prop where
  ob : ∃ nm q N bs hdct sn sub ab col dd k0 k1 k2 k3 k5, K.lookup C = some (excClassObj nm q C N bs (.ref G :: bmV) hdct sn sub ab col dd k0 k1 k2 k3 k5 "ValueError.__new__")
  mid : XMid K G
  call : specialIn K (.ref C) "__call__" = some (some (.builtin "type.__call__"))
  typ : instIn K (.ref C) (.type "type") = some true
  kp : keepIn K (.ref C) = true
theorem XMid.tail {K : Frag} {G : Addr} {h : Heap} (x : XMid K G) (X : K.In h) : OwnTail h bmV (.ref G :: bmV) := by
  obtain ⟨c0, dd, cd, sl, oc, od, es, ep, sl', h1, h2, h3, h4⟩ := x.ob
  have hns : h.isNs cd.ns = true := by
    unfold Heap.isNs
    rw [X _ _ h2]
    have h5 := h3
    unfold keysOk at h5
    rw [Array.all_toList] at h5
    exact h5
  have hN := Heap.Ns.of_isNs hns
  exact .own (X _ _ h1) hN (ns_none_of X hN h4) .base
theorem XTop.mro {K : Frag} {C G : Addr} (x : XTop K C G) : ∃ cd, clsIn K C = some cd ∧ cd.mro = .ref C :: .ref G :: bmV := by
  obtain ⟨nm, q, N, bs, hdct, sn, sub, ab, col, dd, k0, k1, k2, k3, k5, h1⟩ := x.ob
  have e : clsIn K C = some { name := nm, bases := bs, mro := .ref C :: .ref G :: bmV, ns := N, qualname := q, hasDict := hdct, slotNames := sn, subclasses := sub, abstract := ab, collection := col, hasDel := false } := by
    unfold clsIn
    rw [h1]
  exact ⟨_, e, rfl⟩
/-- the new exception -/
abbrev excObj (C t : Addr) : Obj := { cls := .ref C, data := .fields #[.ref t, .none, .none, .none, .bool false, .none] }
abbrev tupObj (vs : List Value) : Obj := { cls := .type "tuple", data := .seq vs.toArray }
section
variable {prog : Program} {w : World} {A : Around} {K : Frag} {C G f : Addr} {R : Result → Shared → Prop} {s : Shared}
/-- C(..) where C has an __init__ of its own -/
theorem xmake_core {us : List Value} {init : Value} (x : XTop K C G) (X : K.In s.heap) (hi : findIn K (.ref C) "__init__" = some (some init)) (b0 : ∀ self, Looks (model prog w) s.heap (bindSpecial init self) (init, [self])) (hl : us.length ≤ sizeLine)
    (hq : codeAny (model prog w) (A.under (.builtin "type.__call__" ⟨.ref C :: us, []⟩)) (.call init ⟨.ref (s.heap.objs.size + 1) :: us, []⟩) (InitBack (s.heap.objs.size + 1) R)
      { s with heap := (s.heap.push (tupObj us)).push (excObj C s.heap.objs.size) }) :
    codeAny (model prog w) A (.call (.ref C) ⟨us, []⟩) R s := by
  obtain ⟨hh, g, d, t, os⟩ := s
  obtain ⟨nm, q, N, bs, hdct, sn, sub, ab, col, dd, k0, k1, k2, k3, k5, hK⟩ := x.ob
  have hC := X _ _ hK
  have T := x.mid.tail X
  have call := looks_specialIn (M := model prog w) X x.call
  have typ := looks_instIn (M := model prog w) X x.typ
  have i0 := looks_findIn (M := model prog w) X hi
  refine codeAny_of_tree ?_
  show wpAny _ _ (callAny (.ref C) _) _ _ _
  refine nd_load hC ?_
  show wpAny _ _ (callAny.viaDunder (.ref C) _) _ _ _
  unfold callAny.viaDunder
  refine wpAny_bind (call.at ?_)
  dsimp only
  rw [tc_bind]
  refine wpAny_bind (wpAny_pure (wpAny_bind (wpAny_pure ?_)))
  refine wpAny_pure (a := Fin.again (.call (.builtin "type.__call__") ⟨.ref C :: us, []⟩)) ⟨rfl, ?_⟩
  refine codeAny_call_builtin_at (Code.quiet_builtin _ (by decide +kernel)) entry_typeCall (check_slot tc_kind tc_split typ (tc_args _ _ _) ?_)
  repeat (first | with_reducible refine wpAny_loadPart_at hC ?_ | with_reducible refine wpAny_madeBy_exc hC ?_ | wp_step)
  refine codeAny_call_builtin_code (Code.quiet_builtin _ F.excBase_ValueError.quiet) (wpAny_check_new_subT F.excBase_ValueError T hC (codeAny_exc_new_subT F.excBase_ValueError T hC ?_ hl))
  show wpAny _ _ _ _ _ _
  have k : ∀ b o, hh.get? b = some o → ((hh.push (tupObj us)).push (excObj C hh.objs.size)).get? b = some o := fun b o e => Heap.get?_push_of_some _ (Heap.get?_push_of_some _ e)
  have hx : ((hh.push (tupObj us)).push (excObj C hh.objs.size)).get? (hh.objs.size + 1) = some (excObj C hh.objs.size) := by heap_get
  have t1 : Looks (model prog w) ((hh.push (tupObj us)).push (excObj C hh.objs.size)) (typeOf (.ref (hh.objs.size + 1))) (.ref C) := (Looks.ld hx).andThen .now
  have s1 : Looks (model prog w) ((hh.push (tupObj us)).push (excObj C hh.objs.size)) (isSubtype (.ref C) (.ref C)) true := by
    obtain ⟨cd, hc, hm⟩ := x.mro
    refine (looks_mroIn X ?_).keeps k
    unfold mroIn
    rw [hc, Option.bind_some, hm]
    simp
  have i1 := i0.keeps k
  have b1 := (b0 (.ref (hh.objs.size + 1))).keeps k
  unfold isInstance callSpecial? specialOf
  repeat (first | with_reducible refine wpAny_call ?_ | lk)
  refine codeAny_mono hq fun r s' z => ?_
  rcases r with e | (v | _ | _ | _) <;> first | exact z | exact z.elim | skip
  obtain ⟨rfl, z⟩ := z
  exact wpAny_pure (wpAny_pure z)
theorem xmake {us : List Value} (x : XTop K C G) (X : K.In s.heap) (hi : findIn K (.ref C) "__init__" = some (some (.ref f))) (hf : isFn K (.ref f) = true) (hl : us.length ≤ sizeLine)
    (hq : codeAny (model prog w) (A.under (.builtin "type.__call__" ⟨.ref C :: us, []⟩)) (.call (.ref f) ⟨.ref (s.heap.objs.size + 1) :: us, []⟩) (InitBack (s.heap.objs.size + 1) R)
      { s with heap := (s.heap.push (tupObj us)).push (excObj C s.heap.objs.size) }) :
    codeAny (model prog w) A (.call (.ref C) ⟨us, []⟩) R s := xmake_core x X hi (fun self => bind_fn X self (beq_iff_eq.mp hf)) hl hq
end
end L2

namespace L2
open PySem PySem.Spec PyProof.Rows PySem.W Builtin Builtin.ObjectAttr
section
variable {prog : Program} {w : World} {A : Around} {E : Value → Shared → Prop} {K : Frag} {C G x : Addr} {s : Shared}
/-- ValueError.__init__(x, v) -/
theorem xinit {ox : Obj} {vs : Array Value} {t : Addr} {v : Value} {Q : Value → Shared → Prop} (y : XTop K C G) (X : K.In s.heap) (hx : s.heap.get? x = some ox) (hc : ox.cls = .ref C) (hd : ox.data = .fields vs) (h0 : vs[0]? = some (.ref t))
    (h : Q .none { s with heap := (s.heap.push (tupObj [v])).update x (Obj.mapFields (·.setIfInBounds 0 (.ref s.heap.objs.size))) }) : wpAny (model prog w) A (call (.builtin "ValueError.__init__") [.ref x, v]) Q E s := by
  obtain ⟨hh, g, d, tk, os⟩ := s
  obtain ⟨nm, q, N, bs, hdct, sn, sub, ab, col, dd, k0, k1, k2, k3, k5, hK⟩ := y.ob
  have F0 := F.excBase_ValueError
  have hx2 : (hh.push (tupObj [v])).get? x = some ox := Heap.get?_push_of_some _ hx
  refine wpAny_call (codeAny_call_builtin F0.init.plain F0.initEntry (wpAny_check_init_subT F0 (y.mid.tail X) (X _ _ hK) hx hc ?_))
  unfold Builtin.«BaseException.__init__»
  refine wpAny_bind (wpAny_newTuple ?_)
  unfold Builtin.BaseException.bexcPut
  refine wpAny_bind (wpAny_bind (wpAny_field (s := ⟨hh.push (tupObj [v]), g, d, tk, os⟩) hx2 hd h0 (wpAny_bind (wpAny_setField (s := ⟨hh.push (tupObj [v]), g, d, tk, os⟩) hx2 hd (Array.getElem?_eq_some_iff.mp h0).1 ?_))))
  wp_walk
  exact h
theorem bga_args (a b : Value) : argsOk "BaseException.__getattribute__" ⟨[a, b], []⟩ := F.args_bexc_ga a b
/-- x.name, from the exception's own dict -/
theorem xget {ox od : Obj} {name : Str} {v : Value} {expr : Bool} {Q : Value → Shared → Prop} (X : K.In s.heap) (I : InstAt s.heap x ox C (some od)) (hga : findIn K (.ref C) "__getattribute__" = some (some (.builtin "BaseException.__getattribute__")))
    (hgt : findIn K (.ref C) "__getattr__" = some none) (hm : mroIn K C (.type "BaseException") = some true) (hf : findObj K C (some od) name = some (.value v)) (hh : handedIn v = true) (h : Q v { s with toks := s.toks + 1 }) : wpAny (model prog w) A (getAttr (.ref x) name expr) Q E s := by
  obtain ⟨hp, g, d, t, os⟩ := s
  have L0 := I.type (M := model prog w)
  have L1 := looks_findIn (M := model prog w) X hga
  have L2 := looks_find (M := model prog w) X I hf
  have L3 : Looks (model prog w) hp (hookBefore (.ref C)) none := looks_hook X ((if_pos (show onTheHeap (Value.ref C) = true from rfl)).trans hgt)
  have L4 : Looks (model prog w) hp (isInstance (.ref x) (.type "BaseException")) true := L0.andThen (looks_mroIn X hm)
  have F0 := F.excAttr_ValueError
  unfold getAttr getAttrBy
  refine wpAny_bind (wpAny_mkText (wpAny_holding (wpAny_bind (L0.at (wpAny_bind (L1.at ?_))))))
  have hne : (onTheHeap (Value.ref C) && Value.builtin "BaseException.__getattribute__" == Value.builtin "object.__getattribute__") = false := by
    rw [show (Value.builtin "BaseException.__getattribute__" == Value.builtin "object.__getattribute__") = false by decide +kernel, Bool.and_false]
  dsimp only
  rw [hne, if_neg Bool.false_ne_true]
  unfold getAttrByItsOwn
  refine wpAny_bind (L3.at (wpAny_bind (wpAny_attempt (wpAny_holding ?_))))
  unfold callGetattribute boundAndCalled
  rw [show (expr && onTheHeap (Value.builtin "BaseException.__getattribute__")) = false from Bool.and_false _, if_neg Bool.false_ne_true, F0.ga.bind]
  refine wpAny_bind (wpAny_pure ?_)
  show wpAny _ _ (call (.builtin "BaseException.__getattribute__") [.ref x, .str name t]) _ _ _
  refine wpAny_call (codeAny_call_builtin F0.ga.plain F.entry_bexc_ga ?_)
  refine @check_slot (model prog w) _ _ ⟨hp, g, d, t + 1, os⟩ "BaseException.__getattribute__" "BaseException" "__getattribute__" (.ref x) [.str name t] [] _ (by decide +kernel) (by decide +kernel) L4 (bga_args _ _) ?_
  show wpAny _ _ (Builtin.«object.__getattribute__» _) _ _ _
  unfold Builtin.«object.__getattribute__»
  refine wpAny_bind (wpAny_pure (wpAny_bind (wpAny_pure (wpAny_bind (L0.at (wpAny_bind (L2.at (wpAny_pure ?_))))))))
  show wpAny _ _ (handedOut v) _ _ _
  rw [handedOut_of hh]
  exact wpAny_pure h
end
end L2

namespace L2
open PySem PySem.Spec PyProof.Rows PySem.W Builtin Builtin.ObjectAttr
section
variable {prog : Program} {w : World} {A : Around} {E : Value → Shared → Prop} {K : Frag} {C G x : Addr} {s : Shared}
/-- x.name = v for an exception that has no dict yet -/
theorem xset {ox : Obj} {vs : Array Value} {name : Str} {v : Value} {Q : Unit → Shared → Prop} (y : XTop K C G) (X : K.In s.heap) (hx : s.heap.get? x = some ox) (hc : ox.cls = .ref C) (hd : ox.data = .fields vs) (hdn : ox.dict = none)
    (hs : findIn K (.ref C) "__setattr__" = some (some (.builtin "object.__setattr__"))) (ht : findIn K (.ref C) name = some none) (hh : hasDictIn K C = true)
    (h : ∀ h', h'.get? x = some { ox with dict := some s.heap.objs.size } → h'.Ns1 s.heap.objs.size (fun z => if z = name then some v else none) → (∀ b o, b ≠ x → s.heap.get? b = some o → h'.get? b = some o) → Q () { s with heap := h', toks := s.toks + 2 }) :
    wpAny (model prog w) A (setAttr (.ref x) name v) Q E s := by
  have SF := PySem.F.store_ValueError
  have I : InstAt s.heap x ox C none := ⟨hx, hc, by unfold notCls; rw [hd], by rw [hdn]; trivial⟩
  obtain ⟨cd, hcd, hmro⟩ := y.mro
  have ne : cd.mro.isEmpty = false := by rw [hmro]; rfl
  have sub : Looks (model prog w) s.heap (isInstance (.ref x) (.type "object")) true := I.type.andThen (looks_mroIn X (by unfold mroIn; rw [hcd, Option.bind_some, if_neg (by rw [ne]; decide), hmro]; rfl))
  have hm : Looks (model prog w) s.heap (mroOf (.ref C)) cd.mro := (looks_clsIn X hcd).andThen .now
  refine set_plain X I hs ?_
  have X1 : K.In ({ s with toks := s.toks + 1 } : Shared).heap := X
  refine codeAny_call_builtin SF.slot.plain SF.entry (@check_slot (model prog w) _ _ { s with toks := s.toks + 1 } "object.__setattr__" "object" "__setattr__" (.ref x) [.str name s.toks, v] [] _ SF.kind SF.split sub (SF.args (.ref x) (.str name s.toks) v) ?_)
  rw [osa_eq, refuse_eq]
  have I1 : InstAt ({ s with toks := s.toks + 1 } : Shared).heap x ox C none := I
  refine wpAny_bind (wpAny_bind (I1.type.here (wpAny_bind (Looks.here (s := { s with toks := s.toks + 1 }) hm ?_))))
  rw [hmro, refuseLoop_ref, refuseLoop_ref, SF.passes]
  refine wpAny_pure (wpAny_bind (I1.type.here (wpAny_bind (Looks.here (s := { s with toks := s.toks + 1 }) (looks_findIn X ht) (wpAny_bind (wpAny_pure ?_))))))
  obtain ⟨cd', hcd', hdict⟩ := any_some hh
  rw [hcd] at hcd'
  cases hcd'
  obtain ⟨oc, odi, oda, osl⟩ := ox
  dsimp only at hc hd hdn
  subst hc hd hdn
  dsimp only
  unfold storeInOwnDict ownDictForStores instanceDict
  refine wpAny_bind (wpAny_pure (wpAny_bind (wpAny_bind (wpAny_loadPart (s := { s with toks := s.toks + 1 }) hx (wpAny_bind (Looks.here (s := { s with toks := s.toks + 1 }) (looks_clsIn X hcd) ?_))))))
  rw [hdict]
  refine wpAny_bind (wpAny_alloc ?_)
  have hx1 : (s.heap.push emptyDict).get? x = some ⟨.ref C, none, .fields vs, osl⟩ := Heap.get?_push_of_some _ hx
  refine wpAny_bind (wpAny_update (s := { s with heap := s.heap.push emptyDict, toks := s.toks + 1 }) hx1 ?_)
  refine wpAny_pure (a := some s.heap.objs.size) ?_
  have hxD : x ≠ s.heap.objs.size := Nat.ne_of_lt (Heap.lt_size hx)
  have hD0 : (s.heap.push emptyDict).get? s.heap.objs.size = some emptyDict := Heap.get?_push_size _ rfl
  generalize hg2 : (s.heap.push emptyDict).update x (fun o => { o with dict := some s.heap.objs.size }) = g2
  have hx2 : g2.get? x = some ⟨.ref C, some s.heap.objs.size, .fields vs, osl⟩ := by
    rw [← hg2]
    exact Heap.get?_update_self _ hx1 rfl
  have hD2 : g2.get? s.heap.objs.size = some emptyDict := by
    rw [← hg2, Heap.get?_update_other _ _ hxD]
    exact hD0
  have hk2 : ∀ b o, b ≠ x → s.heap.get? b = some o → g2.get? b = some o := fun b o hb e => by
    rw [← hg2, Heap.get?_update_other _ _ (Ne.symm hb)]
    exact Heap.get?_push_of_some _ e
  have hN : g2.Ns s.heap.objs.size (fun _ => none) := ⟨emptyDict, #[], _, hD2, rfl, (fun e he => absurd he (by simp)), fun _ => rfl⟩
  unfold storeInDict
  refine wpAny_bind (wpAny_pure (wpAny_bind (wpAny_nsSet1 (s := { s with heap := g2, toks := s.toks + 1 }) (Heap.Ns1.of_empty hN) fun h' hn2 hs2 => ?_)))
  obtain ⟨oD, esD, epD, hoD, hdD, hcD⟩ := hn2.count (PySem.Within.cons name v PySem.Within.nil)
  refine wpAny_bind (wpAny_lookBehind hoD (by rw [hdD]; exact pastItsLine_dict (Nat.le_trans hcD (by show 1 ≤ sizeLine + 1; decide))) (wpAny_pure ?_))
  exact h h' ((hs2.2 x hxD).trans hx2) hn2 fun b o hb e => (hs2.2 b (Nat.ne_of_lt (Heap.lt_size e))).trans (hk2 b o hb e)
end
end L2

namespace L2
open PySem PySem.Spec PyProof.Rows PySem.W
/-- an exception that is being made -/
def XNew (x : Addr) (C : Value) (d : Option Addr) : Heap → Prop := fun h => ∃ ox vs t, h.get? x = some ox ∧ ox.cls = C ∧ ox.dict = d ∧ ox.data = .fields vs ∧ 4 < vs.size ∧ vs[0]? = some (.ref t) ∧ vs[1]? = some .none
theorem XNew.ok {P : Program} {w : World} {H : Hp} {h : Heap} {x : Addr} {C : Value} {d : Option Addr} (z : XNew x C d h) : ObjOk P w H h x (.ext (XNew x C d)) := by
  refine ⟨z, ?_, fun h1 h2 p k => ?_⟩
  · obtain ⟨ox, _, _, ho, _⟩ := z
    exact ⟨ox, ho⟩
  · obtain ⟨ox, vs, t, ho, r⟩ := p
    exact ⟨ox, vs, t, k ox ho, r⟩
theorem XNew.xo {h : Heap} {x : Addr} {C : Value} {d : Option Addr} (z : XNew x C d h) : XO x C d h := by
  obtain ⟨ox, vs, t, ho, hc, hd, hf, hz, _⟩ := z
  exact ⟨ox, vs, ho, hc, hd, hf, hz⟩
/-- what is raised -/
theorem raise_ok {M : Model} {A : Around} {E : Value → Shared → Prop} {s : Shared} {env : Env} {K : Frag} {C G : Addr} {x0 : Sem Value} {Q : Flow → Shared → Prop} (hh : A.handled = none) (y : XTop K C G)
    (h : wpAny M A x0 (fun v s1 => ∃ x d, v = .ref x ∧ K.In s1.heap ∧ XNew x (.ref C) d s1.heap ∧ E (.ref x) s1) E s) : wpAny M A (raiseStmt env (some x0) none) Q E s := by
  unfold raiseStmt
  refine wpAny_bind (wpAny_mono h (fun v s1 q => ?_) fun _ _ z => z)
  obtain ⟨x, d, rfl, X, ⟨ox, vs, t, ho, hc, hd, hf, hz, h0, h1⟩, hE⟩ := q
  obtain ⟨cd, hcd, hmro⟩ := y.mro
  have ty : Looks M s1.heap (typeOf (.ref x)) (.ref C) := hc ▸ (Looks.ld ho).andThen .now
  have isb : Looks M s1.heap (isInstance (.ref x) (.type "BaseException")) true := ty.andThen (looks_mroIn X (by unfold mroIn; rw [hcd, Option.bind_some, hmro]; rfl))
  have nt : Looks M s1.heap (isType (.ref x)) false := by
    intro A' Q' E' s' k q
    unfold isType loadHead
    refine wpAny_bind (wpAny_loadPart (k _ _ ho) ?_)
    rw [hf]
    exact wpAny_pure q
  obtain ⟨nm, q, N, bs, hdct, sn, sub, ab, col, dd, k0, k1, k2, k3, k5, hK⟩ := y.ob
  have tt : Looks M s1.heap (typeOf (.ref C)) (.type "type") := (Looks.ld (X _ _ hK)).andThen .now
  refine wpAny_bind (wpAny_pure (wpAny_bind (wpAny_holding ?_)))
  unfold excFromValue isExcClass
  refine wpAny_bind (wpAny_bind (nt.here ?_))
  rw [if_neg Bool.false_ne_true]
  refine wpAny_pure ?_
  rw [if_neg Bool.false_ne_true]
  refine wpAny_bind (isb.here ?_)
  rw [if_pos rfl]
  refine wpAny_pure ?_
  refine wpAny_bind (nt.here ?_)
  rw [if_neg Bool.false_ne_true]
  unfold raisedInstance
  refine wpAny_bind (wpAny_bind (ty.here (wpAny_bind (tt.here ?_))))
  rw [if_pos (by decide)]
  refine wpAny_pure ?_
  unfold setFlight
  refine wpAny_bind (wpAny_bind (wpAny_field ho hf h1 ?_))
  rw [if_neg (by decide)]
  exact wpAny_pure (wpAny_raiseNew_none hh hE)
/-- a class of errors with its own __init__ -/
structure XMk (P : Program) (w : World) (K : Frag) (mg : Str → Option Value) (base : Heap) (C G : Addr) (x : Str) (ps : List Str) (j : Nat) (sp : Sp) : Prop where
  ex : ∃ f fd, FnOk P w K mg base CX0 j f fd ps sp ∧ Binds K fd ps [] ∧ findIn K (.ref C) "__init__" = some (some (.ref f)) ∧ isFn K (.ref f) = true
  top : XTop K C G
  nm : mg x = some (.ref C)
def tRaiseI (C : Addr) (sp : Sp) (E : XKS) (t : TA) : TS := fun _ σ H => t σ H fun vs H1 => vs.length ≤ 1000 ∧ ∀ y, H1 y = none → sp (.ref y :: vs) (upd H1 y (.ext (XNew y (.ref C) none)))
  (fun v H2 => v = .non ∧ ∃ d, H2 y = some (.ext (XNew y (.ref C) d)) ∧ E σ (.ref C) d (upd H2 y (.ext (XO y (.ref C) d)))) E0
section
variable {X : Cx} {j k : Nat} {C G : Addr} {ps : List Str} {sp : Sp} {E : XKS} {x : Str} {p pos cpos : Pos} {e : Expr} {es : List Expr} {t : TA}
theorem ps_raiseI (Z : XMk X.prog X.w X.K X.mg X.base C G x ps j sp) (hT : Takes X E) (hr : Room k X.A) (hg : Gl X x) (ha : PA X (e :: es) t) (hk : j + 1 ≤ k := by decide) (hdb : (x == ("__debug__" : Str)) = false := by decide)
    (he : starEach (e :: es) X.env = (false, eval e X.env) :: starEach es X.env := by rfl) (hpl : (backTo cpos (starEach es X.env)).any (·.1) = false := by rfl) :
    PS X (.Raise (some (.Call (.Name x p) (e :: es) [] cpos)) none pos) (tRaiseI C sp E t) := by
  intro pins s σ H D I h
  obtain ⟨f, fd, F, b, hi, hfn⟩ := Z.ex
  show wpAny _ _ (standAt pos >>= fun _ => raiseStmt X.env (some (eval (.Call (.Name x p) (e :: es) [] cpos) X.env >>= fun v => standAt pos >>= fun _ => pure v)) none) _ _ s
  refine wpAny_bind (wpAny_standAt (raise_ok (hr.hd) Z.top (wpAny_bind ?_)))
  refine wpAny_Call_Name_kw (ld_glob I hg Z.nm ?_ hdb)
  refine PySem.W.callWith_K (h₀ := X.base) I.ok.mod.kin Z.top.kp (thn (ha cpos pins s σ H _ I h) fun us s1 ⟨vs, H1, I1, r, hl, q⟩ => ⟨I1.kIn, ?_⟩) he hpl
  have hlu : us.length ≤ sizeLine := by rw [← r.length]; exact Nat.le_trans hl (by decide)
  have hy : H1 (s1.heap.objs.size + 1) = none := I1.hok.fresh (Nat.le_succ _)
  have hsp := q (s1.heap.objs.size + 1) hy
  have hx : ((s1.heap.push (tupObj us)).push (excObj C s1.heap.objs.size)).get? (s1.heap.objs.size + 1) = some (excObj C s1.heap.objs.size) := by heap_get
  have I2 : Inv X pins σ (upd H1 (s1.heap.objs.size + 1) (.ext (XNew (s1.heap.objs.size + 1) (.ref C) none))) { s1 with heap := (s1.heap.push (tupObj us)).push (excObj C s1.heap.objs.size) } := by
    have a := I1.kept (t' := s1.toks) (h' := s1.heap.push (tupObj us)) fun b u q => Heap.get?_push_of_some _ q
    exact a.laid (t' := s1.toks) (fun b u q => Heap.get?_push_of_some _ q) (by show (s1.heap.push (tupObj us)).objs.size ≤ _; rw [Heap.size_push]; exact Nat.le_refl _) (XNew.ok ⟨_, _, _, hx, rfl, rfl, rfl, by simp, rfl, rfl⟩)
  have r2 : Vals (V.ref (s1.heap.objs.size + 1) :: vs) (Value.ref (s1.heap.objs.size + 1) :: us) := .cons rfl r
  have hlen : (Value.ref (s1.heap.objs.size + 1) :: us).length = ps.length := by rw [← r2.length]; exact F.len _ _ _ _ hsp
  have hbb := b ({ s1 with heap := (s1.heap.push (tupObj us)).push (excObj C s1.heap.objs.size) }) (Value.ref (s1.heap.objs.size + 1) :: us) I2.kIn (by rw [List.append_nil]; exact hlen)
  rw [List.append_nil] at hbb
  have hroom : Room (j + 1) X.A := hr.mono hk
  refine wpAny_call (xmake Z.top I1.kIn hi hfn hlu (codeAny_mono (F.run _ X.stack _ _ ⟨Value.ref (s1.heap.objs.size + 1) :: us, []⟩ (Value.ref (s1.heap.objs.size + 1) :: us) _ _ E0 (hroom.make C us []) (I2.env0.make C us []) hbb r2 hsp) fun r s' hq' => ?_))
  cases r with
  | error e => exact False.elim hq'
  | ok fl =>
    cases fl with
    | ret u =>
      obtain ⟨v, H3, I3, rv, ev, d, hd, hE⟩ := I2.after hq'
      subst ev
      refine ⟨rv, wpAny_bind (wpAny_standAt (wpAny_pure ⟨_, d, rfl, I3.kIn, (I3.hok _ _ hd).1, ?_⟩))⟩
      have xn := (I3.hok _ _ hd).1
      have I4 := I3.write (x := s1.heap.objs.size + 1) (e := s1.heap.objs.size + 1) (o := .ext (XO (s1.heap.objs.size + 1) (.ref C) d)) (t' := s'.toks) (h' := s'.heap) (by rw [hd]; trivial) (.inl rfl) (fun b u _ z => z) (by obtain ⟨ox, _, _, ho, _⟩ := xn; exact ⟨ox, ho⟩) (XNew.xo xn).ext_ok
      refine hT pins σ _ s' _ (.ref C) d I4 upd_same (fun _ => Nat.le_trans I1.sz (Nat.le_succ _)) (.inl ?_) hE
      obtain ⟨ox, vs', t', ho, _, _, hf, _, _, h1⟩ := xn
      exact ⟨ox, vs', ho, hf, h1⟩
    | next => exact False.elim hq'
    | brk => exact False.elim hq'
    | cont => exact False.elim hq'
end
end L2

namespace L2
open PySem PySem.Spec PyProof.Rows PySem.W
section
variable {X : Cx} {pins : List (Addr × Obj)} {σ : St} {H : Hp} {s : Shared} {x : Addr} {C : Value} {d : Option Addr}
theorem Inv.pokeN {h' : Heap} {t' : Nat} (I : Inv X pins σ H s) (he : H x = some (.ext (XNew x C d))) (k : ∀ b u, b ≠ x → s.heap.get? b = some u → h'.get? b = some u) (z : XNew x C d h') : Inv X pins σ H { s with heap := h', toks := t' } := by
  have := I.write (x := x) (e := x) (o := .ext (XNew x C d)) (h' := h') (t' := t') (by rw [he]; trivial) (.inl rfl) k (by obtain ⟨ox, _, _, ho, _⟩ := z; exact ⟨ox, ho⟩) z.ok
  rwa [upd_self he] at this
end
/-- the class G that is named in G.__init__(..) -/
structure XBas (K : Frag) (G : Addr) : Prop where
  ga : specialIn K (.ref G) "__getattribute__" = some (some (.builtin "type.__getattribute__"))
  rd : readsIn K G (.type "type") = true
  fi : findCls K (.ref G) (.type "type") "__init__" = some (.val (.builtin "ValueError.__init__"))
def tXInit (K : Frag) (t : TA) : TE := fun σ H Q => t σ H fun vs H1 => ∃ y C G d v, vs = [.ref y, v] ∧ H1 y = some (.ext (XNew y (.ref C) d)) ∧ XTop K C G ∧ Q .non H1
section
variable {X : Cx} {C G : Addr} {g : Str} {p pos apos : Pos} {e : Expr} {es : List Expr} {t : TA}
theorem pe_xinit {pl : Sem Bool} (B : XBas X.K G) (hg : Gl X g) (hm : X.mg g = some (.ref G)) (ha : PA X (e :: es) t) (hdb : (g == ("__debug__" : Str)) = false := by decide)
    (he : starEach (e :: es) X.env = (false, eval e X.env) :: starEach es X.env := by rfl) (hpl : (backTo pos (starEach es X.env)).any (·.1) = false := by rfl)
    (ht : eval (.Call (.Attribute (.Name g p) "__init__" apos) (e :: es) [] pos) X.env = (do
      let ov ← eval (.Name g p) X.env
      standAt apos.atName
      let (f, first) ← holding [ov] (getMethod ov "__init__" pl)
      callWith pos f first (backTo pos (starEach (e :: es) X.env)) (backToKw pos (keywordEach [] X.env))) := by rfl) :
    PE X (.Call (.Attribute (.Name g p) "__init__" apos) (e :: es) [] pos) (tXInit X.K t) := by
  intro pins s σ H Q I h
  refine PySem.W.methodCall_KW (pl := pl) (ld_glob I hg hm ?_ hdb) ht
  refine method_cls I.kIn B.ga (cls_value I.kIn B.rd B.fi rfl ?_)
  refine PyProof.Rows.callWith_builtin1 (thn (ha pos pins _ σ H _ (I.tok _) h) fun us s1 ⟨vs, H1, I1, r, y, C, G', d, v, ev, hy, T, q⟩ => ?_) he hpl
  subst ev
  obtain ⟨u1, u2, rfl, r1, r2⟩ := Vals.two r
  obtain rfl : u1 = Value.ref y := r1
  have xn := (I1.hok _ _ hy).1
  obtain ⟨ox, vs', t', ho, hc, hd, hf, hz, h0, h1⟩ := id xn
  refine xinit T I1.kIn ho hc hf h0 ?_
  have ho2 : (s1.heap.push (tupObj [u2])).get? y = some ox := Heap.get?_push_of_some _ ho
  have Ia := I1.kept (t' := s1.toks) (h' := s1.heap.push (tupObj [u2])) fun b u q => Heap.get?_push_of_some _ q
  refine ⟨.non, H1, Ia.pokeN (t' := s1.toks) hy (fun b u hb z => (Heap.get?_update_other _ _ (Ne.symm hb)).trans z) ⟨_, _, s1.heap.objs.size, fld_up 0 _ ho2 hf, (Obj.cls_mapFields ..).trans hc, (dict_map ..).trans hd, Obj.data_mapFields hf _, by simpa using hz, ?_, ?_⟩, rfl, q⟩
  · rw [Array.getElem?_setIfInBounds_self_of_lt (by (first | lia | omega))]
  · rw [Array.getElem?_setIfInBounds_ne (by decide)]
    exact h1
/-- a field of an exception -/
structure XFld (K : Frag) (C : Addr) (f : Str) : Prop where
  sa : findIn K (.ref C) "__setattr__" = some (some (.builtin "object.__setattr__"))
  no : findIn K (.ref C) f = some none
  hd : hasDictIn K C = true
  ga : findIn K (.ref C) "__getattribute__" = some (some (.builtin "BaseException.__getattribute__"))
  gt : findIn K (.ref C) "__getattr__" = some none
  mb : mroIn K C (.type "BaseException") = some true
end
def sXFld (K : Frag) (ta tv : TE) (f : Str) : TS := fun D σ H => tv σ H fun y H1 => ta σ H1 fun x H2 => ∃ a C G, x = .ref a ∧ H2 a = some (.ext (XNew a (.ref C) none)) ∧ XTop K C G ∧ XFld K C f ∧
  ∀ dx, H2 dx = none → dx ≠ a → D.nx σ (upd (upd H2 dx (.xd [(f, y)])) a (.ext (XNew a (.ref C) (some dx))))
section
variable {X : Cx} {o e value : Expr} {f : Str} {pos pos' : Pos} {ta tv : TE}
theorem ps_xfld (ha : PE X o ta) (hv : PE X value tv) (hs : swapsWith value (some (.Attribute o f pos')) pos.line X.env = pure false) : PS X (.Assign [.Attribute o f pos'] value pos) (sXFld X.K ta tv f) := by
  intro pins s σ H D I h
  refine plainObj_wpAny_Assign_Attribute (thn (hv pins s σ H _ I h) fun u s1 ⟨y, H1, I1, ry, q⟩ => thn (ha pins s1 σ H1 _ I1 q) fun ov s2 ⟨x, H2, I2, rx, a, C, G, ex, hy, T, F, q2⟩ => ?_) hs
  subst ex
  obtain rfl : ov = Value.ref a := rx
  obtain ⟨ox, vs, t, ho, hc, hd, hf, hz, h0, h1⟩ := (I2.hok _ _ hy).1
  have hlt : a < s2.heap.objs.size := I2.hok.lt hy
  refine xset T I2.kIn ho hc hf hd F.sa F.no F.hd fun h' e1 e2 e3 => ?_
  have hdn : H2 s2.heap.objs.size = none := I2.hok.fresh (Nat.le_refl _)
  have hne : s2.heap.objs.size ≠ a := Nat.ne_of_gt hlt
  refine ⟨σ, _, ?_, q2 _ hdn hne⟩
  have hob : ObjOk X.prog X.w (upd H2 s2.heap.objs.size (.xd [(f, y)])) h' s2.heap.objs.size (.xd [(f, y)]) := by
    refine ⟨_, e2, fun z => ?_⟩
    show RelO (List.lookup z [(f, y)]) (if z = f then some u else none)
    by_cases hz' : z = f
    · subst hz'
      simp only [List.lookup, beq_self_eq_true, if_true]
      exact ry
    · rw [if_neg hz']
      have : (z == f) = false := beq_eq_false_iff_ne.mpr hz'
      simp only [List.lookup, this]
      trivial
  -- first the exception's object is changed, then the dict is laid
  have un1 : Un X.fs [] H2 (upd (upd H2 s2.heap.objs.size (.xd [(f, y)])) a (.ext (XNew a (.ref C) (some s2.heap.objs.size)))) s2.heap h' := by
    have hna : ∀ b, H2 b = none → b ≠ a := fun b n z => by rw [z, hy] at n; cases n
    have hnd : ∀ b ob, s2.heap.get? b = some ob → b ≠ s2.heap.objs.size := fun b ob e => Nat.ne_of_lt (Heap.lt_size e)
    refine ⟨fun b ob e n _ _ => e3 b ob (hna b n) e, fun b ob e n _ _ => ⟨ob.slots, e3 b ob (hna b n) e⟩, fun b ob e n _ => by rw [upd_ne (hna b n), upd_ne (hnd b ob e)]; exact n, fun b ob e _ => ?_, fun b xs e => ?_, fun b ob u' e => ?_, fun b ps e => ?_⟩
    · by_cases hb : b = a
      · subst hb; exact ⟨_, e1⟩
      · exact ⟨ob, e3 b ob hb e⟩
    · have h1' : b ≠ a := fun z => by rw [z, hy] at e; cases e
      have h2' : b ≠ s2.heap.objs.size := fun z => by rw [z, hdn] at e; cases e
      rw [upd_ne h1', upd_ne h2']; exact e
    · have h1' : b ≠ a := fun z => by rw [z, hy] at e; cases e
      have h2' : b ≠ s2.heap.objs.size := fun z => by rw [z, hdn] at e; cases e
      rw [upd_ne h1', upd_ne h2']; exact e
    · have h1' : b ≠ a := fun z => by rw [z, hy] at e; cases e
      have h2' : b ≠ s2.heap.objs.size := fun z => by rw [z, hdn] at e; cases e
      exact ⟨#[], by rw [upd_ne h1', upd_ne h2', e]; simp⟩
  refine I2.un (t' := s2.toks + 2) un1 fun b u' hb => ?_
  by_cases hba : b = a
  · subst hba
    rw [upd_same] at hb
    cases hb
    exact XNew.ok ⟨_, vs, t, e1, hc, rfl, hf, hz, h0, h1⟩
  · rw [upd_ne hba] at hb
    by_cases hbd : b = s2.heap.objs.size
    · subst hbd
      rw [upd_same] at hb
      cases hb
      exact hob.stay (fun c v _ q => q) (fun c q => by
        have : c ≠ a := fun z => by
          subst z
          rw [upd_ne hne.symm, hy] at q
          cases q
        rw [upd_ne this]; exact q) (fun c xs q => by
        have : c ≠ a := fun z => by
          subst z
          rw [upd_ne hne.symm, hy] at q
          cases q
        rw [upd_ne this]; exact q)
    · rw [upd_ne hbd] at hb
      have keepH : ∀ c z, H2 c = some z → c ≠ a → upd (upd H2 s2.heap.objs.size (.xd [(f, y)])) a (.ext (XNew a (.ref C) (some s2.heap.objs.size))) c = some z := fun c z hc' hca => by
        have : c ≠ s2.heap.objs.size := fun w => by rw [w, hdn] at hc'; cases hc'
        rw [upd_ne hca, upd_ne this]; exact hc'
      refine (I2.hok b u' hb).stay (fun c v hcc q => e3 c v ?_ q) (fun c q => keepH c _ q ?_) (fun c xs q => keepH c _ q ?_)
      · rintro rfl
        rcases hcc with z | z
        · exact hba z.symm
        · rw [hy] at z; cases z
      · rintro rfl
        rw [hy] at q; cases q
      · rintro rfl
        rw [hy] at q; cases q
end
/-- e.f of an exception that was caught -/
def tXGet (K : Frag) (ta : TE) (f : Str) : TE := fun σ H Q => ta σ H fun x H1 => ∃ a oe C dx fs v, x = .ref a ∧ H1 a = some (Known a oe) ∧ oe.cls = .ref C ∧ oe.dict = some dx ∧ (∃ vs, oe.data = .fields vs) ∧ H1 dx = some (.xd fs) ∧ XFld K C f ∧ fs.lookup f = some v ∧ Q v H1
section
variable {X : Cx} {e : Expr} {f : Str} {pos : Pos} {ta : TE}
theorem pe_xget (he : PE X e ta) (hb : attributeBase e f X.env (eval e X.env) = eval e X.env) : PE X (.Attribute e f pos) (tXGet X.K ta f) := by
  intro pins s σ H Q I h
  refine attr_of hb (thn (he pins s σ H _ I h) fun u s1 ⟨x, H1, I1, rx, a, oe, C, dx, fs, v, ex, hk, hc, hd, ⟨vs, hf⟩, hx, F, hl, q⟩ => ?_)
  subst ex
  obtain rfl : u = Value.ref a := rx
  have ho : s1.heap.get? a = some oe := (I1.hok a _ hk).1
  obtain ⟨mA, n, hr⟩ := (show ObjOk X.prog X.w H1 s1.heap dx (.xd fs) from I1.hok dx _ hx)
  obtain ⟨od, hod, hlk⟩ := lookIn_ns n
  obtain ⟨u', hu, ru⟩ := RelO.some_of (v := v) (o := mA f) (by rw [← hl]; exact hr f)
  have J : InstAt s1.heap a oe C (some od) := ⟨ho, hc, by unfold notCls; rw [hf], by rw [hd]; exact hod⟩
  exact xget I1.kIn J F.ga F.gt F.mb (findObj_own F.hd F.no rfl (by rw [hlk, hu])) (handed_of ru) ⟨v, H1, I1.tok _, ru, q⟩
end
/-- isinstance of an exception that was caught: of a class that it has -/
theorem xis_true {prog : Program} {w : World} {A : Around} {E : Value → Shared → Prop} {s : Shared} {K : Frag} {x : Addr} {C c : Value} {Q : Value → Shared → Prop} (X : K.In s.heap) (ty : ∀ M, Looks M s.heap (typeOf (.ref x)) C) (hne : (C == c) = false) (e : kitCls K C c = some true)
    (h : Q (.bool true) s) : wpAny (model prog w) A (call (.builtin "isinstance") [.ref x, c]) Q E s := by
  refine call_isinstance (S := fun _ R s => (K.In s.heap ∧ ∀ M, Looks M s.heap (typeOf (.ref x)) C) ∧ R (.ok (.ret (.bool true))) s) (fun prog w A R s hs => isinstance_outer ?_ (fun z => nomatch z)) ⟨⟨X, ty⟩, h⟩
  · obtain ⟨⟨X, LT⟩, hq⟩ := hs
    obtain ⟨h0, g, d, tt, os⟩ := s
    unfold Builtin.«isinstance.nested»
    refine wpAny_bind ((LT _).at ?_)
    rw [if_neg (by rw [hne]; decide)]
    obtain ⟨hty, his, hsub⟩ := kit_cls (M := model prog w) X e
    refine wpAny_bind (hty.at ?_)
    rw [if_pos (by decide)]
    k_delta "plainIsInstance"
    refine wpAny_bind (wpAny_bind (his.at ?_))
    simp only [Bool.not_true, Bool.false_eq_true, if_false]
    refine wpAny_bind (((LT _).andThen hsub).at ?_)
    first | exact wpAny_pure (wpAny_pure hq) | (simp only [if_true]; first | exact wpAny_pure (wpAny_pure hq) | exact wpAny_pure hq)
end L2

namespace L2
open PySem PySem.Spec PyProof.Rows PySem.W
section
variable {X : Cx}
/-- isinstance(e, D) of an exception that was caught, D one of its classes -/
theorem call_xisR : CallR X (.builtin "isinstance") (fun xs H Q => ∃ a oe C D, xs = [.ref a, .ref D] ∧ H a = some (Known a oe) ∧ oe.cls = .ref C ∧ C ≠ D ∧ isClsIn X.K D = true ∧ typeIn X.K (.ref D) = some (.type "type") ∧ mroIn X.K C (.ref D) = some true ∧ Q (.bl true) H) := by
  intro pins s σ H xs us Q I r h
  obtain ⟨a, oe, C, D, rfl, hk, hc, hne, h1, h2, h3, q⟩ := h
  obtain ⟨u, v, rfl, rx, ry⟩ := Vals.two r
  obtain rfl : u = Value.ref a := rx
  obtain rfl : v = Value.ref D := ry
  have ho : s.heap.get? a = some oe := (I.hok a _ hk).1
  refine xis_true I.kIn (C := .ref C) (fun M => hc ▸ (Looks.ld ho).andThen .now) (by simpa using hne) ?_ ⟨.bl true, H, I, rfl, q⟩
  unfold kitCls
  dsimp only
  unfold isClsIn at h1
  rw [h1, h2, if_pos (by decide)]
  exact h3
theorem call_xisT : CallR X (.builtin "isinstance") (fun xs H Q => ∃ a oe C n, xs = [.ref a, .ty n] ∧ H a = some (Known a oe) ∧ oe.cls = .ref C ∧ kitMeta n = true ∧ mroIn X.K C (.type n) = some true ∧ Q (.bl true) H) := by
  intro pins s σ H xs us Q I r h
  obtain ⟨a, oe, C, n, rfl, hk, hc, h1, h3, q⟩ := h
  obtain ⟨u, v, rfl, rx, ry⟩ := Vals.two r
  obtain rfl : u = Value.ref a := rx
  obtain rfl : v = Value.type n := ry
  have ho : s.heap.get? a = some oe := (I.hok a _ hk).1
  refine xis_true I.kIn (C := .ref C) (fun M => hc ▸ (Looks.ld ho).andThen .now) rfl ?_ ⟨.bl true, H, I, rfl, q⟩
  unfold kitCls
  dsimp only
  rw [if_pos h1]
  exact h3
end
end L2

/-! texts with values put in -/
namespace L2
open PySem PySem.Spec PyProof.Rows
abbrev TJ := St → Hp → Str → (Str → Hp → Prop) → Prop
def PJ (X : Cx) (es : List Expr) (t : TJ) : Prop := ∀ (pins : List (Addr × Obj)) (s : Shared) (σ : St) (H : Hp) (acc : Str) (Q : Str → Hp → Prop), Inv X pins σ H s → t σ H acc Q →
  wpAny (model X.prog X.w) X.A (joinParts acc (evalEach es X.env)) (EP X pins σ fun v H' => ∃ z, v = .str z ∧ Q z H') X.xe s
def tJNil : TJ := fun _ H acc Q => acc.length ≤ sizeLine ∧ Q acc H
def tJCons (te : TE) (t : TJ) : TJ := fun σ H acc Q => te σ H fun v H1 => ∃ y, v = .str y ∧ (acc ++ y).length ≤ sizeLine ∧ t σ H1 (acc ++ y) Q
def tFv (tv : TE) : TE := fun σ H Q => tv σ H fun v H1 => (∃ z, v = .str z ∧ z.length ≤ sizeLine ∧ Q (.str z) H1) ∨ ∃ i : Int, v = .int i ∧ i.natAbs.log2 < 1920 ∧ Q (.str (Str.ofString (toString i))) H1
def tJoined (t : TJ) : TE := fun σ H Q => t σ H Str.empty fun z H' => Q (.str z) H'
section
variable {X : Cx} {e : Expr} {es : List Expr} {te : TE} {t : TJ} {pos : Pos}
theorem pj_nil : PJ X [] tJNil := fun _ _ _ H acc _ I h => joinParts_nil ⟨.str acc, H, I.tok _, ⟨_, rfl⟩, acc, rfl, h.2⟩ h.1
theorem pj_cons (he : PE X e te) (hr : PJ X es t) (hs : evalEach (e :: es) X.env = eval e X.env :: evalEach es X.env := by rfl) : PJ X (e :: es) (tJCons te t) := by
  intro pins s σ H acc Q I h
  rw [hs]
  refine joinParts_cons (thn (he pins s σ H _ I h) fun u s1 ⟨v, H1, I1, r, y, ev, hz, q⟩ => ?_)
  subst ev
  obtain ⟨tk, rfl⟩ := r
  exact ⟨hz, hr pins s1 σ H1 _ Q I1 q⟩
theorem pe_fv (he : PE X e te) : PE X (.FormattedValue e (-1) none pos) (tFv te) := by
  intro pins s σ H Q I h
  refine FormattedValue_plain (thn (he pins s σ H _ I h) fun u s1 ⟨v, H1, I1, r, q⟩ => ?_)
  rcases q with ⟨z, rfl, hz, q⟩ | ⟨i, rfl, hi, q⟩
  · obtain ⟨tk, rfl⟩ := r
    exact formatField_str (fun t' tk => ⟨.str z, H1, I1.tok _, ⟨_, rfl⟩, q⟩) hz
  · obtain ⟨tk, rfl⟩ := r
    exact formatField_int_small hi ⟨.str _, H1, I1.tok _, ⟨_, rfl⟩, q⟩
theorem pe_joined {e2 : Expr} (h : PJ X (e :: e2 :: es) t) : PE X (.JoinedStr (e :: e2 :: es) pos) (tJoined t) := by
  intro pins s σ H Q I hw
  refine JoinedStr_many (thn (h pins s σ H _ _ I hw) fun u s1 ⟨v, H1, I1, r, z, ev, q⟩ => ⟨v, H1, I1, r, by rw [ev]; exact q⟩)
end
end L2

/-! a display of many written texts -/
namespace L2
open PySem PySem.Spec PyProof.Rows
end L2
namespace L2
open PySem PySem.Spec PyProof.Rows
end L2
namespace L2
open PySem PySem.Spec PyProof.Rows PySem.W
variable {X : Cx}
theorem call_xisTK {K : Frag} (hK : X.K = K) : CallR X (.builtin "isinstance") (fun xs H Q => ∃ a oe C n, xs = [.ref a, .ty n] ∧ H a = some (Known a oe) ∧ oe.cls = .ref C ∧ kitMeta n = true ∧ mroIn K C (.type n) = some true ∧ Q (.bl true) H) := by
  subst hK
  exact call_xisT
theorem pe_xgetK {K : Frag} {e : Expr} {f : Str} {pos : Pos} {ta : TE} (hK : X.K = K) (he : PE X e ta) (hb : attributeBase e f X.env (eval e X.env) = eval e X.env) : PE X (.Attribute e f pos) (tXGet K ta f) := by
  subst hK
  exact pe_xget he hb
end L2

/-! sorted: what it gives is what it was given, in some order, at any length -/
namespace Srt
open PySem PyProof.Rows
end Srt

namespace Srt
open PySem PyProof.Rows
end Srt

namespace Srt
open PySem PyProof.Rows
end Srt

namespace Srt
open PySem PyProof.Rows
end Srt

namespace Srt
open PySem PyProof.Rows
end Srt

namespace Srt
open PySem PyProof.Rows
end Srt

namespace Srt
open PySem PyProof.Rows
end Srt

namespace Srt
open PySem PyProof.Rows
end Srt

namespace Srt
open PySem PyProof.Rows
end Srt

namespace Srt
open PySem PyProof.Rows
end Srt

namespace Srt
open PySem PyProof.Rows PySem.W
end Srt

namespace L2
open PySem PySem.Spec PyProof.Rows
theorem vals_mem : ∀ {vs : List V} {us : List Value}, Vals vs us → ∀ u ∈ us, ∃ v ∈ vs, RelV v u
  | _, _, .cons a t, u, hu => by
    rcases List.mem_cons.mp hu with rfl | hu
    · exact ⟨_, List.mem_cons_self .., a⟩
    · obtain ⟨v, hv, r⟩ := vals_mem t u hu
      exact ⟨v, List.mem_cons_of_mem _ hv, r⟩
end L2

namespace L2
open PySem PySem.Spec PyProof.Rows PySem.W
end L2

namespace L2
open PySem PySem.Spec PyProof.Rows PySem.W
end L2
namespace Srt
open PySem PyProof.Rows PySem.W
end Srt
namespace L2
open PySem PySem.Spec PyProof.Rows
end L2

namespace L2
open PySem PySem.Spec PyProof.Rows
end L2

/-! the table of a set: a search always ends -/
namespace Sts
open PySem
/-! the steps of a search -/
end Sts

/-! a table laid anew holds all its elements -/
namespace Sts
open PySem
end Sts

/-! places in rising order -/
namespace Sts
open PySem
end Sts

/-! tuples in a set -/
namespace Sts
open PySem
end Sts

/-! a tuple added to a set -/
namespace Sts
open PySem
end Sts

namespace Sts
open PySem
end Sts

/-! set(list of tuples) -/
namespace Sts
open PySem PyProof.Rows
end Sts

namespace Sts
open PySem PyProof.Rows
end Sts

/-! a set walked -/
namespace Sts
open PySem PyProof.Rows
end Sts

namespace Sts
open PySem PyProof.Rows
end Sts

namespace Sts
open PySem PyProof.Rows
end Sts

namespace Sts
open PySem PyProof.Rows PySem.W
end Sts

namespace Srt
open PySem PyProof.Rows PySem.W
end Srt

namespace Sts
open PySem PyProof.Rows PySem.W Srt
end Sts
namespace L2
open PySem PySem.Spec PyProof.Rows PySem.W
end L2

/-! sorted: the order too -/
namespace Srd
open PySem PyProof.Rows Srt
end Srd

namespace Srd
open PySem PyProof.Rows Srt
end Srd

namespace Srd
open PySem PyProof.Rows Srt
end Srd

namespace Srd
open PySem PyProof.Rows Srt
end Srd

namespace Srd
open PySem PyProof.Rows Srt
end Srd

namespace Srd
open PySem PyProof.Rows Srt
end Srd

namespace Srd
open PySem PyProof.Rows Srt
end Srd

namespace Srd
open PySem PyProof.Rows Srt
end Srd

namespace Srd
open PySem PyProof.Rows Srt PySem.W
end Srd

/-! a list has no keys() -/
namespace Srd
open PySem PyProof.Rows
theorem lk_list_keys : typeLookup (.type "list") "keys" = pure none := by rw [typeLookup_type, builtinLookup_eq_fast]; kernel_rfl
theorem isSubtype_attr : isSubtype (.type "AttributeError") (.type "AttributeError") = pure true := by rw [isSubtype_type]; kernel_rfl
section
variable {prog : Program} {w : World} {A : Around} {E : Value → Shared → Prop} {h : Heap} {g : Array GenState} {d : Drawn} {t : Nat} {os : OsState} {a : Addr}
theorem raise_attr {α : Type} {Q : α → Shared → Prop} {o : Value} {name msg : Str} (hh : A.handled = none) (hm : msg.length ≤ sizeLine) (hq : ∀ (x : Addr) (h' : Heap) (tk : Nat), (∀ b u, h.get? b = some u → h'.get? b = some u) → (∃ ob, h'.get? x = some ob ∧ ob.cls = .type "AttributeError") → h.objs.size ≤ h'.objs.size → E (.ref x) ⟨h', g, d, tk, os⟩) :
    wpAny (model prog w) A (raiseAttrError o name msg : Sem α) Q E ⟨h, g, d, t, os⟩ := by
  unfold raiseAttrError
  repeat (any_goals (first | assumption | wp_step))
  refine wpAny_of_eq isSubtype_attr ?_
  rw [if_neg (by decide)]
  generalize hfa : (if ((Manifest.find? "AttributeError").elim false fun t => t.mro.contains "StopIteration" || t.mro.contains "SystemExit") = true then [Value.str msg t].headD Value.none else Value.none) = fa
  have k1 : ∀ b u, h.get? b = some u → (h.push { cls := Value.type "tuple", data := Data.seq #[Value.str msg t] }).get? b = some u := fun b u e => Heap.get?_push_of_some _ e
  have z1 : (h.push { cls := Value.type "tuple", data := Data.seq #[Value.str msg t] }).objs.size = h.objs.size + 1 := Heap.size_push ..
  generalize h.push { cls := Value.type "tuple", data := Data.seq #[Value.str msg t] } = h1 at k1 z1
  have e1 : (h1.push { cls := Value.type "AttributeError", data := Data.fields (#[Value.ref h.objs.size, Value.none, Value.none, Value.none, Value.bool false, fa] ++ ownMembersOf (Value.type "AttributeError") [Value.str msg t]) }).get? h1.objs.size = some { cls := Value.type "AttributeError", data := Data.fields (#[Value.ref h.objs.size, Value.none, Value.none, Value.none, Value.bool false, fa] ++ ownMembersOf (Value.type "AttributeError") [Value.str msg t]) } := Heap.get?_push_size _ rfl
  have k2 : ∀ b u, h.get? b = some u → (h1.push { cls := Value.type "AttributeError", data := Data.fields (#[Value.ref h.objs.size, Value.none, Value.none, Value.none, Value.bool false, fa] ++ ownMembersOf (Value.type "AttributeError") [Value.str msg t]) }).get? b = some u := fun b u e => Heap.get?_push_of_some _ (k1 b u e)
  have z2 : (h1.push { cls := Value.type "AttributeError", data := Data.fields (#[Value.ref h.objs.size, Value.none, Value.none, Value.none, Value.bool false, fa] ++ ownMembersOf (Value.type "AttributeError") [Value.str msg t]) }).objs.size = h1.objs.size + 1 := Heap.size_push ..
  generalize h1.push { cls := Value.type "AttributeError", data := Data.fields (#[Value.ref h.objs.size, Value.none, Value.none, Value.none, Value.bool false, fa] ++ ownMembersOf (Value.type "AttributeError") [Value.str msg t]) } = h2 at e1 k2 z2
  refine wpAny_bind (wpAny_load e1 ?_)
  dsimp only
  have v6 : (#[Value.ref h.objs.size, Value.none, Value.none, Value.none, Value.bool false, fa] ++ ownMembersOf (Value.type "AttributeError") [Value.str msg t])[6]? = some unsetMember := rfl
  have v7 : (#[Value.ref h.objs.size, Value.none, Value.none, Value.none, Value.bool false, fa] ++ ownMembersOf (Value.type "AttributeError") [Value.str msg t])[7]? = some unsetMember := rfl
  refine wpAny_ite_split (fun hab => absurd hab (by rw [v6, v7]; decide)) (fun _ => wpAny_ite_split (fun hab => absurd hab (by rw [v6, v7]; decide)) (fun _ => wpAny_pure ?_))
  rw [if_pos rfl]
  refine wpAny_bind (wpAny_rule (wpAny_bind (wpAny_typeOf (T := "AttributeError") ⟨_, e1, rfl⟩ ?_)))
  dsimp only
  unfold layMembers
  refine wpAny_bind (wpAny_load e1 ?_)
  dsimp only
  refine wpAny_update e1 ?_
  unfold raiseNew
  refine wpAny_bind (wpAny_handled ?_)
  rw [hh]
  refine wpAny_throw (hq _ _ _ (fun b u e => ?_) ?_ ?_)
  · rw [Heap.get?_update_other _ _ (show h1.objs.size ≠ b from fun z => ?_)]
    · exact k2 b u e
    · have := Heap.lt_size e
      have h3 : h1.objs.size < h.objs.size := z ▸ this
      (first | lia | omega)
  · exact ⟨_, Heap.get?_update_self _ e1 rfl, rfl⟩
  · rw [Heap.size_update]
    show h.objs.size ≤ h2.objs.size
    (first | lia | omega)
theorem miss_entry_list {tk : Tok} {Q : Fin → Shared → Prop} {its : Array Value} {n : Nat} {sl : Array (Option Value)} (hh : A.handled = none) (hx : h.get? a = some { cls := .type "list", dict := none, data := .seq its n, slots := sl }) (hq : ∀ (x : Addr) (h' : Heap) (tk : Nat), (∀ b u, h.get? b = some u → h'.get? b = some u) → (∃ ob, h'.get? x = some ob ∧ ob.cls = .type "AttributeError") → h.objs.size ≤ h'.objs.size → E (.ref x) ⟨h', g, d, tk, os⟩) :
    wpAny (model prog w) A (Builtin.«object.__getattribute__» ⟨[.ref a, .str "keys" tk], []⟩) Q E ⟨h, g, d, t, os⟩ := by
  have hT : (⟨h, g, d, t, os⟩ : Shared).TypeIs (.ref a) "list" := ⟨_, hx, rfl⟩
  have f4 := lk_list_keys
  repeat (any_goals (first | assumption | with_reducible apply raise_attr hh | wp_step))
  decide +kernel
theorem lk_list_getattr : typeLookup (.type "list") "__getattr__" = pure none := by rw [typeLookup_type, builtinLookup_eq_fast]; kernel_rfl
theorem miss_call_list {tk : Tok} {R : Result → Shared → Prop} {its : Array Value} {n : Nat} {sl : Array (Option Value)} (hh : A.handled = none) (hx : h.get? a = some { cls := .type "list", dict := none, data := .seq its n, slots := sl }) (hq : ∀ (x : Addr) (h' : Heap) (tk : Nat), (∀ b u, h.get? b = some u → h'.get? b = some u) → (∃ ob, h'.get? x = some ob ∧ ob.cls = .type "AttributeError") → h.objs.size ≤ h'.objs.size → R (.error (.ref x)) ⟨h', g, d, tk, os⟩) :
    codeAny (model prog w) A (.call (.builtin "list.__getattribute__") ⟨[.ref a, .str "keys" tk], []⟩) R ⟨h, g, d, t, os⟩ :=
  codeAny_call_builtin F.slot_list_getattribute.plain F.entry_list_ga (F.slot_list_getattribute.check _ _ _ _ _ _ _ _ (show (⟨h, g, d, t, os⟩ : Shared).TypeIs (.ref a) "list" from ⟨_, hx, rfl⟩) (F.args_list_getattribute_2 _ _) (miss_entry_list hh hx hq))
theorem miss_by_list {tk : Tok} {Q : Value → Shared → Prop} {its : Array Value} {n : Nat} {sl : Array (Option Value)} (hh : A.handled = none) (hx : h.get? a = some { cls := .type "list", dict := none, data := .seq its n, slots := sl }) (hq : ∀ (x : Addr) (h' : Heap) (tk : Nat), (∀ b u, h.get? b = some u → h'.get? b = some u) → (∃ ob, h'.get? x = some ob ∧ ob.cls = .type "AttributeError") → h.objs.size ≤ h'.objs.size → E (.ref x) ⟨h', g, d, tk, os⟩) :
    wpAny (model prog w) A (getAttrBy (.ref a) (.str "keys" tk) false) Q E ⟨h, g, d, t, os⟩ := by
  have hT : (⟨h, g, d, t, os⟩ : Shared).TypeIs (.ref a) "list" := ⟨_, hx, rfl⟩
  have f2 := F.slot_list_getattribute.lookup
  have f3 := F.slot_list_getattribute.bind (.ref a)
  have f4 := lk_list_getattr
  repeat (any_goals (first | assumption | wp_step))
  refine miss_call_list hh hx fun x h' tk' k1 k2 k3 => ?_
  obtain ⟨ob, e2, c2⟩ := k2
  dsimp only
  unfold getattributeRaised
  refine wpAny_bind (wpAny_isInstance (T := "AttributeError") (b := true) ⟨ob, e2, c2⟩ isSubtype_attr ?_)
  rw [if_pos rfl]
  unfold hookBehind
  rw [if_neg (by decide)]
  refine wpAny_bind (wpAny_of_eq f4 ?_)
  unfold hookOrError attributeErrorLeaves
  dsimp only
  rw [if_pos (by decide)]
  exact wpAny_bind (wpAny_throw (hq x h' tk' k1 ⟨ob, e2, c2⟩ k3))
theorem miss_attr_list {Q : Option Value → Shared → Prop} {its : Array Value} {n : Nat} {sl : Array (Option Value)} (hh : A.handled = none) (hx : h.get? a = some { cls := .type "list", dict := none, data := .seq its n, slots := sl }) (hq : ∀ (h' : Heap) (tk : Nat), (∀ b u, h.get? b = some u → h'.get? b = some u) → h.objs.size ≤ h'.objs.size → Q none ⟨h', g, d, tk, os⟩) :
    wpAny (model prog w) A (getAttr? (.ref a) "keys") Q E ⟨h, g, d, t, os⟩ := by
  unfold getAttr? getAttrBy?
  repeat (any_goals (first | assumption | with_reducible apply miss_by_list hh hx | wp_step))
  intro x h' tk' k1 k2 k3
  obtain ⟨ob, e2, c2⟩ := k2
  dsimp only
  refine wpAny_bind (wpAny_isInstance (T := "AttributeError") (b := true) ⟨ob, e2, c2⟩ isSubtype_attr ?_)
  rw [if_pos rfl]
  exact wpAny_pure (hq h' tk' k1 k3)
end
end Srd

/-! dict(list of pairs) -/
namespace Srd
open PySem PyProof.Rows
theorem entry_dict_update_loop : entryFor table "dict.update.loop" = some Builtin.«dict.update.loop» := entryFor_of_tree (by kernel_rfl)
theorem plain_dict_update_loop : plainId "dict.update.loop" = true := by decide +kernel
end Srd

/-! dict(list of pairs) and sorted(dict of ints), as rules -/
namespace L2
open PySem PySem.Spec PyProof.Rows PySem.W
end L2

/-! arguments without a star: what has no star, by its head alone -/
namespace L2
open PySem PySem.Spec PyProof.Rows
end L2
/-! expressions and arguments, shut: nothing is unfolded while a deep display is put together -/
namespace L2
open PySem PySem.Spec PyProof.Rows
end L2

/-! sets of tuples: every element stands on its own way of probes -/
namespace Stg
open PySem Sts
end Stg

namespace Stg
open PySem Sts
end Stg

namespace Stg
open PySem Sts
end Stg

/-! the order of tuples of an int, a text and two ints -/
namespace Srd
open PySem PyProof.Rows Srt PySem.W
end Srd

namespace Stg
open PySem PyProof.Rows PySem.W Sts
end Stg

/-! strong sets of numbers; set(list) for any kind of set -/
namespace Stg
open PySem PyProof.Rows Sts
end Stg

/-! sorted(set(l)) and sorted(l), with all that can be said -/
namespace Srd
end Srd
namespace L2
open PySem PySem.Spec PyProof.Rows PySem.W Srd Sts Stg
end L2

namespace L2
open PySem PySem.Spec PyProof.Rows PySem.W Srd Sts Stg
end L2

/-! for x, y in zip(xs, ys) -/
namespace L2
open PySem PySem.Spec PyProof.Rows
end L2

/-! sorted(l) of tuples (int, str, int, int) and of ints: the same items, rising -/
namespace L2
open PySem PySem.Spec PyProof.Rows PySem.W Srd
end L2

/-! range(a, b, 2) -/
namespace L2
open PySem PySem.Spec PyProof.Rows
end L2

namespace L2
open PySem PySem.Spec PyProof.Rows
end L2

/-! len(set(l)) of tuples (int, str, int, int): how many unlike ones -/
namespace L2
open PySem PySem.Spec PyProof.Rows PySem.W Srd Sts Stg
end L2

/-! sets of texts: sorted(set(l)) -/
namespace Stg
open PySem PyProof.Rows Sts
end Stg
namespace L2
open PySem PySem.Spec PyProof.Rows PySem.W Srd Sts Stg
end L2

/-! for x in reversed(l) -/
namespace L2
open PySem PySem.Spec PyProof.Rows
end L2

/-! forms in the heap, as lists of all that they hold; what their makers promise; kinds of groves -/
namespace Fg
open PySem L2 FgM
theorem pg_tupK {X : Cx} {K : PySem.W.Frag} {es : List Expr} {k : Nat} {t : TGs} {n : Nat} {pos : Pos} (hK : X.K = K) (hc : X.calm = true) (h : PGs X es t) (hn : (assignEach es X.env).length = n := by rfl) (hst : (assignEach es X.env).findIdx? (·.1) = none := by rfl) : PG X (.Tuple es k pos) (gTup K n t) := by
  subst hK
  exact pg_tup hc h hn hst
theorem comp_tup {K : PySem.W.Frag} {a p : Addr} {xs : List V} {g : TG} {te : TE} {R : Hp → Prop} {σ0 : St} {H0 : Hp} (Pv : Nat → List V → St → Hp → Prop) (h0 : Pv 0 [] σ0 H0)
    (hl : ∀ i ys σ H, i ≤ xs.length → Pv i ys σ H → SqT K H a xs ∧ H p = some (.lst ys))
    (hs : ∀ i ys x σ H, i < xs.length → xs[i]? = some x → Pv i ys σ H → g x σ H fun σ3 H4 => te σ3 H4 fun v H5 => H5 p = some (.lst ys) ∧ ys.length < sizeLine ∧ ∃ m', m' < xs.length - i ∧ CW xs.length Pv (i + 1) m' (ys ++ [v]) σ3 (upd H5 p (.lst (ys ++ [v]))))
    (hd : ∀ ys σ H, Pv xs.length ys σ H → R H) :
    ∃ W : Nat → Nat → List V → St → Hp → Prop, (∃ m, W 0 m [] σ0 H0) ∧ ∀ i m ys σc H2, W i m ys σc H2 → H2 p = some (.lst ys) ∧ (((Itt K a).stop i H2 ∧ R H2) ∨ ((Itt K a).go i H2 ∧ ∀ x H3, (Itt K a).yld i H2 x H3 → g x σc H3 fun σ3 H4 => te σ3 H4 fun v H5 =>
      H5 p = some (.lst ys) ∧ ys.length < sizeLine ∧ ∃ m', m' < m ∧ W (i + 1) m' (ys ++ [v]) σ3 (upd H5 p (.lst (ys ++ [v]))))) := by
  refine ⟨CW xs.length Pv, ⟨_, rfl, Nat.zero_le _, h0⟩, ?_⟩
  rintro i m ys σ H ⟨rfl, hi, hp⟩
  obtain ⟨h1, h2⟩ := hl i ys σ H hi hp
  refine ⟨h2, ?_⟩
  by_cases hlt : i < xs.length
  · refine .inr ⟨⟨xs, xs[i], h1, List.getElem?_eq_getElem hlt⟩, ?_⟩
    rintro x H3 ⟨rfl, hx⟩
    exact hs i ys x σ _ hlt (hx xs h1) hp
  · refine .inl ⟨⟨xs, h1, by (first | lia | omega)⟩, hd ys σ H ?_⟩
    have e : i = xs.length := by (first | lia | omega)
    rw [← e]
    exact hp
theorem take_succ' {α : Type} {l : List α} {i : Nat} {x : α} (h : l[i]? = some x) : l.take (i + 1) = l.take i ++ [x] := by
  rw [List.take_add_one, h]
  rfl
theorem comp_range {lo : Int} {n : Nat} {p : Addr} {g : TG} {te : TE} {R : Hp → Prop} {σ0 : St} {H0 : Hp} (Pv : Nat → List V → St → Hp → Prop) (h0 : Pv 0 [] σ0 H0)
    (hl : ∀ i ys σ H, i ≤ n → Pv i ys σ H → H p = some (.lst ys))
    (hs : ∀ i ys σ H, i < n → Pv i ys σ H → g (.int (lo + i)) σ H fun σ3 H4 => te σ3 H4 fun v H5 => H5 p = some (.lst ys) ∧ ys.length < sizeLine ∧ ∃ m', m' < n - i ∧ CW n Pv (i + 1) m' (ys ++ [v]) σ3 (upd H5 p (.lst (ys ++ [v]))))
    (hd : ∀ ys σ H, Pv n ys σ H → R H) :
    ∃ W : Nat → Nat → List V → St → Hp → Prop, (∃ m, W 0 m [] σ0 H0) ∧ ∀ i m ys σc H2, W i m ys σc H2 → H2 p = some (.lst ys) ∧ (((Itr lo n).stop i H2 ∧ R H2) ∨ ((Itr lo n).go i H2 ∧ ∀ x H3, (Itr lo n).yld i H2 x H3 → g x σc H3 fun σ3 H4 => te σ3 H4 fun v H5 =>
      H5 p = some (.lst ys) ∧ ys.length < sizeLine ∧ ∃ m', m' < m ∧ W (i + 1) m' (ys ++ [v]) σ3 (upd H5 p (.lst (ys ++ [v]))))) := by
  refine ⟨CW n Pv, ⟨_, rfl, Nat.zero_le _, h0⟩, ?_⟩
  rintro i m ys σ H ⟨rfl, hi, hp⟩
  refine ⟨hl i ys σ H hi hp, ?_⟩
  by_cases hlt : i < n
  · refine .inr ⟨hlt, ?_⟩
    rintro x H3 ⟨rfl, rfl⟩
    exact hs i ys σ _ hlt hp
  · have e : i = n := by (first | lia | omega)
    subst e
    exact .inl ⟨Nat.le_refl _, hd ys σ H hp⟩
/-! forms with all that is known of them -/
end Fg

namespace Fg
open PySem L2 FgM
/-! kinds of groves by a form; words gone through from the last one -/
end Fg

namespace Fg
open PySem L2 FgM
/-! lists of kinds, one for each rest of a row -/
/-! what the makers of words and forms promise -/
end Fg

/-! rows again and again -/
namespace Fg
open PySem L2 FgM
end Fg

/-! d.setdefault(k, x); sorted(d, reverse=True) of a dict with whole numbers as keys -/
namespace L2
open PySem PySem.Spec PyProof.Rows
end L2

/-! places of tags and of their ends; dicts by whole numbers -/
namespace Fg
open PySem L2 FgM
end Fg

namespace L2
open PySem PySem.Spec PyProof.Rows
/-- a comprehension over a list, with a test -/
theorem comp_listT {K : PySem.W.Frag} {a p : Addr} {xs : List V} {g : TG} {tt : TT} {te : TE} {R : Hp → Prop} {σ0 : St} {H0 : Hp} (Pv : Nat → List V → St → Hp → Prop) (h0 : Pv 0 [] σ0 H0)
    (hl : ∀ i ys σ H, i ≤ xs.length → Pv i ys σ H → SqL K H a xs ∧ H p = some (.lst ys))
    (hs : ∀ i ys x σ H, i < xs.length → xs[i]? = some x → Pv i ys σ H → g x σ H fun σ3 H4 => tt σ3 H4 fun b H4' => if b = true then te σ3 H4' fun v H5 => H5 p = some (.lst ys) ∧ ys.length < sizeLine ∧ ∃ m', m' < xs.length - i ∧ CW xs.length Pv (i + 1) m' (ys ++ [v]) σ3 (upd H5 p (.lst (ys ++ [v])))
      else ∃ m', m' < xs.length - i ∧ CW xs.length Pv (i + 1) m' ys σ3 H4')
    (hd : ∀ ys σ H, Pv xs.length ys σ H → R H) :
    ∃ W : Nat → Nat → List V → St → Hp → Prop, (∃ m, W 0 m [] σ0 H0) ∧ ∀ i m ys σc H2, W i m ys σc H2 → H2 p = some (.lst ys) ∧ (((Itl K a).stop i H2 ∧ R H2) ∨ ((Itl K a).go i H2 ∧ ∀ x H3, (Itl K a).yld i H2 x H3 → g x σc H3 fun σ3 H4 => tt σ3 H4 fun b H4' => if b = true then te σ3 H4' fun v H5 =>
      H5 p = some (.lst ys) ∧ ys.length < sizeLine ∧ ∃ m', m' < m ∧ W (i + 1) m' (ys ++ [v]) σ3 (upd H5 p (.lst (ys ++ [v]))) else ∃ m', m' < m ∧ W (i + 1) m' ys σ3 H4')) := by
  refine ⟨CW xs.length Pv, ⟨_, rfl, Nat.zero_le _, h0⟩, ?_⟩
  rintro i m ys σ H ⟨rfl, hi, hp⟩
  obtain ⟨h1, h2⟩ := hl i ys σ H hi hp
  refine ⟨h2, ?_⟩
  by_cases hlt : i < xs.length
  · refine .inr ⟨⟨xs, xs[i], h1, List.getElem?_eq_getElem hlt⟩, ?_⟩
    rintro x H3 ⟨rfl, hx⟩
    exact hs i ys x σ _ hlt (hx xs h1) hp
  · have e : i = xs.length := by (first | lia | omega)
    subst e
    exact .inl ⟨⟨xs, h1, Nat.le_refl _⟩, hd ys σ H hp⟩
end L2

/-! len of a dict; the place of a number in a list -/
namespace L2
open PySem PySem.Spec PyProof.Rows PySem.W
end L2

/-! pairs of numbers in order; sorted of a dict whose keys are such pairs -/
namespace Srd
open PySem PyProof.Rows Srt PySem.W
end Srd
namespace L2
open PySem PySem.Spec PyProof.Rows PySem.W Srd
end L2

/-! list(d): the keys of a dict, in its order -/
namespace L2
open PySem PySem.Spec PyProof.Rows PySem.W Srd
end L2

/-! l.extend(d): the keys of a dict behind what l has -/
namespace L2
open PySem PySem.Spec PyProof.Rows PySem.W Srd
end L2

/-! for i, x in enumerate(tuple); min(list of ints) -/
namespace L2
open PySem PySem.Spec PyProof.Rows
end L2

/-! runs: the first rule at each tag -/
namespace Fg
open PySem L2 FgM
end Fg

/-! list.insert; a quad in a tuple of quads, and its place there -/
namespace L2
open PySem PySem.Spec PyProof.Rows Srd
section
variable {X : Cx}
def rRevL (K : PySem.W.Frag) : V → Hp → VK → Prop := fun x H Q => ∃ a xs, x = .ref a ∧ SqL K H a xs ∧ ∀ p, H p = none → Q (.ref p) (upd H p (.lst xs.reverse))
theorem pe_revL {e : Expr} {te : TE} {pos p2 p3 p4 : Pos} {j : Nat} (he : PE X e te) : PE X (.Subscript e (.Slice none none (some (.UnaryOp .USub (.Constant (.int 1) j p4) p3)) p2) pos) (tUn (rRevL X.K) te) := by
  intro pins s σ H Q I h
  refine Subscript_ (thn (he pins s σ H _ I h) fun v s1 ⟨x, H1, I1, r1, q1⟩ => ?_)
  obtain ⟨a, xs, rfl, hx, q⟩ := q1
  cases r1
  refine wpAny_Slice (thn (po_none pins s1 σ H1 (fun o H' => o = none ∧ H' = H1) I1 ⟨rfl, rfl⟩) fun vl s2 ⟨l, H2, I2, pl, el, eh⟩ => ?_)
  subst el eh
  refine thn (po_none pins s2 σ H2 (fun o H' => o = none ∧ H' = H2) I2 ⟨rfl, rfl⟩) fun vu s3 ⟨u, H3, I3, pu, el, eh⟩ => ?_
  subst el eh
  refine thn (po_some (pe_un un_neg pe_int) pins s3 σ H3 (fun o H' => o = some (-1) ∧ H' = H3) I3 ⟨1, rfl, -1, rfl, rfl, rfl⟩) fun vt s4 ⟨o, H4, I4, pt, el, eh⟩ => ?_
  subst el eh
  have I5 : Inv X pins σ H4 { s4 with heap := s4.heap.push { cls := .type "slice", data := .fields #[vl, vu, vt] } } := I4.kept (t' := s4.toks) fun b ob q => Heap.get?_push_of_some _ q
  obtain ⟨its, r, ht, hz⟩ := I5.list hx
  have hlen := r.length
  show wpAny (model X.prog X.w) X.A (subscriptTail e (.Slice none none (some (.UnaryOp .USub (.Constant (.int 1) j p4) p3)) p2) (.ref a) (.ref s4.heap.objs.size)) (EP X pins σ Q) X.xe { s4 with heap := s4.heap.push { cls := .type "slice", data := .fields #[vl, vu, vt] } }
  refine tail_any (ops := [.ref a, .ref s4.heap.objs.size]) ht.isList.typeIs slot_list_getitem.lookup (wpAny_getItem_list_slice ht.isList (Heap.IsSliceOf.new ..) pl pu pt (by decide) ?_ (by rw [List.size_toArray] <;> (first | lia | omega))) (by with_unfolding_all rfl)
  rw [PySem.W.krv_pick]
  refine ⟨.ref _, _, I5.laid (t' := s4.toks) (o := .lst xs.reverse) (fun b ob q => Heap.get?_push_of_some _ q) (Nat.le_refl _) ?_, rfl, q _ (I5.hok.fresh (Nat.le_refl _))⟩
  exact ⟨by rw [List.length_reverse]; exact hz, _, 0, r.reverse, Heap.get?_push_size _ rfl⟩
end
end L2

/-! an own class called with arguments; isinstance of an own class -/
namespace L2
open PySem PySem.Spec PyProof.Rows
section
variable {X : Cx} {C : Addr} {m x : Str} {ps : List Str} {j k : Nat} {sp : Sp} {o e : Expr} {es : List Expr} {ta : TE} {t : TA} {p pos apos : Pos}
theorem pe_hasc (G : HasC X.prog X.w X.K X.mg X.base C x ps j sp) (hr : Room k X.A) (hg : Gl X x) (ha : PA X (e :: es) t) (hk : j + 1 ≤ k := by decide) (hdb : (x == ("__debug__" : Str)) = false := by decide)
    (he : starEach (e :: es) X.env = (false, eval e X.env) :: starEach es X.env := by rfl) (hpl : (backTo pos (starEach es X.env)).any (·.1) = false := by rfl) : PE X (.Call (.Name x p) (e :: es) [] pos) (tMake C sp [] E0 t) := by
  obtain ⟨f, fd, F, b, M, hm⟩ := G.ex
  exact pe_make M F (hr.mono hk) hg hm b .nil pass0 ha hdb he hpl
end
end L2

/-! sorted(set(l)) of a list of texts of any length, of which few are unlike -/
namespace Stg
open PySem PyProof.Rows Sts
end Stg
namespace L2
open PySem PySem.Spec PyProof.Rows PySem.W Srd Sts Stg
end L2
namespace L2
open PySem PySem.Spec PyProof.Rows
end L2
namespace L2
open PySem PySem.Spec PyProof.Rows
end L2

/-! the reader: its state, in the heap and as lists of pairs -/
namespace Fg
open PySem L2 FgM
/-! in the heap -/
def KeepX (ex : List Addr) (H H' : Hp) : Prop := ∀ b o, b ∉ ex → H b = some o → H' b = some o
/-! the promises of the reader's methods -/
end Fg

/-! what the laws of the reader build -/
namespace Fg
open PySem L2 FgM
end Fg
namespace L2
open PySem PySem.Spec PyProof.Rows
end L2
namespace L2
open PySem PySem.Spec PyProof.Rows
theorem op_notB {X : Cx} : OpR X (compareOp .IsNot) (fun x y H Q => ∃ a b, x = .bl a ∧ y = .bl b ∧ Q (.bl (!decide (a = b))) H) := by
  intro pins s σ H x y v u Q I rx ry h
  obtain ⟨a, b, rfl, rfl, q⟩ := h
  cases rx
  cases ry
  cases a <;> cases b <;> exact wpAny_pure (fin_bl I q rfl)
end L2
namespace Fg
open PySem L2 FgM
end Fg
namespace Fg
open PySem L2 FgM
/-- a cut within a block whose parts have names -/
theorem via {u t : TS} {D : Ends} {σ : St} {H : Hp} (R : St → Hp → Prop) (h2 : ∀ σ' H', R σ' H' → t D σ' H') (h1 : (∀ σ' H', R σ' H' → t D σ' H') → u D σ H) : u D σ H := h1 h2
theorem made {H H' : Hp} {x dx C : Addr} (hx : H x = none) (hdx : H dx = none) (kb : ∀ b o, b ≠ x → (upd (upd H dx (.own x)) x (.ins C dx [])) b = some o → H' b = some o) : Same H H' := fun b o e => kb b o (ne_of_none e hx) (by
  rw [upd_ne (ne_of_none e hx), upd_ne (ne_of_none e hdx)]
  exact e)
theorem making {H : Hp} {x dx C : Addr} (hx : H x = none) (hdx : H dx = none) (hne : dx ≠ x) : Same H (upd (upd H dx (.own x)) x (.ins C dx [])) := (Same.new hdx).trans (Same.new (by
  rw [upd_ne hne.symm]
  exact hx))
theorem making_free {H : Hp} {x dx C b : Addr} (h : (upd (upd H dx (.own x)) x (.ins C dx [])) b = none) : H b = none := by
  by_cases h1 : b = x
  · rw [h1, upd_same] at h
    cases h
  · rw [upd_ne h1] at h
    by_cases h2 : b = dx
    · rw [h2, upd_same] at h
      cases h
    · rw [upd_ne h2] at h
      exact h
end Fg
namespace Fg
open PySem L2 FgM
end Fg

/-! sorted(list of pairs), sorted(list of texts) -/
namespace L2
open PySem PySem.Spec PyProof.Rows PySem.W Srd Sts Stg
end L2
namespace Fg
open PySem L2 FgM
end Fg
namespace Fg
open PySem L2 FgM
end Fg
namespace L2
open PySem PySem.Spec PyProof.Rows
/-! a display of many written numbers -/
end L2
namespace L2
open PySem PySem.Spec PyProof.Rows
end L2
namespace Fg
open PySem L2 FgM
end Fg

/-! sorted(set(l)) of a list of pairs of numbers; a pair in a list of pairs -/
namespace L2
open PySem PySem.Spec PyProof.Rows PySem.W Srd Sts Stg
end L2

/-! sum(list of ints) -/
namespace L2
open PySem PySem.Spec PyProof.Rows
end L2

/-! min(list of ints, default=d) -/
namespace L2
open PySem PySem.Spec PyProof.Rows PySem.SeqAt
end L2

/-! a grove under way: rows and tags that are open; one tag opened, one shut -/
namespace Fg
open PySem L2 FgM
/-! how many tags, how deep, what is within each -/
end Fg

/-! where the tags of a grove end; what stands at each place; how far two groves are apart -/
namespace Fg
open PySem L2 FgM
end Fg

/-! a tuple times an int; max(list of ints) -/
namespace L2
open PySem PySem.Spec PyProof.Rows
section
variable {X : Cx}
theorem call_len_seqK {K : PySem.W.Frag} (hK : X.K = K) : CallR X (.builtin "len") (fun xs H Q => ∃ p ys, xs = [.ref p] ∧ (SqL K H p ys ∨ SqT K H p ys) ∧ Q (.int ys.length) H) := hK ▸ call_len_seq
end
end L2

/-! a table: a list of lists of ints, each row a list of its own -/
namespace Fg
open PySem L2 FgM
end Fg

/-! how far groves are apart: steps, and what they tell -/
namespace Fg
open PySem L2 FgM
end Fg

/-! groves changed tree by tree; == of groves -/
namespace Fg
open PySem L2 FgM
end Fg

/-! dict(list of pairs) whose keys are tuples -/
namespace Srd
open PySem PyProof.Rows
section
variable {prog : Program} {w : World} {A : Around} {E : Value → Shared → Prop} {R : Result → Shared → Prop}
abbrev TK3 := List L2.Key × Addr × Value
def mergedH (m : List TK3) (ps : List TK3) : List TK3 := ps.foldl (fun m p => storedH m p.1 p.2.1 p.2.2) m
theorem storedH_mem {m : List TK3} {k : List L2.Key} {a : Addr} {v : Value} {x : TK3} (h : x ∈ storedH m k a v) : (∃ y ∈ m, y.1 = x.1 ∧ y.2.1 = x.2.1) ∨ (x.1 = k ∧ x.2.1 = a) := by
  unfold storedH at h
  split at h
  · obtain ⟨y, hy, rfl⟩ := List.mem_map.mp h
    refine .inl ⟨y, hy, ?_⟩
    unfold putAt
    split <;> exact ⟨rfl, rfl⟩
  · rcases List.mem_append.mp h with h | h
    · exact .inl ⟨x, h, rfl, rfl⟩
    · rw [List.mem_singleton.mp h]
      exact .inr ⟨rfl, rfl⟩
theorem storedH_len (m : List TK3) (k : List L2.Key) (a : Addr) (v : Value) : (storedH m k a v).length ≤ m.length + 1 := by
  unfold storedH
  split
  · rw [List.length_map]; (first | lia | omega)
  · rw [List.length_append]; exact Nat.le_refl _
theorem mergedH_len : ∀ (ps m : List TK3), (mergedH m ps).length ≤ m.length + ps.length
  | [], m => Nat.le_refl _
  | p :: ps, m => by
    have h1 := mergedH_len ps (storedH m p.1 p.2.1 p.2.2)
    have h2 := storedH_len m p.1 p.2.1 p.2.2
    show (mergedH (storedH m p.1 p.2.1 p.2.2) ps).length ≤ _
    rw [List.length_cons]
    (first | lia | omega)
theorem mergedH_lt {D : Addr} : ∀ (ps m : List TK3), (∀ x ∈ m, x.2.1 < D) → (∀ x ∈ ps, x.2.1 < D) → ∀ x ∈ mergedH m ps, x.2.1 < D
  | [], m, h, _ => h
  | p :: ps, m, h, hp => mergedH_lt ps _ (fun x hx => by
      rcases storedH_mem hx with ⟨y, hy, _, e⟩ | ⟨_, e⟩
      · rw [← e]; exact h y hy
      · rw [e]; exact hp p (List.mem_cons_self ..)) fun x hx => hp x (List.mem_cons_of_mem _ hx)
theorem mergedH_succ (ps : List TK3) (i : Nat) (p : TK3) (h : ps[i]? = some p) : mergedH [] (ps.take (i + 1)) = storedH (mergedH [] (ps.take i)) p.1 p.2.1 p.2.2 := by
  unfold mergedH
  have e : ps.take (i + 1) = ps.take i ++ [p] := by
    obtain ⟨hi, e⟩ := List.getElem?_eq_some_iff.mp h
    rw [List.take_succ_eq_append_getElem hi, e]
  rw [e, List.foldl_append]
  rfl
abbrev tkn (prog : Program) (w : World) : HeapKind prog w (List L2.Key) := tupleKind (L2.mixKind prog w)
theorem key_keep {h h' : Heap} {k : List L2.Key} {a : Addr} (x : (tkn prog w).is h k a) (e : ∀ o, h.get? a = some o → h'.get? a = some o) : (tkn prog w).is h' k a := by
  obtain ⟨o, its, n, h1, h2⟩ := x
  exact ⟨o, its, n, e o h1, h2⟩
def PairH (prog : Program) (w : World) (h : Heap) (v : Value) (p : TK3) : Prop := ∃ b o n, v = .ref b ∧ h.get? b = some o ∧ o.cls = .type "tuple" ∧ o.data = .seq #[.ref p.2.1, p.2.2] n ∧ (tkn prog w).is h p.1 p.2.1
def PairsH (prog : Program) (w : World) (h0 : Heap) (d : Addr) (items : Array Value) (ps : List TK3) : Prop := items.size = ps.length ∧ (∀ p ∈ ps, p.2.1 < d) ∧ ∀ (i : Nat) v p, items[i]? = some v → ps[i]? = some p → ∀ h : Heap, (∀ b o, b < d → h0.get? b = some o → h.get? b = some o) → PairH prog w h v p
theorem pair_itemsH {s : Shared} {v : Value} {p : TK3} {Q : List Value → Shared → Prop} (hp : PairH prog w s.heap v p) (q : (tkn prog w).is s.heap p.1 p.2.1 → Q [.ref p.2.1, p.2.2] s) : wpAny (model prog w) A (Builtin.Dict.pairItems v) Q E s := by
  obtain ⟨b, o, n, rfl, ho, hc, hd, hk⟩ := hp
  unfold Builtin.Dict.pairItems
  refine wpAny_bind (wpAny_typeOf (T := "tuple") ⟨o, ho, hc⟩ ?_)
  rw [if_pos (by decide)]
  exact wpAny_bind (wpAny_seqItems ho hd (wpAny_pure (q hk)))
set_option maxHeartbeats 1000000 in
theorem dict_loopH {h0 : Heap} {D I l : Addr} {items : Array Value} {ps : List TK3} (hh : A.in1.handled = none) (hu : (tkn prog w).room A.in1) (ht : PairsH prog w h0 D items ps) (hDI : D < I) (hlI : l ≠ I) (hn : items.size ≤ 100000) : ∀ (k i : Nat) (j : Int) (jt : Tok) (s : Shared), items.size - i = k → i ≤ items.size → (s.heap.IsListIter I l i ∧ s.heap.IsList l items) → l < D → s.heap.DictOfH (tkn prog w) D (mergedH [] (ps.take i)) → (∀ b o, b < D → h0.get? b = some o → s.heap.get? b = some o) →
      (∀ h' tk, h'.DictOfH (tkn prog w) D (mergedH [] ps) → (∀ b o, b < D → h0.get? b = some o → h'.get? b = some o) → R (.ok (.ret .none)) { s with heap := h', toks := tk }) → codeAny (model prog w) A (.builtin "dict.update.loop" ⟨[.ref D, .ref I, .int j jt, .none], []⟩) R s := by
  have W := Walks.list (prog := prog) (w := w) (A := A.in1) hh I l hlI items
  have DK : ∀ {h h' : Heap} {i : Nat}, h.DictOfH (tkn prog w) D (mergedH [] (ps.take i)) → (∀ b o, b ≤ D → h.get? b = some o → h'.get? b = some o) → h'.DictOfH (tkn prog w) D (mergedH [] (ps.take i)) := fun {h h' i} ⟨o, es, ep, ho, h1, h2, h3, h4, h5⟩ hk => ⟨o, es, ep, hk D o (Nat.le_refl _) ho, h1, h2, h3, fun x hx => key_keep (h4 x hx) fun o e => hk _ o (Nat.le_of_lt (mergedH_lt _ [] (fun _ h => nomatch h) (fun y hy => ht.2.1 y (List.mem_of_mem_take hy)) x hx)) e, h5⟩
  intro k
  induction k with
  | zero =>
    intro i j jt s hk hi hst hlD hd hb hR
    obtain rfl : i = items.size := by (first | lia | omega)
    refine codeAny_builtin entry_dict_update_loop ?_
    rw [Around.under_plainId plain_dict_update_loop _]
    change wpAny _ A.in1 (pyNext (.ref I) >>= _) _ _ s
    refine wpAny_bind (W.done s _ _ hst fun h' tk hm => ?_)
    change wpAny _ A.in1 (Builtin.Dict.addKeywords D [] >>= fun _ => ret Value.none) _ _ _
    refine wpAny_bind ?_
    unfold Builtin.Dict.addKeywords
    refine wpAny_pure (wpAny_pure ?_)
    have hd' := DK hd fun b o hb' e => hm b o (fun z => Nat.lt_irrefl _ (Nat.lt_of_le_of_lt (List.mem_singleton.mp z ▸ hb') hDI)) e
    rw [ht.1, List.take_length] at hd'
    exact hR h' tk hd' fun b o hb' e => hm b o (fun z => Nat.lt_irrefl _ (Nat.lt_trans (List.mem_singleton.mp z ▸ hb') hDI)) (hb b o hb' e)
  | succ k ih =>
    intro i j jt s hk hi hst hlD hd hb hR
    have hlt : i < items.size := by (first | lia | omega)
    refine codeAny_builtin entry_dict_update_loop ?_
    rw [Around.under_plainId plain_dict_update_loop _]
    change wpAny _ A.in1 (pyNext (.ref I) >>= _) _ _ s
    refine wpAny_bind (W.item i s _ _ hlt hst fun v h' tk hP hst' hm => ?_)
    have hd' := DK hd fun b o hb' e => hm b o (fun z => Nat.lt_irrefl _ (Nat.lt_of_le_of_lt (List.mem_singleton.mp z ▸ hb') hDI)) e
    have hb1 : ∀ b o, b < D → h0.get? b = some o → h'.get? b = some o := fun b o hb' e => hm b o (fun z => Nat.lt_irrefl _ (Nat.lt_trans (List.mem_singleton.mp z ▸ hb') hDI)) (hb b o hb' e)
    have hpl : i < ps.length := by have := ht.1; (first | lia | omega)
    have hp := ht.2.2 i v ps[i] hP (List.getElem?_eq_getElem hpl) h' hb1
    refine wpAny_bind (wpAny_holding (wpAny_bind (wpAny_tryCatch (pair_itemsH (s := { s with heap := h', toks := tk }) hp fun huk => ?_))))
    dsimp only
    have hml : (mergedH [] (ps.take i)).length ≤ sizeLine := by
      have := mergedH_len (ps.take i) []
      rw [List.length_take] at this
      have h0l : ([] : List TK3).length = 0 := rfl
      have := ht.1
      rw [sizeLine_eq]
      (first | lia | omega)
    refine wpAny_holding (wpAny_dictSet_heap (s := { s with heap := h', toks := tk }) (hsz := hml) hu huk hd' fun h2 hd2 sb => ?_)
    have hk2 : ∀ b o, b ≠ D → h'.get? b = some o → h2.get? b = some o := fun b o hb e => (sb.2 b hb).trans e
    refine wpAny_pure ⟨plainId_quiet plain_dict_update_loop _, ih (i + 1) (j + 1) 0 _ (by (first | lia | omega)) hlt ?_ hlD ?_ (fun b o hb' e => hk2 b o (Nat.ne_of_lt hb') (hb1 b o hb' e)) fun h3 tk3 hw3 hb3 => hR h3 tk3 hw3 hb3⟩
    · refine W.frame _ h' h2 hst' fun b hb o e => hk2 b o (fun z => ?_) e
      simp only [List.mem_cons, List.not_mem_nil, or_false] at hb
      rcases hb with rfl | rfl
      · exact Nat.lt_irrefl _ (z ▸ hDI)
      · exact Nat.lt_irrefl _ (z ▸ hlD)
    · rw [mergedH_succ ps i ps[i] (List.getElem?_eq_getElem hpl)]
      exact hd2
set_option maxHeartbeats 1000000 in
theorem call_dict_pairsH {s : Shared} {l : Addr} {items : Array Value} {n : Nat} {sl : Array (Option Value)} {ps : List TK3} {Q : Value → Shared → Prop} (hh : A.handled = none) (hu : A.units + 2 < cLine) (hl : s.heap.get? l = some { cls := .type "list", dict := none, data := .seq items n, slots := sl }) (ht : PairsH prog w s.heap s.heap.objs.size items ps) (hn : items.size ≤ 100000)
    (q : ∀ (h' : Heap) (tk : Nat), h'.DictOfH (tkn prog w) s.heap.objs.size (mergedH [] ps) → (∀ b o, s.heap.get? b = some o → h'.get? b = some o) → Q (.ref s.heap.objs.size) { s with heap := h', toks := tk }) :
    wpAny (model prog w) A (call (.type "dict") [.ref l]) Q E s := by
  refine callType_codes (Q₁ := fun obj s₁ => obj = .ref s.heap.objs.size ∧ s₁ = { s with heap := s.heap.push { cls := .type "dict", data := .dict #[] } }) F.kt_called_dict (F.kt_typeCall_dict_1 _) F.entry_dict_init (kt_code_dict_new _ ⟨rfl, rfl⟩) ?_
  rintro obj s₁ ⟨rfl, rfl⟩
  have hnew : (s.heap.push { cls := .type "dict", data := .dict #[] }).DictOfH (tkn prog w) s.heap.objs.size [] := Heap.DictOfH.new s.heap
  have hl1 : (s.heap.push { cls := .type "dict", data := .dict #[] }).get? l = some { cls := .type "list", dict := none, data := .seq items n, slots := sl } := Heap.get?_push_of_some _ hl
  have hlD : l < s.heap.objs.size := Heap.lt_size hl
  have k0 : ∀ b o, b < s.heap.objs.size → s.heap.get? b = some o → (s.heap.push { cls := .type "dict", data := .dict #[] }).get? b = some o := fun b o _ e => Heap.get?_push_of_some _ e
  have z0 : (s.heap.push { cls := .type "dict", data := .dict #[] }).objs.size = s.heap.objs.size + 1 := Heap.size_push ..
  refine ⟨hnew.typeIs, F.args_dict_init_2 _ _, ?_⟩
  generalize s.heap.push { cls := .type "dict", data := .dict #[] } = h1 at hnew hl1 k0 z0
  unfold Builtin.«dict.__init__»
  refine wpAny_bind ?_
  unfold Builtin.Dict.selfAndRest
  refine wpAny_bind (wpAny_notOrdered_dict hnew.typeIs ?_)
  show wpAny _ _ (pure (s.heap.objs.size, [Value.ref l])) _ _ _
  refine wpAny_pure ?_
  show wpAny _ _ (Builtin.Dict.updateFrom "dict.__init__" s.heap.objs.size (.ref l) [] .none) _ _ _
  unfold Builtin.Dict.updateFrom
  refine wpAny_bind (wpAny_typeOf (T := "list") ⟨_, hl1, rfl⟩ ?_)
  rw [if_pos (by decide)]
  refine wpAny_bind (miss_attr_list hh hl1 fun h2 tk2 k2 z2 => ?_)
  rw [if_pos (show (none : Option Value).isNone = true from rfl)]
  refine wpAny_bind (wpAny_rule ?_)
  have hl2 := k2 _ _ hl1
  have hL2 : h2.IsList l items := ⟨_, hl2, rfl, n, rfl⟩
  refine wpAny_bind (wpAny_pyIter_list hL2 ?_)
  have hd3 : (h2.push { cls := .type "list_iterator", data := .fields #[.ref l, .int 0 0] }).DictOfH (tkn prog w) s.heap.objs.size [] := by
    obtain ⟨o, es, ep, ho, h1, h2, h3, h4, h5⟩ := hnew
    exact ⟨o, es, ep, Heap.get?_push_of_some _ (k2 _ _ ho), h1, h2, h3, fun x hx => (nomatch hx), h5⟩
  have hsz : s.heap.objs.size < h2.objs.size := by (first | lia | omega)
  refine wpAny_pure ⟨plainId_quiet plain_dict_update_loop _, ?_⟩
  refine dict_loopH (h0 := s.heap) (by simpa using hh) ?_ ht hsz (Nat.ne_of_lt (Nat.lt_trans hlD hsz)) hn (items.size - 0) 0 0 0 _ rfl (Nat.zero_le _) ⟨⟨_, Heap.get?_push_size _ rfl, rfl, rfl⟩, hL2.push _⟩ hlD hd3 (fun b o hb e => Heap.get?_push_of_some _ (k2 _ _ (k0 b o hb e))) fun h' tk hd' hb' => ?_
  · exact tupleKind_room_in1 (by show _ < cLine; simp; (first | lia | omega))
  exact ⟨rfl, q h' tk hd' fun b o e => hb' b o (Heap.lt_size e) e⟩
end
end Srd
namespace L2
open PySem PySem.Spec PyProof.Rows PySem.W Srd
def putAllT (kvs : List (List Key × V)) : List (List Key × V) := kvs.foldl (fun m kv => putK m kv.1 kv.2) []
theorem putAllT_len_from : ∀ (kvs m : List (List Key × V)), (kvs.foldl (fun m kv => putK m kv.1 kv.2) m).length ≤ m.length + kvs.length
  | [], m => Nat.le_refl _
  | kv :: kvs, m => by
    have h1 := putAllT_len_from kvs (putK m kv.1 kv.2)
    have h2 := length_putK m kv.1 kv.2
    rw [List.length_cons, List.foldl_cons]
    (first | lia | omega)
theorem kt_all {H : Hp} : ∀ {kvs : List (List Key × V)} {ps : List TK3} {m : List (List Key × V)} {m' : List TK3}, KT H kvs ps → KT H m m' → KT H (kvs.foldl (fun m kv => putK m kv.1 kv.2) m) (mergedH m' ps)
  | _, _, _, _, .nil, h => h
  | _, _, m, m', .cons (a := kv) (b := p) r t, h => by
    have e : p.1 = kv.1 := r.1.symm
    have h1 := h.put kv.1 r.2.1 r.2.2
    have h2 := kt_all t h1
    show KT H (List.foldl _ (putK m kv.1 kv.2) _) (mergedH (storedH m' p.1 p.2.1 p.2.2) _)
    rw [e]
    exact h2
section
variable {X : Cx}
theorem call_dict_listT (hc : X.calm = true) (hu : X.A.units + 2 < cLine) : CallR X (.type "dict") (fun xs H Q => ∃ l ys kvs, xs = [.ref l] ∧ SqL X.K H l ys ∧ ys.length ≤ 90000 ∧ Paired (fun (y : V) (kv : List Key × V) => ∃ t b, y = .ref t ∧ H t = some (.tup [.ref b, kv.2]) ∧ H b = some (.tup (kv.1.map kV))) ys kvs ∧ ∀ d, H d = none → Q (.ref d) (upd H d (.dT (putAllT kvs)))) := by
  intro pins s σ H xs us Q I r h
  obtain ⟨l, ys, kvs, rfl, hq, hlen, hp, q⟩ := h
  obtain ⟨u, rfl, ru⟩ := vals1 r
  cases ru
  obtain ⟨its, rv, ⟨o, n, ho, ocl, odi, oda⟩, hz⟩ := I.list hq
  have hl := rv.length
  obtain ⟨ocls, odict, odata, oslots⟩ := o
  simp only at ocl odi oda
  subst ocl odi oda
  have key : ∀ {ys : List V} {kvs : List (List Key × V)} {its : List Value}, Paired (fun (y : V) (kv : List Key × V) => ∃ t b, y = .ref t ∧ H t = some (.tup [.ref b, kv.2]) ∧ H b = some (.tup (kv.1.map kV))) ys kvs → Vals ys its → ∃ ps : List TK3, KT H kvs ps ∧ its.length = ps.length ∧ (∀ p ∈ ps, p.2.1 < s.heap.objs.size) ∧ ∀ (i : Nat) v p, its[i]? = some v → ps[i]? = some p → PairH X.prog X.w s.heap v p := by
    intro ys kvs its hp
    induction hp generalizing its with
    | nil =>
      intro rv
      cases rv
      exact ⟨[], .nil, rfl, fun _ h => (nomatch h), fun i v p h => (nomatch h)⟩
    | @cons y kv ys kvs r t ih =>
      intro rv
      cases rv with
      | @cons _ v _ its ry rr =>
        obtain ⟨ps, h1, h2, h4, h3⟩ := ih rr
        obtain ⟨ta, tb, rfl, ht, hb⟩ := r
        obtain rfl : v = Value.ref ta := ry
        obtain ⟨_, us, rus, o, ho, hc', n, hd⟩ := I.hok ta _ ht
        obtain ⟨u1, u2, rfl, r1, r2⟩ := Vals.two rus
        obtain rfl : u1 = Value.ref tb := r1
        have hk := key_of I.hok hb
        refine ⟨(kv.1, tb, u2) :: ps, .cons ⟨rfl, hb, r2⟩ h1, by rw [List.length_cons, List.length_cons, h2], fun p hp => ?_, fun i v p e1 e2 => ?_⟩
        · rcases List.mem_cons.mp hp with rfl | hp
          · obtain ⟨o, its, n, h5, _⟩ := hk
            exact Heap.lt_size h5
          · exact h4 p hp
        · cases i with
          | zero =>
            injection e1 with e1
            injection e2 with e2
            subst e1 e2
            exact ⟨ta, o, n, rfl, ho, hc', hd, hk⟩
          | succ i => exact h3 i v p e1 e2
  obtain ⟨ps, h1, h2, h4, h3⟩ := key hp rv
  refine Srd.call_dict_pairsH (ps := ps) (I.ok.hd hc) hu ho ⟨by rw [List.size_toArray]; exact h2, h4, fun i v p e1 e2 h' hk => ?_⟩ (by rw [List.size_toArray]; (first | lia | omega)) fun h' tk hd' hk => ?_
  · obtain ⟨b, o, n, e, ho2, h5, h6, h7⟩ := h3 i v p (by rw [← e1]; simp) e2
    exact ⟨b, o, n, e, hk b o (Heap.lt_size ho2) ho2, h5, h6, key_keep h7 fun o e => hk _ o (Heap.lt_size e) e⟩
  · have hkl : kvs.length = ps.length := h1.length
    have hpl : (putAllT kvs).length ≤ kvs.length := by
      have := putAllT_len_from kvs []
      rw [List.length_nil, Nat.zero_add] at this
      exact this
    obtain ⟨o, es, ep, g1, g2, g3, g4, g5, g6⟩ := hd'
    have hf : H s.heap.objs.size = none := I.hok.fresh (Nat.le_refl _)
    exact ⟨.ref _, _, I.laid (t' := tk) (fun b o e => hk b o e) (Nat.le_refl _) (show ObjOk X.prog X.w _ h' _ (.dT (putAllT kvs)) from ⟨by rw [sizeLine_eq]; (first | lia | omega), beq_eq_false_iff_ne.mpr (Ne.symm (Nat.ne_of_lt I.big)), _, (kt_all h1 .nil).keeps fun b ys e => by rw [upd_ne (ne_of_none e hf)]; exact e, o, es, ep, g1, g2, g3, g4, g6⟩), rfl, q _ hf⟩
end
end L2

/-! pairs of a number and a text in order; sorted of a dict whose keys are such pairs -/
namespace Srd
open PySem PyProof.Rows Srt PySem.W
end Srd
namespace L2
open PySem PySem.Spec PyProof.Rows PySem.W Srd
end L2

/-! parts of changers in the heap, streams; text.index, list.index of a tuple -/
namespace L2
open PySem PySem.Spec PyProof.Rows PySem.W
section
variable {X : Cx}
/-- list.index(tuple), where texts stand ahead of a tuple alike -/
theorem mt_indexT (hu : X.A.units + 20 < cLine) {K : PySem.W.Frag} (hK : X.K = K) : MtM X "list.index" (fun x vs H Q => ∃ (p y k : Addr) (as : List Str) (bs : List V) (d : PyData), x = .ref p ∧ vs = [.ref y] ∧ SqL K H p (as.map V.str ++ .ref k :: bs) ∧ (as.length + bs.length) ≤ 90000 ∧ (∀ b ∈ bs, ∃ t, b = V.str t ∧ PyData.strOk t = true) ∧ (∀ a ∈ as, PyData.strOk a = true) ∧ Dp K H (.ref k) d ∧ Dp K H (.ref y) d ∧ d.canLay0 = true ∧ d.depth ≤ 8 ∧ Q (.int (as.length : Int)) H) := by
  subst hK
  intro pins s σ H x vs v us Q I rx rv h
  obtain ⟨p, y, k, as, bs, d, rfl, rfl, hq, hlen, hbs, has, dk, dy, hl, hdp, q⟩ := h
  cases rx
  obtain ⟨u, rfl, ru⟩ := rv.one
  obtain ⟨its, r, pl, hz⟩ := I.list hq
  obtain ⟨⟨cls, dd, data, sl⟩, m, ho, hc, hdd, hd⟩ := pl
  simp only at hc hdd hd
  subst hc hdd hd
  have hl2 := r.length
  simp only [List.length_append, List.length_map, List.length_cons] at hl2
  obtain ⟨bsy, rby⟩ := dy.reads I ru
  -- the values
  have shape : ∀ {as : List Str} {bs : List V} {its : List Value}, Vals (as.map V.str ++ .ref k :: bs) its → (∀ b ∈ bs, ∃ t, b = V.str t ∧ PyData.strOk t = true) → (∀ a ∈ as, PyData.strOk a = true) → (∀ u ∈ its, (∃ t x, u = Value.str x t ∧ PyData.strOk x = true) ∨ u = .ref k) ∧ its[as.length]? = some (.ref k) ∧ ∀ (j : Nat) v, j < as.length → its[j]? = some v → ∃ t x, v = Value.str x t := by
    intro as
    induction as with
    | nil =>
      intro bs its r hb _
      cases r with
      | @cons _ u _ us r rr =>
        obtain rfl : u = .ref k := r
        refine ⟨fun v hv => ?_, rfl, fun j v hj => absurd hj (Nat.not_lt_zero _)⟩
        rcases List.mem_cons.mp hv with rfl | hv
        · exact .inr rfl
        · obtain ⟨b, hbm, rb⟩ := vals_mem rr v hv
          obtain ⟨t, rfl, ok⟩ := hb b hbm
          obtain ⟨t', rfl⟩ := rb
          exact .inl ⟨t', t, rfl, ok⟩
    | cons a as ih =>
      intro bs its r hb ha
      cases r with
      | @cons _ u _ us r rr =>
        obtain ⟨t', rfl⟩ := r
        obtain ⟨h1, h2, h3⟩ := ih rr hb fun x hx => ha x (List.mem_cons_of_mem _ hx)
        refine ⟨fun v hv => ?_, h2, fun j v hj e => ?_⟩
        · rcases List.mem_cons.mp hv with rfl | hv
          · exact .inl ⟨t', a, rfl, ha a (List.mem_cons_self ..)⟩
          · exact h1 v hv
        · cases j with
          | zero =>
            injection e with e
            exact ⟨t', a, e.symm⟩
          | succ j => exact h3 j v (by rw [List.length_cons] at hj; (first | lia | omega)) e
  obtain ⟨sh1, sh2, sh3⟩ := shape r hbs has
  let e : Value → Bool := fun v => match v with | .ref _ => true | _ => false
  have hj : as.length < its.length := by (first | lia | omega)
  have hk0 : its[as.length]'hj = .ref k := by
    rw [List.getElem?_eq_getElem hj] at sh2
    injection sh2
  have dkt : ∃ ds, d = .tuple ds ∨ d = .list ds := by
    cases dk with
    | lst _ _ => exact ⟨_, .inr rfl⟩
    | tup _ _ => exact ⟨_, .inl rfl⟩
  refine call_meets PySem.F.slot_list_index ⟨_, ho, rfl⟩ PySem.F.entry_list_index (PySem.F.args_list_index_2 _ _)
    (PySem.SeqAt.list_indexAt p its.toArray m none sl u e as.length (by rw [List.size_toArray]; exact hj) (by rw [sizeLine_eq] at hz; (first | lia | omega)) ?_ ?_) ⟨ho, fun v hv => ?_, ⟨.int _, H, I.tok _, ⟨_, rfl⟩, q⟩⟩
  · show e its[as.length] = true
    rw [hk0]
  · intro j hjs hlt
    show e its[j] = false
    obtain ⟨t, x, e'⟩ := sh3 j _ hlt (List.getElem?_eq_getElem (by simpa using hjs))
    rw [e']
  · have hv' : v ∈ its := by simpa using hv
    have hu2 : X.A.in1.units + 10 < cLine := by
      show X.A.units + 1 + 10 < cLine
      (first | lia | omega)
    rcases sh1 v hv' with ⟨t, x, rfl, ok⟩ | rfl
    · have := PySem.SeqAt.eqAt_reads (.str x) d X.A.in1 s (.str x t) u _ bsy (.str x t) rby ok hl (by show _ + min 0 _ < _; (first | lia | omega))
      have ev : PyData.eqv (.str x) d = false := by
        obtain ⟨ds, rfl | rfl⟩ := dkt <;> rfl
      rw [ev] at this
      exact this
    · obtain ⟨ask, rk⟩ := dk.reads (u := .ref k) I rfl
      have := PySem.SeqAt.eqAt_reads d d X.A.in1 s (.ref k) u ask bsy rk rby hl hl (by (first | lia | omega))
      rw [PySem.SeqAt.eqv_refl _ hl] at this
      exact this
end
end L2
namespace Fg
open PySem L2 FgM
/-- parts -/
inductive Pa where
  | nil
  | kids (m : Int) (o : Pa)
  | tag (t : Str) (w o : Pa)
inductive RepP (H : Hp) : List V → Pa → Prop
  | nil : RepP H [] .nil
  | kids {a : Addr} {m : Int} {vs : List V} {o : Pa} : H a = some (.tup [.str "kids", .int m]) → RepP H vs o → RepP H (.ref a :: vs) (.kids m o)
  | tag {a q : Addr} {t : Str} {ys vs : List V} {w o : Pa} : H a = some (.tup [.str "tag", .str t, .ref q]) → H q = some (.tup ys) → RepP H ys w → RepP H vs o → RepP H (.ref a :: vs) (.tag t w o)
theorem RepP.mono {H H' : Hp} (k : TK H H') : ∀ {vs : List V} {g : Pa}, RepP H vs g → RepP H' vs g
  | _, _, .nil => .nil
  | _, _, .kids h1 h2 => .kids (k _ _ h1) (h2.mono k)
  | _, _, .tag h1 h2 h3 h4 => .tag (k _ _ h1) (k _ _ h2) (h3.mono k) (h4.mono k)
namespace Pa
def app : Pa → Pa → Pa
  | .nil, q => q
  | .kids m o, q => .kids m (app o q)
  | .tag t w o, q => .tag t w (app o q)
/-- how many kids -/
def nk : Pa → Nat
  | .nil => 0
  | .kids _ o => 1 + nk o
  | .tag _ w o => nk w + nk o
def sz : Pa → Nat
  | .nil => 0
  | .kids _ o => 1 + sz o
  | .tag _ w o => 1 + sz w + sz o
def dep : Pa → Nat
  | .nil => 0
  | .kids _ o => dep o
  | .tag _ w o => max (dep w + 1) (dep o)
/-- the kids, from the left -/
def ks : Pa → List Int
  | .nil => []
  | .kids m o => m :: ks o
  | .tag _ w o => ks w ++ ks o
/-- the words, kids among them -/
def spl : Pa → List (Str ⊕ Int)
  | .nil => []
  | .kids m o => .inr m :: spl o
  | .tag t w o => .inl t :: (spl w ++ .inl SL :: spl o)
/-- all tags -/
def tags : Pa → List Str
  | .nil => []
  | .kids _ o => tags o
  | .tag t w o => t :: (tags w ++ tags o)
theorem ks_len : ∀ p : Pa, (ks p).length = nk p
  | .nil => rfl
  | .kids m o => by simp [ks, nk, ks_len o]; (first | lia | omega)
  | .tag t w o => by simp [ks, nk, ks_len w, ks_len o]
theorem dep_le : ∀ p : Pa, dep p ≤ sz p
  | .nil => Nat.le_refl _
  | .kids m o => by have := dep_le o; simp only [dep, sz]; (first | lia | omega)
  | .tag t w o => by have := dep_le w; have := dep_le o; simp only [dep, sz]; (first | lia | omega)
theorem spl_len : ∀ p : Pa, (spl p).length ≤ 2 * sz p
  | .nil => Nat.le_refl _
  | .kids m o => by have := spl_len o; simp only [spl, sz, List.length_cons]; (first | lia | omega)
  | .tag t w o => by have := spl_len w; have := spl_len o; simp only [spl, sz, List.length_cons, List.length_append]; (first | lia | omega)
theorem spl_app : ∀ p q : Pa, spl (app p q) = spl p ++ spl q
  | .nil, q => rfl
  | .kids m o, q => by simp [app, spl, spl_app o q]
  | .tag t w o, q => by simp [app, spl, spl_app o q]
/-- the first i -/
def take : Nat → Pa → Pa
  | 0, _ => .nil
  | _ + 1, .nil => .nil
  | i + 1, .kids m o => .kids m (take i o)
  | i + 1, .tag t w o => .tag t w (take i o)
end Pa
theorem RepP.length {H : Hp} : ∀ {xs : List V} {p : Pa}, RepP H xs p → xs.length ≤ p.sz
  | _, _, .nil => Nat.le_refl _
  | _, _, .kids _ h => by have := h.length; simp only [Pa.sz, List.length_cons]; (first | lia | omega)
  | _, _, .tag _ _ _ h => by have := h.length; simp only [Pa.sz, List.length_cons]; (first | lia | omega)
theorem RepP.at {H : Hp} : ∀ {xs : List V} {p : Pa}, RepP H xs p → ∀ (i : Nat) z, xs[i]? = some z → ∃ a, z = V.ref a ∧ ((∃ m, H a = some (.tup [.str "kids", .int m]) ∧ p.take (i + 1) = (p.take i).app (Pa.kids m Pa.nil)) ∨ ∃ t q ys w, H a = some (.tup [.str "tag", .str t, .ref q]) ∧ H q = some (.tup ys) ∧ RepP H ys w ∧ p.take (i + 1) = (p.take i).app (Pa.tag t w Pa.nil) ∧ w.dep < p.dep ∧ w.sz < p.sz)
  | _, _, .kids h1 h2, i, z, hz => by
    cases i with
    | zero =>
      injection hz with hz
      subst hz
      exact ⟨_, rfl, .inl ⟨_, h1, rfl⟩⟩
    | succ i =>
      obtain ⟨a, e, h⟩ := h2.at i z hz
      refine ⟨a, e, ?_⟩
      rcases h with ⟨m, g1, g2⟩ | ⟨t, q, ys, w, g1, g2, g3, g4, g5, g6⟩
      · exact .inl ⟨m, g1, by show Pa.kids _ (Pa.take (i + 1) _) = Pa.kids _ ((Pa.take i _).app _); rw [g2]⟩
      · exact .inr ⟨t, q, ys, w, g1, g2, g3, by show Pa.kids _ (Pa.take (i + 1) _) = Pa.kids _ ((Pa.take i _).app _); rw [g4], g5, by simp only [Pa.sz]; (first | lia | omega)⟩
  | _, _, .tag h1 h2 h3 h4, i, z, hz => by
    cases i with
    | zero =>
      injection hz with hz
      subst hz
      exact ⟨_, rfl, .inr ⟨_, _, _, _, h1, h2, h3, rfl, by simp only [Pa.dep]; (first | lia | omega), by simp only [Pa.sz]; (first | lia | omega)⟩⟩
    | succ i =>
      obtain ⟨a, e, h⟩ := h4.at i z hz
      refine ⟨a, e, ?_⟩
      rcases h with ⟨m, g1, g2⟩ | ⟨t, q, ys, w, g1, g2, g3, g4, g5, g6⟩
      · exact .inl ⟨m, g1, by show Pa.tag _ _ (Pa.take (i + 1) _) = Pa.tag _ _ ((Pa.take i _).app _); rw [g2]⟩
      · exact .inr ⟨t, q, ys, w, g1, g2, g3, by show Pa.tag _ _ (Pa.take (i + 1) _) = Pa.tag _ _ ((Pa.take i _).app _); rw [g4], by simp only [Pa.dep]; (first | lia | omega), by simp only [Pa.sz]; (first | lia | omega)⟩
theorem RepP.take_all {H : Hp} : ∀ {xs : List V} {p : Pa}, RepP H xs p → p.take xs.length = p
  | _, _, .nil => rfl
  | _, _, .kids _ h => by show Pa.kids _ (Pa.take _ _) = _; rw [h.take_all]
  | _, _, .tag _ _ _ h => by show Pa.tag _ _ (Pa.take _ _) = _; rw [h.take_all]
theorem Pa.take_sz : ∀ (i : Nat) (p : Pa), (p.take i).sz ≤ p.sz
  | 0, _ => Nat.zero_le _
  | _ + 1, .nil => Nat.le_refl _
  | i + 1, .kids m o => by have := Pa.take_sz i o; simp only [Pa.take, Pa.sz]; (first | lia | omega)
  | i + 1, .tag t w o => by have := Pa.take_sz i o; simp only [Pa.take, Pa.sz]; (first | lia | omega)
/-- words, kids among them, in the heap -/
def WdV (H : Hp) (z : V) (x : Str ⊕ Int) : Prop := match x with | .inl s => z = .str s | .inr m => ∃ a, z = .ref a ∧ H a = some (.tup [.str "kids", .int m])
def WdL (H : Hp) (zs : List V) (xs : List (Str ⊕ Int)) : Prop := Paired (WdV H) zs xs
theorem WdV.tk {H H' : Hp} (k : TK H H') {z : V} {x : Str ⊕ Int} (h : WdV H z x) : WdV H' z x := by
  cases x with
  | inl s => exact h
  | inr m =>
    obtain ⟨a, e, h⟩ := h
    exact ⟨a, e, k _ _ h⟩
theorem WdL.tk {H H' : Hp} (k : TK H H') : ∀ {zs : List V} {xs : List (Str ⊕ Int)}, WdL H zs xs → WdL H' zs xs
  | _, _, .nil => .nil
  | _, _, .cons r t => .cons (r.tk k) (WdL.tk k t)
theorem WdL.app {H : Hp} {zs zs' : List V} {xs xs' : List (Str ⊕ Int)} (h : WdL H zs xs) (h' : WdL H zs' xs') : WdL H (zs ++ zs') (xs ++ xs') := Paired.app h h'
theorem WdL.strs {H : Hp} : ∀ (ts : List Str), WdL H (ts.map V.str) (ts.map Sum.inl)
  | [] => .nil
  | t :: ts => .cons rfl (WdL.strs ts)
theorem WdL.to {H : Hp} : ∀ {zs : List V} {ts : List Str}, WdL H zs (ts.map Sum.inl) → zs = ts.map V.str
  | _, [], h => by cases h; rfl
  | _, t :: ts, h => by
    cases h with
    | cons r t =>
      have e : _ = V.str _ := r
      rw [e, WdL.to t]
      rfl
/-- cut at the kids -/
def cutW : List (Str ⊕ Int) → List Str × Option Int × List Str
  | [] => ([], none, [])
  | .inl s :: r => (s :: (cutW r).1, (cutW r).2)
  | .inr m :: r => ([], some m, r.filterMap Sum.getLeft?)
/-- what the words of parts with kids at most once are -/
theorem spl_cut : ∀ p : Pa, (p.nk = 0 → ∃ ts : List Str, p.spl = ts.map Sum.inl ∧ p.ks = []) ∧ (p.nk = 1 → ∃ (a b : List Str) (m : Int), p.spl = a.map Sum.inl ++ .inr m :: b.map Sum.inl ∧ p.ks = [m])
  | .nil => ⟨fun _ => ⟨[], rfl, rfl⟩, fun h => by simp [Pa.nk] at h⟩
  | .kids m o => by
    refine ⟨fun h => by simp [Pa.nk] at h, fun h => ?_⟩
    obtain ⟨ts, e1, e2⟩ := (spl_cut o).1 (by simp only [Pa.nk] at h; (first | lia | omega))
    exact ⟨[], ts, m, by simp [Pa.spl, e1], by simp [Pa.ks, e2]⟩
  | .tag t w o => by
    refine ⟨fun h => ?_, fun h => ?_⟩
    · simp only [Pa.nk] at h
      obtain ⟨ts, e1, e2⟩ := (spl_cut w).1 (by (first | lia | omega))
      obtain ⟨us, e3, e4⟩ := (spl_cut o).1 (by (first | lia | omega))
      exact ⟨t :: (ts ++ SL :: us), by simp [Pa.spl, e1, e3], by simp [Pa.ks, e2, e4]⟩
    · simp only [Pa.nk] at h
      by_cases c : w.nk = 0
      · obtain ⟨ts, e1, e2⟩ := (spl_cut w).1 c
        obtain ⟨a, b, m, e3, e4⟩ := (spl_cut o).2 (by (first | lia | omega))
        exact ⟨t :: (ts ++ SL :: a), b, m, by simp [Pa.spl, e1, e3], by simp [Pa.ks, e2, e4]⟩
      · obtain ⟨a, b, m, e1, e2⟩ := (spl_cut w).2 (by (first | lia | omega))
        obtain ⟨us, e3, e4⟩ := (spl_cut o).1 (by (first | lia | omega))
        exact ⟨t :: a, b ++ SL :: us, m, by simp [Pa.spl, e1, e3], by simp [Pa.ks, e2, e4]⟩
theorem cutW_none (ts : List Str) : cutW (ts.map Sum.inl) = (ts, none, []) := by
  induction ts with
  | nil => rfl
  | cons t ts ih => rw [List.map_cons, cutW, ih]
theorem cutW_some (a b : List Str) (m : Int) : cutW (a.map Sum.inl ++ .inr m :: b.map Sum.inl) = (a, some m, b) := by
  induction a with
  | nil =>
    show ([], some m, (b.map Sum.inl).filterMap Sum.getLeft?) = _
    have : (b.map Sum.inl : List (Str ⊕ Int)).filterMap Sum.getLeft? = b := by
      induction b with
      | nil => rfl
      | cons x b ih =>
        rw [List.map_cons, List.filterMap_cons]
        show x :: _ = _
        rw [ih]
    rw [this]
  | cons t ts ih => rw [List.map_cons, List.cons_append, cutW, ih]
/-- the words that come ahead, the mode within, the words behind -/
abbrev Kn := Int → Str → Option Pa
def rlS (kn : Kn) (m : Option Int) (t : Str) : List Str × Option Int × List Str := match m with
  | none => ([], none, [])
  | some m => match kn m t with
    | none => ([t], some m, [SL])
    | some p => cutW p.spl
abbrev Bg := List (Option Int × List Str)
/-- the mode of the innermost open tag -/
def modeB (bs : Bg) : Option Int := match bs.getLast? with | none => some 0 | some b => b.1
/-- a word taken: what comes, and what is open then -/
def stepS (kn : Kn) (bs : Bg) (w : Str) : List Str × Bg := if w = SL then (match bs.getLast? with | none => ([], []) | some b => (b.2, bs.dropLast)) else ((rlS kn (modeB bs) w).1, bs ++ [(rlS kn (modeB bs) w).2])
def owedB (bs : Bg) : List Str := (bs.reverse.map (·.2)).flatten
/-- rules known: the dict in the heap -/
def KnR (H : Hp) (m : List (List Key × V)) (kn : Kn) : Prop := ∀ (i : Int) (t : Str), (valV m [Sum.inl i, Sum.inr t] = none ∧ kn i t = none) ∨ ∃ q ys p, valV m [Sum.inl i, Sum.inr t] = some (.ref q) ∧ H q = some (.tup ys) ∧ RepP H ys p ∧ kn i t = some p
theorem KnR.tk {H H' : Hp} {m : List (List Key × V)} {kn : Kn} (h : KnR H m kn) (k : TK H H') : KnR H' m kn := fun i t => by
  rcases h i t with h | ⟨q, ys, p, h1, h2, h3, h4⟩
  · exact .inl h
  · exact .inr ⟨q, ys, p, h1, k _ _ h2, h3.mono k, h4⟩
/-- rules that a stream can take -/
structure KnOk (kn : Kn) : Prop where
  one : ∀ i t p, kn i t = some p → p.nk ≤ 1
  sz : ∀ i t p, kn i t = some p → p.sz ≤ 20
  ok : ∀ i t p, kn i t = some p → ∀ x ∈ p.tags, PyData.strOk x = true
def moV (m : Option Int) : V := match m with | none => .non | some i => .int i
/-- what is open: a list of tuples, each with a list of its own -/
def BgV (H : Hp) (z : V) (l : Addr) (b : Option Int × List Str) : Prop := ∃ a, z = .ref a ∧ H a = some (.tup [moV b.1, .ref l]) ∧ H l = some (.lst (b.2.map V.str))
inductive BgL (H : Hp) : List V → List Addr → Bg → Prop
  | nil : BgL H [] [] []
  | cons {z : V} {l : Addr} {b : Option Int × List Str} {zs : List V} {ls : List Addr} {bs : Bg} : BgV H z l b → BgL H zs ls bs → BgL H (z :: zs) (l :: ls) (b :: bs)
theorem BgL.keep {H H' : Hp} : ∀ {zs : List V} {ls : List Addr} {bs : Bg}, BgL H zs ls bs → TK H H' → (∀ l ∈ ls, ∀ o, H l = some o → H' l = some o) → BgL H' zs ls bs
  | _, _, _, .nil, _, _ => .nil
  | _, _, _, .cons ⟨a, e1, e2, e3⟩ t, k, kl => .cons ⟨a, e1, k _ _ e2, kl _ (List.mem_cons_self ..) _ e3⟩ (t.keep k fun l hl => kl l (List.mem_cons_of_mem _ hl))
theorem BgL.snoc {H : Hp} {z : V} {l : Addr} {b : Option Int × List Str} (h : BgV H z l b) : ∀ {zs : List V} {ls : List Addr} {bs : Bg}, BgL H zs ls bs → BgL H (zs ++ [z]) (ls ++ [l]) (bs ++ [b])
  | _, _, _, .nil => .cons h .nil
  | _, _, _, .cons r t => .cons r (t.snoc h)
theorem BgL.len {H : Hp} : ∀ {zs : List V} {ls : List Addr} {bs : Bg}, BgL H zs ls bs → zs.length = bs.length ∧ ls.length = bs.length
  | _, _, _, .nil => ⟨rfl, rfl⟩
  | _, _, _, .cons _ t => by simp [t.len.1, t.len.2]
theorem BgL.unsnoc {H : Hp} : ∀ {zs : List V} {ls : List Addr} {bs : Bg} {b : Option Int × List Str}, BgL H zs ls (bs ++ [b]) → ∃ zs' z ls' l, zs = zs' ++ [z] ∧ ls = ls' ++ [l] ∧ BgL H zs' ls' bs ∧ BgV H z l b
  | _, _, [], _, h => by
    cases h with
    | cons r t =>
      cases t
      exact ⟨[], _, [], _, rfl, rfl, .nil, r⟩
  | _, _, c :: bs, _, h => by
    cases h with
    | cons r t =>
      obtain ⟨zs', z, ls', l, rfl, rfl, h1, h2⟩ := t.unsnoc
      exact ⟨_ :: zs', z, _ :: ls', l, rfl, rfl, .cons r h1, h2⟩
/-- the class of streams -/
structure StC (K : PySem.W.Frag) (C : Addr) : Prop where
  cls : Cls K C
  n1 : NoAttr K C "known"
  n2 : NoAttr K C "taken"
  n3 : NoAttr K C "begun"
def stF (dk B : Addr) (n : Int) : List (Str × V) := [("known", .ref dk), ("taken", .int n), ("begun", .ref B)]
/-- a stream in this state -/
structure StAt (C : Addr) (H : Hp) (a dk B : Addr) (ls : List Addr) (kn : Kn) (bs : Bg) (n : Int) : Prop where
  ok : KnOk kn
  ho : ∃ dx, H a = some (.ins C dx (stF dk B n))
  hk : ∃ m, H dk = some (.dT m) ∧ KnR H m kn
  hb : ∃ zs, H B = some (.lst zs) ∧ BgL H zs ls bs
  nd : (B :: ls).Nodup
  so : ∀ b ∈ bs, ∀ x ∈ b.2, PyData.strOk x = true
theorem StAt.keep {C : Addr} {H H' : Hp} {a dk B : Addr} {ls : List Addr} {kn : Kn} {bs : Bg} {n : Int} {ex : List Addr} (h : StAt C H a dk B ls kn bs n) (k : KeepX ex H H') (hx : ∀ b ∈ ex, ∀ xs, H b ≠ some (.tup xs)) (ha : a ∉ ex) (hd : dk ∉ ex) (hB : B ∉ ex) (hl : ∀ l ∈ ls, l ∉ ex) : StAt C H' a dk B ls kn bs n := by
  have tk : TK H H' := fun b xs e => k b _ (fun z => hx b z xs e) e
  obtain ⟨dx, h1⟩ := h.ho
  obtain ⟨m, h2, h3⟩ := h.hk
  obtain ⟨zs, h4, h5⟩ := h.hb
  exact ⟨h.ok, ⟨dx, k _ _ ha h1⟩, ⟨m, k _ _ hd h2, h3.tk tk⟩, ⟨zs, k _ _ hB h4, h5.keep tk fun l hl' o e => k _ _ (hl l hl') e⟩, h.nd, h.so⟩
theorem StAt.same {C : Addr} {H H' : Hp} {a dk B : Addr} {ls : List Addr} {kn : Kn} {bs : Bg} {n : Int} (h : StAt C H a dk B ls kn bs n) (s : Same H H') : StAt C H' a dk B ls kn bs n :=
  h.keep (ex := []) (fun b o _ e => s b o e) (fun _ hb => nomatch hb) (fun z => nomatch z) (fun z => nomatch z) (fun z => nomatch z) (fun _ _ z => nomatch z)
/-- a tag opened: the stream behind it -/
theorem StAt.opened {C : Addr} {H : Hp} {a dk Bl t l : Addr} {ls : List Addr} {kn : Kn} {bs : Bg} {n : Int} {zs : List V} {b : Option Int × List Str} (h : StAt C H a dk Bl ls kn bs n) (hB : H Bl = some (.lst zs)) (ht : H t = some (.tup [moV b.1, .ref l])) (hl : H l = some (.lst (b.2.map V.str))) (hn : l ∉ Bl :: ls) (hs : ∀ x ∈ b.2, PyData.strOk x = true) : StAt C (upd H Bl (.lst (zs ++ [.ref t]))) a dk Bl (ls ++ [l]) kn (bs ++ [b]) n := by
  obtain ⟨dx, h1⟩ := h.ho
  obtain ⟨m, h2, h3⟩ := h.hk
  obtain ⟨zs', h4, h5⟩ := h.hb
  rw [hB] at h4
  injection h4 with h4
  injection h4 with h4
  subst h4
  obtain ⟨n1, n2⟩ := List.nodup_cons.mp h.nd
  have nl : l ≠ Bl := fun z => hn (by rw [z]; exact List.mem_cons_self ..)
  have tk : TK H (upd H Bl (.lst (zs ++ [.ref t]))) := TK.lst hB
  refine ⟨h.ok, ⟨dx, by rw [upd_ne (ne_of h1 hB (by intro z; cases z))]; exact h1⟩, ⟨m, by rw [upd_ne (ne_of h2 hB (by intro z; cases z))]; exact h2, h3.tk tk⟩, ⟨_, upd_same, (h5.keep tk fun l' hl' o e => ?_).snoc ⟨t, rfl, tk _ _ ht, by rw [upd_ne nl]; exact hl⟩⟩, ?_, fun c hc => ?_⟩
  · rw [upd_ne (fun z => n1 (by rw [← z]; exact hl'))]
    exact e
  · refine List.nodup_cons.mpr ⟨fun z => ?_, List.nodup_append.mpr ⟨n2, by simp, fun x hx y hy e => ?_⟩⟩
    · rcases List.mem_append.mp z with z | z
      · exact n1 z
      · exact nl (List.mem_singleton.mp z).symm
    · rw [List.mem_singleton.mp hy] at e
      exact hn (List.mem_cons_of_mem _ (e ▸ hx))
  · rcases List.mem_append.mp hc with hc | hc
    · exact h.so c hc
    · rw [List.mem_singleton.mp hc]
      exact hs
theorem BgL.live {H : Hp} : ∀ {zs : List V} {ls : List Addr} {bs : Bg}, BgL H zs ls bs → ∀ l ∈ ls, ∃ xs, H l = some (.lst xs)
  | _, _, _, .cons ⟨_, _, _, e⟩ t, l, hl => by
    rcases List.mem_cons.mp hl with rfl | hl
    · exact ⟨_, e⟩
    · exact BgL.live t l hl
theorem StAt.live {C : Addr} {H : Hp} {a dk Bl : Addr} {ls : List Addr} {kn : Kn} {bs : Bg} {n : Int} (h : StAt C H a dk Bl ls kn bs n) : ∀ b ∈ Bl :: ls, ∃ xs, H b = some (.lst xs) := by
  obtain ⟨zs, h4, h5⟩ := h.hb
  intro b hb
  rcases List.mem_cons.mp hb with rfl | hb
  · exact ⟨_, h4⟩
  · exact h5.live b hb
theorem StAt.free {C : Addr} {H : Hp} {a dk Bl l : Addr} {ls : List Addr} {kn : Kn} {bs : Bg} {n : Int} (h : StAt C H a dk Bl ls kn bs n) (hl : H l = none) : l ∉ Bl :: ls := fun z => by
  obtain ⟨xs, e⟩ := h.live l z
  rw [hl] at e
  cases e
theorem kids_lay (m : Int) : (PyData.tuple [PyData.str "kids", PyData.int m]).canLay0 = true := by
  have h : PyData.strOk "kids" = true := by decide +kernel
  show (PyData.strOk "kids" && _) = true
  rw [h]
  rfl
theorem tagB_letsS {z : Str} (h : Lets z) (h8 : z.length ≤ 8) : tagB z = true := by
  have h1 : 1 ≤ z.length := by
    have : 0 < z.cps.toList.length := List.length_pos_iff.mpr h.1
    rw [Array.length_toList] at this
    exact this
  unfold tagB
  rw [decide_eq_true h1, decide_eq_true h8, Bool.true_and, Bool.true_and, List.all_eq_true]
  intro c hc
  have := h.2 c hc
  unfold azB
  simp; (first | lia | omega)
end Fg

/-! methods that may raise; isinstance of an exception, of any class -/
namespace L2
open PySem PySem.Spec PyProof.Rows PySem.W
structure HasMX (P : Program) (w : World) (K : PySem.W.Frag) (mg : Str → Option Value) (base : Heap) (C : Addr) (m : Str) (ps : List Str) (j : Nat) (sp : Sp) : Prop where
  ex : ∃ f fd, FnOk P w K mg base (CXE P w) j f fd ps sp ∧ Binds K fd ps [] ∧ Meth K C m f
def tMethS (C : Addr) (m : Str) (sp : Sp) (E : XKS) (ta : TE) (t : TA) : TE := fun σ H Q => ta σ H fun x H1 => ∃ a dx fs, x = .ref a ∧ H1 a = some (.ins C dx fs) ∧ fs.lookup m = none ∧
  t σ H1 fun vs H2 => sp (x :: vs) H2 Q (E σ)
theorem takes_no {X : Cx} : Takes X (fun _ _ _ _ => False) := fun _ _ _ _ _ _ _ _ _ _ _ h => h.elim
section
variable {X : Cx} {C : Addr} {m x : Str} {ps : List Str} {j k : Nat} {sp : Sp} {o e : Expr} {es : List Expr} {ta : TE} {t : TA} {p pos apos : Pos} {E : XKS}
theorem pe_hasmX {pl : Sem Bool} (G : HasMX X.prog X.w X.K X.mg X.base C m ps j sp) (hT : Takes X E) (hr : Room k X.A) (he : PE X o ta) (c : Cls X.K C) (ha : PA X (e :: es) t) (hk : j ≤ k := by decide)
    (hst : starEach (e :: es) X.env = (false, eval e X.env) :: starEach es X.env := by rfl) (hpl : (backTo pos (starEach es X.env)).any (·.1) = false := by rfl)
    (ht : eval (.Call (.Attribute o m apos) (e :: es) [] pos) X.env = (do
      let ov ← eval o X.env
      standAt apos.atName
      let (f, first) ← holding [ov] (getMethod ov m pl)
      callWith pos f first (backTo pos (starEach (e :: es) X.env)) (backToKw pos (keywordEach [] X.env))) := by rfl) : PE X (.Call (.Attribute o m apos) (e :: es) [] pos) (tMethS C m sp E ta t) := by
  obtain ⟨f, fd, F, b, hm⟩ := G.ex
  intro pins s σ H Q I h
  refine PySem.W.methodCall_KW (pl := pl) (thn (he pins s σ H _ I h) fun u s1 ⟨x, H1, I1, rx, a, dx, fs, ex, ea, l, q⟩ => ?_) ht
  subst ex
  obtain rfl : u = Value.ref a := rx
  refine getmeth_ok I1 ea c hm l ?_
  refine PySem.W.callWith_K (first := [.ref a]) (h₀ := X.base) I.ok.mod.kin hm.kp (thn (ha pos pins s1 σ H1 _ I1 q) fun us s2 ⟨vs, H2, I2, r, q2⟩ => ⟨I2.kIn, ?_⟩) hst hpl
  exact run_fnX (us := .ref a :: us) (vs := .ref a :: vs) (F.room hk) hr b hT I2 (.cons rfl r) q2
end
structure XNot (K : Frag) (C D : Addr) : Prop where
  ca : findIn K (.ref C) "__class__" = some (some (.builtin "object.__class__"))
  gt : specialIn K (.builtin "object.__class__") "__get__" = some (some (.builtin "getset_descriptor.__get__"))
  tk : takesIn K (.builtin "object.__class__") = some true
  ob : mroIn K C (.type "object") = some true
  ty : typeIn K (.ref D) = some (.type "type")
section
variable {prog : Program} {w : World} {A : Around} {E : Value → Shared → Prop} {s : Shared} {K : Frag} {x C D : Addr} {ox od : Obj} {f : Str}
theorem xclass {Q : Option Value → Shared → Prop} (X : K.In s.heap) (I : InstAt s.heap x ox C (some od)) (Y : XFld K C f) (N : XNot K C D) (h : Q (some (.ref C)) { s with toks := s.toks + 1 }) : wpAny (model prog w) A (getAttr? (.ref x) "__class__") Q E s := by
  have hf : findObj K C (some od) "__class__" = some (.bind (.builtin "getset_descriptor.__get__") (.builtin "object.__class__")) := findObj_data (by obtain ⟨cd, hc, _⟩ := any_some Y.hd; rw [hc]; rfl) N.ca N.gt N.tk
  obtain ⟨hp, g, d, t, os⟩ := s
  have L0 := I.type (M := model prog w)
  have L1 := looks_findIn (M := model prog w) X Y.ga
  have L2 := looks_find (M := model prog w) X I hf
  have L3 : Looks (model prog w) hp (hookBefore (.ref C)) none := looks_hook X ((if_pos (show onTheHeap (Value.ref C) = true from rfl)).trans Y.gt)
  have L4 : Looks (model prog w) hp (isInstance (.ref x) (.type "BaseException")) true := L0.andThen (looks_mroIn X Y.mb)
  have F0 := F.excAttr_ValueError
  unfold getAttr? getAttrBy? getAttrBy
  refine wpAny_bind (wpAny_mkText (wpAny_bind (wpAny_attempt (wpAny_holding (wpAny_bind (L0.at (wpAny_bind (L1.at ?_))))))))
  have hne : (onTheHeap (Value.ref C) && Value.builtin "BaseException.__getattribute__" == Value.builtin "object.__getattribute__") = false := by
    rw [show (Value.builtin "BaseException.__getattribute__" == Value.builtin "object.__getattribute__") = false by decide +kernel, Bool.and_false]
  dsimp only
  rw [hne, if_neg Bool.false_ne_true]
  unfold getAttrByItsOwn
  refine wpAny_bind (L3.at (wpAny_bind (wpAny_attempt (wpAny_holding ?_))))
  unfold callGetattribute boundAndCalled
  rw [show (false && onTheHeap (Value.builtin "BaseException.__getattribute__")) = false from rfl, if_neg Bool.false_ne_true, F0.ga.bind]
  refine wpAny_bind (wpAny_pure ?_)
  show wpAny _ _ (call (.builtin "BaseException.__getattribute__") [.ref x, .str "__class__" t]) _ _ _
  refine wpAny_call (codeAny_call_builtin F0.ga.plain F.entry_bexc_ga ?_)
  refine @check_slot (model prog w) _ _ ⟨hp, g, d, t + 1, os⟩ "BaseException.__getattribute__" "BaseException" "__getattribute__" (.ref x) [.str "__class__" t] [] _ (by decide +kernel) (by decide +kernel) L4 (bga_args _ _) ?_
  show wpAny _ _ (Builtin.«object.__getattribute__» _) _ _ _
  unfold Builtin.«object.__getattribute__»
  refine wpAny_bind (wpAny_pure (wpAny_bind (wpAny_pure (wpAny_bind (L0.at (wpAny_bind (L2.at ?_)))))))
  refine wpAny_bind (wpAny_holding (wpAny_call (class_get (s := ⟨hp, g, d, t + 1, os⟩) (ox := ox) (od := some od) X I N.ob (wpAny_pure ?_))))
  show wpAny _ _ (handedOut (.ref C)) _ _ _
  rw [handedOut_of rfl]
  exact wpAny_pure (wpAny_pure h)
theorem xis_false {c : Value} {Q : Value → Shared → Prop} (X : K.In s.heap) (I : InstAt s.heap x ox C (some od)) (Y : XFld K C f) (N : XNot K C D) (hne : (Value.ref C == c) = false) (e : kitCls K (.ref C) c = some false)
    (h : Q (.bool false) { s with toks := s.toks + 1 }) : wpAny (model prog w) A (call (.builtin "isinstance") [.ref x, c]) Q E s := by
  obtain ⟨cdD, hcD, _⟩ := any_some Y.hd
  refine call_isinstance (S := fun _ R s => (K.In s.heap ∧ InstAt s.heap x ox C (some od)) ∧ R (.ok (.ret (.bool false))) { s with toks := s.toks + 1 }) (fun prog w A R s hs => isinstance_outer ?_ (fun z => nomatch z)) ⟨⟨X, I⟩, h⟩
  obtain ⟨⟨X, I⟩, hq⟩ := hs
  have hisD : Looks (model prog w) s.heap (isType (.ref C)) true := by
    unfold clsIn at hcD
    split at hcD
    · rename_i c' d' cd' sl' ho
      intro A' Q' E' s' k q
      unfold isType loadHead
      exact wpAny_bind (wpAny_loadPart (k _ _ (X _ _ ho)) (wpAny_pure q))
    · cases hcD
  obtain ⟨h0, g, d, tt, os⟩ := s
  have L0 := I.type (M := model prog w)
  unfold Builtin.«isinstance.nested»
  refine wpAny_bind (L0.at ?_)
  rw [if_neg (by rw [hne]; decide)]
  obtain ⟨hty, his, hsub⟩ := kit_cls (M := model prog w) X e
  refine wpAny_bind (hty.at ?_)
  rw [if_pos (by decide)]
  k_delta "plainIsInstance"
  refine wpAny_bind (wpAny_bind (his.at ?_))
  simp only [Bool.not_true, Bool.false_eq_true, if_false]
  refine wpAny_bind ((L0.andThen hsub).at ?_)
  simp only [Bool.false_eq_true, if_false]
  refine wpAny_bind (xclass X I Y N ?_)
  refine wpAny_bind (hisD.at ?_)
  simp only [Bool.not_true, Bool.false_eq_true, if_false]
  refine wpAny_bind (wpAny_rule ?_)
  refine hsub.at ?_
  first
    | exact wpAny_pure hq
    | exact wpAny_pure (wpAny_pure hq)
    | exact wpAny_bind (wpAny_pure (wpAny_pure hq))
theorem xis_same {Q : Value → Shared → Prop} (ty : ∀ M, Looks M s.heap (typeOf (.ref x)) (.ref C)) (h : Q (.bool true) s) : wpAny (model prog w) A (call (.builtin "isinstance") [.ref x, .ref C]) Q E s := by
  refine call_isinstance (S := fun _ R s => (∀ M, Looks M s.heap (typeOf (.ref x)) (.ref C)) ∧ R (.ok (.ret (.bool true))) s) (fun prog w A R s hs => isinstance_outer ?_ (fun z => nomatch z)) ⟨ty, h⟩
  obtain ⟨LT, hq⟩ := hs
  obtain ⟨h0, g, d, tt, os⟩ := s
  unfold Builtin.«isinstance.nested»
  refine wpAny_bind ((LT _).at ?_)
  rw [if_pos (beq_self_eq_true _)]
  first
    | exact wpAny_bind (wpAny_rule (wpAny_pure hq))
    | exact wpAny_bind (wpAny_rule hq)
    | ((repeat lk); exact hq)
end
section
variable {X : Cx}
theorem call_xisAK {K : Frag} (hK : X.K = K) : CallR X (.builtin "isinstance") (fun xs H Q => ∃ a oe C D b, xs = [.ref a, .ref D] ∧ H a = some (Known a oe) ∧ oe.cls = .ref C ∧
    ((C = D ∧ b = true) ∨ (C ≠ D ∧ isClsIn K D = true ∧ typeIn K (.ref D) = some (.type "type") ∧ mroIn K C (.ref D) = some true ∧ b = true) ∨
     (C ≠ D ∧ isClsIn K D = true ∧ mroIn K C (.ref D) = some false ∧ b = false ∧ ∃ dx fs f, oe.dict = some dx ∧ (∃ vs, oe.data = .fields vs) ∧ H dx = some (.xd fs) ∧ XFld K C f ∧ XNot K C D)) ∧ Q (.bl b) H) := by
  subst hK
  intro pins s σ H xs us Q I r h
  obtain ⟨a, oe, C, D, b, rfl, hk, hc, h1, q⟩ := h
  rcases h1 with ⟨rfl, rfl⟩ | ⟨h1, h2, h3, h4, rfl⟩ | ⟨h1, h2, h3, rfl, dx, fs, f, hd, ⟨vs, hf⟩, hx, Y, N⟩
  · obtain ⟨u, v, rfl, rx, ry⟩ := Vals.two r
    obtain rfl : u = Value.ref a := rx
    obtain rfl : v = Value.ref C := ry
    have ho : s.heap.get? a = some oe := (I.hok a _ hk).1
    exact xis_same (fun M => hc ▸ (Looks.ld ho).andThen .now) ⟨.bl true, H, I, rfl, q⟩
  · exact call_xisR pins s σ H _ us Q I r ⟨a, oe, C, D, rfl, hk, hc, h1, h2, h3, h4, q⟩
  · obtain ⟨u, v, rfl, rx, ry⟩ := Vals.two r
    obtain rfl : u = Value.ref a := rx
    obtain rfl : v = Value.ref D := ry
    have ho : s.heap.get? a = some oe := (I.hok a _ hk).1
    obtain ⟨mA, n, hr⟩ := (show ObjOk X.prog X.w H s.heap dx (.xd fs) from I.hok dx _ hx)
    obtain ⟨od, hod, hlk⟩ := lookIn_ns n
    have J : InstAt s.heap a oe C (some od) := ⟨ho, hc, by unfold notCls; rw [hf], by rw [hd]; exact hod⟩
    refine xis_false I.kIn J Y N (by simpa using h1) ?_ ⟨.bl false, H, I.tok _, rfl, q⟩
    unfold kitCls
    dsimp only
    unfold isClsIn at h2
    rw [h2, N.ty, if_pos (by decide)]
    exact h3
end
end L2
namespace L2
open PySem PySem.Spec PyProof.Rows
theorem comp_str {z : Str} {p : Addr} {g : TG} {te : TE} {R : Hp → Prop} {σ0 : St} {H0 : Hp} (Pv : Nat → List V → St → Hp → Prop) (h0 : Pv 0 [] σ0 H0)
    (hl : ∀ i ys σ H, i ≤ z.cps.toList.length → Pv i ys σ H → H p = some (.lst ys))
    (hs : ∀ i ys c σ H, i < z.cps.toList.length → z.cps.toList[i]? = some c → Pv i ys σ H → g (.str ⟨#[c]⟩) σ H fun σ3 H4 => te σ3 H4 fun v H5 => H5 p = some (.lst ys) ∧ ys.length < sizeLine ∧ ∃ m', m' < z.cps.toList.length - i ∧ CW z.cps.toList.length Pv (i + 1) m' (ys ++ [v]) σ3 (upd H5 p (.lst (ys ++ [v]))))
    (hd : ∀ ys σ H, Pv z.cps.toList.length ys σ H → R H) :
    ∃ W : Nat → Nat → List V → St → Hp → Prop, (∃ m, W 0 m [] σ0 H0) ∧ ∀ i m ys σc H2, W i m ys σc H2 → H2 p = some (.lst ys) ∧ (((Its z).stop i H2 ∧ R H2) ∨ ((Its z).go i H2 ∧ ∀ x H3, (Its z).yld i H2 x H3 → g x σc H3 fun σ3 H4 => te σ3 H4 fun v H5 =>
      H5 p = some (.lst ys) ∧ ys.length < sizeLine ∧ ∃ m', m' < m ∧ W (i + 1) m' (ys ++ [v]) σ3 (upd H5 p (.lst (ys ++ [v]))))) := by
  have hlen : z.cps.toList.length = z.cps.size := Array.length_toList
  refine ⟨CW z.cps.toList.length Pv, ⟨_, rfl, Nat.zero_le _, h0⟩, ?_⟩
  rintro i m ys σ H ⟨rfl, hi, hp⟩
  refine ⟨hl i ys σ H hi hp, ?_⟩
  by_cases hlt : i < z.cps.toList.length
  · refine .inr ⟨(by show i < z.cps.size; (first | lia | omega)), ?_⟩
    intro x H3 y
    obtain ⟨e, c, hc, hx⟩ := y
    subst e hx
    exact hs i ys c σ _ hlt (by rw [Array.getElem?_toList]; exact hc) hp
  · refine .inl ⟨(by show z.cps.size ≤ i; (first | lia | omega)), hd ys σ H ?_⟩
    have e : i = z.cps.toList.length := by (first | lia | omega)
    rw [← e]
    exact hp
end L2
namespace L2
open PySem PySem.Spec PyProof.Rows
section
variable {X : Cx} {rest : List ExceptHandler} {pos : Pos}
theorem ph_asD {t : Expr} {n : Str} {b₀ : Stmt} {sb : List Stmt} {tt : TE} {tu : Addr → TS} {i : Nat} (ht : ∀ e, PE (X.hd e) t tt) (hN : X.N.Nodup) (hi : X.N[i]? = some n) (hk : X.env.scope.names.lookup n = some .local) (hs : ∀ e, PSs (X.hd e) (b₀ :: sb) (tu e)) : PH X (.ExceptHandler (some t) (some n) (b₀ :: sb) pos :: rest)
    (fun D σ H e oe => tt σ H fun v H1 => ∃ Ds C f, Spec X.K H1 v Ds ∧ oe.cls = .ref C ∧ (∀ D ∈ Ds, PySem.W.mroIn X.K C (.ref D) = some (f D)) ∧ Ds.any f = true ∧ H1 e = some (Known e oe) ∧ tu e (unb D i) (σ.set i (some (.ref e))) H1) := by
  intro pins s σ H D e oe T oT ts vs I fT hd h1 hdT h3 he h
  refine wpAny_handleBy_cons (codeAny_handlers_test (wpAny_mono ((ht e) ((T, oT) :: pins) s σ H _ (I.hd e) h) (fun u s1 q => ?_) fun _ _ z => z.elim)) (by intro z; cases z)
  obtain ⟨v, H1, I1, r, Ds, C, f, hsp, hc, hb, hany, hkn, q⟩ := q
  have I1' := I1.unhd I.ok
  have hoe := (I1'.hok e _ hkn).1
  refine em_ok (f := f) I1' hsp r hoe hc hb ?_
  rw [hany]
  refine codeAny_handlers_suite_as ?_
  have hTo := (I1'.pin (T, oT) (List.mem_append_right _ (List.mem_cons_self ..))).1
  refine flight_same hoe hd h1 hTo hdT h3 ?_
  refine store_ok I1'.drop1 hN hi (.inl hk) (show RelV (.ref e) (.ref e) from rfl) (fun s2 I2 => ?_) (.inr hk)
  refine wpAny_mono ((hs e) pins s2 _ H1 (unb D i) (I2.hd e) q) (fun fl s3 q3 => ?_) fun _ _ z => z.elim
  show wpAny _ X.A (bindName X.env n .none >>= fun _ => unbindBehindTheSuite X.env n pos) _ _ s3
  cases fl with
  | next =>
    obtain ⟨σ', H', I3, q3⟩ := q3
    exact unbind_ok (I3.unhd I.ok) hN hi hk fun s' I' => ⟨_, _, I', q3⟩
  | brk =>
    obtain ⟨σ', H', I3, q3⟩ := q3
    exact unbind_ok (I3.unhd I.ok) hN hi hk fun s' I' => ⟨_, _, I', q3⟩
  | cont =>
    obtain ⟨σ', H', I3, q3⟩ := q3
    exact unbind_ok (I3.unhd I.ok) hN hi hk fun s' I' => ⟨_, _, I', q3⟩
  | ret u =>
    obtain ⟨v3, σ', H', I3, r3, q3⟩ := q3
    exact unbind_ok (I3.unhd I.ok) hN hi hk fun s' I' => ⟨v3, _, _, I', r3, q3⟩
end
end L2

namespace K92
open PySem L2 FgM Fg
def top (i : Nat) : Stmt := PySem.Challenge.pw_formgrove_k92_words_refused.main.body.getD i (.Pass ⟨0, 0, 0, 0⟩)
abbrev s_NoGrove___init__ : Stmt := inClass (top 2) 0
abbrev s_is_tag : Stmt := top 6
abbrev s_all_parts : Stmt := top 8
abbrev s_parts_by_rule : Stmt := top 9
abbrev s_parts_for : Stmt := top 10
abbrev s_straight : Stmt := top 12
abbrev s_kids_in : Stmt := top 13
abbrev s_words_of_parts : Stmt := top 14
abbrev s_Stream___init__ : Stmt := inClass (top 15) 0
abbrev s_Stream_take : Stmt := inClass (top 15) 1
abbrev s_Stream_take_begin : Stmt := inClass (top 15) 2
abbrev s_Stream_height : Stmt := inClass (top 15) 3
abbrev s_Stream_owed : Stmt := inClass (top 15) 4
abbrev s_l_cell : Stmt := top 17
abbrev s_l_tag : Stmt := top 18
abbrev s_l_spoiled : Stmt := top 19
abbrev s_l_word : Stmt := top 20
abbrev s_l_is_tag : Stmt := top 21
abbrev s_l_told : Stmt := top 22
abbrev s_l_whole : Stmt := top 23
abbrev s_law : Stmt := top 24
theorem sc_NoGrove___init__ : FnScope ["self", "place"] ["self", "place"] (defScope s_NoGrove___init__) := ⟨rfl, rfl, rfl, by decide +kernel, rfl, by decide +kernel, by decide +kernel⟩
theorem sc_is_tag : FnScope ["text"] ["text"] (defScope s_is_tag) := ⟨rfl, rfl, rfl, by decide +kernel, rfl, by decide +kernel, by decide +kernel⟩
theorem sc_all_parts : FnScope ["parts", "found", "part"] ["parts"] (defScope s_all_parts) := ⟨rfl, rfl, rfl, by decide +kernel, rfl, by decide +kernel, by decide +kernel⟩
theorem sc_parts_by_rule : FnScope ["changer"] ["changer"] (defScope s_parts_by_rule) := ⟨rfl, rfl, rfl, by decide +kernel, rfl, by decide +kernel, by decide +kernel⟩
theorem sc_parts_for : FnScope ["known", "mode", "tag"] ["known", "mode", "tag"] (defScope s_parts_for) := ⟨rfl, rfl, rfl, by decide +kernel, rfl, by decide +kernel, by decide +kernel⟩
theorem sc_straight : FnScope ["changer"] ["changer"] (defScope s_straight) := ⟨rfl, rfl, rfl, by decide +kernel, rfl, by decide +kernel, by decide +kernel⟩
theorem sc_kids_in : FnScope ["parts"] ["parts"] (defScope s_kids_in) := ⟨rfl, rfl, rfl, by decide +kernel, rfl, by decide +kernel, by decide +kernel⟩
theorem sc_words_of_parts : FnScope ["parts", "words", "part"] ["parts"] (defScope s_words_of_parts) := ⟨rfl, rfl, rfl, by decide +kernel, rfl, by decide +kernel, by decide +kernel⟩
theorem sc_Stream___init__ : FnScope ["self", "changer"] ["self", "changer"] (defScope s_Stream___init__) := ⟨rfl, rfl, rfl, by decide +kernel, rfl, by decide +kernel, by decide +kernel⟩
theorem sc_Stream_take : FnScope ["self", "word"] ["self", "word"] (defScope s_Stream_take) := ⟨rfl, rfl, rfl, by decide +kernel, rfl, by decide +kernel, by decide +kernel⟩
theorem sc_Stream_take_begin : FnScope ["self", "mode", "tag", "parts", "words", "kids", "at"] ["self", "mode", "tag"] (defScope s_Stream_take_begin) := ⟨rfl, rfl, rfl, by decide +kernel, rfl, by decide +kernel, by decide +kernel⟩
theorem sc_Stream_height : FnScope ["self"] ["self"] (defScope s_Stream_height) := ⟨rfl, rfl, rfl, by decide +kernel, rfl, by decide +kernel, by decide +kernel⟩
theorem sc_Stream_owed : FnScope ["self", "words", "mode", "behind"] ["self"] (defScope s_Stream_owed) := ⟨rfl, rfl, rfl, by decide +kernel, rfl, by decide +kernel, by decide +kernel⟩
theorem sc_l_cell : FnScope ["_law_script", "_law_k", "_law_number"] ["_law_script", "_law_k"] (defScope s_l_cell) := ⟨rfl, rfl, rfl, by decide +kernel, rfl, by decide +kernel, by decide +kernel⟩
theorem sc_l_tag : FnScope ["_law_cell_here", "_law_letters"] ["_law_cell_here"] (defScope s_l_tag) := ⟨rfl, rfl, rfl, by decide +kernel, rfl, by decide +kernel, by decide +kernel⟩
theorem sc_l_spoiled : FnScope ["_law_cell_here", "_law_tag_here", "_law_signs", "_law_at"] ["_law_cell_here", "_law_tag_here"] (defScope s_l_spoiled) := ⟨rfl, rfl, rfl, by decide +kernel, rfl, by decide +kernel, by decide +kernel⟩
theorem sc_l_word : FnScope ["_law_script", "_law_k", "_law_tag_here", "_law_cell_here"] ["_law_script", "_law_k", "_law_tag_here"] (defScope s_l_word) := ⟨rfl, rfl, rfl, by decide +kernel, rfl, by decide +kernel, by decide +kernel⟩
theorem sc_l_is_tag : FnScope ["_law_word_here"] ["_law_word_here"] (defScope s_l_is_tag) := ⟨rfl, rfl, rfl, by decide +kernel, rfl, by decide +kernel, by decide +kernel⟩
theorem sc_l_told : FnScope ["_law_stream", "_law_word_here", "_law_way", "e"] ["_law_stream", "_law_word_here", "_law_way"] (defScope s_l_told) := ⟨rfl, rfl, rfl, by decide +kernel, rfl, by decide +kernel, by decide +kernel⟩
theorem sc_l_whole : FnScope ["_law_one", "_law_due"] ["_law_one", "_law_due"] (defScope s_l_whole) := ⟨rfl, rfl, rfl, by decide +kernel, rfl, by decide +kernel, by decide +kernel⟩
theorem sc_law : FnScope ["_law_script", "_law_tag_here", "_law_parts", "_law_recipe", "_law_stream", "_law_plain", "_law_taken", "_law_opened", "_law_k", "_law_word_here", "_law_kept", "_law_told_here"] ["_law_script"] (defScope s_law) := ⟨rfl, rfl, rfl, by decide +kernel, rfl, by decide +kernel, by decide +kernel⟩
structure XC (K : PySem.W.Frag) (mg : Str → Option Value) (X_GroveError X_NoGrove X_NotStraight : Addr) : Prop where
  n_GroveError : mg "GroveError" = some (.ref X_GroveError)
  n_NoGrove : mg "NoGrove" = some (.ref X_NoGrove)
  n_NotStraight : mg "NotStraight" = some (.ref X_NotStraight)
  bas : XBas K X_GroveError
  isG : PySem.W.isClsIn K X_GroveError = true
  tyG : PySem.W.typeIn K (.ref X_GroveError) = some (.type "type")
  c_GroveError : XCl K X_GroveError
  c_NoGrove : XCl K X_NoGrove
  c_NotStraight : XCl K X_NotStraight
  top_NoGrove : XTop K X_NoGrove X_GroveError
  f_NoGrove_place : XFld K X_NoGrove "place"
  mV_NoGrove : PySem.W.mroIn K X_NoGrove (.type "ValueError") = some true
  ne_NoGrove : X_NoGrove ≠ X_GroveError
  not_NoGrove_NotStraight : XNot K X_NoGrove X_NotStraight
  nn_NoGrove_NotStraight : X_NoGrove ≠ X_NotStraight
  m_NoGrove_GroveError : PySem.W.mroIn K X_NoGrove (.ref X_GroveError) = some true
  m_NoGrove_NoGrove : PySem.W.mroIn K X_NoGrove (.ref X_NoGrove) = some true
  m_NoGrove_NotStraight : PySem.W.mroIn K X_NoGrove (.ref X_NotStraight) = some false
abbrev blts : List Str := ["ValueError", "all", "bool", "dict", "int", "isinstance", "len", "range", "tuple"]
section
variable {P : Program} {w : World} {K : PySem.W.Frag} {mg : Str → Option Value} {base : Heap} {f : Addr} {fd : FuncData} {X_GroveError X_NoGrove X_NotStraight : Addr}
theorem ok_is_tag (B : ∀ x ∈ blts, mg x = none) (Cc : ∃ t : Tok, mg "LONGEST_TAG" = some (.int 8 t)) (F : Fun K "is_tag" "is_tag" s_is_tag f fd) : FnOk P w K mg base CX0 1 f fd ["text"] spIsTag := by
  refine F.ok sc_is_tag (fun vs H Q E h => ?_) (fun cdv A outer s H vs Q E hr h => ?_)
  · obtain ⟨z, rfl, _⟩ := h
    rfl
  obtain ⟨z, rfl, hz, q⟩ := h
  obtain ⟨t8, c_LONGEST_TAG⟩ := Cc
  unfold tagB at q
  refine ⟨_, (pss_one (ps_ret (pe_and (pe_chain op_le op_le pe_int (pe_callB call_len_str rfl (B "len" (by decide)) PySem.boot_len (pa_cons (pv 0) pa_nil)) (pe_glob (v := .int 8) rfl c_LONGEST_TAG ⟨_, rfl⟩)) (pe_one (pe_callB (call_all rfl) rfl (B "all" (by decide)) bt_all (pa_cons (pe_comp_az (pv 0) rfl (by decide) (by decide) rfl (by decide) rfl (by decide) (fun _ => rfl)) pa_nil)))))), ?_⟩
  refine ⟨_, rfl, z, rfl, len1000 (by (first | lia | omega)), _, _, rfl, rfl, _, rfl, ?_⟩
  refine ite2 (fun c => ?_) (fun c => ?_)
  · have c1 : 1 ≤ z.length := by
      have := of_decide_eq_true c
      (first | lia | omega)
    rw [decide_eq_true c1, Bool.true_and] at q
    refine ⟨_, _, rfl, rfl, _, rfl, ?_⟩
    refine ite2 (fun c => ?_) (fun c => ?_)
    · have c2 : z.length ≤ 8 := by
        have := of_decide_eq_true c
        (first | lia | omega)
      rw [decide_eq_true c2, Bool.true_and] at q
      refine ⟨_, rfl, z, rfl, len1000 (by (first | lia | omega)), fun p hp => ⟨p, z.cps.toList.map azB, rfl, SqL.of ?_, ?_⟩⟩
      · rw [upd_same, List.map_map]
        rfl
      · have e : (z.cps.toList.map azB).all id = z.cps.toList.all azB := by
          rw [List.all_map]
          rfl
        rw [e]
        exact q _ (Same.new hp)
    · have c2 : ¬ z.length ≤ 8 := fun h => c (decide_eq_true (by show ((z.length : Nat) : Int) ≤ 8; (first | lia | omega)))
      rw [decide_eq_false c2, Bool.false_and] at q
      exact q H (Same.refl H)
  · have c1 : ¬ 1 ≤ z.length := fun h => c (decide_eq_true (by show (1 : Int) ≤ ((z.length : Nat) : Int); (first | lia | omega)))
    rw [decide_eq_false c1, Bool.false_and, Bool.false_and] at q
    exact ⟨_, rfl, iteF (q H (Same.refl H))⟩
/-- a part of the one sort or the other -/
def PtV (H : Hp) (z : V) (x : Option Int) : Prop := match x with | some m => ∃ a, z = .ref a ∧ H a = some (.tup [.str "kids", .int m]) | none => ∃ a t q, z = .ref a ∧ H a = some (.tup [.str "tag", .str t, .ref q])
def PtL (H : Hp) (zs : List V) (xs : List (Option Int)) : Prop := Paired (PtV H) zs xs
theorem PtL.tk {H H' : Hp} (k : TK H H') : ∀ {zs : List V} {xs : List (Option Int)}, PtL H zs xs → PtL H' zs xs
  | _, _, .nil => .nil
  | _, _, .cons (b := x) r t => .cons (by
      cases x with
      | some m => obtain ⟨a, e, h⟩ := r; exact ⟨a, e, k _ _ h⟩
      | none => obtain ⟨a, t', q, e, h⟩ := r; exact ⟨a, t', q, e, k _ _ h⟩) (PtL.tk k t)
def allP : Pa → List (Option Int)
  | .nil => []
  | .kids m o => some m :: allP o
  | .tag _ w o => none :: (allP w ++ allP o)
theorem allP_app : ∀ p q : Pa, allP (p.app q) = allP p ++ allP q
  | .nil, q => rfl
  | .kids m o, q => by simp [Pa.app, allP, allP_app o q]
  | .tag t w o, q => by simp [Pa.app, allP, allP_app o q]
theorem allP_ks : ∀ p : Pa, (allP p).filterMap id = p.ks
  | .nil => rfl
  | .kids m o => by simp [allP, Pa.ks, allP_ks o]
  | .tag t w o => by simp [allP, Pa.ks, allP_ks w, allP_ks o]
theorem allP_len : ∀ p : Pa, (allP p).length = p.sz
  | .nil => rfl
  | .kids m o => by simp [allP, Pa.sz, allP_len o]; (first | lia | omega)
  | .tag t w o => by simp [allP, Pa.sz, allP_len w, allP_len o]; (first | lia | omega)
def spAllP (d : Nat) : Sp := fun vs H Q _ => ∃ (q : Addr) (ys : List V) (p : Pa), vs = [.ref q] ∧ H q = some (.tup ys) ∧ RepP H ys p ∧ p.dep < d ∧ p.sz ≤ 1000 ∧ ∀ (r : Addr) (zs : List V) (H' : Hp), Same H H' → H r = none → H' r = some (.lst zs) → PtL H' zs (allP p) → Q (.ref r) H'
set_option maxHeartbeats 2000000 in
theorem ok_all_parts (d : Nat) (B : ∀ x ∈ blts, mg x = none) (g_all_parts : Has P w K mg base "all_parts" ["parts"] d (spAllP d)) (F : Fun K "all_parts" "all_parts" s_all_parts f fd) : FnOk P w K mg base CX0 (d + 1) f fd ["parts"] (spAllP (d + 1)) := by
  refine F.ok sc_all_parts (fun vs H Q E h => ?_) (fun cdv A outer s H vs Q E hr h => ?_)
  · obtain ⟨q, ys, p, rfl, _⟩ := h
    rfl
  obtain ⟨q, ys, p, rfl, hq, hP, hd, hz, qq⟩ := h
  have hpl := hP.length
  refine ⟨_, (pss_cons (ps_set (i := 1) sc_all_parts.nd rfl (Or.inl rfl) (pe_lst pa_nil))
    (pss_cons (ps_for PassesOwn.never rfl (pi_tup (pv 0)) (pg_name (i := 2) sc_all_parts.nd rfl (Or.inl rfl))
      (pss_cons (ps_expr (pe_bm PySem.F.plainAttrs_list PySem.F.slot_list_append PySem.F.type_list_append mt_append (pv 1) (pa_cons (pv 2) pa_nil)))
        (pss_one (ps_if (pt_cmpR op_eq (pe_ix ix_tup (pv 2) pe_int (fun _ _ => rfl)) pe_str (nomark _))
          (pss_one (ps_expr (pe_bm PySem.F.plainAttrs_list PySem.F.slot_list_extend PySem.F.type_list_extend mt_extend (pv 1) (pa_cons (pe_has g_all_parts hr rfl (pa_cons (pe_ix ix_tup (pv 2) pe_int (fun _ _ => rfl)) pa_nil) (by (first | lia | omega))) pa_nil))))
          pss_nil))))
    (pss_one (ps_ret (pv 1))))), ?_⟩
  refine ⟨by decide, fun L hL => ?_⟩
  have s0 : Same H (upd H L (.lst [])) := Same.new hL
  refine ⟨_, rfl, q, rfl, ⟨_, SqT.of (s0 _ _ hq)⟩, for_tup (K := K) (a := q) (xs := ys) (fun i σ H1 => ∃ (v2 : Option V) (zs : List V), σ = [some (.ref q), some (.ref L), v2] ∧ Same H H1 ∧ H1 L = some (.lst zs) ∧ PtL H1 zs (allP (p.take i)))
    ⟨none, [], rfl, s0, upd_same, .nil⟩ ?_ ?_ ?_⟩
  · rintro i σ H1 _ ⟨_, _, _, s1, _⟩
    exact SqT.of (s1 _ _ hq)
  · rintro i x σ H1 hx ⟨v2, zs, rfl, s1, hL1, hzs⟩
    obtain ⟨a, rfl, ha⟩ := hP.at i x hx
    have hts := p.take_sz i
    have hzl : zs.length = (p.take i).sz := (Paired.length hzs).trans (allP_len _)
    refine ⟨_, rfl, .inl ⟨rfl, _, SqL.of hL1⟩, _, rfl, L, _, _, rfl, rfl, hL1, len1000' (by (first | lia | omega)), ?_⟩
    have tk : TK H1 (upd H1 L (.lst (zs ++ [.ref a]))) := TK.lst hL1
    rcases ha with ⟨m, h1, h2⟩ | ⟨t, q', ys', w', h1, h2, h3, h4, h5, h6⟩
    · have h1' := tk _ _ (s1 _ _ h1)
      refine ⟨_, rfl, a, _, 0, _, rfl, rfl, SqT.of h1', rfl, rfl, _, rfl, iteF ?_⟩
      refine ⟨_, _, rfl, s1.upd_new hL, upd_same, ?_⟩
      rw [h2, allP_app]
      exact Paired.app (hzs.tk tk) (.cons ⟨a, rfl, h1'⟩ .nil)
    · have h1' := tk _ _ (s1 _ _ h1)
      refine ⟨_, rfl, a, _, 0, _, rfl, rfl, SqT.of h1', rfl, rfl, _, rfl, iteT ?_⟩
      have s2 : Same H (upd H1 L (.lst (zs ++ [.ref a]))) := s1.upd_new hL
      refine ⟨_, rfl, .inl ⟨rfl, _, SqL.of upd_same⟩, _, rfl, a, _, 2, _, rfl, rfl, SqT.of h1', rfl, q', ys', w', rfl, s2 _ _ h2, h3.mono s2.tk, by (first | lia | omega), by (first | lia | omega), fun r zr H3 s3 hr0 hr3 hzr => ?_⟩
      have hL3 := s3 _ _ (show (upd H1 L (.lst (zs ++ [.ref a]))) L = some (.lst (zs ++ [.ref a])) from upd_same)
      have hrl : zr.length = w'.sz := (Paired.length hzr).trans (allP_len _)
      refine ⟨L, r, _, _, rfl, rfl, hL3, hr3, len1000 (by rw [List.length_append, List.length_singleton]; (first | lia | omega)), ?_⟩
      have tk4 := TK.lst (o := .lst (zs ++ [.ref a] ++ zr)) hL3
      refine ⟨_, _, rfl, (s2.trans s3).upd_new hL, upd_same, ?_⟩
      rw [h4, allP_app]
      have e : allP (Pa.tag t w' .nil) = none :: allP w' := by simp [allP]
      rw [e]
      have k5 : PtL (upd H3 L (.lst (zs ++ [.ref a] ++ zr))) (zs ++ (.ref a :: zr)) (allP (p.take i) ++ none :: allP w') := Paired.app (((hzs.tk tk).tk s3.tk).tk tk4) (.cons ⟨a, t, q', rfl, tk4 _ _ (s3 _ _ h1')⟩ (hzr.tk tk4))
      rw [show zs ++ V.ref a :: zr = zs ++ [V.ref a] ++ zr by simp] at k5
      exact k5
  · rintro σ H1 ⟨v2, zs, rfl, s1, hL1, hzs⟩
    rw [hP.take_all] at hzs
    exact ⟨_, rfl, qq L zs H1 s1 hL hL1 hzs⟩
def KdL (H : Hp) (zs : List V) (ms : List Int) : Prop := Paired (fun z m => ∃ a, z = V.ref a ∧ H a = some (.tup [.str "kids", .int m])) zs ms
theorem KdL.tk {H H' : Hp} (k : TK H H') : ∀ {zs : List V} {xs : List Int}, KdL H zs xs → KdL H' zs xs
  | _, _, .nil => .nil
  | _, _, .cons ⟨a, e, h⟩ t => .cons ⟨a, e, k _ _ h⟩ (KdL.tk k t)
def spKidsIn (d : Nat) : Sp := fun vs H Q _ => ∃ (q : Addr) (ys : List V) (p : Pa), vs = [.ref q] ∧ H q = some (.tup ys) ∧ RepP H ys p ∧ p.dep < d ∧ p.sz ≤ 1000 ∧ ∀ (r : Addr) (zs : List V) (H' : Hp), Same H H' → H r = none → H' r = some (.lst zs) → KdL H' zs p.ks → Q (.ref r) H'
theorem PtL.get {H : Hp} : ∀ {zs : List V} {xs : List (Option Int)}, PtL H zs xs → ∀ (i : Nat) z, zs[i]? = some z → ∃ x, xs[i]? = some x ∧ PtV H z x
  | _, _, .cons r t, 0, z, hz => by
    injection hz with hz
    subst hz
    exact ⟨_, rfl, r⟩
  | _, _, .cons r t, i + 1, z, hz => PtL.get t i z hz
set_option maxHeartbeats 2000000 in
theorem ok_kids_in (B : ∀ x ∈ blts, mg x = none) (g_all_parts : Has P w K mg base "all_parts" ["parts"] 22 (spAllP 22)) (F : Fun K "kids_in" "kids_in" s_kids_in f fd) : FnOk P w K mg base CX0 23 f fd ["parts"] (spKidsIn 22) := by
  refine F.ok sc_kids_in (fun vs H Q E h => ?_) (fun cdv A outer s H vs Q E hr h => ?_)
  · obtain ⟨q, ys, p, rfl, _⟩ := h
    rfl
  obtain ⟨q, ys, p, rfl, hq, hP, hd, hz, qq⟩ := h
  refine ⟨_, (pss_one (ps_ret (pe_comp_if (cl := []) ["part"] [] (pi_list (pe_has g_all_parts hr rfl (pa_cons (pv 0) pa_nil))) (fun _ _ _ _ => (pg_name (i := 0) nd1 rfl (Or.inl rfl))) (fun _ _ _ _ => (pt_cmpR op_eq (pe_ix (ix_tupK (K := K) rfl) (pv 0) pe_int (fun _ _ => rfl)) pe_str (nomark _))) (fun _ _ _ _ => (pv 0)) rfl rfl (by decide) rfl (by decide) (fun _ _ h => nomatch h) (nofree (by decide)) (fun _ _ h => nomatch h) (fun _ => rfl)))), ?_⟩
  refine ⟨_, rfl, q, ys, p, rfl, hq, hP, hd, hz, fun r zr H1 s1 hr0 hr1 hzr => ?_⟩
  have hzl : zr.length = p.sz := (Paired.length hzr).trans (allP_len _)
  refine ⟨r, rfl, ⟨_, SqL.of hr1⟩, fun pc hpc => comp_listT (K := K) (a := r) (p := pc) (xs := zr) (fun i us σ H2 => ∃ (v0 : Option V), σ = [v0] ∧ Same H1 H2 ∧ H2 pc = some (.lst us) ∧ KdL H2 us (((allP p).take i).filterMap id))
    ⟨none, rfl, Same.new hpc, upd_same, .nil⟩ ?_ ?_ ?_⟩
  · rintro i us σ H2 _ ⟨_, _, s2, h, _⟩
    exact ⟨SqL.of (s2 _ _ hr1), h⟩
  · rintro i us x σ H2 hi hx ⟨v0, rfl, s2, hp, hus⟩
    obtain ⟨o, ho, hv⟩ := hzr.get i x hx
    have hul : us.length ≤ i := by
      rw [Paired.length hus]
      exact Nat.le_trans (List.length_filterMap_le _ _) (by rw [List.length_take]; (first | lia | omega))
    cases o with
    | some m =>
      obtain ⟨a, rfl, ha⟩ := hv
      refine ⟨_, rfl, a, _, 0, _, rfl, rfl, SqT.of (s2 _ _ ha), rfl, rfl, _, rfl, iteT ?_⟩
      refine ⟨_, rfl, hp, len1000' (by (first | lia | omega)), CW.next hi ⟨_, rfl, s2.upd_new hpc, upd_same, ?_⟩⟩
      rw [take_succ' ho, List.filterMap_append]
      exact Paired.app (hus.tk (TK.lst hp)) (.cons ⟨a, rfl, TK.lst hp _ _ (s2 _ _ ha)⟩ .nil)
    | none =>
      obtain ⟨a, t, q', rfl, ha⟩ := hv
      refine ⟨_, rfl, a, _, 0, _, rfl, rfl, SqT.of (s2 _ _ ha), rfl, rfl, _, rfl, iteF ?_⟩
      refine CW.next hi ⟨_, rfl, s2, hp, ?_⟩
      rw [take_succ' ho, List.filterMap_append]
      simpa using hus
  rintro us σ H2 ⟨v0, rfl, s2, hp, hus⟩
  rw [hzl, ← allP_len, List.take_length, allP_ks] at hus
  exact qq pc us H2 (s1.trans s2) (s1.free hpc) hp hus
/-- rules in the heap -/
def RlV (H : Hp) (z : V) (r : Int × Str × Pa) : Prop := ∃ a q ys, z = .ref a ∧ H a = some (.tup [.int r.1, .str r.2.1, .ref q]) ∧ H q = some (.tup ys) ∧ RepP H ys r.2.2
def RlL (H : Hp) (zs : List V) (rs : List (Int × Str × Pa)) : Prop := Paired (RlV H) zs rs
theorem RlL.tk {H H' : Hp} (k : TK H H') : ∀ {zs : List V} {rs : List (Int × Str × Pa)}, RlL H zs rs → RlL H' zs rs
  | _, _, .nil => .nil
  | _, _, .cons ⟨a, q, ys, e, h1, h2, h3⟩ t => .cons ⟨a, q, ys, e, k _ _ h1, k _ _ h2, h3.mono k⟩ (RlL.tk k t)
theorem RlL.get {H : Hp} : ∀ {zs : List V} {xs : List (Int × Str × Pa)}, RlL H zs xs → ∀ (i : Nat) z, zs[i]? = some z → ∃ x, xs[i]? = some x ∧ RlV H z x
  | _, _, .cons r t, 0, z, hz => by
    injection hz with hz
    subst hz
    exact ⟨_, rfl, r⟩
  | _, _, .cons r t, i + 1, z, hz => RlL.get t i z hz
/-- a changer in the heap -/
def ChR (H : Hp) (c : Addr) (rs : List (Int × Str × Pa)) : Prop := ∃ n rt zs, H c = some (.tup [.int n, .ref rt]) ∧ H rt = some (.tup zs) ∧ RlL H zs rs ∧ rs.length ≤ 100 ∧ ∀ r ∈ rs, r.2.2.sz ≤ 20
theorem ChR.tk {H H' : Hp} {c : Addr} {rs : List (Int × Str × Pa)} (h : ChR H c rs) (k : TK H H') : ChR H' c rs := by
  obtain ⟨n, rt, zs, h1, h2, h3, h4⟩ := h
  exact ⟨n, rt, zs, k _ _ h1, k _ _ h2, h3.tk k, h4⟩
def spStraight : Sp := fun vs H Q _ => ∃ (c : Addr) (rs : List (Int × Str × Pa)), vs = [.ref c] ∧ ChR H c rs ∧ ∀ H', Same H H' → Q (.bl (rs.all fun r => decide (r.2.2.nk ≤ 1))) H'
set_option maxHeartbeats 2000000 in
theorem ok_straight (B : ∀ x ∈ blts, mg x = none) (g_kids_in : Has P w K mg base "kids_in" ["parts"] 23 (spKidsIn 22)) (F : Fun K "straight" "straight" s_straight f fd) : FnOk P w K mg base CX0 24 f fd ["changer"] spStraight := by
  refine F.ok sc_straight (fun vs H Q E h => ?_) (fun cdv A outer s H vs Q E hr h => ?_)
  · obtain ⟨c, rs, rfl, _⟩ := h
    rfl
  obtain ⟨c, rs, rfl, ⟨n, rt, zs, h1, h2, h3, h4, h5⟩, qq⟩ := h
  have hzl : zs.length = rs.length := Paired.length h3
  refine ⟨_, (pss_one (ps_ret (pe_callB (call_all rfl) rfl (B "all" (by decide)) bt_all (pa_cons (pe_comp (cl := []) ["mode", "tag", "parts"] [] (pi_tup (pe_ix ix_tup (pv 0) pe_int (fun _ _ => rfl))) (fun _ _ _ _ => (pg_tupK (K := K) (n := 3) rfl rfl (pgs_cons (pg_name (i := 0) (show List.Nodup (["mode", "tag", "parts"] : List Str) by decide) rfl (Or.inl rfl)) (pgs_cons (pg_name (i := 1) (show List.Nodup (["mode", "tag", "parts"] : List Str) by decide) rfl (Or.inl rfl)) (pgs_cons (pg_name (i := 2) (show List.Nodup (["mode", "tag", "parts"] : List Str) by decide) rfl (Or.inl rfl)) pgs_nil))))) (fun _ _ _ _ => (pe_cmpR op_le (pe_callB (call_len_seqK (K := K) rfl) rfl (B "len" (by decide)) PySem.boot_len (pa_cons (pe_has g_kids_in hr rfl (pa_cons (pv 2) pa_nil)) pa_nil)) pe_int (nomark _))) rfl rfl (by decide) rfl (by decide) (fun _ _ h => nomatch h) (nofree (by decide)) (fun _ _ h => nomatch h) (fun _ => rfl)) pa_nil)))), ?_⟩
  refine ⟨_, rfl, c, _, 1, _, rfl, rfl, SqT.of h1, rfl, rt, rfl, ⟨_, SqT.of h2⟩, fun pc hpc => comp_tup (K := K) (a := rt) (p := pc) (xs := zs) (fun i us σ H2 => ∃ (v0 v1 v2 : Option V), σ = [v0, v1, v2] ∧ Same H H2 ∧ H2 pc = some (.lst us) ∧ us = ((rs.take i).map fun r => decide (r.2.2.nk ≤ 1)).map V.bl)
    ⟨none, none, none, rfl, Same.new hpc, upd_same, rfl⟩ ?_ ?_ ?_⟩
  · rintro i us σ H2 _ ⟨_, _, _, _, s2, h, _⟩
    exact ⟨SqT.of (s2 _ _ h2), h⟩
  · rintro i us x σ H2 hi hx ⟨v0, v1, v2, rfl, s2, hp, rfl⟩
    obtain ⟨r, hr1, a, q, ys, rfl, g1, g2, g3⟩ := h3.get i x hx
    have hsz := h5 r (List.mem_of_getElem? hr1)
    have hdp := r.2.2.dep_le
    refine ⟨a, _, rfl, SqT.of (s2 _ _ g1), rfl, _, _, rfl, _, _, rfl, _, _, rfl, rfl, ?_⟩
    refine ⟨_, rfl, q, ys, r.2.2, rfl, s2 _ _ g2, g3.mono s2.tk, by (first | lia | omega), by (first | lia | omega), fun r' zr H3 s3 hr0 hr3 hk => ?_⟩
    have hkl : zr.length = r.2.2.nk := (Paired.length hk).trans (Pa.ks_len _)
    refine ⟨r', _, rfl, .inl (SqL.of hr3), _, _, rfl, rfl, s3 _ _ hp, len1000' (by rw [List.length_map, List.length_map, List.length_take]; (first | lia | omega)), CW.next hi ⟨_, _, _, rfl, (s2.trans s3).upd_new hpc, upd_same, ?_⟩⟩
    rw [take_succ' hr1, List.map_append, List.map_append]
    congr 1
    show [V.bl (decide ((zr.length : Int) ≤ 1))] = [V.bl (decide (r.2.2.nk ≤ 1))]
    congr 2
    rw [decide_eq_decide]
    (first | lia | omega)
  rintro us σ H2 ⟨v0, v1, v2, rfl, s2, hp, rfl⟩
  rw [hzl, List.take_length] at hp
  refine ⟨pc, _, rfl, SqL.of hp, ?_⟩
  have := qq H2 s2
  rw [show (rs.map fun r => decide (r.2.2.nk ≤ 1)).all id = rs.all fun r => decide (r.2.2.nk ≤ 1) by rw [List.all_map]; rfl]
  exact this
def knPut (f : Kn) (r : Int × Str × Pa) : Kn := fun i t => if i = r.1 ∧ t = r.2.1 then some r.2.2 else f i t
def knOf (rs : List (Int × Str × Pa)) : Kn := rs.foldl knPut fun _ _ => none
def rkey (i : Int) (t : Str) : List Key := [Sum.inl i, Sum.inr t]
theorem rkey_inj {i j : Int} {t u : Str} (h : rkey i t = rkey j u) : i = j ∧ t = u := by
  unfold rkey at h
  simpa using h
def spByRule : Sp := fun vs H Q _ => ∃ (c : Addr) (rs : List (Int × Str × Pa)), vs = [.ref c] ∧ ChR H c rs ∧ ∀ (d : Addr) (m : List (List Key × V)) (H' : Hp), Same H H' → H d = none → H' d = some (.dT m) → KnR H' m (knOf rs) → Q (.ref d) H'
/-- pairs, as they make a dict -/
def PkV (H : Hp) (y : V) (kv : List Key × V) (r : Int × Str × Pa) : Prop := (∃ t b, y = .ref t ∧ H t = some (.tup [.ref b, kv.2]) ∧ H b = some (.tup (kv.1.map kV))) ∧ kv.1 = rkey r.1 r.2.1 ∧ ∃ q ys, kv.2 = .ref q ∧ H q = some (.tup ys) ∧ RepP H ys r.2.2
inductive PkL (H : Hp) : List V → List (List Key × V) → List (Int × Str × Pa) → Prop
  | nil : PkL H [] [] []
  | cons {y : V} {kv : List Key × V} {r : Int × Str × Pa} {ys : List V} {kvs : List (List Key × V)} {rs : List (Int × Str × Pa)} : PkV H y kv r → PkL H ys kvs rs → PkL H (y :: ys) (kv :: kvs) (r :: rs)
theorem PkL.tk {H H' : Hp} (k : TK H H') : ∀ {ys : List V} {kvs : List (List Key × V)} {rs : List (Int × Str × Pa)}, PkL H ys kvs rs → PkL H' ys kvs rs
  | _, _, _, .nil => .nil
  | _, _, _, .cons ⟨⟨t, b, e1, e2, e3⟩, e4, q, zs, e5, e6, e7⟩ t' => .cons ⟨⟨t, b, e1, k _ _ e2, k _ _ e3⟩, e4, q, zs, e5, k _ _ e6, e7.mono k⟩ (t'.tk k)
theorem PkL.snoc {H : Hp} {y : V} {kv : List Key × V} {r : Int × Str × Pa} (h : PkV H y kv r) : ∀ {ys : List V} {kvs : List (List Key × V)} {rs : List (Int × Str × Pa)}, PkL H ys kvs rs → PkL H (ys ++ [y]) (kvs ++ [kv]) (rs ++ [r])
  | _, _, _, .nil => .cons h .nil
  | _, _, _, .cons r t => .cons r (t.snoc h)
theorem PkL.pairs {H : Hp} : ∀ {ys : List V} {kvs : List (List Key × V)} {rs : List (Int × Str × Pa)}, PkL H ys kvs rs → Paired (fun (y : V) (kv : List Key × V) => ∃ t b, y = .ref t ∧ H t = some (.tup [.ref b, kv.2]) ∧ H b = some (.tup (kv.1.map kV))) ys kvs ∧ ys.length = rs.length
  | _, _, _, .nil => ⟨.nil, rfl⟩
  | _, _, _, .cons r t => ⟨.cons r.1 t.pairs.1, by simp [t.pairs.2]⟩
theorem PkL.kn {H : Hp} : ∀ {ys : List V} {kvs : List (List Key × V)} {rs : List (Int × Str × Pa)} {m : List (List Key × V)} {f : Kn}, PkL H ys kvs rs → KnR H m f → KnR H (kvs.foldl (fun m kv => putK m kv.1 kv.2) m) (rs.foldl knPut f)
  | _, _, _, _, _, .nil, h => h
  | _, _, _, m, f, .cons (kv := kv) (r := r) ⟨_, e4, q, zs, e5, e6, e7⟩ t, h => by
    refine t.kn (m := putK m kv.1 kv.2) (f := knPut f r) fun i u => ?_
    show (valV (putK m kv.1 kv.2) (rkey i u) = none ∧ knPut f r i u = none) ∨ ∃ q ys p, valV (putK m kv.1 kv.2) (rkey i u) = some (.ref q) ∧ H q = some (.tup ys) ∧ RepP H ys p ∧ knPut f r i u = some p
    rw [valV_put, e4]
    unfold knPut
    by_cases c : i = r.1 ∧ u = r.2.1
    · rw [if_pos (by rw [c.1, c.2]), if_pos c]
      exact .inr ⟨q, zs, r.2.2, by rw [e5], e6, e7, rfl⟩
    · rw [if_neg (fun z => c (rkey_inj (i := i) (t := u) z)), if_neg c]
      exact h i u
set_option maxHeartbeats 2000000 in
theorem ok_parts_by_rule (B : ∀ x ∈ blts, mg x = none) (F : Fun K "parts_by_rule" "parts_by_rule" s_parts_by_rule f fd) : FnOk P w K mg base CX0 1 f fd ["changer"] spByRule := by
  refine F.ok sc_parts_by_rule (fun vs H Q E h => ?_) (fun cdv A outer s H vs Q E hr h => ?_)
  · obtain ⟨c, rs, rfl, _⟩ := h
    rfl
  obtain ⟨c, rs, rfl, ⟨n, rt, zs, h1, h2, h3, h4, h5⟩, qq⟩ := h
  have hu2 : (A.deeper (PyProof.Rows.envOfC (Str.ofString "parts_by_rule") (defScope s_parts_by_rule) s.heap.objs.size f cdv)).units + 2 < cLine := by have := hr.un; (first | lia | omega)
  have hzl : zs.length = rs.length := Paired.length h3
  refine ⟨_, (pss_one (ps_ret (pe_callTy (call_dict_listT rfl hu2) rfl (B "dict" (by decide)) bt_dict (pa_cons (pe_comp (cl := []) ["mode", "tag", "parts"] [] (pi_tup (pe_ix ix_tup (pv 0) pe_int (fun _ _ => rfl))) (fun _ _ _ _ => (pg_tupK (K := K) (n := 3) rfl rfl (pgs_cons (pg_name (i := 0) (show List.Nodup (["mode", "tag", "parts"] : List Str) by decide) rfl (Or.inl rfl)) (pgs_cons (pg_name (i := 1) (show List.Nodup (["mode", "tag", "parts"] : List Str) by decide) rfl (Or.inl rfl)) (pgs_cons (pg_name (i := 2) (show List.Nodup (["mode", "tag", "parts"] : List Str) by decide) rfl (Or.inl rfl)) pgs_nil))))) (fun _ _ _ _ => (pe_tup (pa_cons (pe_tup (pa_cons (pv 0) (pa_cons (pv 1) pa_nil))) (pa_cons (pv 2) pa_nil)))) rfl rfl (by decide) rfl (by decide) (fun _ _ h => nomatch h) (nofree (by decide)) (fun _ _ h => nomatch h) (fun _ => rfl)) pa_nil)))), ?_⟩
  refine ⟨_, rfl, c, _, 1, _, rfl, rfl, SqT.of h1, rfl, rt, rfl, ⟨_, SqT.of h2⟩, fun pc hpc => comp_tup (K := K) (a := rt) (p := pc) (xs := zs) (fun i us σ H2 => ∃ (v0 v1 v2 : Option V) (kvs : List (List Key × V)), σ = [v0, v1, v2] ∧ Same H H2 ∧ H2 pc = some (.lst us) ∧ PkL H2 us kvs (rs.take i))
    ⟨none, none, none, [], rfl, Same.new hpc, upd_same, .nil⟩ ?_ ?_ ?_⟩
  · rintro i us σ H2 _ ⟨_, _, _, _, _, s2, h, _⟩
    exact ⟨SqT.of (s2 _ _ h2), h⟩
  · rintro i us x σ H2 hi hx ⟨v0, v1, v2, kvs, rfl, s2, hp, hpk⟩
    obtain ⟨r, hr1, a, q, ys, rfl, g1, g2, g3⟩ := h3.get i x hx
    have hul := hpk.pairs.2
    rw [List.length_take] at hul
    refine ⟨a, _, rfl, SqT.of (s2 _ _ g1), rfl, _, _, rfl, _, _, rfl, _, _, rfl, rfl, ?_⟩
    refine ⟨_, rfl, _, rfl, (by show 2 ≤ sizeLine; decide), fun t1 ht1 => ⟨_, rfl, (by show 2 ≤ sizeLine; decide), fun t2 ht2 => ?_⟩⟩
    obtain ⟨n21, ht2'⟩ := upd_none ht2
    have s4 : Same H2 (upd (upd H2 t1 (.tup [.int r.1, .str r.2.1])) t2 (.tup [.ref t1, .ref q])) := (Same.new ht1).upd_new ht2'
    refine ⟨s4 _ _ hp, len1000' (by (first | lia | omega)), CW.next hi ⟨_, _, _, kvs ++ [(rkey r.1 r.2.1, .ref q)], rfl, (s2.trans s4).upd_new hpc, upd_same, ?_⟩⟩
    rw [take_succ' hr1]
    have tk := s4.tk.trans (TK.lst (o := .lst (us ++ [.ref t2])) (s4 _ _ hp))
    have nt2 : t2 ≠ pc := fun z => by rw [z, hp] at ht2'; cases ht2'
    have nt1 : t1 ≠ pc := fun z => by rw [z, hp] at ht1; cases ht1
    refine (hpk.tk tk).snoc ⟨⟨t2, t1, rfl, ?_, ?_⟩, rfl, q, ys, rfl, tk _ _ (s2 _ _ g2), (g3.mono s2.tk).mono tk⟩
    · rw [upd_ne nt2]
      exact upd_same
    · rw [upd_ne nt1, upd_ne n21.symm, upd_same]
      rfl
  rintro us σ H2 ⟨v0, v1, v2, kvs, rfl, s2, hp, hpk⟩
  rw [hzl, List.take_length] at hpk
  obtain ⟨hpp, hul⟩ := hpk.pairs
  refine ⟨pc, us, kvs, rfl, SqL.of hp, by (first | lia | omega), hpp, fun d hd => ?_⟩
  have s3 : Same H2 (upd H2 d (.dT (putAllT kvs))) := Same.new hd
  refine qq d (putAllT kvs) _ (s2.trans s3) (s2.free hd) upd_same ?_
  exact (hpk.kn (m := []) (f := fun _ _ => none) (fun i t => .inl ⟨rfl, rfl⟩)).tk s3.tk
def paD (kn : Kn) (m : Int) (t : Str) : Pa := (kn m t).getD (.tag t (.kids m .nil) .nil)
def spPartsFor : Sp := fun vs H Q _ => ∃ (d : Addr) (m : List (List Key × V)) (kn : Kn) (i : Int) (t : Str), vs = [.ref d, .int i, .str t] ∧ H d = some (.dT m) ∧ KnR H m kn ∧ ∀ (q : Addr) (ys : List V) (H' : Hp), Same H H' → H' q = some (.tup ys) → RepP H' ys (paD kn i t) → Q (.ref q) H'
set_option maxHeartbeats 2000000 in
theorem ok_parts_for (B : ∀ x ∈ blts, mg x = none) (F : Fun K "parts_for" "parts_for" s_parts_for f fd) : FnOk P w K mg base CX0 1 f fd ["known", "mode", "tag"] spPartsFor := by
  refine F.ok sc_parts_for (fun vs H Q E h => ?_) (fun cdv A outer s H vs Q E hr h => ?_)
  · obtain ⟨d, m, kn, i, t, rfl, _⟩ := h
    rfl
  obtain ⟨d, m, kn, i, t, rfl, hd, hkn, qq⟩ := h
  have hu1 : (A.deeper (PyProof.Rows.envOfC (Str.ofString "parts_for") (defScope s_parts_for) s.heap.objs.size f cdv)).units + 1 < cLine := by have := hr.un; (first | lia | omega)
  refine ⟨_, (pss_one (ps_ret (pe_dget2 hu1 (pv 0) (pe_tup (pa_cons (pv 1) (pa_cons (pv 2) pa_nil))) (pe_tup (pa_cons (pe_tup (pa_cons pe_str (pa_cons (pv 2) (pa_cons (pe_tup (pa_cons (pe_tup (pa_cons pe_str (pa_cons (pv 1) pa_nil))) pa_nil)) pa_nil)))) pa_nil)) ⟨rfl, rfl, rfl, rfl⟩))), ?_⟩
  refine ⟨_, rfl, d, rfl, .inr ⟨m, .inl hd⟩, _, rfl, _, rfl, (by show 2 ≤ sizeLine; decide), fun t1 ht1 => ?_⟩
  refine ⟨_, rfl, _, rfl, (by show 2 ≤ sizeLine; decide), fun t2 ht2 => ⟨(by show 1 ≤ sizeLine; decide), fun t3 ht3 => ⟨(by show 3 ≤ sizeLine; decide), fun t4 ht4 => ⟨(by show 1 ≤ sizeLine; decide), fun t5 ht5 => ?_⟩⟩⟩⟩
  obtain ⟨n21, ht2a⟩ := upd_none ht2
  obtain ⟨n32, ht3a⟩ := upd_none ht3
  obtain ⟨n31, ht3b⟩ := upd_none ht3a
  obtain ⟨n43, ht4a⟩ := upd_none ht4
  obtain ⟨n42, ht4b⟩ := upd_none ht4a
  obtain ⟨n41, ht4c⟩ := upd_none ht4b
  obtain ⟨n54, ht5a⟩ := upd_none ht5
  obtain ⟨n53, ht5b⟩ := upd_none ht5a
  obtain ⟨n52, ht5c⟩ := upd_none ht5b
  obtain ⟨n51, ht5d⟩ := upd_none ht5c
  have s5 : Same H (upd (upd (upd (upd (upd H t1 (.tup [.int i, .str t])) t2 (.tup [.str "kids", .int i])) t3 (.tup [.ref t2])) t4 (.tup [.str "tag", .str t, .ref t3])) t5 (.tup [.ref t4])) := ((((Same.new ht1).upd_new ht2a).upd_new ht3b).upd_new ht4c).upd_new ht5d
  have x1 : (upd (upd (upd (upd (upd H t1 (.tup [.int i, .str t])) t2 (.tup [.str "kids", .int i])) t3 (.tup [.ref t2])) t4 (.tup [.str "tag", .str t, .ref t3])) t5 (.tup [.ref t4])) t1 = some (.tup ((rkey i t).map kV)) := by
    rw [upd_ne n51.symm, upd_ne n41.symm, upd_ne n31.symm, upd_ne n21.symm, upd_same]
    rfl
  have x2 : (upd (upd (upd (upd (upd H t1 (.tup [.int i, .str t])) t2 (.tup [.str "kids", .int i])) t3 (.tup [.ref t2])) t4 (.tup [.str "tag", .str t, .ref t3])) t5 (.tup [.ref t4])) t2 = some (.tup [.str "kids", .int i]) := by
    rw [upd_ne n52.symm, upd_ne n42.symm, upd_ne n32.symm, upd_same]
  have x3 : (upd (upd (upd (upd (upd H t1 (.tup [.int i, .str t])) t2 (.tup [.str "kids", .int i])) t3 (.tup [.ref t2])) t4 (.tup [.str "tag", .str t, .ref t3])) t5 (.tup [.ref t4])) t3 = some (.tup [.ref t2]) := by
    rw [upd_ne n53.symm, upd_ne n43.symm, upd_same]
  have x4 : (upd (upd (upd (upd (upd H t1 (.tup [.int i, .str t])) t2 (.tup [.str "kids", .int i])) t3 (.tup [.ref t2])) t4 (.tup [.str "tag", .str t, .ref t3])) t5 (.tup [.ref t4])) t4 = some (.tup [.str "tag", .str t, .ref t3]) := by
    rw [upd_ne n54.symm, upd_same]
  have x5 : (upd (upd (upd (upd (upd H t1 (.tup [.int i, .str t])) t2 (.tup [.str "kids", .int i])) t3 (.tup [.ref t2])) t4 (.tup [.str "tag", .str t, .ref t3])) t5 (.tup [.ref t4])) t5 = some (.tup [.ref t4]) := upd_same
  refine ⟨_, DGet.t (k := rkey i t) (s5 _ _ hd) x1, ?_⟩
  rcases hkn i t with ⟨e1, e2⟩ | ⟨q, ys, p, e1, e2, e3, e4⟩
  · have e1' : valV m (rkey i t) = none := e1
    rw [e1']
    refine qq t5 [.ref t4] _ s5 x5 ?_
    unfold paD
    rw [e2]
    exact .tag x4 x3 (.kids x2 .nil) .nil
  · have e1' : valV m (rkey i t) = some (.ref q) := e1
    rw [e1']
    refine qq q ys _ s5 (s5 _ _ e2) ?_
    unfold paD
    rw [e4]
    exact e3.mono s5.tk
def spWordsP (d : Nat) : Sp := fun vs H Q _ => ∃ (q : Addr) (ys : List V) (p : Pa), vs = [.ref q] ∧ H q = some (.tup ys) ∧ RepP H ys p ∧ p.dep < d ∧ p.sz ≤ 1000 ∧ ∀ (r : Addr) (zs : List V) (H' : Hp), Same H H' → H r = none → H' r = some (.lst zs) → WdL H' zs p.spl → Q (.ref r) H'
set_option maxHeartbeats 2000000 in
theorem ok_words_of_parts (d : Nat) (B : ∀ x ∈ blts, mg x = none) (g_words_of_parts : Has P w K mg base "words_of_parts" ["parts"] d (spWordsP d)) (F : Fun K "words_of_parts" "words_of_parts" s_words_of_parts f fd) : FnOk P w K mg base CX0 (d + 1) f fd ["parts"] (spWordsP (d + 1)) := by
  refine F.ok sc_words_of_parts (fun vs H Q E h => ?_) (fun cdv A outer s H vs Q E hr h => ?_)
  · obtain ⟨q, ys, p, rfl, _⟩ := h
    rfl
  obtain ⟨q, ys, p, rfl, hq, hP, hd, hz, qq⟩ := h
  have hpl := hP.length
  refine ⟨_, (pss_cons (ps_set (i := 1) sc_words_of_parts.nd rfl (Or.inl rfl) (pe_lst pa_nil))
    (pss_cons (ps_for PassesOwn.never rfl (pi_tup (pv 0)) (pg_name (i := 2) sc_words_of_parts.nd rfl (Or.inl rfl))
      (pss_one (ps_if (pt_cmpR op_eq (pe_ix ix_tup (pv 2) pe_int (fun _ _ => rfl)) pe_str (nomark _))
          (pss_one (ps_expr (pe_bm PySem.F.plainAttrs_list PySem.F.slot_list_append PySem.F.type_list_append mt_append (pv 1) (pa_cons (pv 2) pa_nil))))
          (pss_one (ps_expr (pe_bm PySem.F.plainAttrs_list PySem.F.slot_list_extend PySem.F.type_list_extend mt_extend (pv 1) (pa_cons (pe_op op_cat (pe_op op_cat (pe_lst (pa_cons (pe_ix ix_tup (pv 2) pe_int (fun _ _ => rfl)) pa_nil)) (pe_has g_words_of_parts hr rfl (pa_cons (pe_ix ix_tup (pv 2) pe_int (fun _ _ => rfl)) pa_nil) (by (first | lia | omega)))) (pe_lst (pa_cons pe_str pa_nil))) pa_nil)))))))
    (pss_one (ps_ret (pv 1))))), ?_⟩
  refine ⟨by decide, fun L hL => ?_⟩
  have s0 : Same H (upd H L (.lst [])) := Same.new hL
  refine ⟨_, rfl, q, rfl, ⟨_, SqT.of (s0 _ _ hq)⟩, for_tup (K := K) (a := q) (xs := ys) (fun i σ H1 => ∃ (v2 : Option V) (zs : List V), σ = [some (.ref q), some (.ref L), v2] ∧ Same H H1 ∧ H1 L = some (.lst zs) ∧ WdL H1 zs (p.take i).spl)
    ⟨none, [], rfl, s0, upd_same, .nil⟩ ?_ ?_ ?_⟩
  · rintro i σ H1 _ ⟨_, _, _, s1, _⟩
    exact SqT.of (s1 _ _ hq)
  · rintro i x σ H1 hx ⟨v2, zs, rfl, s1, hL1, hzs⟩
    obtain ⟨a, rfl, ha⟩ := hP.at i x hx
    have hts := p.take_sz i
    have hzl := Paired.length hzs
    have hsl := (p.take i).spl_len
    rcases ha with ⟨m, h1, h2⟩ | ⟨t, q', ys', w', h1, h2, h3, h4, h5, h6⟩
    · have h1' := s1 _ _ h1
      refine ⟨_, rfl, a, _, 0, _, rfl, rfl, SqT.of h1', rfl, rfl, _, rfl, iteT ?_⟩
      refine ⟨_, rfl, .inl ⟨rfl, _, SqL.of hL1⟩, _, rfl, L, _, _, rfl, rfl, hL1, len1000' (by (first | lia | omega)), ?_⟩
      have tk : TK H1 (upd H1 L (.lst (zs ++ [.ref a]))) := TK.lst hL1
      refine ⟨_, _, rfl, s1.upd_new hL, upd_same, ?_⟩
      rw [h2, Pa.spl_app]
      exact (hzs.tk tk).app (.cons ⟨a, rfl, tk _ _ h1'⟩ .nil)
    · have h1' := s1 _ _ h1
      have hwl := w'.spl_len
      refine ⟨_, rfl, a, _, 0, _, rfl, rfl, SqT.of h1', rfl, rfl, _, rfl, iteF ?_⟩
      refine ⟨_, rfl, .inl ⟨rfl, _, SqL.of hL1⟩, _, rfl, a, _, 1, _, rfl, rfl, SqT.of h1', rfl, (by show 1 ≤ sizeLine; decide), fun l1 hl1 => ?_⟩
      have s2 : Same H1 (upd H1 l1 (.lst [.str t])) := Same.new hl1
      have s12 := s1.trans s2
      refine ⟨_, rfl, a, _, 2, _, rfl, rfl, SqT.of (s2 _ _ h1'), rfl, q', ys', w', rfl, s12 _ _ h2, h3.mono s12.tk, by (first | lia | omega), by (first | lia | omega), fun r zr H3 s3 hr0 hr3 hzr => ?_⟩
      have hrl := Paired.length hzr
      refine ⟨l1, r, _, _, rfl, rfl, s3 _ _ upd_same, hr3, len1000 (by show 1 + _ ≤ _; (first | lia | omega)), fun l2 hl2 => ⟨(by show 1 ≤ sizeLine; decide), fun l3 hl3 => ?_⟩⟩
      obtain ⟨n32, hl3a⟩ := upd_none hl3
      refine ⟨l2, l3, _, _, rfl, rfl, by rw [upd_ne n32.symm]; exact upd_same, upd_same, len1000 (by rw [List.length_append]; show 1 + _ + 1 ≤ _; (first | lia | omega)), fun l4 hl4 => ?_⟩
      obtain ⟨n43, hl4a⟩ := upd_none hl4
      obtain ⟨n42, hl4b⟩ := upd_none hl4a
      have s5 : Same H3 (upd (upd (upd H3 l2 (.lst ([.str t] ++ zr))) l3 (.lst [.str SL])) l4 (.lst ([.str t] ++ zr ++ [.str SL]))) := ((Same.new hl2).upd_new hl3a).upd_new hl4b
      have hL5 := s5 _ _ (s3 _ _ (s2 _ _ hL1))
      refine ⟨L, l4, _, _, rfl, rfl, hL5, upd_same, len1000 (by rw [List.length_append, List.length_append]; show _ + (1 + _ + 1) ≤ _; (first | lia | omega)), ?_⟩
      have s15 := (s2.trans s3).trans s5
      refine ⟨_, _, rfl, (s1.trans s15).upd_new hL, upd_same, ?_⟩
      rw [h4, Pa.spl_app]
      have tk6 := TK.lst (o := .lst (zs ++ ([.str t] ++ zr ++ [.str SL]))) hL5
      have e : Pa.spl (Pa.tag t w' .nil) = [Sum.inl t] ++ w'.spl ++ [Sum.inl SL] := by simp [Pa.spl]
      rw [e]
      exact ((hzs.tk s15.tk).tk tk6).app (((WdL.app (WdL.strs [t]) ((hzr.tk s5.tk).tk tk6))).app (WdL.strs [SL]))
  · rintro σ H1 ⟨v2, zs, rfl, s1, hL1, hzs⟩
    rw [hP.take_all] at hzs
    exact ⟨_, rfl, qq L zs H1 s1 hL hL1 hzs⟩
def spStInit (C : Addr) : Sp := fun vs H Q _ => ∃ (a c dx : Addr) (rs : List (Int × Str × Pa)), vs = [.ref a, .ref c] ∧ H a = some (.ins C dx []) ∧ ChR H c rs ∧ (∀ r ∈ rs, r.2.2.nk ≤ 1 ∧ ∀ x ∈ r.2.2.tags, PyData.strOk x = true) ∧
  ∀ (H' : Hp) (dk Bl : Addr), KeepX [a] H H' → H dk = none → H Bl = none → StAt C H' a dk Bl [] (knOf rs) [] 0 → Q .non H'
theorem knOf_in {rs : List (Int × Str × Pa)} {i : Int} {t : Str} {p : Pa} : knOf rs i t = some p → ∃ r ∈ rs, r.1 = i ∧ r.2.1 = t ∧ r.2.2 = p := by
  have go : ∀ (rs : List (Int × Str × Pa)) (f : Kn), rs.foldl knPut f i t = some p → f i t = some p ∨ ∃ r ∈ rs, r.1 = i ∧ r.2.1 = t ∧ r.2.2 = p := by
    intro rs
    induction rs with
    | nil => exact fun f h => .inl h
    | cons r rs ih =>
      intro f h
      rcases ih (knPut f r) h with h | ⟨r', hr, e⟩
      · unfold knPut at h
        by_cases c : i = r.1 ∧ t = r.2.1
        · rw [if_pos c] at h
          injection h with h
          exact .inr ⟨r, List.mem_cons_self .., c.1.symm, c.2.symm, h⟩
        · rw [if_neg c] at h
          exact .inl h
      · exact .inr ⟨r', List.mem_cons_of_mem _ hr, e⟩
  intro h
  rcases go rs _ h with h | h
  · cases h
  · exact h
set_option maxHeartbeats 2000000 in
theorem ok_Stream___init__ {C : Addr} (B : ∀ x ∈ blts, mg x = none) (c_Stream : StC K C) (g_straight : Has P w K mg base "straight" ["changer"] 24 spStraight) (g_parts_by_rule : Has P w K mg base "parts_by_rule" ["changer"] 1 spByRule) (F : Fun K "__init__" "Stream.__init__" s_Stream___init__ f fd) : FnOk P w K mg base CX0 25 f fd ["self", "changer"] (spStInit C) := by
  refine F.ok sc_Stream___init__ (fun vs H Q E h => ?_) (fun cdv A outer s H vs Q E hr h => ?_)
  · obtain ⟨a, c, dx, rs, rfl, _⟩ := h
    rfl
  obtain ⟨a, c, dx, rs, rfl, hA, hC, hrs, qq⟩ := h
  refine ⟨_, (pss_cons (ps_if (pt_not (pt_truth (pe_has g_straight hr rfl (pa_cons (pv 1) pa_nil)) (fun _ => rfl)))
      (pss_one ps_never)
      pss_nil)
    (pss_cons (ps_fld (pv 0) (pe_has g_parts_by_rule hr rfl (pa_cons (pv 1) pa_nil)) rfl)
    (pss_cons (ps_fld (pv 0) pe_int rfl)
    (pss_one (ps_fld (pv 0) (pe_lst pa_nil) rfl))))), ?_⟩
  refine ⟨_, rfl, c, rs, rfl, hC, fun H1 s1 => ⟨true, ?_, iteF ?_⟩⟩
  · show true = _
    symm
    rw [List.all_eq_true]
    exact fun r hr => decide_eq_true (hrs r hr).1
  refine ⟨_, rfl, c, rs, rfl, hC.tk s1.tk, fun dk m H2 s2 hdk hdk2 hkn => ?_⟩
  have s12 := s1.trans s2
  have hA2 := s12 _ _ hA
  have ndk : dk ≠ a := fun z => by rw [z, s1 _ _ hA] at hdk; cases hdk
  refine ⟨_, rfl, a, C, dx, _, rfl, hA2, c_Stream.cls, c_Stream.n1, by decide, ?_⟩
  refine ⟨_, rfl, a, C, dx, _, rfl, upd_same, c_Stream.cls, c_Stream.n2, (show 1 < 1000 by decide), ?_⟩
  rw [upd_upd]
  refine ⟨by decide, fun Bl hBg => ?_⟩
  obtain ⟨nBa, hBg2⟩ := upd_none hBg
  refine ⟨_, rfl, a, C, dx, putF "taken" (.int 0) (putF "known" (.ref dk) []), rfl, by rw [upd_ne nBa.symm]; exact upd_same, c_Stream.cls, c_Stream.n3, (show 2 < 1000 by decide), ?_⟩
  have x9 : (upd (upd (upd H2 a (.ins C dx (putF "taken" (.int 0) (putF "known" (.ref dk) [])))) Bl (.lst [])) a (.ins C dx (putF "begun" (.ref Bl) (putF "taken" (.int 0) (putF "known" (.ref dk) []))))) a = some (.ins C dx (stF dk Bl 0)) := by
    rw [upd_same]
    rfl
  have k9 : KeepX [a] H2 (upd (upd (upd H2 a (.ins C dx (putF "taken" (.int 0) (putF "known" (.ref dk) [])))) Bl (.lst [])) a (.ins C dx (putF "begun" (.ref Bl) (putF "taken" (.int 0) (putF "known" (.ref dk) []))))) := fun b o hb e => by
    have hb' : b ≠ a := fun z => hb (List.mem_singleton.mpr z)
    rw [upd_ne hb', upd_ne (ne_of_none e hBg2), upd_ne hb']
    exact e
  have b9 : (upd (upd (upd H2 a (.ins C dx (putF "taken" (.int 0) (putF "known" (.ref dk) [])))) Bl (.lst [])) a (.ins C dx (putF "begun" (.ref Bl) (putF "taken" (.int 0) (putF "known" (.ref dk) []))))) Bl = some (.lst []) := by
    rw [upd_ne nBa]
    exact upd_same
  have tk9 : TK H2 (upd (upd (upd H2 a (.ins C dx (putF "taken" (.int 0) (putF "known" (.ref dk) [])))) Bl (.lst [])) a (.ins C dx (putF "begun" (.ref Bl) (putF "taken" (.int 0) (putF "known" (.ref dk) []))))) := fun b xs e => k9 b _ (fun z => by rw [List.mem_singleton.mp z, hA2] at e; cases e) e
  refine qq _ dk Bl (fun b o hb e => k9 b o hb (s12 _ _ e)) (s1.free hdk) (s12.free hBg2) ⟨⟨fun i t p h => ?_, fun i t p h => ?_, fun i t p h => ?_⟩, ⟨dx, x9⟩, ⟨m, k9 _ _ (fun z => ndk (List.mem_singleton.mp z)) hdk2, hkn.tk tk9⟩, ⟨[], b9, .nil⟩, by simp, fun _ h => (nomatch h)⟩
  · obtain ⟨r, hr, _, _, rfl⟩ := knOf_in h
    exact (hrs r hr).1
  · obtain ⟨r, hr, _, _, rfl⟩ := knOf_in h
    obtain ⟨_, _, _, _, _, _, _, h5⟩ := hC
    exact h5 r hr
  · obtain ⟨r, hr, _, _, rfl⟩ := knOf_in h
    exact (hrs r hr).2
/-- a new open tag -/
def spBegin (C : Addr) : Sp := fun vs H Q _ => ∃ (a dk Bl : Addr) (ls : List Addr) (kn : Kn) (bs : Bg) (n : Int) (m : Option Int) (t : Str), vs = [.ref a, moV m, .str t] ∧ StAt C H a dk Bl ls kn bs n ∧ bs.length ≤ 900 ∧ PyData.strOk t = true ∧
  ∀ (r l : Addr) (H' : Hp), KeepX [Bl] H H' → H r = none → H l = none → r ≠ l → H' r = some (.lst ((rlS kn m t).1.map V.str)) → StAt C H' a dk Bl (ls ++ [l]) kn (bs ++ [(rlS kn m t).2]) n → Q (.ref r) H'
theorem rls_some {kn : Kn} (ok : KnOk kn) {m : Int} {t : Str} (ht : PyData.strOk t = true) : (paD kn m t).nk ≤ 1 ∧ (paD kn m t).sz ≤ 20 ∧ (∀ x ∈ (paD kn m t).tags, PyData.strOk x = true) ∧ rlS kn (some m) t = cutW (paD kn m t).spl := by
  unfold paD
  show _ ∧ _ ∧ _ ∧ (match kn m t with | none => ([t], some m, [SL]) | some p => cutW p.spl) = _
  cases h : kn m t with
  | none =>
    refine ⟨(show 1 ≤ 1 by decide), (show 2 ≤ 20 by decide), fun x hx => ?_, rfl⟩
    have : x = t := by simpa [Pa.tags] using hx
    rw [this]
    exact ht
  | some p => exact ⟨ok.one _ _ _ h, ok.sz _ _ _ h, ok.ok _ _ _ h, rfl⟩
theorem spl_ok : ∀ {p : Pa}, (∀ x ∈ p.tags, PyData.strOk x = true) → ∀ s : Str, Sum.inl s ∈ p.spl → PyData.strOk s = true
  | .nil, _, s, h => by cases h
  | .kids m o, hp, s, h => by
    rcases List.mem_cons.mp h with h | h
    · cases h
    · exact spl_ok (p := o) hp s h
  | .tag t w o, hp, s, h => by
    rcases List.mem_cons.mp h with h | h
    · injection h with h
      rw [h]
      exact hp t (List.mem_cons_self ..)
    · rcases List.mem_append.mp h with h | h
      · exact spl_ok (p := w) (fun x hx => hp x (List.mem_cons_of_mem _ (List.mem_append_left _ hx))) s h
      · rcases List.mem_cons.mp h with h | h
        · injection h with h
          rw [h]
          exact sl_ok
        · exact spl_ok (p := o) (fun x hx => hp x (List.mem_cons_of_mem _ (List.mem_append_right _ hx))) s h
set_option maxHeartbeats 4000000 in
theorem ok_Stream_take_begin {C : Addr} (B : ∀ x ∈ blts, mg x = none) (c_Stream : StC K C) (g_parts_for : Has P w K mg base "parts_for" ["known", "mode", "tag"] 1 spPartsFor) (g_words_of_parts : Has P w K mg base "words_of_parts" ["parts"] 22 (spWordsP 22)) (g_kids_in : Has P w K mg base "kids_in" ["parts"] 23 (spKidsIn 22)) (F : Fun K "take_begin" "Stream.take_begin" s_Stream_take_begin f fd) : FnOk P w K mg base CX0 24 f fd ["self", "mode", "tag"] (spBegin C) := by
  refine F.ok sc_Stream_take_begin (fun vs H Q E h => ?_) (fun cdv A outer s H vs Q E hr h => ?_)
  · obtain ⟨a, dk, Bl, ls, kn, bs, n, m, t, rfl, _⟩ := h
    rfl
  obtain ⟨a, dk, Bl, ls, kn, bs, n, m, t, rfl, hS, hbl, hto, qq⟩ := h
  have hu := hu_room hr
  have hu20 : (A.deeper (PyProof.Rows.envOfC (Str.ofString "Stream.take_begin") (defScope s_Stream_take_begin) s.heap.objs.size f cdv)).units + 20 < cLine := by (first | lia | omega)
  obtain ⟨dx, h1⟩ := hS.ho
  obtain ⟨km, h2, h3⟩ := hS.hk
  obtain ⟨zs, h4, h5⟩ := hS.hb
  have hzl := h5.len.1
  refine ⟨_, (pss_cons (ps_if (pt_cmpR op_isN (pv 1) pe_non (nomark _))
      (pss_cons (ps_expr (pe_bm PySem.F.plainAttrs_list PySem.F.slot_list_append PySem.F.type_list_append mt_append (pe_fld (pv 0) rfl) (pa_cons (pe_tup (pa_cons pe_non (pa_cons (pe_lst pa_nil) pa_nil))) pa_nil)))
        (pss_one (ps_ret (pe_lst pa_nil))))
      pss_nil)
    (pss_cons (ps_set (i := 3) sc_Stream_take_begin.nd rfl (Or.inl rfl) (pe_has g_parts_for hr rfl (pa_cons (pe_fld (pv 0) rfl) (pa_cons (pv 1) (pa_cons (pv 2) pa_nil)))))
    (pss_cons (ps_set (i := 4) sc_Stream_take_begin.nd rfl (Or.inl rfl) (pe_has g_words_of_parts hr rfl (pa_cons (pv 3) pa_nil)))
    (pss_cons (ps_set (i := 5) sc_Stream_take_begin.nd rfl (Or.inl rfl) (pe_has g_kids_in hr rfl (pa_cons (pv 3) pa_nil)))
    (pss_cons (ps_if (pt_not (pt_truth (pv 5) (fun _ => rfl)))
      (pss_cons (ps_expr (pe_bm PySem.F.plainAttrs_list PySem.F.slot_list_append PySem.F.type_list_append mt_append (pe_fld (pv 0) rfl) (pa_cons (pe_tup (pa_cons pe_non (pa_cons (pe_lst pa_nil) pa_nil))) pa_nil)))
        (pss_one (ps_ret (pv 4))))
      pss_nil)
    (pss_cons (ps_set (i := 6) sc_Stream_take_begin.nd rfl (Or.inl rfl) (pe_bm PySem.F.plainAttrs_list PySem.F.slot_list_index PySem.F.type_list_index (mt_indexT hu20 (K := K) rfl) (pv 4) (pa_cons (pe_ix ix_list (pv 5) pe_int (fun _ _ => rfl)) pa_nil)))
    (pss_cons (ps_expr (pe_bm PySem.F.plainAttrs_list PySem.F.slot_list_append PySem.F.type_list_append mt_append (pe_fld (pv 0) rfl) (pa_cons (pe_tup (pa_cons (pe_ix ix_tup (pe_ix ix_list (pv 5) pe_int (fun _ _ => rfl)) pe_int (fun _ _ => rfl)) (pa_cons (pe_slice sl_list (pv 4) (po_some (pe_op op_add (pv 6) pe_int)) po_none) pa_nil))) pa_nil)))
    (pss_one (ps_ret (pe_slice sl_list (pv 4) po_none (po_some (pv 6)))))))))))), ?_⟩
  -- a new open tag of which nothing comes
  have new0 : ∀ (H1 : Hp), Same H H1 → ∀ l, H1 l = none → ∀ t', (upd H1 l (.lst [])) t' = none → StAt C (upd (upd (upd H1 l (.lst [])) t' (.tup [.non, .ref l])) Bl (.lst (zs ++ [.ref t']))) a dk Bl (ls ++ [l]) kn (bs ++ [(none, [])]) n ∧ KeepX [Bl] H (upd (upd (upd H1 l (.lst [])) t' (.tup [.non, .ref l])) Bl (.lst (zs ++ [.ref t']))) := fun H1 s1 l hl t' ht' => by
    obtain ⟨ntl, ht0⟩ := upd_none ht'
    have s2 : Same H (upd (upd H1 l (.lst [])) t' (.tup [.non, .ref l])) := (s1.upd_new (s1.free hl)).upd_new (s1.free ht0)
    refine ⟨(hS.same s2).opened (b := (none, [])) (s2 _ _ h4) upd_same (by rw [upd_ne ntl.symm]; exact upd_same) (hS.free (s1.free hl)) (fun _ h => nomatch h), fun b o hb e => ?_⟩
    rw [upd_ne (fun z => hb (List.mem_singleton.mpr z))]
    exact s2 _ _ e
  cases m with
  | none =>
    refine ⟨_, rfl, rfl, _, rfl, iteT ?_⟩
    refine ⟨_, rfl, a, C, dx, _, _, rfl, h1, c_Stream.cls, c_Stream.n3, rfl, .inl ⟨rfl, _, SqL.of h4⟩, by decide, fun l hl => ⟨(by show 2 ≤ sizeLine; decide), fun t' ht' => ?_⟩⟩
    obtain ⟨ntl, ht0⟩ := upd_none ht'
    have s2 : Same H (upd (upd H l (.lst [])) t' (.tup [.non, .ref l])) := (Same.new hl).upd_new ht0
    refine ⟨Bl, _, _, rfl, rfl, s2 _ _ h4, len1000' (by (first | lia | omega)), ?_⟩
    refine ⟨by decide, fun r hr' => ?_⟩
    obtain ⟨g1, g2⟩ := new0 H (Same.refl H) l hl t' ht'
    have hrB := upd_none hr'
    obtain ⟨nrB, hr1⟩ := upd_none hr'
    obtain ⟨nrt, hr2⟩ := upd_none hr1
    obtain ⟨nrl, hr3⟩ := upd_none hr2
    have s9 := Same.new (o := .lst []) hr'
    exact qq r l _ (fun b o hb e => s9 _ _ (g2 b o hb e)) hr3 hl nrl upd_same (g1.same s9)
  | some m =>
    obtain ⟨r1, r2, r3, r4⟩ := rls_some hS.ok (m := m) hto
    have hdp := (paD kn m t).dep_le
    refine ⟨_, rfl, rfl, _, rfl, iteF ?_⟩
    refine ⟨_, rfl, a, C, dx, _, _, rfl, h1, c_Stream.cls, c_Stream.n1, rfl, _, rfl, _, rfl, dk, km, kn, m, t, rfl, h2, h3, fun q ys H1 s1 hq hP => ?_⟩
    refine ⟨_, rfl, q, ys, _, rfl, hq, hP, by (first | lia | omega), by (first | lia | omega), fun W ws H2 s2 hW0 hW2 hWd => ?_⟩
    refine ⟨_, rfl, q, ys, _, rfl, s2 _ _ hq, hP.mono s2.tk, by (first | lia | omega), by (first | lia | omega), fun kd kz H3 s3 hkd0 hkd3 hKd => ?_⟩
    have s13 := (s1.trans s2).trans s3
    have hW3 := s3 _ _ hW2
    have hWd3 := hWd.tk s3.tk
    have hwl := Paired.length hWd
    have hsl := (paD kn m t).spl_len
    by_cases c : (paD kn m t).nk = 0
    · obtain ⟨ts, e1, e2⟩ := (spl_cut (paD kn m t)).1 c
      rw [e1, cutW_none] at r4
      rw [e1] at hWd3
      obtain rfl := hWd3.to
      rw [e2] at hKd
      cases hKd
      refine ⟨_, rfl, _, .inl ⟨[], SqL.of hkd3, rfl⟩, iteT ?_⟩
      refine ⟨_, rfl, a, C, dx, _, _, rfl, s13 _ _ h1, c_Stream.cls, c_Stream.n3, rfl, .inl ⟨rfl, _, SqL.of (s13 _ _ h4)⟩, by decide, fun l hl => ⟨(by show 2 ≤ sizeLine; decide), fun t' ht' => ?_⟩⟩
      obtain ⟨ntl, ht0⟩ := upd_none ht'
      have s2' : Same H (upd (upd H3 l (.lst [])) t' (.tup [.non, .ref l])) := (s13.upd_new (s13.free hl)).upd_new (s13.free ht0)
      refine ⟨Bl, _, _, rfl, rfl, s2' _ _ h4, len1000' (by (first | lia | omega)), ?_⟩
      obtain ⟨g1, g2⟩ := new0 H3 s13 l hl t' ht'
      have nWl : W ≠ l := ne_of_none hW3 hl
      have nWt : W ≠ t' := ne_of_none hW3 ht0
      have nWB : W ≠ Bl := fun z => by
        have := (s1 _ _ h4)
        rw [← z, hW0] at this
        cases this
      refine ⟨_, rfl, qq W l _ g2 (s1.free hW0) (s13.free hl) nWl ?_ ?_⟩
      · rw [r4, upd_ne nWB, upd_ne nWt, upd_ne nWl]
        exact hW3
      · rw [r4]
        exact g1
    · obtain ⟨ta, tb, mk, e1, e2⟩ := (spl_cut (paD kn m t)).2 (by (first | lia | omega))
      have oka : ∀ x ∈ ta, PyData.strOk x = true := fun x hx => spl_ok r3 x (by rw [e1]; exact List.mem_append_left _ (List.mem_map.mpr ⟨x, hx, rfl⟩))
      have okb : ∀ x ∈ tb, PyData.strOk x = true := fun x hx => spl_ok r3 x (by rw [e1]; exact List.mem_append_right _ (List.mem_cons_of_mem _ (List.mem_map.mpr ⟨x, hx, rfl⟩)))
      rw [e1, cutW_some] at r4
      rw [e1] at hWd3 hsl hwl
      rw [List.length_append, List.length_cons, List.length_map, List.length_map] at hsl hwl
      rw [e2] at hKd
      -- the words, cut
      have cutA : ∀ {ta : List Str} {ws : List V}, WdL H3 ws (ta.map Sum.inl ++ .inr mk :: tb.map Sum.inl) → ∃ k, ws = ta.map V.str ++ .ref k :: tb.map V.str ∧ H3 k = some (.tup [.str "kids", .int mk]) := by
        intro ta
        induction ta with
        | nil =>
          intro ws h
          cases h with
          | cons r t =>
            obtain ⟨k, e, hk⟩ := r
            have ht : WdL H3 _ (tb.map Sum.inl) := t
            exact ⟨k, by rw [e, ht.to]; rfl, hk⟩
        | cons x ta ih =>
          intro ws h
          cases h with
          | cons r t =>
            obtain ⟨k, e, hk⟩ := ih t
            have e0 : _ = V.str x := r
            exact ⟨k, by rw [e0, e]; rfl, hk⟩
      obtain ⟨k, rfl, hk⟩ := cutA hWd3
      cases hKd with
      | cons r rt =>
        cases rt
        obtain ⟨ka, rfl, hka⟩ := r
        refine ⟨_, rfl, _, .inl ⟨[.ref ka], SqL.of hkd3, rfl⟩, iteF ?_⟩
        have dpk : ∀ x, H3 x = some (.tup [.str "kids", .int mk]) → Dp K H3 (.ref x) (.tuple [.str "kids", .int mk]) := fun x hx => .tup (SqT.of hx) (.cons (.str _) (.cons (.int _) .nil))
        refine ⟨_, rfl, .inl ⟨rfl, _, SqL.of hW3⟩, _, rfl, kd, _, 0, _, rfl, rfl, SqL.of hkd3, rfl, W, ka, k, ta, tb.map V.str, _, rfl, rfl, SqL.of hW3, by rw [List.length_map]; (first | lia | omega), fun b hb => ?_, oka, dpk k hk, dpk ka hka, kids_lay mk, (show (1 : Nat) ≤ 8 by decide), ?_⟩
        · obtain ⟨x, hx, rfl⟩ := List.mem_map.mp hb
          exact ⟨x, rfl, okb x hx⟩
        refine ⟨_, rfl, a, C, dx, _, _, rfl, s13 _ _ h1, c_Stream.cls, c_Stream.n3, rfl, .inl ⟨rfl, _, SqL.of (s13 _ _ h4)⟩, _, rfl, kd, _, 0, _, rfl, rfl, SqL.of hkd3, rfl, ka, _, 1, _, rfl, rfl, SqT.of hka, rfl, _, rfl, _, rfl, _, _, rfl, rfl, _, rfl, W, _, rfl, SqL.of hW3, fun l hl => ?_⟩
        have cb : cutV (ta.map V.str ++ .ref k :: tb.map V.str) (some ((ta.length : Int) + 1)) none = tb.map V.str := by
          have := cut_from (ta.map V.str ++ .ref k :: tb.map V.str) (ta.length + 1)
          rw [show ((ta.length + 1 : Nat) : Int) = (ta.length : Int) + 1 from rfl] at this
          rw [this, List.drop_append, List.drop_eq_nil_of_le (by rw [List.length_map]; (first | lia | omega)), List.length_map, show ta.length + 1 - ta.length = 1 by (first | lia | omega)]
          rfl
        have ca : cutV (ta.map V.str ++ .ref k :: tb.map V.str) none (some (ta.length : Int)) = ta.map V.str := by
          rw [cut_upto, List.take_append, List.take_of_length_le (by rw [List.length_map]; (first | lia | omega)), List.length_map, Nat.sub_self]
          exact List.append_nil _
        refine ⟨(by show 2 ≤ sizeLine; decide), fun t' ht' => ?_⟩
        rw [cb] at ht' ⊢
        obtain ⟨ntl, ht0⟩ := upd_none ht'
        have s4 : Same H (upd (upd H3 l (.lst (tb.map V.str))) t' (.tup [.int mk, .ref l])) := (s13.upd_new (s13.free hl)).upd_new (s13.free ht0)
        refine ⟨Bl, _, _, rfl, rfl, s4 _ _ h4, len1000' (by (first | lia | omega)), ?_⟩
        have g1 := (hS.same s4).opened (b := (some mk, tb)) (s4 _ _ h4) (show (upd (upd H3 l (.lst (tb.map V.str))) t' (.tup [.int mk, .ref l])) t' = some (.tup [.int mk, .ref l]) from upd_same) (by rw [upd_ne ntl.symm]; exact upd_same) (hS.free (s13.free hl)) okb
        have nWl : W ≠ l := ne_of_none hW3 hl
        have nWt : W ≠ t' := ne_of_none hW3 ht0
        have nWB : W ≠ Bl := fun z => by
          have := (s1 _ _ h4)
          rw [← z, hW0] at this
          cases this
        have hW5 : (upd (upd (upd H3 l (.lst (tb.map V.str))) t' (.tup [.int mk, .ref l])) Bl (.lst (zs ++ [.ref t']))) W = some (.lst (ta.map V.str ++ .ref k :: tb.map V.str)) := by
          rw [upd_ne nWB, upd_ne nWt, upd_ne nWl]
          exact hW3
        refine ⟨_, rfl, _, rfl, _, rfl, W, _, rfl, SqL.of hW5, fun r hr' => ?_⟩
        rw [ca]
        have s9 := Same.new (o := .lst (ta.map V.str)) hr'
        obtain ⟨nrB, hr1⟩ := upd_none hr'
        obtain ⟨nrt, hr2⟩ := upd_none hr1
        obtain ⟨nrl, hr3⟩ := upd_none hr2
        refine qq r l _ (fun b o hb e => s9 _ _ ?_) (s13.free hr3) (s13.free hl) nrl ?_ ?_
        · rw [upd_ne (fun z => hb (List.mem_singleton.mpr z))]
          exact s4 _ _ e
        · rw [r4, upd_same]
        · rw [r4]
          exact g1.same s9
/-- what is owed -/
def spOwed (C : Addr) : Sp := fun vs H Q _ => ∃ (a dk Bl : Addr) (ls : List Addr) (kn : Kn) (bs : Bg) (n : Int), vs = [.ref a] ∧ StAt C H a dk Bl ls kn bs n ∧ bs.length ≤ 900 ∧ (owedB bs).length ≤ 90000 ∧
  ∀ (r : Addr) (H' : Hp), Same H H' → H r = none → H' r = some (.lst ((owedB bs).map V.str)) → Q (.ref r) H'
theorem BgL.at {H : Hp} : ∀ {zs : List V} {ls : List Addr} {bs : Bg}, BgL H zs ls bs → ∀ (i : Nat) z, zs[i]? = some z → ∃ l b, bs[i]? = some b ∧ BgV H z l b
  | _, _, _, .cons r t, i, z, hz => by
    cases i with
    | zero =>
      injection hz with hz
      subst hz
      exact ⟨_, _, rfl, r⟩
    | succ i => exact BgL.at t i z hz
set_option maxHeartbeats 2000000 in
theorem ok_Stream_owed {C : Addr} (B : ∀ x ∈ blts, mg x = none) (c_Stream : StC K C) (F : Fun K "owed" "Stream.owed" s_Stream_owed f fd) : FnOk P w K mg base CX0 1 f fd ["self"] (spOwed C) := by
  refine F.ok sc_Stream_owed (fun vs H Q E h => ?_) (fun cdv A outer s H vs Q E hr h => ?_)
  · obtain ⟨a, dk, Bl, ls, kn, bs, n, rfl, _⟩ := h
    rfl
  obtain ⟨a, dk, Bl, ls, kn, bs, n, rfl, hS, hbl, hol, qq⟩ := h
  obtain ⟨dx, h1⟩ := hS.ho
  obtain ⟨zs, h4, h5⟩ := hS.hb
  have hzl := h5.len.1
  refine ⟨_, (pss_cons (ps_set (i := 1) sc_Stream_owed.nd rfl (Or.inl rfl) (pe_lst pa_nil))
    (pss_cons (ps_for PassesOwn.never rfl (pi_list (pe_revL (pe_fld (pv 0) rfl))) (pg_tup rfl (pgs_cons (pg_name (i := 2) sc_Stream_owed.nd rfl (Or.inl rfl)) (pgs_cons (pg_name (i := 3) sc_Stream_owed.nd rfl (Or.inl rfl)) pgs_nil)))
      (pss_one (ps_expr (pe_bm PySem.F.plainAttrs_list PySem.F.slot_list_extend PySem.F.type_list_extend mt_extend (pv 1) (pa_cons (pv 3) pa_nil)))))
    (pss_one (ps_ret (pv 1))))), ?_⟩
  refine ⟨by decide, fun L hL => ?_⟩
  have s0 : Same H (upd H L (.lst [])) := Same.new hL
  refine ⟨_, rfl, a, C, dx, _, _, rfl, s0 _ _ h1, c_Stream.cls, c_Stream.n3, rfl, Bl, zs, rfl, SqL.of (s0 _ _ h4), fun rv hrv => ?_⟩
  obtain ⟨nrL, hrv0⟩ := upd_none hrv
  have s1 : Same H (upd (upd H L (.lst [])) rv (.lst zs.reverse)) := s0.upd_new hrv0
  refine ⟨rv, rfl, ⟨_, SqL.of upd_same⟩, for_list (K := K) (a := rv) (xs := zs.reverse) (fun i σ H1 => ∃ (v2 v3 : Option V), σ = [some (.ref a), some (.ref L), v2, v3] ∧ Same H H1 ∧ H1 rv = some (.lst zs.reverse) ∧ H1 L = some (.lst (((bs.reverse.take i).map (·.2)).flatten.map V.str)))
    ⟨none, none, rfl, s1, upd_same, by rw [upd_ne nrL.symm]; exact upd_same⟩ ?_ ?_ ?_⟩
  · rintro i σ H1 _ ⟨_, _, _, _, h, _⟩
    exact SqL.of h
  · rintro i x σ H1 hx ⟨v2, v3, rfl, s2, hrv2, hL2⟩
    have hil := (List.getElem?_eq_some_iff.mp hx).1
    rw [List.length_reverse] at hil
    rw [List.getElem?_reverse hil] at hx
    obtain ⟨l, b, hb, tb, rfl, g1, g2⟩ := BgL.at h5 _ x hx
    have hb' : bs.reverse[i]? = some b := by
      rw [List.getElem?_reverse (by (first | lia | omega)), ← hzl]
      exact hb
    refine ⟨tb, _, rfl, SqT.of (s2 _ _ g1), rfl, _, _, rfl, _, _, rfl, rfl, ?_⟩
    have hlen : (((bs.reverse.take i).map (·.2)).flatten.map V.str).length + (b.2.map V.str).length ≤ 90000 := by
      rw [List.length_map, List.length_map]
      have e : (((bs.reverse.take (i + 1)).map (·.2)).flatten).length ≤ (owedB bs).length := by
        unfold owedB
        have := List.take_append_drop (i + 1) bs.reverse
        rw [← this, List.map_append, List.flatten_append, List.length_append, this]
        (first | lia | omega)
      rw [take_succ' hb', List.map_append, List.flatten_append, List.length_append] at e
      simp only [List.map_cons, List.map_nil, List.flatten_cons, List.flatten_nil, List.append_nil] at e
      (first | lia | omega)
    refine ⟨_, rfl, .inl ⟨rfl, _, SqL.of hL2⟩, _, rfl, L, l, _, _, rfl, rfl, hL2, s2 _ _ g2, len1000 (by (first | lia | omega)), ?_⟩
    refine ⟨_, _, rfl, s2.upd_new hL, ?_, ?_⟩
    · rw [upd_ne nrL]
      exact hrv2
    · rw [upd_same, take_succ' hb', List.map_append, List.flatten_append, List.map_append]
      simp
  · rintro σ H1 ⟨v2, v3, rfl, s2, hrv2, hL2⟩
    rw [List.length_reverse, hzl, ← List.length_reverse, List.take_length] at hL2
    exact ⟨_, rfl, qq L H1 s2 hL hL2⟩
theorem last_of {α : Type} {l : List α} (h : l ≠ []) : ∃ l' x, l = l' ++ [x] := ⟨l.dropLast, l.getLast h, (List.dropLast_concat_getLast h).symm⟩
theorem cutW_len : ∀ l : List (Str ⊕ Int), (cutW l).1.length + (cutW l).2.2.length ≤ l.length
  | [] => Nat.le_refl _
  | .inl s :: r => by have := cutW_len r; simp only [cutW, List.length_cons]; (first | lia | omega)
  | .inr m :: r => by
    have := List.length_filterMap_le Sum.getLeft? r
    simp only [cutW, List.length_cons, List.length_nil]
    (first | lia | omega)
theorem rlS_len {kn : Kn} (ok : KnOk kn) (m : Option Int) (t : Str) : (rlS kn m t).1.length + (rlS kn m t).2.2.length ≤ 41 := by
  cases m with
  | none => exact Nat.zero_le _
  | some i =>
    show (match kn i t with | none => ([t], some i, [SL]) | some p => cutW p.spl).1.length + (match kn i t with | none => ([t], some i, [SL]) | some p => cutW p.spl).2.2.length ≤ 41
    cases h : kn i t with
    | none => show (2 : Nat) ≤ 41; decide
    | some p =>
      have h1 := cutW_len p.spl
      have h2 := p.spl_len
      have h3 := ok.sz _ _ _ h
      show (cutW p.spl).1.length + (cutW p.spl).2.2.length ≤ 41
      (first | lia | omega)
theorem owedB_snoc (bs : Bg) (b : Option Int × List Str) : owedB (bs ++ [b]) = b.2 ++ owedB bs := by
  unfold owedB
  simp
theorem step_len {kn : Kn} (ok : KnOk kn) (bs : Bg) (w : Str) : (stepS kn bs w).1.length + (owedB (stepS kn bs w).2).length ≤ (owedB bs).length + 41 := by
  unfold stepS
  by_cases c : w = SL
  · rw [if_pos c]
    by_cases z : bs = []
    · subst z
      exact Nat.zero_le _
    · obtain ⟨bs', b, rfl⟩ := last_of z
      rw [List.getLast?_concat, List.dropLast_concat, owedB_snoc, List.length_append]
      show b.2.length + (owedB bs').length ≤ _
      (first | lia | omega)
  · rw [if_neg c]
    have := rlS_len ok (modeB bs) w
    rw [owedB_snoc, List.length_append]
    show (rlS kn (modeB bs) w).1.length + ((rlS kn (modeB bs) w).2.2.length + _) ≤ _
    (first | lia | omega)
theorem rls_ok {kn : Kn} (ok : KnOk kn) {m : Option Int} {t : Str} (ht : PyData.strOk t = true) : (∀ x ∈ (rlS kn m t).1, PyData.strOk x = true) ∧ ∀ x ∈ (rlS kn m t).2.2, PyData.strOk x = true := by
  cases m with
  | none => exact ⟨fun _ h => (nomatch h), fun _ h => (nomatch h)⟩
  | some m =>
    obtain ⟨r1, r2, r3, r4⟩ := rls_some ok (m := m) ht
    rw [r4]
    by_cases c : (paD kn m t).nk = 0
    · obtain ⟨ts, e1, e2⟩ := (spl_cut (paD kn m t)).1 c
      rw [e1, cutW_none]
      exact ⟨fun x hx => spl_ok r3 x (by rw [e1]; exact List.mem_map.mpr ⟨x, hx, rfl⟩), fun _ h => (nomatch h)⟩
    · obtain ⟨ta, tb, mk, e1, e2⟩ := (spl_cut (paD kn m t)).2 (by (first | lia | omega))
      rw [e1, cutW_some]
      exact ⟨fun x hx => spl_ok r3 x (by rw [e1]; exact List.mem_append_left _ (List.mem_map.mpr ⟨x, hx, rfl⟩)), fun x hx => spl_ok r3 x (by rw [e1]; exact List.mem_append_right _ (List.mem_cons_of_mem _ (List.mem_map.mpr ⟨x, hx, rfl⟩)))⟩
theorem step_ok {kn : Kn} (ok : KnOk kn) {bs : Bg} {t : Str} (ht : PyData.strOk t = true) (hb : ∀ b ∈ bs, ∀ x ∈ b.2, PyData.strOk x = true) : (∀ x ∈ (stepS kn bs t).1, PyData.strOk x = true) ∧ ∀ b ∈ (stepS kn bs t).2, ∀ x ∈ b.2, PyData.strOk x = true := by
  unfold stepS
  by_cases c : t = SL
  · rw [if_pos c]
    by_cases z : bs = []
    · subst z
      exact ⟨fun _ h => (nomatch h), fun _ h => (nomatch h)⟩
    · obtain ⟨bs', b, rfl⟩ := last_of z
      rw [List.getLast?_concat, List.dropLast_concat]
      exact ⟨hb b (List.mem_append_right _ (List.mem_singleton.mpr rfl)), fun c hc => hb c (List.mem_append_left _ hc)⟩
  · rw [if_neg c]
    obtain ⟨h1, h2⟩ := rls_ok ok (m := modeB bs) ht
    refine ⟨h1, fun b hb' => ?_⟩
    rcases List.mem_append.mp hb' with h | h
    · exact hb b h
    · rw [List.mem_singleton.mp h]
      exact h2
theorem owed_ok {bs : Bg} (hb : ∀ b ∈ bs, ∀ x ∈ b.2, PyData.strOk x = true) : ∀ x ∈ owedB bs, PyData.strOk x = true := fun x hx => by
  unfold owedB at hx
  obtain ⟨l, hl, hxl⟩ := List.mem_flatten.mp hx
  obtain ⟨b, hb', rfl⟩ := List.mem_map.mp hl
  exact hb b (List.mem_reverse.mp hb') x hxl
theorem step_hgt (kn : Kn) (bs : Bg) (t : Str) : (stepS kn bs t).2.length = if t = SL then bs.length - 1 else bs.length + 1 := by
  unfold stepS
  by_cases c : t = SL
  · rw [if_pos c, if_pos c]
    by_cases z : bs = []
    · subst z
      rfl
    · obtain ⟨bs', b, rfl⟩ := last_of z
      rw [List.getLast?_concat, List.dropLast_concat, List.length_append]
      rfl
  · rw [if_neg c, if_neg c, List.length_append]
    rfl
theorem eqD_lists {K : PySem.W.Frag} {H : Hp} {a b : Addr} {xs ys : List Str} {neg : Bool} {Q : VK} (hA : SqL K H a (xs.map V.str)) (hB : SqL K H b (ys.map V.str)) (o1 : OkW xs) (o2 : OkW ys) (q : Q (.bl (if neg then !decide (xs = ys) else decide (xs = ys))) H) : rEqD K neg (.ref a) (.ref b) H Q := eqn_lists (n := 200) hA hB o1 o2 (by decide) q
def spCellS (K : PySem.W.Frag) : Sp := fun vs H Q _ => ∃ (a : Addr) (ns : List Int) (k : Int), vs = [.ref a, .int k] ∧ SqL K H a (ns.map V.int) ∧ ns.length ≤ 63 ∧ 0 ≤ k ∧ k ≤ 1000 ∧ ∀ v : Int, Q (.int v) H
theorem ok_l_cell (B : ∀ x ∈ blts, mg x = none) (F : Fun K "_law_cell" "_law_cell" s_l_cell f fd) : FnOk P w K mg base CX0 1 f fd ["_law_script", "_law_k"] (spCellS K) := by
  refine F.ok sc_l_cell (fun vs H Q E h => ?_) (fun cdv A outer s H vs Q E hr h => ?_)
  · obtain ⟨a, ns, k, rfl, _⟩ := h
    rfl
  obtain ⟨a, ns, k, rfl, hS, h63, h0, hk, q⟩ := h
  refine ⟨_, (pss_cons (ps_if (pt_cmpR op_lt (pv 1) (pe_callB call_len_seq rfl (B "len" (by decide)) PySem.boot_len (pa_cons (pv 0) pa_nil)) (nomark _))
      (pss_one (ps_ret (pe_ix ix_list (pv 0) (pv 1) (fun _ _ => rfl))))
      pss_nil)
    (pss_cons (ps_set (i := 2) sc_l_cell.nd rfl (Or.inl rfl) (pe_op op_add (pe_op op_mul (pv 1) pe_int) pe_int))
    (pss_cons (ps_if (pt_cmpR op_gt (pe_callB call_len_seq rfl (B "len" (by decide)) PySem.boot_len (pa_cons (pv 0) pa_nil)) pe_int (nomark _))
      (pss_one (ps_set (i := 2) sc_l_cell.nd rfl (Or.inl rfl) (pe_op op_mod (pe_op op_add (pe_op op_mul (pe_ix ix_list (pv 0) (pe_op op_mod (pe_op op_mul (pv 1) pe_int) (pe_callB call_len_seq rfl (B "len" (by decide)) PySem.boot_len (pa_cons (pv 0) pa_nil))) (fun _ _ => rfl)) pe_int) (pe_op op_mul (pv 1) pe_int)) pe_int)))
      pss_nil)
    (pss_one (ps_ret (pe_op op_mod (pe_op op_mul (pv 2) (pv 2)) pe_int)))))), ?_⟩
  refine ⟨_, rfl, _, rfl, a, _, rfl, .inl hS, _, _, rfl, rfl, _, rfl, ite2 (fun c => ?_) (fun c => ?_)⟩
  · have c' := of_decide_eq_true c
    rw [List.length_map] at c'
    obtain ⟨v, hv⟩ := ints_at (ns := ns) h0 c'
    exact ⟨_, rfl, _, rfl, a, _, k, _, rfl, rfl, hS, hv, q _⟩
  · refine ⟨_, rfl, _, _, rfl, rfl, .inl ⟨by (first | lia | omega), by (first | lia | omega)⟩, _, _, rfl, rfl, ?_⟩
    refine ⟨_, rfl, a, _, rfl, .inl hS, _, _, rfl, rfl, _, rfl, ite2 (fun c2 => ?_) (fun c2 => ?_)⟩
    · have c2' : (0 : Int) < ((ns.map V.int).length : Nat) := of_decide_eq_true c2
      obtain ⟨v, hv⟩ := ints_at (ns := ns) (Int.emod_nonneg (k * 19) (Int.ne_of_gt c2')) (by have := Int.emod_lt_of_pos (k * 19) c2'; rw [List.length_map] at this ⊢; exact this)
      have m1 := Int.emod_nonneg (v * 48271 + k * 1499) (by decide : (2147483647 : Int) ≠ 0)
      have m2 := Int.emod_lt_of_pos (v * 48271 + k * 1499) (by decide : (0 : Int) < 2147483647)
      refine ⟨_, rfl, _, rfl, _, _, rfl, rfl, .inl ⟨by (first | lia | omega), by (first | lia | omega)⟩, _, rfl, a, _, rfl, .inl hS, _, _, rfl, rfl, c2', a, _, _, _, rfl, rfl, hS, hv, _, _, rfl, rfl, .inr ⟨by decide, by decide⟩, _, rfl, _, _, rfl, rfl, .inl ⟨by (first | lia | omega), by (first | lia | omega)⟩, _, _, rfl, rfl, _, _, rfl, rfl, (by show (0 : Int) < 2147483647; decide), ?_⟩
      exact ⟨_, rfl, _, rfl, _, _, rfl, rfl, .inl ⟨by (first | lia | omega), by (first | lia | omega)⟩, _, _, rfl, rfl, (by show (0 : Int) < 2147483477; decide), q _⟩
    · exact ⟨_, rfl, _, rfl, _, _, rfl, rfl, .inl ⟨by (first | lia | omega), by (first | lia | omega)⟩, _, _, rfl, rfl, (by show (0 : Int) < 2147483477; decide), q _⟩
def spHeight (C : Addr) : Sp := fun vs H Q _ => ∃ (a dk Bl : Addr) (ls : List Addr) (kn : Kn) (bs : Bg) (n : Int), vs = [.ref a] ∧ StAt C H a dk Bl ls kn bs n ∧ Q (.int (bs.length : Int)) H
theorem ok_Stream_height {C : Addr} (B : ∀ x ∈ blts, mg x = none) (c_Stream : StC K C) (F : Fun K "height" "Stream.height" s_Stream_height f fd) : FnOk P w K mg base CX0 1 f fd ["self"] (spHeight C) := by
  refine F.ok sc_Stream_height (fun vs H Q E h => ?_) (fun cdv A outer s H vs Q E hr h => ?_)
  · obtain ⟨a, dk, Bl, ls, kn, bs, n, rfl, _⟩ := h
    rfl
  obtain ⟨a, dk, Bl, ls, kn, bs, n, rfl, hS, q⟩ := h
  obtain ⟨dx, h1⟩ := hS.ho
  obtain ⟨zs, h4, h5⟩ := hS.hb
  refine ⟨_, (pss_one (ps_ret (pe_callB call_len_seq rfl (B "len" (by decide)) PySem.boot_len (pa_cons (pe_fld (pv 0) rfl) pa_nil)))), ?_⟩
  refine ⟨_, rfl, a, C, dx, _, _, rfl, h1, c_Stream.cls, c_Stream.n3, rfl, Bl, zs, rfl, .inl (SqL.of h4), ?_⟩
  rw [h5.len.1]
  exact q
def one1 (c : Nat) : Str := ⟨#[c]⟩
theorem jn_ones : ∀ l : List Nat, jn "" (l.map one1) = l
  | [] => rfl
  | [c] => rfl
  | c :: d :: r => by
    show cs (one1 c) ++ (cs "" ++ jn "" ((d :: r).map one1)) = _
    rw [jn_ones (d :: r)]
    rfl
theorem join_ones (l : List Nat) : (Txt.join "" (l.map one1)).cps.toList = l := by
  have := cs_join "" (l.map one1)
  rw [jn_ones] at this
  exact this
theorem join_lets {l : List Nat} (h0 : l ≠ []) (hl : ∀ c ∈ l, 97 ≤ c ∧ c ≤ 122) : Lets (Txt.join "" (l.map one1)) ∧ (Txt.join "" (l.map one1)).length = l.length := by
  have e := join_ones l
  refine ⟨⟨by rw [e]; exact h0, fun c hc => ?_⟩, ?_⟩
  · rw [e] at hc
    exact hl c hc
  · have := congrArg List.length e
    rw [Array.length_toList] at this
    exact this
theorem sum_ones : ∀ l : List Nat, ((l.map one1).map (·.length)).sum = l.length
  | [] => rfl
  | c :: l => by
    rw [List.map_cons, List.map_cons, List.sum_cons, sum_ones l, List.length_cons]
    show 1 + _ = _
    (first | lia | omega)
theorem cut_to {z : Str} {n : Nat} (h : n ≤ z.length) : cs (PySem.StrLaws.sliceText z none (some (n : Int))) = (cs z).take n := by
  have hl : z.cps.toList.length = z.length := Array.length_toList
  rw [PySem.StrLaws.sliceText_to (x := z) (j := (n : Int)) ⟨by (first | lia | omega), by rw [hl]; (first | lia | omega)⟩]
  show (((z.cps.toList.drop 0).take ((n : Int) - 0).toNat).toArray).toList = _
  rw [List.toList_toArray, List.drop_zero, Int.sub_zero, Int.toNat_natCast]
  rfl
theorem from_clamp {z : Str} {i : Int} (h : (z.length : Int) ≤ i) : PySem.StrLaws.sliceText z (some i) none = PySem.StrLaws.sliceText z (some (z.length : Int)) none := by
  have a : ¬ (i < 0) := by (first | lia | omega)
  have b : ¬ ((z.length : Int) < 0) := by (first | lia | omega)
  have e1 : min i (z.length : Int) = z.length := by (first | lia | omega)
  have e : Builtin.Str.strSliceIndices (some i) none 1 z.length = Builtin.Str.strSliceIndices (some (z.length : Int)) none 1 z.length := by
    simp [Builtin.Str.strSliceIndices, a, b, e1]
  unfold PySem.StrLaws.sliceText
  rw [e]
theorem cut_fr (z : Str) (n : Nat) : cs (PySem.StrLaws.sliceText z (some (n : Int)) none) = (cs z).drop n := by
  have hl : z.cps.toList.length = z.length := Array.length_toList
  have key : ∀ m : Nat, m ≤ z.length → cs (PySem.StrLaws.sliceText z (some (m : Int)) none) = (cs z).drop m := fun m hm => by
    rw [PySem.StrLaws.sliceText_from (x := z) (i := (m : Int)) ⟨by (first | lia | omega), by rw [hl]; (first | lia | omega)⟩]
    unfold cs
    rw [List.toList_toArray, Int.toNat_natCast]
    apply List.take_of_length_le
    rw [List.length_drop]
    (first | lia | omega)
  by_cases h : n ≤ z.length
  · exact key n h
  · rw [from_clamp (by (first | lia | omega)), key _ (Nat.le_refl _)]
    have hc : (cs z).length = z.length := hl
    rw [List.drop_eq_nil_of_le (by (first | lia | omega)), List.drop_eq_nil_of_le (by (first | lia | omega))]
theorem cs_len (z : Str) : z.length = (cs z).length := Array.length_toList.symm
def spTag92 : Sp := fun vs H Q _ => ∃ c : Int, vs = [.int c] ∧ 0 ≤ c ∧ c < 1000000000 ∧ ∀ (t : Str) (H' : Hp), Same H H' → Lets t → t.length ≤ 8 → Q (.str t) H'
set_option maxHeartbeats 2000000 in
theorem ok_l_tag (B : ∀ x ∈ blts, mg x = none) (F : Fun K "_law_tag" "_law_tag" s_l_tag f fd) : FnOk P w K mg base CX0 1 f fd ["_law_cell_here"] spTag92 := by
  refine F.ok sc_l_tag (fun vs H Q E h => ?_) (fun cdv A outer s H vs Q E hr h => ?_)
  · obtain ⟨c, rfl, _⟩ := h
    rfl
  obtain ⟨c, rfl, c0, c9, q⟩ := h
  refine hideI ((defBody s_l_tag).drop 1) (pss_one (ps_ret (pe_bm PySem.F.plainAttrs_str PySem.F.slot_str_join PySem.F.type_str_join mt_join pe_str (pa_cons (pe_comp (cl := _) ["_law_k"] [("_law_cell_here", 0), ("_law_letters", 1)] (pi_range1 rfl (B "range" (by decide)) (pa_cons (pe_op op_add pe_int (pe_op op_mod (pv 0) pe_int)) pa_nil)) (fun _ _ _ _ => (pg_name (i := 0) (show List.Nodup (["_law_k", "_law_cell_here", "_law_letters"] : List Str) by decide) rfl (Or.inl rfl))) (fun _ _ _ _ => (pe_ix ix_str (pv 2) (pe_op op_mod (pe_op op_add (pe_op op_fdiv (pv 1) pe_int) (pe_op op_mul (pe_op op_mod (pe_op op_fdiv (pv 1) pe_int) pe_int) (pv 0))) pe_int) (fun _ _ => rfl))) rfl rfl (by decide) rfl (by decide) (cap_cl (by (repeat' first | exact List.forall_mem_nil _ | refine List.forall_mem_cons.mpr ⟨?_, ?_⟩) <;> rfl)) (cap_has (by (repeat' first | exact List.forall_mem_nil _ | refine List.forall_mem_cons.mpr ⟨?_, ?_⟩) <;> first | (intro h; exact ⟨_, rfl⟩) | (intro h; exact absurd h (by decide)))) (fun _ => by (repeat' first | exact List.forall_mem_nil _ | refine List.forall_mem_cons.mpr ⟨?_, ?_⟩) <;> exact ⟨rfl, rfl, Or.inl rfl⟩) (fun _ => rfl)) pa_nil)))) (fun u1 h1 e1 => ?_)
  refine hideI ((defBody s_l_tag).drop 0) (pss_cons (ps_set (i := 1) sc_l_tag.nd rfl (Or.inr rfl) pe_str) h1) (fun u0 h0 e0 => ?_)
  refine ⟨u0, h0, ?_⟩
  have m7 := Int.emod_nonneg c (by decide : (8 : Int) ≠ 0)
  have m7' := Int.emod_lt_of_pos c (by decide : (0 : Int) < 8)
  have m6 := Int.emod_nonneg (c / 26) (by decide : (7 : Int) ≠ 0)
  have m6' := Int.emod_lt_of_pos (c / 26) (by decide : (0 : Int) < 7)
  refine by_eq e0 ?_
  refine by_eq e1 ?_
  refine ⟨rfl, _, rfl, _, _, rfl, rfl, (by show (0 : Int) < 8; decide), _, _, rfl, rfl, _, rfl, by (first | lia | omega), by (first | lia | omega), fun pb hpb => ?_⟩
  refine comp_range (lo := 0) (n := (1 + c % 8).toNat) (p := pb) (fun i ys σ H2 => ∃ (v0 : Option V) (l : List Nat), σ = [v0, some (.int c), some (.str ABC)] ∧ Same H H2 ∧ H2 pb = some (.lst ys) ∧ ys = (l.map one1).map V.str ∧ l.length = i ∧ ∀ x ∈ l, 97 ≤ x ∧ x ≤ 122)
    ⟨none, [], rfl, Same.new hpb, upd_same, rfl, rfl, fun _ h => (nomatch h)⟩ ?_ ?_ ?_
  · rintro i ys σ H2 _ ⟨v0, l, _, _, h, _⟩
    exact h
  · rintro i ys σ H2 hi ⟨v0, l, rfl, sm, hp, rfl, hll, hls⟩
    obtain ⟨ch, hc, c1, c2⟩ := abc_at (i := (c / 9 + c / 26 % 7 * (0 + (i : Int))) % 26) (Int.emod_nonneg _ (by decide)) (Int.emod_lt_of_pos _ (by decide))
    have hi9 : i < 10 := by (first | lia | omega)
    refine ⟨_, rfl, _, rfl, _, _, rfl, rfl, ⟨by decide, by decide⟩, _, rfl, _, _, rfl, rfl, ⟨by decide, by decide⟩, _, _, rfl, rfl, (by show (0 : Int) < 7; decide), _, rfl, _, _, rfl, rfl, .inl ⟨by (first | lia | omega), by (first | lia | omega)⟩, _, _, rfl, rfl, _, _, rfl, rfl, (by show (0 : Int) < 26; decide), _, _, ch, rfl, rfl, (by decide), hc, hp, len1000' (by rw [List.length_map, List.length_map]; (first | lia | omega)), CW.next hi ⟨_, l ++ [ch], rfl, sm.upd_new hpb, upd_same, by rw [List.map_append, List.map_append]; rfl, by rw [List.length_append, List.length_singleton]; (first | lia | omega), fun x hx => ?_⟩⟩
    rcases List.mem_append.mp hx with hx | hx
    · exact hls x hx
    · rw [List.mem_singleton.mp hx]
      exact ⟨c1, c2⟩
  rintro ys σ H2 ⟨v0, l, rfl, s2, hp, rfl, hll, hls⟩
  have hl9 : l.length ≤ 8 := by (first | lia | omega)
  have hl0 : l ≠ [] := fun z => by rw [z, List.length_nil] at hll; (first | lia | omega)
  obtain ⟨j1, j2⟩ := join_lets hl0 hls
  refine ⟨_, pb, l.map one1, rfl, rfl, SqL.of hp, by rw [sum_ones, List.length_map]; show _ + _ * 0 ≤ _; (first | lia | omega), ?_⟩
  exact q _ _ s2 j1 (by rw [j2]; exact hl9)
theorem slice_clamp {z : Str} {j : Int} (h : (z.length : Int) ≤ j) : PySem.StrLaws.sliceText z none (some j) = PySem.StrLaws.sliceText z none (some (z.length : Int)) := by
  have a : ¬ (j < 0) := by (first | lia | omega)
  have b : ¬ ((z.length : Int) < 0) := by (first | lia | omega)
  have e1 : min j (z.length : Int) = z.length := by (first | lia | omega)
  have e : Builtin.Str.strSliceIndices none (some j) 1 z.length = Builtin.Str.strSliceIndices none (some (z.length : Int)) 1 z.length := by
    simp [Builtin.Str.strSliceIndices, a, b, e1]
  unfold PySem.StrLaws.sliceText
  rw [e]
theorem lets_cut {z : Str} {j : Int} (h1 : 1 ≤ j) (hz : Lets z) : Lets (PySem.StrLaws.sliceText z none (some j)) ∧ ((PySem.StrLaws.sliceText z none (some j)).length : Int) ≤ j := by
  have hl : z.cps.toList.length = z.length := by rw [Array.length_toList]; rfl
  have key : ∀ k : Int, 1 ≤ k → k ≤ z.length → Lets (PySem.StrLaws.sliceText z none (some k)) ∧ ((PySem.StrLaws.sliceText z none (some k)).length : Int) ≤ k := by
    intro k k1 k2
    rw [PySem.StrLaws.sliceText_to (x := z) (j := k) ⟨by (first | lia | omega), by rw [hl]; exact k2⟩]
    refine ⟨⟨?_, fun c hc => ?_⟩, ?_⟩
    · intro e
      have := congrArg List.length e
      simp only [List.length_take, List.length_drop, List.length_nil] at this
      have h0 : 0 < z.cps.toList.length := List.length_pos_iff.mpr hz.1
      (first | lia | omega)
    · exact hz.2 c (List.mem_of_mem_drop (List.mem_of_mem_take hc))
    · show (((z.cps.toList.drop 0).take (k - 0).toNat).toArray.size : Int) ≤ k
      rw [List.size_toArray, List.length_take]
      (first | lia | omega)
  have h0 : 0 < z.length := by rw [← hl]; exact List.length_pos_iff.mpr hz.1
  by_cases c : j ≤ z.length
  · exact key j h1 c
  · rw [slice_clamp (by (first | lia | omega))]
    obtain ⟨a, b⟩ := key z.length (by (first | lia | omega)) (Int.le_refl _)
    exact ⟨a, by (first | lia | omega)⟩
def SIG : Str := Str.ofString "AZ09 _-./(){}:;,|*+?<=>~!\"#$&'\x40[]^"
theorem sig_len : SIG.cps.toList.length = 34 := by decide +kernel
theorem sig_asc : ∀ c ∈ SIG.cps.toList, c < 128 := by decide +kernel
def spSpoil92 : Sp := fun vs H Q _ => ∃ (c : Int) (t : Str), vs = [.int c, .str t] ∧ 0 ≤ c ∧ c < 1000000000 ∧ Lets t ∧ t.length ≤ 8 ∧ ∀ y : Str, AscL y → y.length ≤ 80 → Q (.str y) H
set_option maxHeartbeats 2000000 in
theorem ok_l_spoiled (B : ∀ x ∈ blts, mg x = none) (F : Fun K "_law_spoiled" "_law_spoiled" s_l_spoiled f fd) : FnOk P w K mg base CX0 1 f fd ["_law_cell_here", "_law_tag_here"] spSpoil92 := by
  refine F.ok sc_l_spoiled (fun vs H Q E h => ?_) (fun cdv A outer s H vs Q E hr h => ?_)
  · obtain ⟨c, t, rfl, _⟩ := h
    rfl
  obtain ⟨c, t, rfl, c0, c9, ht, ht8, q⟩ := h
  have tl := cs_len t
  have tpos : 0 < t.length := by
    rw [tl]
    exact List.length_pos_iff.mpr ht.1
  refine ⟨_, (pss_cons (ps_set (i := 2) sc_l_spoiled.nd rfl (Or.inl rfl) pe_str)
    (pss_cons (ps_if (pt_cmpR op_eq (pe_op op_mod (pv 0) pe_int) pe_int (nomark _))
      (pss_one (ps_ret pe_str))
      pss_nil)
    (pss_cons (ps_if (pt_cmpR op_eq (pe_op op_mod (pv 0) pe_int) pe_int (nomark _))
      (pss_one (ps_ret (pe_slice sl_str (pe_op op_mul_str (pv 1) pe_int) po_none (po_some (pe_op op_add pe_int (pe_op op_mod (pe_op op_fdiv (pv 0) pe_int) pe_int))))))
      pss_nil)
    (pss_cons (ps_set (i := 3) sc_l_spoiled.nd rfl (Or.inl rfl) (pe_op op_mod (pe_op op_fdiv (pv 0) pe_int) (pe_callB call_len_str rfl (B "len" (by decide)) PySem.boot_len (pa_cons (pv 1) pa_nil))))
    (pss_one (ps_ret (pe_op op_add_str (pe_op op_add_str (pe_slice sl_str (pv 1) po_none (po_some (pv 3))) (pe_ix ix_str (pv 2) (pe_op op_mod (pe_op op_fdiv (pv 0) pe_int) (pe_callB call_len_str rfl (B "len" (by decide)) PySem.boot_len (pa_cons (pv 2) pa_nil))) (fun _ _ => rfl))) (pe_slice sl_str (pv 1) (po_some (pe_op op_add (pv 3) pe_int)) po_none)))))))), ?_⟩
  refine ⟨_, rfl, _, _, rfl, rfl, (by show (0 : Int) < 4; decide), rfl, _, rfl, ite2 (fun _ => ?_) (fun _ => ?_)⟩
  · exact q _ (fun _ h => (nomatch h)) (by decide)
  refine ⟨_, rfl, _, _, rfl, rfl, (by show (0 : Int) < 4; decide), rfl, _, rfl, ite2 (fun _ => ?_) (fun _ => ?_)⟩
  · have m1 := Int.emod_nonneg (c / 4) (by decide : (3 : Int) ≠ 0)
    have m2 := Int.emod_lt_of_pos (c / 4) (by decide : (0 : Int) < 3)
    have rl := (lets_rep ht (n := 9) (by decide))
    refine ⟨_, rfl, t, 9, rfl, rfl, by decide, by decide, len1000 (by show 9 * _ ≤ _; (first | lia | omega)), _, rfl, _, _, rfl, rfl, ⟨by decide, by decide⟩, _, _, rfl, rfl, (by show (0 : Int) < 3; decide), _, _, rfl, rfl, _, rfl, _, rfl, ?_, ?_⟩
    · rw [repS_len]
      exact len1000 (by show 9 * _ ≤ _; (first | lia | omega))
    · obtain ⟨x1, x2⟩ := lets_cut (j := 9 + c / 4 % 3) (by (first | lia | omega)) rl
      exact q (PySem.StrLaws.sliceText (repS t 9) none (some (9 + c / 4 % 3))) x1.let0.ascL (by (first | lia | omega))
  have lpos : (0 : Int) < ((t.length : Nat) : Int) := by (first | lia | omega)
  have a1 := Int.emod_nonneg (c / 4) (Int.ne_of_gt lpos)
  have a2 := Int.emod_lt_of_pos (c / 4) lpos
  obtain ⟨n, en⟩ := Int.eq_ofNat_of_zero_le a1
  have b1 := Int.emod_nonneg (c / 32) (by decide : (34 : Int) ≠ 0)
  have b2 := Int.emod_lt_of_pos (c / 32) (by decide : (0 : Int) < 34)
  obtain ⟨m, em⟩ := Int.eq_ofNat_of_zero_le b1
  refine ⟨_, rfl, _, _, rfl, rfl, ⟨by decide, by decide⟩, _, rfl, t, rfl, len1000 (by (first | lia | omega)), _, _, rfl, rfl, lpos, ?_⟩
  refine ⟨_, rfl, _, rfl, _, rfl, t, rfl, len1000 (by (first | lia | omega)), _, rfl, _, rfl, _, _, rfl, rfl, ⟨by decide, by decide⟩, _, rfl, SIG, rfl, (by show _ ≤ sizeLine; decide +kernel), _, _, rfl, rfl, ?_, ?_⟩
  · show (0 : Int) < ((SIG.length : Nat) : Int)
    decide +kernel
  have sl : ((SIG.length : Nat) : Int) = 34 := by decide +kernel
  have hm : m < SIG.cps.toList.length := by rw [sig_len]; (first | lia | omega)
  have hat : atI SIG.cps.toList (c / 32 % ((SIG.length : Nat) : Int)) = some SIG.cps.toList[m] := by
    rw [sl, em]
    exact atI_nat (List.getElem?_eq_getElem hm)
  have ho := sig_asc _ (List.getElem_mem hm)
  have hn : n < t.length := by (first | lia | omega)
  have u1 := cut_to (z := t) (n := n) (by (first | lia | omega))
  have u2 := cut_fr t (n + 1)
  have v1 := cs_len (PySem.StrLaws.sliceText t none (some (n : Int)))
  have v2 := cs_len (PySem.StrLaws.sliceText t (some ((n + 1 : Nat) : Int)) none)
  rw [u1, List.length_take] at v1
  rw [u2, List.length_drop] at v2
  have en1 : ((n : Nat) : Int) + 1 = ((n + 1 : Nat) : Int) := rfl
  refine ⟨SIG, _, SIG.cps.toList[m], rfl, rfl, (by decide +kernel), hat, _, _, rfl, rfl, ?_, ?_⟩
  · rw [en]
    exact len1000 (by show _ + 1 ≤ _; (first | lia | omega))
  refine ⟨_, rfl, _, rfl, _, _, rfl, rfl, _, rfl, t, rfl, len1000 (by (first | lia | omega)), _, _, rfl, rfl, ?_, ?_⟩
  · rw [en, en1, app_len]
    exact len1000 (by show _ + 1 + _ ≤ _; (first | lia | omega))
  · rw [en, en1]
    refine q _ (fun x hx => ?_) ?_
    · have hx' : x ∈ cs (PySem.StrLaws.sliceText t none (some (n : Int)) ++ ⟨#[SIG.cps.toList[m]]⟩ ++ PySem.StrLaws.sliceText t (some ((n + 1 : Nat) : Int)) none) := hx
      rw [cs_app, cs_app, u1, u2] at hx'
      rcases List.mem_append.mp hx' with hx | hx
      · rcases List.mem_append.mp hx with hx | hx
        · exact ht.let0.ascL x (List.mem_of_mem_take hx)
        · have : x = SIG.cps.toList[m] := by simpa [cs] using hx
          rw [this]
          exact ho
      · exact ht.let0.ascL x (List.mem_of_mem_drop hx)
    · rw [app_len, app_len]
      show _ + 1 + _ ≤ _
      (first | lia | omega)
def spWord92 (K : PySem.W.Frag) : Sp := fun vs H Q _ => ∃ (a : Addr) (ns : List Int) (k : Int) (t : Str), vs = [.ref a, .int k, .str t] ∧ SqL K H a (ns.map V.int) ∧ ns.length ≤ 63 ∧ 0 ≤ k ∧ k ≤ 100 ∧ Lets t ∧ t.length ≤ 8 ∧ ∀ (y : Str) (H' : Hp), Same H H' → AscL y → y.length ≤ 80 → Q (.str y) H'
set_option maxHeartbeats 2000000 in
theorem ok_l_word (B : ∀ x ∈ blts, mg x = none) (g_l_cell : Has P w K mg base "_law_cell" ["_law_script", "_law_k"] 1 (spCellS K)) (g_l_tag : Has P w K mg base "_law_tag" ["_law_cell_here"] 1 spTag92) (g_l_spoiled : Has P w K mg base "_law_spoiled" ["_law_cell_here", "_law_tag_here"] 1 spSpoil92) (F : Fun K "_law_word" "_law_word" s_l_word f fd) : FnOk P w K mg base CX0 2 f fd ["_law_script", "_law_k", "_law_tag_here"] (spWord92 K) := by
  refine F.ok sc_l_word (fun vs H Q E h => ?_) (fun cdv A outer s H vs Q E hr h => ?_)
  · obtain ⟨a, ns, k, t, rfl, _⟩ := h
    rfl
  obtain ⟨a, ns, k, t, rfl, hS, h63, k0, k1, ht, ht8, q⟩ := h
  refine ⟨_, (pss_cons (ps_set (i := 3) sc_l_word.nd rfl (Or.inl rfl) (pe_op op_mod (pe_has g_l_cell hr rfl (pa_cons (pv 0) (pa_cons (pe_op op_add pe_int (pv 1)) pa_nil))) (pe_op op_pow pe_int pe_int)))
    (pss_cons (ps_if (pt_cmpR op_lt (pe_op op_mod (pv 3) pe_int) pe_int (nomark _))
      (pss_one (ps_ret (pv 2)))
      pss_nil)
    (pss_cons (ps_if (pt_cmpR op_eq (pe_op op_mod (pv 3) pe_int) pe_int (nomark _))
      (pss_one (ps_ret (pe_has g_l_tag hr rfl (pa_cons (pe_op op_fdiv (pv 3) pe_int) pa_nil))))
      pss_nil)
    (pss_cons (ps_if (pt_cmpR op_lt (pe_op op_mod (pv 3) pe_int) pe_int (nomark _))
      (pss_one (ps_ret pe_str))
      pss_nil)
    (pss_one (ps_ret (pe_has g_l_spoiled hr rfl (pa_cons (pe_op op_fdiv (pv 3) pe_int) (pa_cons (pv 2) pa_nil))))))))), ?_⟩
  refine ⟨_, rfl, _, rfl, _, _, rfl, rfl, a, ns, _, rfl, hS, h63, by (first | lia | omega), by (first | lia | omega), fun v => ?_⟩
  refine ⟨_, _, rfl, rfl, ⟨by decide, by decide, by decide⟩, _, _, rfl, rfl, (by show (0 : Int) < 10 ^ 9; decide), ?_⟩
  have w0 := Int.emod_nonneg v (by decide : ((10 : Int) ^ (9 : Int).toNat) ≠ 0)
  have w1 := Int.emod_lt_of_pos v (by decide : (0 : Int) < ((10 : Int) ^ (9 : Int).toNat))
  have w2 : v % (10 : Int) ^ (9 : Int).toNat < 1000000000 := w1
  refine ⟨_, rfl, _, _, rfl, rfl, (by show (0 : Int) < 7; decide), _, _, rfl, rfl, _, rfl, ite2 (fun _ => ?_) (fun _ => ?_)⟩
  · exact ⟨_, rfl, q t H (Same.refl H) ht.let0.ascL (by (first | lia | omega))⟩
  refine ⟨_, rfl, _, _, rfl, rfl, (by show (0 : Int) < 7; decide), rfl, _, rfl, ite2 (fun _ => ?_) (fun _ => ?_)⟩
  · refine ⟨_, rfl, _, _, rfl, rfl, ⟨by decide, by decide⟩, _, rfl, ?_, ?_, fun t' H' s1 h1 h2 => q t' H' s1 h1.let0.ascL (by (first | lia | omega))⟩
    · exact Int.ediv_nonneg w0 (by decide)
    · (first | lia | omega)
  refine ⟨_, rfl, _, _, rfl, rfl, (by show (0 : Int) < 7; decide), _, _, rfl, rfl, _, rfl, ite2 (fun _ => ?_) (fun _ => ?_)⟩
  · exact q SL H (Same.refl H) (by unfold AscL; decide) (by decide)
  · refine ⟨_, rfl, _, _, rfl, rfl, ⟨by decide, by decide⟩, _, rfl, _, t, rfl, ?_, ?_, ht, ht8, fun y h1 h2 => q y H (Same.refl H) h1 h2⟩
    · exact Int.ediv_nonneg w0 (by decide)
    · (first | lia | omega)
def spIsTag92 : Sp := fun vs H Q _ => ∃ z : Str, vs = [.str z] ∧ AscL z ∧ z.length ≤ 100 ∧ ∀ H' : Hp, Same H H' → Q (.bl (tagB z)) H'
set_option maxHeartbeats 2000000 in
theorem ok_l_is_tag (B : ∀ x ∈ blts, mg x = none) (F : Fun K "_law_is_tag" "_law_is_tag" s_l_is_tag f fd) : FnOk P w K mg base CX0 1 f fd ["_law_word_here"] spIsTag92 := by
  refine F.ok sc_l_is_tag (fun vs H Q E h => ?_) (fun cdv A outer s H vs Q E hr h => ?_)
  · obtain ⟨z, rfl, _⟩ := h
    rfl
  obtain ⟨z, rfl, ha, hl, q⟩ := h
  have zl := cs_len z
  refine ⟨_, (pss_cons (ps_if (PW.pt (pw_or (pt_cmpR op_lt (pe_callB call_len_str rfl (B "len" (by decide)) PySem.boot_len (pa_cons (pv 0) pa_nil)) pe_int (nomark _)) (pw_or1 (pt_cmpR op_gt (pe_callB call_len_str rfl (B "len" (by decide)) PySem.boot_len (pa_cons (pv 0) pa_nil)) pe_int (nomark _)))))
      (pss_one (ps_ret pe_bl))
      pss_nil)
    (pss_one (ps_ret (pe_callB (call_all rfl) rfl (B "all" (by decide)) bt_all (pa_cons (pe_comp (cl := []) ["_law_sign"] [] (pi_str (pv 0)) (fun _ _ _ _ => (pg_name (i := 0) nd1 rfl (Or.inl rfl))) (fun _ _ _ _ => (pe_cmpR op_in_str (pv 0) pe_str (by with_unfolding_all rfl))) rfl rfl (by decide) rfl (by decide) (fun _ _ h => nomatch h) (nofree (by decide)) (fun _ _ h => nomatch h) (fun _ => rfl)) pa_nil))))), ?_⟩
  have no : ¬ (1 ≤ z.length ∧ z.length ≤ 8) → Q (.bl false) H := fun hn => by
    have e : tagB z = false := by
      unfold tagB
      by_cases c : 1 ≤ z.length
      · rw [decide_eq_false (fun d => hn ⟨c, d⟩), Bool.and_false, Bool.false_and]
      · rw [decide_eq_false c, Bool.false_and, Bool.false_and]
    have := q H (Same.refl H)
    rw [e] at this
    exact this
  refine ⟨_, rfl, z, rfl, len1000 (by (first | lia | omega)), _, _, rfl, rfl, _, rfl, ite2 (fun d => ?_) (fun d => ?_)⟩
  · exact iteT (no fun h => by have := of_decide_eq_true d; (first | lia | omega))
  refine ⟨_, rfl, z, rfl, len1000 (by (first | lia | omega)), _, _, rfl, rfl, _, rfl, ite2 (fun d2 => ?_) (fun d2 => ?_)⟩
  · exact no fun h => by have := of_decide_eq_true d2; (first | lia | omega)
  have z1 : 1 ≤ z.length := by
    have : ¬ ((z.length : Nat) : Int) < 1 := fun x => d (decide_eq_true x)
    (first | lia | omega)
  have z8 : z.length ≤ 8 := by
    have : ¬ ((z.length : Nat) : Int) > 8 := fun x => d2 (decide_eq_true x)
    (first | lia | omega)
  refine ⟨_, rfl, z, rfl, ha.asc, fun pb hpb => ?_⟩
  refine comp_str (z := z) (p := pb) (fun i ys σ H2 => ∃ v0 : Option V, σ = [v0] ∧ Same H H2 ∧ H2 pb = some (.lst ys) ∧ ys = ((z.cps.toList.take i).map azB).map V.bl)
    ⟨none, rfl, Same.new hpb, upd_same, rfl⟩ ?_ ?_ ?_
  · rintro i ys σ H2 _ ⟨v0, _, _, h, _⟩
    exact h
  · rintro i ys c σ H2 hi hc ⟨v0, rfl, sm, hp, rfl⟩
    have hno := notin_az (c := c) (ha c (List.mem_of_getElem? hc))
    refine ⟨_, rfl, _, ABC, rfl, rfl, hp, len1000' ?_, CW.next hi ⟨_, rfl, sm.upd_new hpb, upd_same, ?_⟩⟩
    · rw [List.length_map, List.length_map, List.length_take]
      have : z.cps.toList.length = z.length := Array.length_toList
      (first | lia | omega)
    · rw [hno, Bool.not_not, take_succ' hc, List.map_append, List.map_append]
      rfl
  rintro ys σ H2 ⟨v0, rfl, s2, hp, rfl⟩
  rw [List.take_length] at hp
  refine ⟨pb, _, rfl, SqL.of hp, ?_⟩
  have e : ((z.cps.toList.map azB)).all id = tagB z := by
    unfold tagB
    rw [decide_eq_true z1, decide_eq_true z8, List.all_map]
    rfl
  rw [e]
  exact q _ s2
def spWhole92 : Sp := fun vs H Q _ => ∃ i : Int, vs = [.int i, .int i] ∧ Q (.bl true) H
theorem ok_l_whole (B : ∀ x ∈ blts, mg x = none) (F : Fun K "_law_whole" "_law_whole" s_l_whole f fd) : FnOk P w K mg base CX0 1 f fd ["_law_one", "_law_due"] spWhole92 := by
  refine F.ok sc_l_whole (fun vs H Q E h => ?_) (fun cdv A outer s H vs Q E hr h => ?_)
  · obtain ⟨i, rfl, _⟩ := h
    rfl
  obtain ⟨i, rfl, q⟩ := h
  refine ⟨_, (pss_one (ps_ret (pe_and (pe_callB call_isinst rfl (B "isinstance" (by decide)) bt_isinstance (pa_cons (pv 0) (pa_cons (pe_ty rfl (B "int" (by decide)) bt_int) pa_nil))) (pe_and (pe_not (pe_callB call_isinst rfl (B "isinstance" (by decide)) bt_isinstance (pa_cons (pv 0) (pa_cons (pe_ty rfl (B "bool" (by decide)) bt_bool) pa_nil)))) (pe_one (pe_cmpR op_eq (pv 0) (pv 1) (nomark _))))))), ?_⟩
  refine ⟨_, rfl, .int i, "int", .type "int", true, rfl, .int i, rfl, true, rfl, iteT ?_⟩
  refine ⟨_, rfl, .int i, "bool", .type "int", false, rfl, .int i, rfl, false, rfl, true, rfl, iteT ?_⟩
  refine ⟨_, rfl, _, rfl, rfl, ?_⟩
  rw [decide_eq_true rfl]
  exact q
theorem log_small {n : Nat} (h : n ≤ 100000) : ((n : Nat) : Int).natAbs.log2 < 1920 := by
  rw [Int.natAbs_natCast]
  by_cases h0 : n = 0
  · rw [h0]; decide
  · exact (Nat.log2_lt h0).mpr (Nat.lt_of_le_of_lt h (Nat.lt_of_lt_of_le (by decide : 100000 < 2 ^ 17) (Nat.pow_le_pow_right (by decide) (by decide))))
def spXInit (C : Addr) : Sp := fun vs H Q _ => ∃ (y : Addr) (p : Int), vs = [.ref y, .int p] ∧ p.natAbs.log2 < 1920 ∧ (Str.ofString "no grove goes on so at place " ++ Str.ofString (toString p)).length ≤ sizeLine ∧ H y = some (.ext (XNew y (.ref C) none)) ∧
  ∀ dx, H dx = none → dx ≠ y → Q .non (upd (upd H dx (.xd [("place", .int p)])) y (.ext (XNew y (.ref C) (some dx))))
theorem xnew_same {H H1 : Hp} {y dx : Addr} {o1 o2 o3 o4 : HO} (s : Same H H1) (h1 : H1 y = none) (h2 : upd H1 y o1 dx = none) : Same H (upd (upd (upd (upd H1 y o1) dx o2) y o3) y o4) := by
  obtain ⟨_, h3⟩ := upd_none h2
  exact (((s.upd_new (s.free h1)).upd_new (s.free h3)).upd_new (s.free h1)).upd_new (s.free h1)
theorem raise_place {K : PySem.W.Frag} {C : Addr} {H H1 : Hp} {E : XK} {i : Nat} (sm : Same H H1) (hi : i ≤ 50000)
    (q2 : ∀ (dx : Addr) (H' : Hp), Same H H' → H dx = none → H' dx = some (.xd [("place", .int (i : Nat))]) → E (.ref C) (some dx) H') :
    ([V.int (i : Nat)].length ≤ 1000) ∧ ∀ y, H1 y = none → spXInit C [.ref y, .int (i : Nat)] (upd H1 y (.ext (XNew y (.ref C) none)))
      (fun v H2 => v = .non ∧ ∃ d, H2 y = some (.ext (XNew y (.ref C) d)) ∧ E (.ref C) d (upd H2 y (.ext (XO y (.ref C) d)))) E0 := by
  refine ⟨(by show 1 ≤ 1000; decide), fun y hy => ⟨y, i, rfl, log_small (by (first | lia | omega)), ?_, upd_same, fun dx hdx hne => ⟨rfl, some dx, upd_same, ?_⟩⟩⟩
  · have h1 := PyProof.Rows.len_str_of_int (i : Int)
    rw [strLen_append]
    rw [sizeLine_eq]
    have h2 : (Str.ofString "no grove goes on so at place ").length = 29 := by decide
    rw [Int.natAbs_natCast] at h1
    (first | lia | omega)
  · refine q2 dx _ (xnew_same sm hy hdx) ?_ ?_
    · obtain ⟨_, h3⟩ := upd_none hdx
      exact sm.free h3
    · rw [upd_ne hne, upd_ne hne, upd_same]
theorem ok_NoGrove___init__ (B : ∀ x ∈ blts, mg x = none) (xc : XC K mg X_GroveError X_NoGrove X_NotStraight) (F : Fun K "__init__" "NoGrove.__init__" s_NoGrove___init__ f fd) : FnOk P w K mg base CX0 1 f fd ["self", "place"] (spXInit X_NoGrove) := by
  refine F.ok sc_NoGrove___init__ (fun vs H Q E h => ?_) (fun cdv A outer s H vs Q E hr h => ?_)
  · obtain ⟨y, p, rfl, _⟩ := h
    rfl
  obtain ⟨y, p, rfl, hp, hz, hy, q⟩ := h
  refine ⟨_, (pss_cons (ps_expr (pe_xinit xc.bas rfl xc.n_GroveError (pa_cons (pv 0) (pa_cons (pe_joined (pj_cons pe_str (pj_cons (pe_fv (pv 1)) pj_nil))) pa_nil))))
    (pss_one (ps_xfld (pv 0) (pv 1) rfl))), ?_⟩
  refine ⟨_, rfl, _, rfl, by decide, _, rfl, .inr ⟨p, rfl, hp, _, rfl, hz, hz, ?_⟩⟩
  refine ⟨y, X_NoGrove, X_GroveError, none, _, rfl, hy, xc.top_NoGrove, ?_⟩
  exact ⟨_, rfl, _, rfl, y, X_NoGrove, X_GroveError, rfl, hy, xc.top_NoGrove, xc.f_NoGrove_place, fun dx h1 h2 => q dx h1 h2⟩
theorem tagB_lets {t : Str} (h : tagB t = true) : Lets t ∧ t.length ≤ 8 := by
  unfold tagB at h
  rw [Bool.and_eq_true, Bool.and_eq_true] at h
  obtain ⟨⟨h1, h2⟩, h3⟩ := h
  have h1' := of_decide_eq_true h1
  have e : t.cps.toList.length = t.length := Array.length_toList
  refine ⟨⟨fun z => ?_, fun c hc => ?_⟩, of_decide_eq_true h2⟩
  · rw [z, List.length_nil] at e
    (first | lia | omega)
  · have := List.all_eq_true.mp h3 c hc
    unfold azB at this
    rw [Bool.and_eq_true] at this
    exact ⟨of_decide_eq_true this.1, of_decide_eq_true this.2⟩
def GoodW (t : Str) (bs : Bg) : Prop := (t = SL ∧ bs ≠ []) ∨ (Lets t ∧ t.length ≤ 8)
def spTakeX (C XN : Addr) : Sp := fun vs H Q E => ∃ (a dk Bl : Addr) (ls : List Addr) (kn : Kn) (bs : Bg) (n : Int) (m : Nat) (t : Str), vs = [.ref a, .str t] ∧ StAt C H a dk Bl ls kn bs n ∧ n = (m : Int) ∧ bs.length ≤ 900 ∧ m ≤ 50000 ∧ t.length ≤ 100000 ∧
  (GoodW t bs → ∀ (r : Addr) (ls' : List Addr) (H' : Hp), KeepX [a, Bl] H H' → (H r = none ∨ r ∈ ls) → (∀ l ∈ ls', l ∈ ls ∨ H l = none) → r ∉ Bl :: ls' → H' r = some (.lst ((stepS kn bs t).1.map V.str)) → StAt C H' a dk Bl ls' kn (stepS kn bs t).2 (n + 1) → Q (.ref r) H') ∧
  (¬ GoodW t bs → ∀ (dx : Addr) (H' : Hp), Same H H' → H dx = none → H' dx = some (.xd [("place", .int (m : Nat))]) → E (.ref XN) (some dx) H')
set_option maxHeartbeats 4000000 in
theorem ok_Stream_take {C_Stream : Addr} (B : ∀ x ∈ blts, mg x = none) (c_Stream : StC K C_Stream) (xc : XC K mg X_GroveError X_NoGrove X_NotStraight) (g_is_tag : Has P w K mg base "is_tag" ["text"] 1 spIsTag) (x_NoGrove : XMk P w K mg base X_NoGrove X_GroveError "NoGrove" ["self", "place"] 1 (spXInit X_NoGrove)) (g_Stream_take_begin : HasM P w K mg base C_Stream "take_begin" ["self", "mode", "tag"] 24 (spBegin C_Stream)) (F : Fun K "take" "Stream.take" s_Stream_take f fd) : FnOk P w K mg base (CXE P w) 25 f fd ["self", "word"] (spTakeX C_Stream X_NoGrove) := by
  generalize C_Stream = C at *
  refine F.okX sc_Stream_take (fun vs H Q E h => ?_) (fun cdv A outer s H vs Q E hr h => ?_)
  · obtain ⟨a, dk, Bl, ls, kn, bs, n, m, t, rfl, _⟩ := h
    rfl
  obtain ⟨a, dk, Bl, ls, kn, bs, n, m, t, rfl, hS, hnm, hbl, hm5, htl, q1, q2⟩ := h
  obtain ⟨dx, h1⟩ := hS.ho
  obtain ⟨km, h2, h3⟩ := hS.hk
  obtain ⟨zs, h4, h5⟩ := hS.hb
  have hzl := h5.len.1
  have nab : a ≠ Bl := ne_of h1 h4 (by intro z; cases z)
  have nad : dk ≠ a := ne_of h2 h1 (by intro z; cases z)
  -- the stream with one more taken
  have more : ∀ (G : Hp), Same H G → ∀ (H1 : Hp), H1 = upd G a (.ins C dx (putF "taken" (.int (n + 1)) (stF dk Bl n))) → StAt C H1 a dk Bl ls kn bs (n + 1) ∧ KeepX [a] G H1 ∧ H1 a = some (.ins C dx (stF dk Bl (n + 1))) := fun G sG H1 e => by
    subst e
    replace h1 := sG _ _ h1
    replace h2 := sG _ _ h2
    replace h3 := h3.tk sG.tk
    replace h4 := sG _ _ h4
    replace h5 := h5.keep sG.tk fun l _ o e => sG _ _ e
    have x1 : (upd G a (.ins C dx (putF "taken" (.int (n + 1)) (stF dk Bl n)))) a = some (.ins C dx (stF dk Bl (n + 1))) := by
      rw [upd_same]
      rfl
    have kx : KeepX [a] G (upd G a (.ins C dx (putF "taken" (.int (n + 1)) (stF dk Bl n)))) := fun b o hb e => by
      rw [upd_ne (fun z => hb (List.mem_singleton.mpr z))]
      exact e
    have tk : TK G (upd G a (.ins C dx (putF "taken" (.int (n + 1)) (stF dk Bl n)))) := fun b xs e => kx b _ (fun z => by rw [List.mem_singleton.mp z, h1] at e; cases e) e
    refine ⟨⟨hS.ok, ⟨dx, x1⟩, ⟨km, kx _ _ (fun z => nad (List.mem_singleton.mp z)) h2, h3.tk tk⟩, ⟨zs, kx _ _ (fun z => nab (List.mem_singleton.mp z).symm) h4, h5.keep tk fun l hl o e => kx _ _ (fun z => ?_) e⟩, hS.nd, hS.so⟩, kx, x1⟩
    obtain ⟨xs, el⟩ := h5.live l hl
    rw [List.mem_singleton.mp z, h1] at el
    cases el
  refine ⟨_, (pss_cons (ps_if (PW.pt (pw_and (pt_cmpR op_eq (pv 1) pe_str (nomark _)) (pw_and1 (pt_truth (pe_fld (pv 0) rfl) (fun _ => rfl)))))
      (pss_cons (ps_fldaug (pv 0) pe_int in_add)
        (pss_one (ps_ret (pe_ix ix_tup (pe_bm0 PySem.F.plainAttrs_list PySem.F.slot_list_pop PySem.F.type_list_pop mt_pop (pe_fld (pv 0) rfl)) pe_int (fun _ _ => rfl)))))
      pss_nil)
    (pss_cons (ps_if (pt_not (pt_truth (pe_has g_is_tag hr rfl (pa_cons (pv 1) pa_nil)) (fun _ => rfl)))
      (pss_one (ps_raiseI x_NoGrove takes_def hr rfl (pa_cons (pe_fld (pv 0) rfl) pa_nil)))
      pss_nil)
    (pss_cons (ps_fldaug (pv 0) pe_int in_add)
    (pss_one (ps_ret (pe_hasm g_Stream_take_begin hr (pv 0) c_Stream.cls (pa_cons (pe_ifExp (pt_truth (pe_fld (pv 0) rfl) (fun _ => rfl)) (pe_ix ix_tup (pe_ix ix_list (pe_fld (pv 0) rfl) (pe_un un_neg pe_int) (fun _ _ => rfl)) pe_int (fun _ _ => rfl)) pe_int) (pa_cons (pv 1) pa_nil)))))))), ?_⟩
  by_cases good : GoodW t bs
  · have qq := q1 good
    have ht := good
    by_cases c : t = SL
    · subst c
      have hbn : bs ≠ [] := by
        rcases ht with h | h
        · exact h.2
        · exact absurd rfl h.1.ne
      obtain ⟨bs', b, rfl⟩ := last_of hbn
      obtain ⟨zs', z, ls', l, rfl, rfl, h6, h7⟩ := h5.unsnoc
      obtain ⟨tb, rfl, g1, g2⟩ := h7
      have est : stepS kn (bs' ++ [b]) SL = (b.2, bs') := by
        unfold stepS
        rw [if_pos rfl, List.getLast?_concat, List.dropLast_concat]
      refine ⟨_, rfl, rfl, _, rfl, iteT ?_⟩
      refine ⟨_, rfl, a, C, dx, _, _, rfl, h1, c_Stream.cls, c_Stream.n3, rfl, true, .inl ⟨_, SqL.of h4, by simp⟩, iteT ?_⟩
      refine ⟨_, rfl, a, C, dx, _, _, rfl, h1, c_Stream.cls, c_Stream.n2, rfl, _, _, rfl, rfl, dx, _, h1, (show 3 < 1000 by decide), ?_⟩
      obtain ⟨S1, k1, x1⟩ := more H (Same.refl H) _ rfl
      obtain ⟨zs2, h42, h52⟩ := S1.hb
      have hB1 : (upd H a (.ins C dx (putF "taken" (.int (n + 1)) (stF dk Bl n)))) Bl = some (.lst (zs' ++ [.ref tb])) := k1 _ _ (fun z => nab (List.mem_singleton.mp z).symm) h4
      rw [hB1] at h42
      injection h42 with h42
      injection h42 with h42
      subst h42
      have tk1 : TK H (upd H a (.ins C dx (putF "taken" (.int (n + 1)) (stF dk Bl n)))) := fun b xs e => k1 b _ (fun z => by rw [List.mem_singleton.mp z, h1] at e; cases e) e
      refine ⟨_, rfl, a, C, dx, _, _, rfl, x1, c_Stream.cls, c_Stream.n3, rfl, .inl ⟨rfl, _, SqL.of hB1⟩, Bl, _, _, rfl, rfl, hB1, snoc_last _ _, ?_⟩
      rw [snoc_drop]
      have g1' : (upd (upd H a (.ins C dx (putF "taken" (.int (n + 1)) (stF dk Bl n)))) Bl (.lst zs')) tb = some (.tup [moV b.1, .ref l]) := TK.lst hB1 _ _ (tk1 _ _ g1)
      refine ⟨tb, _, 1, _, rfl, rfl, SqT.of g1', rfl, ?_⟩
      obtain ⟨nd1, nd2⟩ := List.nodup_cons.mp S1.nd
      obtain ⟨nda, _, ndb⟩ := List.nodup_append.mp nd2
      have nlB : l ≠ Bl := fun z => nd1 (by rw [← z]; exact List.mem_append_right _ (List.mem_singleton.mpr rfl))
      have nla : l ≠ a := fun z => by rw [z, h1] at g2; cases g2
      refine qq l ls' _ (fun b' o hb e => ?_) (.inr (List.mem_append_right _ (List.mem_singleton.mpr rfl))) (fun l' hl' => .inl (List.mem_append_left _ hl')) ?_ ?_ ?_
      · simp only [List.mem_cons, List.not_mem_nil, or_false, not_or] at hb
        rw [upd_ne hb.2]
        exact k1 _ _ (fun z => hb.1 (List.mem_singleton.mp z)) e
      · intro z
        rcases List.mem_cons.mp z with z | z
        · exact nlB z
        · exact ndb l z l (List.mem_singleton.mpr rfl) rfl
      · rw [est, upd_ne nlB]
        exact k1 _ _ (fun z => nla (List.mem_singleton.mp z)) g2
      · rw [est]
        obtain ⟨m2, y1, y2⟩ := S1.hk
        have tk2 : TK (upd H a (.ins C dx (putF "taken" (.int (n + 1)) (stF dk Bl n)))) (upd (upd H a (.ins C dx (putF "taken" (.int (n + 1)) (stF dk Bl n)))) Bl (.lst zs')) := TK.lst hB1
        refine ⟨S1.ok, ⟨dx, by rw [upd_ne nab]; exact x1⟩, ⟨m2, by rw [upd_ne (ne_of y1 hB1 (by intro z; cases z))]; exact y1, y2.tk tk2⟩, ⟨zs', upd_same, ?_⟩, List.nodup_cons.mpr ⟨fun z => nd1 (List.mem_append_left _ z), nda⟩, fun c hc => S1.so c (List.mem_append_left _ hc)⟩
        refine (h6.keep tk1 fun l' hl' o e => k1 _ _ (fun z => ?_) e).keep tk2 fun l' hl' o e => ?_
        · obtain ⟨xs, el⟩ := h6.live l' hl'
          rw [List.mem_singleton.mp z, h1] at el
          cases el
        · rw [upd_ne (fun z => nd1 (by rw [← z]; exact List.mem_append_left _ hl'))]
          exact e
    · have htt : Lets t ∧ t.length ≤ 8 := by
        rcases ht with h | h
        · exact absurd h.1 c
        · exact h
      have est : stepS kn bs t = ((rlS kn (modeB bs) t).1, bs ++ [(rlS kn (modeB bs) t).2]) := by
        unfold stepS
        rw [if_neg c]
      refine ⟨_, rfl, rfl, _, rfl, ?_⟩
      rw [decide_eq_false (fun z => c (by injection z))]
      refine iteF ?_
      refine ⟨_, rfl, t, rfl, by (first | lia | omega), fun H1 s1 => ⟨true, ?_, iteF ?_⟩⟩
      · show true = tagB t
        rw [tagB_letsS htt.1 htt.2]
      refine ⟨_, rfl, a, C, dx, _, _, rfl, s1 _ _ h1, c_Stream.cls, c_Stream.n2, rfl, _, _, rfl, rfl, dx, _, s1 _ _ h1, (show 3 < 1000 by decide), ?_⟩
      obtain ⟨S1, k1, x1⟩ := more H1 s1 _ rfl
      have hB1 : (upd H1 a (.ins C dx (putF "taken" (.int (n + 1)) (stF dk Bl n)))) Bl = some (.lst zs) := k1 _ _ (fun z => nab (List.mem_singleton.mp z).symm) (s1 _ _ h4)
      have tk1 : TK H (upd H1 a (.ins C dx (putF "taken" (.int (n + 1)) (stF dk Bl n)))) := fun b xs e => k1 b _ (fun z => by rw [List.mem_singleton.mp z, h1] at e; cases e) (s1 _ _ e)
      generalize upd H1 a (.ins C dx (putF "taken" (.int (n + 1)) (stF dk Bl n))) = H2 at S1 k1 x1 hB1 tk1 ⊢
      have ok : PyData.strOk t = true := htt.1.let0.ok
      have fin : ∀ (r l : Addr) (H' : Hp), KeepX [Bl] H2 H' → H2 r = none → H2 l = none → r ≠ l → H' r = some (.lst ((rlS kn (modeB bs) t).1.map V.str)) → StAt C H' a dk Bl (ls ++ [l]) kn (bs ++ [(rlS kn (modeB bs) t).2]) (n + 1) → Q (.ref r) H' := fun r l H' kx hr0 hl0 nrl hr1 S2 => by
        have free : ∀ b, H2 b = none → H b = none := fun b hb => by
          refine Option.eq_none_iff_forall_ne_some.mpr fun o ho => ?_
          by_cases z : b = a
          · rw [z, x1] at hb
            cases hb
          · rw [k1 _ _ (fun y => z (List.mem_singleton.mp y)) (s1 _ _ ho)] at hb
            cases hb
        refine qq r (ls ++ [l]) H' (fun b o hb e => ?_) (.inl (free r hr0)) (fun l' hl' => ?_) (fun z => ?_) (by rw [est]; exact hr1) (by rw [est]; exact S2)
        · simp only [List.mem_cons, List.not_mem_nil, or_false, not_or] at hb
          exact kx _ _ (fun z => hb.2 (List.mem_singleton.mp z)) (k1 _ _ (fun z => hb.1 (List.mem_singleton.mp z)) (s1 _ _ e))
        · rcases List.mem_append.mp hl' with h | h
          · exact .inl h
          · rw [List.mem_singleton.mp h]
            exact .inr (free l hl0)
        · rcases List.mem_cons.mp z with z | z
          · rw [z, hB1] at hr0
            cases hr0
          · rcases List.mem_append.mp z with z | z
            · obtain ⟨xs, el⟩ := S1.live r (List.mem_cons_of_mem _ z)
              rw [hr0] at el
              cases el
            · exact nrl (List.mem_singleton.mp z)
      by_cases hbs : bs = []
      · subst hbs
        have hz0 : zs = [] := List.eq_nil_of_length_eq_zero hzl
        subst hz0
        refine ⟨_, rfl, a, dx, _, rfl, x1, rfl, _, rfl, a, C, dx, _, _, rfl, x1, c_Stream.cls, c_Stream.n3, rfl, false, .inl ⟨_, SqL.of hB1, rfl⟩, iteF ?_⟩
        refine ⟨_, rfl, a, dk, Bl, ls, kn, [], n + 1, some 0, t, rfl, S1, by decide, ok, fin⟩
      · obtain ⟨bs', b, e⟩ := last_of hbs
        subst e
        obtain ⟨zs2, y1, y2⟩ := S1.hb
        rw [hB1] at y1
        injection y1 with y1
        injection y1 with y1
        subst y1
        obtain ⟨zs', z, ls', l, rfl, rfl, h6, h7⟩ := y2.unsnoc
        obtain ⟨tb, rfl, g1, g2⟩ := h7
        refine ⟨_, rfl, a, dx, _, rfl, x1, rfl, _, rfl, a, C, dx, _, _, rfl, x1, c_Stream.cls, c_Stream.n3, rfl, true, .inl ⟨_, SqL.of hB1, by simp⟩, iteT ?_⟩
        have em : modeB (bs' ++ [b]) = b.1 := by
          unfold modeB
          rw [List.getLast?_concat]
        refine ⟨_, rfl, a, C, dx, _, _, rfl, x1, c_Stream.cls, c_Stream.n3, rfl, 1, rfl, Bl, _, -1, _, rfl, rfl, SqL.of hB1, atI_last _ _, tb, _, 0, _, rfl, rfl, SqT.of g1, rfl, ?_⟩
        exact ⟨_, rfl, a, dk, Bl, _, kn, _, n + 1, b.1, t, rfl, S1, hbl, ok, by rw [em] at fin; exact fin⟩
  · have htb : tagB t = false := by
      cases z : tagB t with
      | false => rfl
      | true => exact absurd (.inr (tagB_lets z)) good
    have rz : ∀ H1 : Hp, Same H H1 → ([V.int n].length ≤ 1000) ∧ ∀ y, H1 y = none → spXInit X_NoGrove [.ref y, .int n] (upd H1 y (.ext (XNew y (.ref X_NoGrove) none))) (fun v H2 => v = .non ∧ ∃ d, H2 y = some (.ext (XNew y (.ref X_NoGrove) d)) ∧ E (.ref X_NoGrove) d (upd H2 y (.ext (XO y (.ref X_NoGrove) d)))) E0 := fun H1 s1 => by
      rw [hnm]
      exact raise_place (K := K) s1 hm5 (q2 good)
    refine ⟨_, rfl, rfl, _, rfl, ?_⟩
    by_cases c : t = SL
    · subst c
      have hb0 : bs = [] := Classical.byContradiction fun z => good (.inl ⟨rfl, z⟩)
      subst hb0
      have hz0 : zs = [] := List.eq_nil_of_length_eq_zero hzl
      subst hz0
      rw [decide_eq_true rfl]
      refine iteT ?_
      refine ⟨_, rfl, a, C, dx, _, _, rfl, h1, c_Stream.cls, c_Stream.n3, rfl, false, .inl ⟨_, SqL.of h4, rfl⟩, iteF ?_⟩
      refine ⟨_, rfl, SL, rfl, by decide, fun H1 s1 => ⟨false, htb.symm, iteT ?_⟩⟩
      exact ⟨_, rfl, a, C, dx, _, _, rfl, s1 _ _ h1, c_Stream.cls, c_Stream.n2, rfl, rz H1 s1⟩
    · rw [decide_eq_false (fun z => c (by injection z))]
      refine iteF ?_
      refine ⟨_, rfl, t, rfl, by (first | lia | omega), fun H1 s1 => ⟨false, htb.symm, iteT ?_⟩⟩
      exact ⟨_, rfl, a, C, dx, _, _, rfl, s1 _ _ h1, c_Stream.cls, c_Stream.n2, rfl, rz H1 s1⟩
theorem bt_ValueError : bootBuiltins "ValueError" = some (.type "ValueError") := by decide +kernel
/-- all is kept but errors -/
def Kp (H H' : Hp) : Prop := ∀ b o, H b = some o → (∀ x, o ≠ .ext x) → H' b = some o
theorem Kp.same {H H' : Hp} (s : Same H H') : Kp H H' := fun b o h _ => s b o h
theorem Kp.trans {H H1 H2 : Hp} (a : Kp H H1) (b : Kp H1 H2) : Kp H H2 := fun c o h n => b c o (a c o h n) n
theorem Kp.ext {H H1 : Hp} {e : Addr} {x : Heap → Prop} {o : HO} (a : Kp H H1) (h : H1 e = some (.ext x)) : Kp H (upd H1 e o) := fun b u q n => by
  have q1 := a b u q n
  have : b ≠ e := fun z => by
    rw [z, h] at q1
    exact n x (Option.some.inj q1).symm
  rw [upd_ne this]
  exact q1
theorem Kp.lst {H H' : Hp} {a : Addr} {xs : List V} (k : Kp H H') (h : H a = some (.lst xs)) : H' a = some (.lst xs) := k _ _ h fun _ z => by cases z
theorem Kp.tk {H H' : Hp} (k : Kp H H') : TK H H' := fun b xs e => k b _ e fun _ z => nomatch z
theorem Kp.seq {K : PySem.W.Frag} {H H' : Hp} {a : Addr} {xs : List V} (k : Kp H H') (h : SqL K H a xs) : SqL K H' a xs := by
  rcases h with (h | ⟨o, h⟩) | h
  · exact .inl (.inl (k _ _ h fun _ z => nomatch z))
  · exact .inl (.inr ⟨o, k _ _ h fun _ z => nomatch z⟩)
  · exact .inr h
theorem StAt.kp {C : Addr} {H H' : Hp} {a dk B : Addr} {ls : List Addr} {kn : Kn} {bs : Bg} {n : Int} (h : StAt C H a dk B ls kn bs n) (k : Kp H H') : StAt C H' a dk B ls kn bs n := by
  obtain ⟨dx, h1⟩ := h.ho
  obtain ⟨m, h2, h3⟩ := h.hk
  obtain ⟨zs, h4, h5⟩ := h.hb
  refine ⟨h.ok, ⟨dx, k _ _ h1 fun _ z => nomatch z⟩, ⟨m, k _ _ h2 (fun _ z => nomatch z), h3.tk k.tk⟩, ⟨zs, k _ _ h4 (fun _ z => nomatch z), h5.keep k.tk fun l hl' o e => ?_⟩, h.nd, h.so⟩
  obtain ⟨xs, el⟩ := h5.live l hl'
  rw [el] at e
  injection e with e
  subst e
  exact k _ _ el fun _ z => nomatch z
def spTold92 (C : Addr) : Sp := fun vs H Q _ => ∃ (a dk Bl : Addr) (ls : List Addr) (kn : Kn) (bs : Bg) (n : Int) (m : Nat) (t : Str) (wy : Int), vs = [.ref a, .str t, .int wy] ∧ StAt C H a dk Bl ls kn bs n ∧ n = (m : Int) ∧ bs.length ≤ 900 ∧ m ≤ 50000 ∧ t.length ≤ 100000 ∧
  (GoodW t bs → ∀ (tp r : Addr) (ls' : List Addr) (H' : Hp), KeepX [a, Bl] H H' → (H r = none ∨ r ∈ ls) → (∀ l ∈ ls', l ∈ ls ∨ H l = none) → r ∉ Bl :: ls' → H' r = some (.lst ((stepS kn bs t).1.map V.str)) → H' tp = some (.tup [.str "came", .ref r]) → StAt C H' a dk Bl ls' kn (stepS kn bs t).2 (n + 1) → Q (.ref tp) H') ∧
  (¬ GoodW t bs → ∀ (tp : Addr) (H' : Hp), Kp H H' → H' tp = some (.tup [.str "refused", .int n, .bl true]) → Q (.ref tp) H')
set_option maxHeartbeats 4000000 in
theorem ok_l_told {C_Stream : Addr} (B : ∀ x ∈ blts, mg x = none) (c_Stream : StC K C_Stream) (xc : XC K mg X_GroveError X_NoGrove X_NotStraight) (g_Stream_take : HasMX P w K mg base C_Stream "take" ["self", "word"] 25 (spTakeX C_Stream X_NoGrove)) (F : Fun K "_law_told" "_law_told" s_l_told f fd) : FnOk P w K mg base CX0 26 f fd ["_law_stream", "_law_word_here", "_law_way"] (spTold92 C_Stream) := by
  refine F.ok sc_l_told (fun vs H Q E h => ?_) (fun cdv A outer s H vs Q E hr h => ?_)
  · obtain ⟨a, dk, Bl, ls, kn, bs, n, m, t, wy, rfl, _⟩ := h
    rfl
  obtain ⟨a, dk, Bl, ls, kn, bs, n, m, t, wy, rfl, hS, hnm, hbl, hm5, htl, q1, q2⟩ := h
  obtain ⟨dx0, ha⟩ := hS.ho
  subst hnm
  refine ⟨_, (pss_cons (ps_if (pt_cmpR op_eq (pv 2) pe_int (nomark _))
      (pss_one (ps_try rfl rfl (fun E pins E₁ hT hp => (pss_one (ps_ret (pe_tup (pa_cons pe_str (pa_cons (pe_hasmX g_Stream_take hT hr (pv 0) c_Stream.cls (pa_cons (pv 1) pa_nil)) pa_nil))))))
          (ph_as (i := 3) (rest := []) (fun e => (pe_glob (v := .ref X_NoGrove) rfl xc.n_NoGrove rfl)) sc_l_told.nd rfl rfl (fun e => (pss_one (ps_ret (pe_tup (pa_cons pe_str (pa_cons (pe_xgetK (K := K) rfl (pv 3) rfl) (pa_cons (pe_and (pe_callB (call_xisTK (K := K) rfl) rfl (B "isinstance" (by decide)) bt_isinstance (pa_cons (pv 3) (pa_cons (pe_ty rfl (B "ValueError" (by decide)) bt_ValueError) pa_nil))) (pe_one (pe_not (pe_callB (call_xisAK (K := K) rfl) rfl (B "isinstance" (by decide)) bt_isinstance (pa_cons (pv 3) (pa_cons (pe_glob (v := .ref X_NotStraight) rfl xc.n_NotStraight rfl) pa_nil)))))) pa_nil))))))))))
      pss_nil)
    (pss_one (ps_try rfl rfl (fun E pins E₁ hT hp => (pss_one (ps_ret (pe_tup (pa_cons pe_str (pa_cons (pe_hasmX g_Stream_take hT hr (pv 0) c_Stream.cls (pa_cons (pv 1) pa_nil)) pa_nil))))))
      (ph_asD (i := 3) (rest := []) (fun e => (pe_glob (v := .ref X_GroveError) rfl xc.n_GroveError rfl)) sc_l_told.nd rfl rfl (fun e => (pss_cons (ps_if (pt_not (pt_truth (pe_callB (call_xisAK (K := K) rfl) rfl (B "isinstance" (by decide)) bt_isinstance (pa_cons (pv 3) (pa_cons (pe_glob (v := .ref X_NoGrove) rfl xc.n_NoGrove rfl) pa_nil))) (fun _ => rfl)))
          (pss_one (ps_ret (pe_tup (pa_cons pe_str pa_nil))))
          pss_nil)
        (pss_one (ps_ret (pe_tup (pa_cons pe_str (pa_cons (pe_xgetK (K := K) rfl (pv 3) rfl) (pa_cons pe_bl pa_nil)))))))))))), ?_⟩
  have came : GoodW t bs → ∀ (r : Addr) (ls' : List Addr) (H' : Hp), KeepX [a, Bl] H H' → (H r = none ∨ r ∈ ls) → (∀ l ∈ ls', l ∈ ls ∨ H l = none) → r ∉ Bl :: ls' → H' r = some (.lst ((stepS kn bs t).1.map V.str)) → StAt C_Stream H' a dk Bl ls' kn (stepS kn bs t).2 ((m : Int) + 1) → ∀ tp, H' tp = none → Q (.ref tp) (upd H' tp (.tup [.str "came", .ref r])) := fun g r ls' H' k1 k2 k3 k4 k5 S' tp htp => by
    have s2 : Same H' (upd H' tp (.tup [.str "came", .ref r])) := Same.new htp
    exact q1 g tp r ls' _ (fun b o hb e => s2 _ _ (k1 b o hb e)) k2 k3 k4 (s2 _ _ k5) upd_same (Fg.StAt.same S' s2)
  refine ⟨_, rfl, rfl, _, rfl, ite2 (fun _ => ?_) (fun _ => ?_)⟩
  · refine ⟨fun σ' C d H' => σ' = [some (.ref a), some (.str t), some (.int wy), none] ∧ C = .ref X_NoGrove ∧ ¬ GoodW t bs ∧ ∃ dx, d = some dx ∧ Same H H' ∧ H' dx = some (.xd [("place", .int (m : Nat))]), ?_, ?_⟩
    · refine ⟨_, rfl, a, dx0, _, rfl, ha, rfl, _, rfl, a, dk, Bl, ls, kn, bs, _, m, t, rfl, hS, rfl, hbl, hm5, htl, fun g r ls' H' k1 k2 k3 k4 k5 S' => ?_, fun g dx H' s1 hdx e1 => ⟨rfl, rfl, g, dx, rfl, s1, e1⟩⟩
      exact ⟨(by show 2 ≤ sizeLine; decide), fun tp htp => came g r ls' H' k1 k2 k3 k4 k5 S' tp htp⟩
    · rintro σ' C d H' e oe ⟨rfl, rfl, hg, dx, rfl, sm, e1⟩ he hc hd hf
      have k0 : Kp H (upd H' e (Known e oe)) := (Kp.same sm).ext he
      have nd : dx ≠ e := fun z => by rw [z, he] at e1; cases e1
      have e2 : (upd H' e (Known e oe)) dx = some (.xd [("place", .int (m : Nat))]) := by rw [upd_ne nd]; exact e1
      have e3 : (upd H' e (Known e oe)) e = some (Known e oe) := upd_same
      generalize upd H' e (Known e oe) = H1 at k0 e2 e3
      refine ⟨[X_NoGrove], X_NoGrove, fun _ => true, .one xc.c_NoGrove, hc, ?_, rfl, e3, ?_⟩
      · intro D hD
        obtain rfl := List.mem_singleton.mp hD
        exact xc.m_NoGrove_NoGrove
      refine ⟨_, rfl, e, oe, X_NoGrove, dx, _, _, rfl, e3, hc, hd, hf, e2, xc.f_NoGrove_place, rfl, ?_⟩
      refine ⟨_, rfl, e, oe, X_NoGrove, "ValueError", rfl, e3, hc, rfl, xc.mV_NoGrove, true, rfl, iteT ?_⟩
      refine ⟨_, rfl, e, oe, X_NoGrove, X_NotStraight, false, rfl, e3, hc, .inr (.inr ⟨xc.nn_NoGrove_NotStraight, xc.c_NotStraight.cl, xc.m_NoGrove_NotStraight, rfl, dx, _, "place", hd, hf, e2, xc.f_NoGrove_place, xc.not_NoGrove_NotStraight⟩), ?_⟩
      exact ⟨false, rfl, (by show 3 ≤ sizeLine; decide), fun tp htp => q2 hg tp _ (k0.trans (Kp.same (Same.new htp))) upd_same⟩
  · refine ⟨fun σ' C d H' => σ' = [some (.ref a), some (.str t), some (.int wy), none] ∧ C = .ref X_NoGrove ∧ ¬ GoodW t bs ∧ ∃ dx, d = some dx ∧ Same H H' ∧ H' dx = some (.xd [("place", .int (m : Nat))]), ?_, ?_⟩
    · refine ⟨_, rfl, a, dx0, _, rfl, ha, rfl, _, rfl, a, dk, Bl, ls, kn, bs, _, m, t, rfl, hS, rfl, hbl, hm5, htl, fun g r ls' H' k1 k2 k3 k4 k5 S' => ?_, fun g dx H' s1 hdx e1 => ⟨rfl, rfl, g, dx, rfl, s1, e1⟩⟩
      exact ⟨(by show 2 ≤ sizeLine; decide), fun tp htp => came g r ls' H' k1 k2 k3 k4 k5 S' tp htp⟩
    · rintro σ' C d H' e oe ⟨rfl, rfl, hg, dx, rfl, sm, e1⟩ he hc hd hf
      have k0 : Kp H (upd H' e (Known e oe)) := (Kp.same sm).ext he
      have nd : dx ≠ e := fun z => by rw [z, he] at e1; cases e1
      have e2 : (upd H' e (Known e oe)) dx = some (.xd [("place", .int (m : Nat))]) := by rw [upd_ne nd]; exact e1
      have e3 : (upd H' e (Known e oe)) e = some (Known e oe) := upd_same
      generalize upd H' e (Known e oe) = H1 at k0 e2 e3
      refine ⟨[X_GroveError], X_NoGrove, fun _ => true, .one xc.c_GroveError, hc, ?_, rfl, e3, ?_⟩
      · intro D hD
        obtain rfl := List.mem_singleton.mp hD
        exact xc.m_NoGrove_GroveError
      refine ⟨_, rfl, e, oe, X_NoGrove, X_NoGrove, true, rfl, e3, hc, .inl ⟨rfl, rfl⟩, true, rfl, iteF ?_⟩
      refine ⟨_, rfl, e, oe, X_NoGrove, dx, _, _, rfl, e3, hc, hd, hf, e2, xc.f_NoGrove_place, rfl, ?_⟩
      exact ⟨(by show 3 ≤ sizeLine; decide), fun tp htp => q2 hg tp _ (k0.trans (Kp.same (Same.new htp))) upd_same⟩
/-- none of the ones is among the others -/
def Dj (A B : List Addr) : Prop := ∀ x ∈ A, x ∉ B
theorem Dj.sym {A B : List Addr} (h : Dj A B) : Dj B A := fun x hx z => h x z hx
theorem Dj.upd {H : Hp} {A A' B : List Addr} (h : Dj A B) (ha : ∀ x ∈ A', x ∈ A ∨ H x = none) (hb : ∀ y ∈ B, ∃ o, H y = some o) : Dj A' B := fun x hx z => by
  rcases ha x hx with h1 | h1
  · exact h x h1 z
  · obtain ⟨o, e⟩ := hb x z
    rw [h1] at e
    cases e
def oS (a dk Bl : Addr) (ls : List Addr) : List Addr := a :: dk :: Bl :: ls
theorem StAt.liveO {C : Addr} {H : Hp} {a dk Bl : Addr} {ls : List Addr} {kn : Kn} {bs : Bg} {n : Int} (h : StAt C H a dk Bl ls kn bs n) : ∀ b ∈ oS a dk Bl ls, ∃ o, H b = some o ∧ ∀ xs, o ≠ .tup xs := fun b hb => by
  obtain ⟨dx, h1⟩ := h.ho
  obtain ⟨m, h2, _⟩ := h.hk
  rcases List.mem_cons.mp hb with rfl | hb
  · exact ⟨_, h1, fun _ z => nomatch z⟩
  · rcases List.mem_cons.mp hb with rfl | hb
    · exact ⟨_, h2, fun _ z => nomatch z⟩
    · obtain ⟨xs, e⟩ := Fg.StAt.live h b hb
      exact ⟨_, e, fun _ z => nomatch z⟩
theorem StAt.keepO {C : Addr} {H H' : Hp} {a dk Bl : Addr} {ls : List Addr} {kn : Kn} {bs : Bg} {n : Int} {ex : List Addr} (h : StAt C H a dk Bl ls kn bs n) (k : KeepX ex H H') (hx : ∀ b ∈ ex, ∀ xs, H b ≠ some (.tup xs)) (hd : Dj (oS a dk Bl ls) ex) : StAt C H' a dk Bl ls kn bs n :=
  Fg.StAt.keep h k hx (hd a (by simp [oS])) (hd dk (by simp [oS])) (hd Bl (by simp [oS])) fun l hl => hd l (by simp [oS, hl])
theorem kpX {H0 H H' : Hp} {a Bl : Addr} (k : Kp H0 H) (x : KeepX [a, Bl] H H') (ha : H0 a = none) (hb : H0 Bl = none) : Kp H0 H' := fun b o e n => x b o (fun z => by
  simp only [List.mem_cons, List.not_mem_nil, or_false] at z
  rcases z with rfl | rfl
  · rw [ha] at e
    cases e
  · rw [hb] at e
    cases e) (k b o e n)
structure Inv2 (C : Addr) (H0 H : Hp) (a1 d1 B1 a2 d2 B2 : Addr) (l1 l2 : List Addr) (kn : Kn) (bs : Bg) (n1 n2 : Int) : Prop where
  S1 : StAt C H a1 d1 B1 l1 kn bs n1
  S2 : StAt C H a2 d2 B2 l2 kn bs n2
  e12 : Dj (oS a1 d1 B1 l1) (oS a2 d2 B2 l2)
  kp : Kp H0 H
theorem Inv2.kept {C : Addr} {H0 H H' : Hp} {a1 d1 B1 a2 d2 B2 : Addr} {l1 l2 : List Addr} {kn : Kn} {bs : Bg} {n1 n2 : Int} (h : Inv2 C H0 H a1 d1 B1 a2 d2 B2 l1 l2 kn bs n1 n2) (k : Kp H H') : Inv2 C H0 H' a1 d1 B1 a2 d2 B2 l1 l2 kn bs n1 n2 := ⟨StAt.kp h.S1 k, StAt.kp h.S2 k, h.e12, h.kp.trans k⟩
theorem live1 {C : Addr} {H : Hp} {a1 d1 B1 : Addr} {l1 : List Addr} {kn : Kn} {b1 : Bg} {n1 : Int} (h : StAt C H a1 d1 B1 l1 kn b1 n1) : ∀ b ∈ oS a1 d1 B1 l1, ∃ o, H b = some o := fun b hb => by
  obtain ⟨o, e, _⟩ := StAt.liveO h b hb
  exact ⟨o, e⟩
theorem notup {C : Addr} {H : Hp} {a1 d1 B1 : Addr} {l1 : List Addr} {kn : Kn} {b1 : Bg} {n1 : Int} (h : StAt C H a1 d1 B1 l1 kn b1 n1) : ∀ b ∈ [a1, B1], ∀ xs, H b ≠ some (.tup xs) := fun b hb xs e => by
  obtain ⟨o, e1, e2⟩ := StAt.liveO h b (by simp only [List.mem_cons, List.not_mem_nil, or_false] at hb; rcases hb with rfl | rfl <;> simp [oS])
  rw [e] at e1
  injection e1 with e1
  exact e2 xs e1.symm
theorem Dj.sub2 {a1 d1 B1 : Addr} {l1 X : List Addr} (h : Dj (oS a1 d1 B1 l1) X) : Dj X [a1, B1] := fun x hx z => by
  simp only [List.mem_cons, List.not_mem_nil, or_false] at z
  rcases z with rfl | rfl
  · exact h _ (by simp [oS]) hx
  · exact h _ (by simp [oS]) hx
theorem oS_new {H : Hp} {a d B : Addr} {l l' : List Addr} (h : ∀ x ∈ l', x ∈ l ∨ H x = none) : ∀ x ∈ oS a d B l', x ∈ oS a d B l ∨ H x = none := fun x hx => by
  simp only [oS, List.mem_cons] at hx ⊢
  rcases hx with h1 | h1 | h1 | h1
  · exact .inl (.inl h1)
  · exact .inl (.inr (.inl h1))
  · exact .inl (.inr (.inr (.inl h1)))
  · rcases h x h1 with h2 | h2
    · exact .inl (.inr (.inr (.inr h2)))
    · exact .inr h2
set_option maxHeartbeats 8000000 in
theorem ok_law {C_Stream : Addr} (B : ∀ x ∈ blts, mg x = none) (c_Stream : StC K C_Stream) (g_l_tag : Has P w K mg base "_law_tag" ["_law_cell_here"] 1 spTag92) (g_l_cell : Has P w K mg base "_law_cell" ["_law_script", "_law_k"] 1 (spCellS K)) (g_Stream : HasC P w K mg base C_Stream "Stream" ["self", "changer"] 25 (spStInit C_Stream)) (g_l_word : Has P w K mg base "_law_word" ["_law_script", "_law_k", "_law_tag_here"] 2 (spWord92 K)) (g_Stream_owed : HasM P w K mg base C_Stream "owed" ["self"] 1 (spOwed C_Stream)) (g_l_told : Has P w K mg base "_law_told" ["_law_stream", "_law_word_here", "_law_way"] 26 (spTold92 C_Stream)) (g_l_is_tag : Has P w K mg base "_law_is_tag" ["_law_word_here"] 1 spIsTag92) (g_Stream_take : HasMX P w K mg base C_Stream "take" ["self", "word"] 25 (spTakeX C_Stream X_NoGrove)) (g_l_whole : Has P w K mg base "_law_whole" ["_law_one", "_law_due"] 1 spWhole92) (g_Stream_height : HasM P w K mg base C_Stream "height" ["self"] 1 (spHeight C_Stream)) (F : Fun K "law" "law" s_law f fd) : FnOk P w K mg base CX0 27 f fd ["_law_script"] (spLaw K) := by
  refine F.ok sc_law (fun vs H Q E h => ?_) (fun cdv A outer s H vs Q E hr h => ?_)
  · obtain ⟨a, ns, rfl, _⟩ := h
    rfl
  obtain ⟨a, ns, rfl, hS, h63, q⟩ := h
  have hu := hu_room hr
  refine hideI ((defBody s_law).drop 9) (pss_one (ps_ret (pe_cmpR (op_eqD hu) (pe_hasm0 g_Stream_owed hr (pv 4) c_Stream.cls) (pe_hasm0 g_Stream_owed hr (pv 5) c_Stream.cls) (nomark _)))) (fun u9 h9 e9 => ?_)
  refine hideI ((sBody ((defBody s_law).getD 8 (.Pass ⟨0, 0, 0, 0⟩))).drop 4) (pss_one (ps_if (pt_not (pt_truth (pe_has g_l_whole hr rfl (pa_cons (pe_hasm0 g_Stream_height hr (pv 4) c_Stream.cls) (pa_cons (pv 7) pa_nil))) (fun _ => rfl)))
      (pss_one (ps_ret pe_bl))
      pss_nil)) (fun u8_4 h8_4 e8_4 => ?_)
  refine hideI ((sBody ((sBody ((defBody s_law).getD 8 (.Pass ⟨0, 0, 0, 0⟩))).getD 3 (.Pass ⟨0, 0, 0, 0⟩))).drop 2) (pss_one (ps_set (i := 7) sc_law.nd rfl (Or.inl rfl) (pe_op op_sub (pe_op op_add (pv 7) pe_int) (pe_op op_mul pe_int (pe_callTy call_intB rfl (B "int" (by decide)) bt_int (pa_cons (pe_cmpR op_eq (pv 9) pe_str (nomark _)) pa_nil)))))) (fun u8_3t2 h8_3t2 e8_3t2 => ?_)
  refine hideI ((sBody ((sBody ((defBody s_law).getD 8 (.Pass ⟨0, 0, 0, 0⟩))).getD 3 (.Pass ⟨0, 0, 0, 0⟩))).drop 1) (pss_cons (ps_set (i := 6) sc_law.nd rfl (Or.inl rfl) (pe_op op_add (pv 6) pe_int)) h8_3t2) (fun u8_3t1 h8_3t1 e8_3t1 => ?_)
  refine hideI ((sBody ((sBody ((defBody s_law).getD 8 (.Pass ⟨0, 0, 0, 0⟩))).getD 3 (.Pass ⟨0, 0, 0, 0⟩))).drop 0) (pss_cons (ps_if (PW.pt (pw_or (pt_cmpR op_ne (pe_ix ix_tup (pv 11) pe_int (fun _ _ => rfl)) pe_str (nomark _)) (pw_or1 (pt_cmpR (op_neD hu) (pe_ix ix_tup (pv 11) pe_int (fun _ _ => rfl)) (pe_hasmX g_Stream_take takes_no hr (pv 5) c_Stream.cls (pa_cons (pv 9) pa_nil)) (nomark _)))))
      (pss_one (ps_ret pe_bl))
      pss_nil) h8_3t1) (fun u8_3t0 h8_3t0 e8_3t0 => ?_)
  refine hideI ((sElse ((sBody ((defBody s_law).getD 8 (.Pass ⟨0, 0, 0, 0⟩))).getD 3 (.Pass ⟨0, 0, 0, 0⟩))).drop 1) (pss_one (ps_if (pt_cmpR (op_neD hu) (pe_hasm0 g_Stream_owed hr (pv 4) c_Stream.cls) (pv 10) (nomark _))
      (pss_one (ps_ret pe_bl))
      pss_nil)) (fun u8_3e1 h8_3e1 e8_3e1 => ?_)
  refine hideI ((sElse ((sBody ((defBody s_law).getD 8 (.Pass ⟨0, 0, 0, 0⟩))).getD 3 (.Pass ⟨0, 0, 0, 0⟩))).drop 0) (pss_cons (ps_if (PW.pt (pw_or (pt_cmpR op_ne (pe_ix ix_tup (pv 11) pe_int (fun _ _ => rfl)) pe_str (nomark _)) (pw_or (pt_not (pt_truth (pe_has g_l_whole hr rfl (pa_cons (pe_ix ix_tup (pv 11) pe_int (fun _ _ => rfl)) (pa_cons (pv 6) pa_nil))) (fun _ => rfl))) (pw_or1 (pt_cmpR op_notB (pe_ix ix_tup (pv 11) pe_int (fun _ _ => rfl)) pe_bl (nomark _))))))
      (pss_one (ps_ret pe_bl))
      pss_nil) h8_3e1) (fun u8_3e0 h8_3e0 e8_3e0 => ?_)
  refine hideI ((sBody ((defBody s_law).getD 8 (.Pass ⟨0, 0, 0, 0⟩))).drop 3) (pss_cons (ps_if (PW.pt (pw_or (pt_truth (pe_has g_l_is_tag hr rfl (pa_cons (pv 9) pa_nil)) (fun _ => rfl)) (pw_or1 (PW.pt (pw_and (pt_cmpR op_eq (pv 9) pe_str (nomark _)) (pw_and1 (pt_cmpR op_gt (pv 7) pe_int (nomark _))))))))
      h8_3t0
      h8_3e0) h8_4) (fun u8_3 h8_3 e8_3 => ?_)
  refine hideI ((sBody ((defBody s_law).getD 8 (.Pass ⟨0, 0, 0, 0⟩))).drop 2) (pss_cons (ps_set (i := 11) sc_law.nd rfl (Or.inl rfl) (pe_has g_l_told hr rfl (pa_cons (pv 4) (pa_cons (pv 9) (pa_cons (pe_op op_mod (pe_op op_add (pv 8) (pe_op op_fdiv (pe_has g_l_cell hr rfl (pa_cons (pv 0) (pa_cons pe_int pa_nil))) pe_int)) pe_int) pa_nil))))) h8_3) (fun u8_2 h8_2 e8_2 => ?_)
  refine hideI ((sBody ((defBody s_law).getD 8 (.Pass ⟨0, 0, 0, 0⟩))).drop 1) (pss_cons (ps_set (i := 10) sc_law.nd rfl (Or.inl rfl) (pe_hasm0 g_Stream_owed hr (pv 4) c_Stream.cls)) h8_2) (fun u8_1 h8_1 e8_1 => ?_)
  refine hideI ((sBody ((defBody s_law).getD 8 (.Pass ⟨0, 0, 0, 0⟩))).drop 0) (pss_cons (ps_set (i := 9) sc_law.nd rfl (Or.inl rfl) (pe_has g_l_word hr rfl (pa_cons (pv 0) (pa_cons (pv 8) (pa_cons (pv 1) pa_nil))))) h8_1) (fun u8_0 h8_0 e8_0 => ?_)
  refine hideI ((defBody s_law).drop 8) (pss_cons (ps_for PassesOwn.never rfl (pi_range1 rfl (B "range" (by decide)) (pa_cons (pe_op op_mod (pe_has g_l_cell hr rfl (pa_cons (pv 0) (pa_cons pe_int pa_nil))) pe_int) pa_nil)) (pg_name (i := 8) sc_law.nd rfl (Or.inl rfl))
      h8_0) h9) (fun u8 h8 e8 => ?_)
  refine hideI ((defBody s_law).drop 7) (pss_cons (ps_set (i := 7) sc_law.nd rfl (Or.inl rfl) pe_int) h8) (fun u7 h7 e7 => ?_)
  refine hideI ((defBody s_law).drop 6) (pss_cons (ps_set (i := 6) sc_law.nd rfl (Or.inl rfl) pe_int) h7) (fun u6 h6 e6 => ?_)
  refine hideI ((defBody s_law).drop 5) (pss_cons (ps_set (i := 5) sc_law.nd rfl (Or.inl rfl) (pe_hasc g_Stream hr rfl (pa_cons (pv 3) pa_nil))) h6) (fun u5 h5 e5 => ?_)
  refine hideI ((defBody s_law).drop 4) (pss_cons (ps_set (i := 4) sc_law.nd rfl (Or.inl rfl) (pe_hasc g_Stream hr rfl (pa_cons (pv 3) pa_nil))) h5) (fun u4 h4 e4 => ?_)
  refine hideI ((defBody s_law).drop 3) (pss_cons (ps_set (i := 3) sc_law.nd rfl (Or.inl rfl) (pe_tup (pa_cons pe_int (pa_cons (pe_tup (pa_cons (pe_tup (pa_cons pe_int (pa_cons (pv 1) (pa_cons (pe_callTy call_tuple_of rfl (B "tuple" (by decide)) bt_tuple (pa_cons (pv 2) pa_nil)) pa_nil)))) pa_nil)) pa_nil)))) h4) (fun u3 h3 e3 => ?_)
  refine hideI ((defBody s_law).drop 2) (pss_cons (ps_if (pt_cmpR op_eq (pe_op op_mod (pe_has g_l_cell hr rfl (pa_cons (pv 0) (pa_cons pe_int pa_nil))) pe_int) pe_int (nomark _))
      (pss_one (ps_set (i := 2) sc_law.nd rfl (Or.inl rfl) (pe_lst (pa_cons (pe_tup (pa_cons pe_str (pa_cons (pv 1) (pa_cons (pe_tup pa_nil) pa_nil)))) pa_nil))))
      pss_nil) h3) (fun u2 h2 e2 => ?_)
  refine hideI ((defBody s_law).drop 1) (pss_cons (ps_set (i := 2) sc_law.nd rfl (Or.inl rfl) (pe_lst (pa_cons (pe_tup (pa_cons pe_str (pa_cons (pe_has g_l_tag hr rfl (pa_cons (pe_op op_mod (pe_has g_l_cell hr rfl (pa_cons (pv 0) (pa_cons pe_int pa_nil))) (pe_op op_pow pe_int pe_int)) pa_nil)) (pa_cons (pe_tup (pa_cons (pe_tup (pa_cons pe_str (pa_cons pe_int pa_nil))) pa_nil)) pa_nil)))) (pa_cons (pe_tup (pa_cons pe_str (pa_cons (pv 1) (pa_cons (pe_tup pa_nil) pa_nil)))) pa_nil)))) h2) (fun u1 h1 e1 => ?_)
  refine hideI ((defBody s_law).drop 0) (pss_cons (ps_set (i := 1) sc_law.nd rfl (Or.inl rfl) (pe_has g_l_tag hr rfl (pa_cons (pe_op op_mod (pe_has g_l_cell hr rfl (pa_cons (pv 0) (pa_cons pe_int pa_nil))) (pe_op op_pow pe_int pe_int)) pa_nil))) h1) (fun u0 h0 e0 => ?_)
  refine ⟨u0, h0, ?_⟩
  have p9 : ∀ v : Int, 0 ≤ v % (10 : Int) ^ (9 : Int).toNat ∧ v % (10 : Int) ^ (9 : Int).toNat < 1000000000 := fun v => ⟨Int.emod_nonneg v (by decide), Int.emod_lt_of_pos v (by decide)⟩
  refine by_eq e0 ?_
  refine ⟨_, rfl, a, ns, 0, rfl, hS, h63, by decide, by decide, fun v => ?_⟩
  refine ⟨_, _, rfl, rfl, ⟨by decide, by decide, by decide⟩, _, _, rfl, rfl, (by show (0 : Int) < 10 ^ 9; decide), _, rfl, (p9 v).1, (p9 v).2, fun tg H1 s1 htg htg8 => ?_⟩
  refine by_eq e1 ?_
  have tgok : PyData.strOk tg = true := htg.let0.ok
  refine ⟨_, rfl, a, ns, 1, rfl, s1.seq hS, h63, by decide, by decide, fun v1 => ?_⟩
  refine ⟨_, _, rfl, rfl, ⟨by decide, by decide, by decide⟩, _, _, rfl, rfl, (by show (0 : Int) < 10 ^ 9; decide), _, rfl, (p9 v1).1, (p9 v1).2, fun t2 H2 s2 ht2 ht28 => ?_⟩
  refine ⟨(by show 2 ≤ sizeLine; decide), fun k1 hk1 => ⟨(by show 1 ≤ sizeLine; decide), fun k2 hk2 => ⟨(by show 3 ≤ sizeLine; decide), fun k3 hk3 => ?_⟩⟩⟩
  refine ⟨_, rfl, (by show 0 ≤ sizeLine; decide), fun k4 hk4 => ⟨(by show 3 ≤ sizeLine; decide), fun k5 hk5 => ⟨(by show 2 ≤ sizeLine; decide), fun L hL => ?_⟩⟩⟩
  have y1 := Same.new (o := .tup [.str "kids", .int 0]) hk1
  have y2 := Same.new (o := .tup [.ref k1]) hk2
  have y3 := Same.new (o := .tup [.str "tag", .str t2, .ref k2]) hk3
  have y4 := Same.new (o := .tup []) hk4
  have y5 := Same.new (o := .tup [.str "tag", .str tg, .ref k4]) hk5
  have y6 := Same.new (o := .lst [.ref k3, .ref k5]) hL
  have s26 := (((((y1.trans y2).trans y3).trans y4).trans y5).trans y6)
  have R6 : RepP _ [.ref k3, .ref k5] (.tag t2 (.kids 0 .nil) (.tag tg .nil .nil)) := .tag (y6 _ _ (y5 _ _ (y4 _ _ upd_same))) (y6 _ _ (y5 _ _ (y4 _ _ (y3 _ _ upd_same)))) (.kids (y6 _ _ (y5 _ _ (y4 _ _ (y3 _ _ (y2 _ _ upd_same))))) .nil) (.tag (y6 _ _ upd_same) (y6 _ _ (y5 _ _ upd_same)) .nil .nil)
  have hL6 := upd_same (H := upd (upd (upd (upd (upd H2 k1 (.tup [.str "kids", .int 0])) k2 (.tup [.ref k1])) k3 (.tup [.str "tag", .str t2, .ref k2])) k4 (.tup [])) k5 (.tup [.str "tag", .str tg, .ref k4])) (a := L) (o := .lst [.ref k3, .ref k5])
  show u2 _ _ _
  generalize upd (upd (upd (upd (upd (upd H2 k1 (.tup [.str "kids", .int 0])) k2 (.tup [.ref k1])) k3 (.tup [.str "tag", .str t2, .ref k2])) k4 (.tup [])) k5 (.tup [.str "tag", .str tg, .ref k4])) L (.lst [.ref k3, .ref k5]) = H3 at s26 R6 hL6 ⊢
  have s13 := s2.trans s26
  refine via (t := u3) (R := fun σ H4 => ∃ (L' : Addr) (ys : List V) (p : Pa), σ = [some (.ref a), some (.str tg), some (.ref L'), none, none, none, none, none, none, none, none, none] ∧ Same H1 H4 ∧ H4 L' = some (.lst ys) ∧ RepP H4 ys p ∧ p.nk ≤ 1 ∧ p.sz ≤ 20 ∧ ∀ x ∈ p.tags, PyData.strOk x = true) ?_ fun fin => ?_
  rotate_left
  · refine by_eq e2 ?_
    refine ⟨_, rfl, a, ns, 2, rfl, (s1.trans s13).seq hS, h63, by decide, by decide, fun v2 => ?_⟩
    refine ⟨_, _, rfl, rfl, (by show (0 : Int) < 3; decide), rfl, _, rfl, ite2 (fun _ => ?_) (fun _ => ?_)⟩
    · refine ⟨_, rfl, (by show 0 ≤ sizeLine; decide), fun k6 hk6 => ⟨(by show 3 ≤ sizeLine; decide), fun k7 hk7 => ⟨(by show 1 ≤ sizeLine; decide), fun L2 hL2 => ?_⟩⟩⟩
      have x1 := Same.new (o := .tup []) hk6
      have x2 := Same.new (o := .tup [.str "tag", .str tg, .ref k6]) hk7
      have x3 := Same.new (o := .lst [.ref k7]) hL2
      refine fin _ _ ⟨L2, [.ref k7], .tag tg .nil .nil, rfl, s13.trans ((x1.trans x2).trans x3), upd_same, .tag (x3 _ _ upd_same) (x3 _ _ (x2 _ _ upd_same)) .nil .nil, Nat.le_of_ble_eq_true rfl, Nat.le_of_ble_eq_true rfl, fun x hx => ?_⟩
      have : x = tg := by simpa [Pa.tags] using hx
      rw [this]
      exact tgok
    · refine fin _ _ ⟨L, _, _, rfl, s13, hL6, R6, Nat.le_of_ble_eq_true rfl, Nat.le_of_ble_eq_true rfl, fun x hx => ?_⟩
      have : x = t2 ∨ x = tg := by simpa [Pa.tags] using hx
      rcases this with h | h
      · rw [h]
        exact ht2.let0.ok
      · rw [h]
        exact tgok
  rintro σ H4 ⟨L', ys, p, rfl, s14, hL4, R4, p1, p2, p3⟩
  refine by_eq e3 ?_
  refine ⟨_, rfl, _, rfl, L', ys, rfl, .inl ⟨SqL.of hL4, fun pq hpq => ⟨(by show 3 ≤ sizeLine; decide), fun r1 hr1 => ⟨(by show 1 ≤ sizeLine; decide), fun r2 hr2 => ⟨(by show 2 ≤ sizeLine; decide), fun rc hrc => ?_⟩⟩⟩⟩⟩
  have z1 := Same.new (o := .tup ys) hpq
  have z2 := Same.new (o := .tup [.int 0, .str tg, .ref pq]) hr1
  have z3 := Same.new (o := .tup [.ref r1]) hr2
  have z4 := Same.new (o := .tup [.int 1, .ref r2]) hrc
  have s45 := ((z1.trans z2).trans z3).trans z4
  have hCh : ChR _ rc [((0 : Int), tg, p)] := ⟨1, r2, [.ref r1], upd_same, z4 _ _ upd_same, .cons ⟨r1, pq, ys, rfl, z4 _ _ (z3 _ _ upd_same), z4 _ _ (z3 _ _ (z2 _ _ upd_same)), R4.mono s45.tk⟩ .nil, Nat.le_of_ble_eq_true rfl, fun r hr => by rw [List.mem_singleton.mp hr]; exact p2⟩
  show u4 _ _ _
  generalize upd (upd (upd (upd H4 pq (.tup ys)) r1 (.tup [.int 0, .str tg, .ref pq])) r2 (.tup [.ref r1])) rc (.tup [.int 1, .ref r2]) = H5 at s45 hCh ⊢
  have s05 := s1.trans (s14.trans s45)
  have hrsok : ∀ r ∈ [((0 : Int), tg, p)], r.2.2.nk ≤ 1 ∧ ∀ x ∈ r.2.2.tags, PyData.strOk x = true := fun r hr => by
    rw [List.mem_singleton.mp hr]
    exact ⟨p1, p3⟩
  refine by_eq e4 ?_
  refine ⟨_, rfl, fun sa dr hsa hdr hne => ⟨sa, rc, dr, _, rfl, upd_same, hCh.tk (making hsa hdr hne).tk, hrsok, fun H6 dk Bl k6 hdk hBl S6 => ⟨rfl, ?_⟩⟩⟩
  have s6 : Same H5 H6 := made hsa hdr fun b o hb e => k6 b o (fun z => hb (List.mem_singleton.mp z)) e
  refine by_eq e5 ?_
  refine ⟨_, rfl, fun sb dr2 hsb hdr2 hne2 => ⟨sb, rc, dr2, _, rfl, upd_same, (hCh.tk s6.tk).tk (making hsb hdr2 hne2).tk, hrsok, fun H7 dk2 Bl2 k7 hdk2 hBl2 S7 => ⟨rfl, ?_⟩⟩⟩
  have s7 : Same H6 H7 := made hsb hdr2 fun b o hb e => k7 b o (fun z => hb (List.mem_singleton.mp z)) e
  have S6' := S6.same s7
  generalize knOf [((0 : Int), tg, p)] = kn at S6 S6' S7
  have hok := S6.ok
  have fsa : H sa = none := s05.free hsa
  have fBl : H Bl = none := s05.free (making_free hBl)
  have fsb : H sb = none := (s05.trans s6).free hsb
  have fBl2 : H Bl2 = none := (s05.trans s6).free (making_free hBl2)
  have hI : Inv2 C_Stream H H7 sa dk Bl sb dk2 Bl2 [] [] kn [] ((0 : Nat) : Int) ((0 : Nat) : Int) := ⟨S6', S7, fun x hx z => by
    obtain ⟨o, e⟩ := live1 S6 x hx
    have : H6 x = none := by
      simp only [oS, List.mem_cons, List.not_mem_nil, or_false] at z
      rcases z with rfl | rfl | rfl
      · exact hsb
      · exact making_free hdk2
      · exact making_free hBl2
    rw [this] at e
    exact (nomatch e), Kp.same ((s05.trans s6).trans s7)⟩
  refine by_eq e6 ?_
  refine by_eq e7 ?_
  refine by_eq e8 ?_
  refine ⟨_, rfl, a, ns, 3, rfl, hI.kp.seq hS, h63, by decide, by decide, fun v3 => ?_⟩
  have n0 := Int.emod_nonneg v3 (by decide : (31 : Int) ≠ 0)
  have n1 := Int.emod_lt_of_pos v3 (by decide : (0 : Int) < 31)
  refine ⟨_, _, rfl, rfl, (by show (0 : Int) < 31; decide), _, rfl, (by show -2 ^ 62 ≤ v3 % 31; (first | lia | omega)), (by show v3 % 31 < 2 ^ 62; (first | lia | omega)), for_range (lo := 0) (n := (v3 % 31).toNat) (fun i σ H8 => ∃ (v8 v9 v10 v11 : Option V) (l1 l2 : List Addr) (bs : Bg) (tk : Nat), σ = [some (.ref a), some (.str tg), some (.ref L'), some (.ref rc), some (.ref sa), some (.ref sb), some (.int (tk : Int)), some (.int (bs.length : Int)), v8, v9, v10, v11] ∧ Inv2 C_Stream H H8 sa dk Bl sb dk2 Bl2 l1 l2 kn bs (tk : Int) (tk : Int) ∧ bs.length ≤ i ∧ tk ≤ i ∧ (owedB bs).length ≤ 41 * i)
    ⟨none, none, none, none, [], [], [], 0, rfl, hI, Nat.le_refl _, Nat.le_refl _, (by decide)⟩ ?_ ?_⟩
  · rintro i σ H8 hi ⟨v8, v9, v10, v11, l1, l2, bs, tk, rfl, I, hbi, hti, hoi⟩
    have hi31 : i < 31 := by (first | lia | omega)
    refine by_eq e8_0 ?_
    refine ⟨_, rfl, _, rfl, _, rfl, a, ns, _, tg, rfl, I.kp.seq hS, h63, by (first | lia | omega), by (first | lia | omega), htg, htg8, fun y H9 s9 hay hy80 => ?_⟩
    have I9 := I.kept (Kp.same s9)
    obtain ⟨dx9, ha9⟩ := I9.S1.ho
    refine by_eq e8_1 ?_
    refine ⟨_, rfl, sa, dx9, _, rfl, ha9, rfl, sa, dk, Bl, l1, kn, bs, _, rfl, I9.S1, by (first | lia | omega), by (first | lia | omega), fun kp H10 s10 hkp0 hkp => ?_⟩
    have I10 := I9.kept (Kp.same s10)
    obtain ⟨dx10, ha10⟩ := I10.S1.ho
    refine by_eq e8_2 ?_
    refine ⟨_, rfl, _, rfl, _, rfl, _, rfl, a, ns, 2, rfl, I10.kp.seq hS, h63, by decide, by decide, fun v4 => ?_⟩
    refine ⟨_, _, rfl, rfl, ⟨by decide, by decide⟩, _, _, rfl, rfl, _, _, rfl, rfl, (by show (0 : Int) < 2; decide), sa, dk, Bl, l1, kn, bs, (tk : Int), tk, y, _, rfl, I10.S1, rfl, by (first | lia | omega), by (first | lia | omega), by (first | lia | omega), fun g tp r l1' H11 k11 hr0 hl1' hrn hr11 htp S11 => ?_, fun g tp H11 k11 htp => ?_⟩
    · -- it came
      show u8_3 _ _ _
      have I11S2 : StAt C_Stream H11 sb dk2 Bl2 l2 kn bs (tk : Int) := StAt.keepO I10.S2 k11 (notup I10.S1) (Dj.sub2 I10.e12)
      have e11 : Dj (oS sa dk Bl l1') (oS sb dk2 Bl2 l2) := Dj.upd I10.e12 (oS_new hl1') (live1 I10.S2)
      have kp11 : Kp H H11 := kpX I10.kp k11 fsa fBl
      have rn : r ∉ oS sb dk2 Bl2 l2 := fun z => by
        rcases hr0 with h | h
        · obtain ⟨o, e⟩ := live1 I10.S2 r z
          rw [h] at e
          cases e
        · exact I10.e12 r (by simp [oS, h]) z
      have yok : PyData.strOk y = true := by
        rcases g with h | h
        · rw [h.1]
          exact sl_ok
        · exact h.1.let0.ok
      have okS := (step_ok hok (bs := bs) (t := y) yok I10.S1.so).1
      have stl := step_len hok bs y
      have hgt := step_hgt kn bs y
      refine via (t := u8_4) (R := fun σ H12 => ∃ (l1'' l2'' : List Addr), σ = [some (.ref a), some (.str tg), some (.ref L'), some (.ref rc), some (.ref sa), some (.ref sb), some (.int ((tk + 1 : Nat) : Int)), some (.int ((stepS kn bs y).2.length : Int)), some (.int (0 + (i : Int))), some (.str y), some (.ref kp), some (.ref tp)] ∧ Inv2 C_Stream H H12 sa dk Bl sb dk2 Bl2 l1'' l2'' kn (stepS kn bs y).2 ((tk + 1 : Nat) : Int) ((tk + 1 : Nat) : Int)) ?_ fun fin => ?_
      · rintro σ H12 ⟨l1'', l2'', rfl, I12⟩
        obtain ⟨dx12, ha12⟩ := I12.S1.ho
        refine by_eq e8_4 ?_
        refine ⟨_, rfl, sa, dx12, _, rfl, ha12, rfl, sa, dk, Bl, l1'', kn, _, _, rfl, I12.S1, _, rfl, _, rfl, true, rfl, iteF ⟨_, _, _, _, l1'', l2'', (stepS kn bs y).2, tk + 1, rfl, I12, ?_, by (first | lia | omega), by (first | lia | omega)⟩⟩
        split at hgt <;> (first | lia | omega)
      refine by_eq e8_3 ?_
      refine ⟨_, rfl, y, rfl, hay, by (first | lia | omega), fun H12 s12 => ⟨tagB y, rfl, ?_⟩⟩
      have key : tagB y = true ∨ (tagB y = false ∧ y = SL ∧ bs ≠ []) := by
        rcases g with h | h
        · cases hb : tagB y with
          | true => exact .inl rfl
          | false => exact .inr ⟨rfl, h⟩
        · exact .inl (tagB_letsS h.1 h.2)
      have body : ∀ D : Ends, (∀ σ H12, (∃ (l1'' l2'' : List Addr), σ = [some (.ref a), some (.str tg), some (.ref L'), some (.ref rc), some (.ref sa), some (.ref sb), some (.int ((tk + 1 : Nat) : Int)), some (.int ((stepS kn bs y).2.length : Int)), some (.int (0 + (i : Int))), some (.str y), some (.ref kp), some (.ref tp)] ∧ Inv2 C_Stream H H12 sa dk Bl sb dk2 Bl2 l1'' l2'' kn (stepS kn bs y).2 ((tk + 1 : Nat) : Int) ((tk + 1 : Nat) : Int)) → D.nx σ H12) → u8_3t0 D [some (.ref a), some (.str tg), some (.ref L'), some (.ref rc), some (.ref sa), some (.ref sb), some (.int (tk : Int)), some (.int (bs.length : Int)), some (.int (0 + (i : Int))), some (.str y), some (.ref kp), some (.ref tp)] H12 := fun D fin => by
        refine by_eq e8_3t0 ?_
        refine ⟨_, rfl, tp, _, 0, _, rfl, rfl, SqT.of (s12 _ _ htp), rfl, rfl, _, rfl, iteF ?_⟩
        have I12S2 := Fg.StAt.same I11S2 s12
        obtain ⟨dxb, hab⟩ := I12S2.ho
        refine ⟨_, rfl, tp, _, 1, _, rfl, rfl, SqT.of (s12 _ _ htp), rfl, _, rfl, sb, dxb, _, rfl, hab, rfl, _, rfl, sb, dk2, Bl2, l2, kn, bs, (tk : Int), tk, y, rfl, I12S2, rfl, by (first | lia | omega), by (first | lia | omega), by (first | lia | omega), fun _ r2 l2' H13 k13 hr20 hl2' hr2n hr213 S13 => ?_, fun z => absurd g z⟩
        have hr13 : H13 r = some (.lst ((stepS kn bs y).1.map V.str)) := k13 _ _ (fun z => by
          simp only [List.mem_cons, List.not_mem_nil, or_false] at z
          rcases z with z | z
          · exact rn (by simp [oS, z])
          · exact rn (by simp [oS, z])) (s12 _ _ hr11)
        refine eqD_lists (SqL.of hr13) (SqL.of hr213) okS okS ⟨_, rfl, ?_⟩
        rw [if_pos rfl, decide_eq_true rfl]
        refine iteF ?_
        have I13 : Inv2 C_Stream H H13 sa dk Bl sb dk2 Bl2 l1' l2' kn (stepS kn bs y).2 ((tk + 1 : Nat) : Int) ((tk + 1 : Nat) : Int) := ⟨StAt.keepO (Fg.StAt.same S11 s12) k13 (notup I12S2) (Dj.sub2 e11.sym), S13, (Dj.upd e11.sym (oS_new hl2') (live1 (Fg.StAt.same S11 s12))).sym, kpX (kp11.trans (Kp.same s12)) k13 fsb fBl2⟩
        refine by_eq e8_3t1 ?_
        refine ⟨_, rfl, _, _, rfl, rfl, ?_⟩
        refine by_eq e8_3t2 ?_
        refine ⟨_, rfl, _, _, rfl, rfl, _, rfl, rfl, _, rfl, _, _, rfl, rfl, ?_⟩
        have hv : (bs.length : Int) + 1 - 2 * (if decide (V.str y = V.str (Str.ofString "/")) = true then 1 else 0) = ((stepS kn bs y).2.length : Int) := by
          by_cases c : y = SL
          · rw [if_pos (decide_eq_true (congrArg V.str c))]
            rw [if_pos c] at hgt
            have : 0 < bs.length := by
              rcases g with h | h
              · exact List.length_pos_iff.mpr h.2
              · exact absurd c h.1.ne
            (first | lia | omega)
          · rw [if_neg (fun z => c (by have := of_decide_eq_true z; injection this))]
            rw [if_neg c] at hgt
            (first | lia | omega)
        refine ⟨.inl ⟨by decide, by decide⟩, _, _, rfl, rfl, fin _ _ ⟨l1', l2', ?_, I13⟩⟩
        rw [← hv]
        rfl
      rcases key with ht | ⟨ht, hy, hb⟩
      · rw [ht]
        exact iteT (iteT (body _ fin))
      · rw [ht]
        refine iteF ⟨_, rfl, rfl, _, rfl, ?_⟩
        rw [decide_eq_true (congrArg V.str hy)]
        refine iteT ⟨_, rfl, _, _, rfl, rfl, _, rfl, ite2 (fun c => body _ fin) (fun c => absurd (decide_eq_true ?_) c)⟩
        have := List.length_pos_iff.mpr hb
        show (bs.length : Int) > 0
        (first | lia | omega)
    · show u8_3 _ _ _
      have I11 := I10.kept k11
      refine via (t := u8_4) (R := fun σ H12 => σ = [some (.ref a), some (.str tg), some (.ref L'), some (.ref rc), some (.ref sa), some (.ref sb), some (.int (tk : Int)), some (.int (bs.length : Int)), some (.int (0 + (i : Int))), some (.str y), some (.ref kp), some (.ref tp)] ∧ Inv2 C_Stream H H12 sa dk Bl sb dk2 Bl2 l1 l2 kn bs (tk : Int) (tk : Int)) ?_ fun fin => ?_
      · rintro σ H12 ⟨rfl, I12⟩
        obtain ⟨dx12, ha12⟩ := I12.S1.ho
        refine by_eq e8_4 ?_
        exact ⟨_, rfl, sa, dx12, _, rfl, ha12, rfl, sa, dk, Bl, l1, kn, _, _, rfl, I12.S1, _, rfl, _, rfl, true, rfl, iteF ⟨_, _, _, _, l1, l2, bs, tk, rfl, I12, by (first | lia | omega), by (first | lia | omega), by (first | lia | omega)⟩⟩
      refine by_eq e8_3 ?_
      have htb : tagB y = false := by
        cases z : tagB y with
        | false => rfl
        | true => exact absurd (.inr (tagB_lets z)) g
      refine ⟨_, rfl, y, rfl, hay, by (first | lia | omega), fun H12 s12 => ⟨tagB y, rfl, ?_⟩⟩
      have I12 := I11.kept (Kp.same s12)
      have body : ∀ D : Ends, (∀ σ H12, (σ = [some (.ref a), some (.str tg), some (.ref L'), some (.ref rc), some (.ref sa), some (.ref sb), some (.int (tk : Int)), some (.int (bs.length : Int)), some (.int (0 + (i : Int))), some (.str y), some (.ref kp), some (.ref tp)] ∧ Inv2 C_Stream H H12 sa dk Bl sb dk2 Bl2 l1 l2 kn bs (tk : Int) (tk : Int)) → D.nx σ H12) → u8_3e0 D [some (.ref a), some (.str tg), some (.ref L'), some (.ref rc), some (.ref sa), some (.ref sb), some (.int (tk : Int)), some (.int (bs.length : Int)), some (.int (0 + (i : Int))), some (.str y), some (.ref kp), some (.ref tp)] H12 := fun D fin => by
        refine by_eq e8_3e0 ?_
        refine ⟨_, rfl, tp, _, 0, _, rfl, rfl, SqT.of (s12 _ _ htp), rfl, rfl, _, rfl, iteF ?_⟩
        refine ⟨_, rfl, tp, _, 1, _, rfl, rfl, SqT.of (s12 _ _ htp), rfl, _, rfl, (tk : Int), rfl, true, rfl, iteF ?_⟩
        refine ⟨_, rfl, tp, _, 2, _, rfl, rfl, SqT.of (s12 _ _ htp), rfl, true, true, rfl, rfl, _, rfl, iteF ?_⟩
        obtain ⟨dx12, ha12⟩ := I12.S1.ho
        refine by_eq e8_3e1 ?_
        refine ⟨_, rfl, sa, dx12, _, rfl, ha12, rfl, sa, dk, Bl, l1, kn, bs, _, rfl, I12.S1, by (first | lia | omega), by (first | lia | omega), fun o1 H13 s13 ho10 ho1 => ⟨_, rfl, ?_⟩⟩
        refine eqD_lists (SqL.of ho1) (SqL.of (s13 _ _ (s12 _ _ (k11.lst hkp)))) (owed_ok I12.S1.so) (owed_ok I12.S1.so) ⟨_, rfl, ?_⟩
        rw [if_pos rfl, decide_eq_true rfl]
        exact iteF (fin _ _ ⟨rfl, I12.kept (Kp.same s13)⟩)
      rw [htb]
      refine iteF ⟨_, rfl, rfl, _, rfl, ite2 (fun c => ?_) (fun c => iteF (body _ fin))⟩
      refine ⟨_, rfl, _, _, rfl, rfl, _, rfl, ite2 (fun c2 => ?_) (fun c2 => body _ fin)⟩
      refine absurd (.inl ⟨?_, fun z => ?_⟩) g
      · have := of_decide_eq_true c
        injection this
      · have := of_decide_eq_true c2
        rw [z] at this
        exact absurd this (by decide)
  · rintro σ H8 ⟨v8, v9, v10, v11, l1, l2, bs, tk, rfl, I, hbi, hti, hoi⟩
    have hn31 : (v3 % 31).toNat < 31 := by (first | lia | omega)
    obtain ⟨dx8, ha8⟩ := I.S1.ho
    refine by_eq e9 ?_
    refine ⟨_, rfl, sa, dx8, _, rfl, ha8, rfl, sa, dk, Bl, l1, kn, bs, _, rfl, I.S1, by (first | lia | omega), by (first | lia | omega), fun o1 H9 s9 ho10 ho1 => ?_⟩
    have I9 := I.kept (Kp.same s9)
    obtain ⟨dx9, ha9⟩ := I9.S2.ho
    refine ⟨_, rfl, sb, dx9, _, rfl, ha9, rfl, sb, dk2, Bl2, l2, kn, bs, _, rfl, I9.S2, by (first | lia | omega), by (first | lia | omega), fun o2 H10 s10 ho20 ho2 => ?_⟩
    show rEqD K false (.ref o1) (.ref o2) H10 _
    refine eqD_lists (SqL.of (s10 _ _ ho1)) (SqL.of ho2) (owed_ok I.S1.so) (owed_ok I.S1.so) ?_
    rw [if_neg (by decide), decide_eq_true rfl]
    exact q _
end
theorem all_mk {l : PySem.W.OpenLaw} {w : World} {K : PySem.W.Frag} {h : Heap} {mg : Str → Option Value} {fa f1 f2 f3 f4 f5 f6 f7 f8 f9 f10 f11 f12 f13 f14 f15 f16 f17 f18 f19 f20 f21 : Addr} (X : K.In h) (G : h.Ns mainGlobals mg) (hfa : mg "law" = some (.ref fa))
    {od1 an1 od2 an2 od3 an3 od4 an4 od5 an5 od6 an6 od7 an7 od8 an8 od9 an9 od10 an10 od11 an11 od12 an12 od13 an13 od14 an14 od15 an15 od16 an16 od17 an17 od18 an18 od19 an19 od20 an20 od21 an21 : Option Addr} {sl1 sl2 sl3 sl4 sl5 sl6 sl7 sl8 sl9 sl10 sl11 sl12 sl13 sl14 sl15 sl16 sl17 sl18 sl19 sl20 sl21 : Array (Option Value)} {oc1 kV1 dc1 pm1 cd1 ct1 oc2 kV2 dc2 pm2 cd2 ct2 oc3 kV3 dc3 pm3 cd3 ct3 oc4 kV4 dc4 pm4 cd4 ct4 oc5 kV5 dc5 pm5 cd5 ct5 oc6 kV6 dc6 pm6 cd6 ct6 oc7 kV7 dc7 pm7 cd7 ct7 oc8 kV8 dc8 pm8 cd8 ct8 oc9 kV9 dc9 pm9 cd9 ct9 oc10 kV10 dc10 pm10 cd10 ct10 oc11 kV11 dc11 pm11 cd11 ct11 oc12 kV12 dc12 pm12 cd12 ct12 oc13 kV13 dc13 pm13 cd13 ct13 oc14 kV14 dc14 pm14 cd14 ct14 oc15 kV15 dc15 pm15 cd15 ct15 oc16 kV16 dc16 pm16 cd16 ct16 oc17 kV17 dc17 pm17 cd17 ct17 oc18 kV18 dc18 pm18 cd18 ct18 oc19 kV19 dc19 pm19 cd19 ct19 oc20 kV20 dc20 pm20 cd20 ct20 oc21 kV21 dc21 pm21 cd21 ct21 : Value}
    {X_GroveError X_NoGrove X_NotStraight : Addr}
    (xn_GroveError : PySem.W.nsIn K mainGlobals "GroveError" = some (some (.ref X_GroveError)))
    (xn_NoGrove : PySem.W.nsIn K mainGlobals "NoGrove" = some (some (.ref X_NoGrove)))
    (xn_NotStraight : PySem.W.nsIn K mainGlobals "NotStraight" = some (some (.ref X_NotStraight)))
    {g0 goc : Value} {gdd god : Option Addr} {gcd : ClassData} {gsl gsl' : Array (Option Value)} {ges : Array DictEntry} {gep : Nat} (xg1 : K.lookup X_GroveError = some ⟨g0, gdd, .cls gcd, gsl⟩) (xg2 : K.lookup gcd.ns = some ⟨goc, god, .dict ges gep, gsl'⟩) (xg3 : keysOk ges = true) (xg4 : PySem.W.nsIn K gcd.ns "__init__" = some none)
    (xb1 : PySem.W.specialIn K (.ref X_GroveError) "__getattribute__" = some (some (.builtin "type.__getattribute__"))) (xb2 : PySem.W.readsIn K X_GroveError (.type "type") = true) (xb3 : PySem.W.findCls K (.ref X_GroveError) (.type "type") "__init__" = some (.val (.builtin "ValueError.__init__"))) (xb4 : PySem.W.isClsIn K X_GroveError = true) (xb5 : PySem.W.typeIn K (.ref X_GroveError) = some (.type "type"))
    (d1_GroveError : PySem.W.isClsIn K X_GroveError = true) (d2_GroveError : PySem.W.mroIn K X_GroveError (.type "BaseException") = some true) (d3_GroveError : PySem.W.instIn K (.ref X_GroveError) (.type "tuple") = some false)
    (d1_NoGrove : PySem.W.isClsIn K X_NoGrove = true) (d2_NoGrove : PySem.W.mroIn K X_NoGrove (.type "BaseException") = some true) (d3_NoGrove : PySem.W.instIn K (.ref X_NoGrove) (.type "tuple") = some false)
    (d1_NotStraight : PySem.W.isClsIn K X_NotStraight = true) (d2_NotStraight : PySem.W.mroIn K X_NotStraight (.type "BaseException") = some true) (d3_NotStraight : PySem.W.instIn K (.ref X_NotStraight) (.type "tuple") = some false)
    {nm_NoGrove q_NoGrove : Str} {N_NoGrove : Addr} {bs_NoGrove : List Value} {hdct_NoGrove : Bool} {sn_NoGrove : List Str} {sub_NoGrove : List Value} {ab_NoGrove : Bool} {col_NoGrove : Option Bool} {dd_NoGrove : Option Addr} {k0_NoGrove k1_NoGrove k2_NoGrove k3_NoGrove k5_NoGrove : Option Value}
    (xl_NoGrove : K.lookup X_NoGrove = some (excClassObj nm_NoGrove q_NoGrove X_NoGrove N_NoGrove bs_NoGrove (.ref X_GroveError :: bmV) hdct_NoGrove sn_NoGrove sub_NoGrove ab_NoGrove col_NoGrove dd_NoGrove k0_NoGrove k1_NoGrove k2_NoGrove k3_NoGrove k5_NoGrove "ValueError.__new__"))
    (xc_NoGrove : PySem.W.specialIn K (.ref X_NoGrove) "__call__" = some (some (.builtin "type.__call__"))) (xt_NoGrove : PySem.W.instIn K (.ref X_NoGrove) (.type "type") = some true) (xk_NoGrove : PySem.W.keepIn K (.ref X_NoGrove) = true) (xv_NoGrove : PySem.W.mroIn K X_NoGrove (.type "ValueError") = some true)
    (xe_NoGrove : X_NoGrove ≠ X_GroveError)
    (o1_NoGrove_NotStraight : PySem.W.findIn K (.ref X_NoGrove) "__class__" = some (some (.builtin "object.__class__"))) (o2_NoGrove_NotStraight : PySem.W.specialIn K (.builtin "object.__class__") "__get__" = some (some (.builtin "getset_descriptor.__get__"))) (o3_NoGrove_NotStraight : PySem.W.takesIn K (.builtin "object.__class__") = some true) (o4_NoGrove_NotStraight : PySem.W.mroIn K X_NoGrove (.type "object") = some true) (o5_NoGrove_NotStraight : PySem.W.typeIn K (.ref X_NotStraight) = some (.type "type")) (o6_NoGrove_NotStraight : X_NoGrove ≠ X_NotStraight)
    (f1_NoGrove_place : PySem.W.findIn K (.ref X_NoGrove) "__setattr__" = some (some (.builtin "object.__setattr__"))) (f2_NoGrove_place : PySem.W.findIn K (.ref X_NoGrove) "place" = some none) (f3_NoGrove_place : PySem.W.hasDictIn K X_NoGrove = true) (f4_NoGrove_place : PySem.W.findIn K (.ref X_NoGrove) "__getattribute__" = some (some (.builtin "BaseException.__getattribute__"))) (f5_NoGrove_place : PySem.W.findIn K (.ref X_NoGrove) "__getattr__" = some none)
    (m_NoGrove_GroveError : PySem.W.mroIn K X_NoGrove (.ref X_GroveError) = some true)
    (m_NoGrove_NoGrove : PySem.W.mroIn K X_NoGrove (.ref X_NoGrove) = some true)
    (m_NoGrove_NotStraight : PySem.W.mroIn K X_NoGrove (.ref X_NotStraight) = some false)
    {C_Stream : Addr}
    (cn1 : PySem.W.nsIn K mainGlobals "Stream" = some (some (.ref C_Stream))) (cp1 : PySem.W.plainGet K C_Stream Str.empty = true) (ch1 : PySem.W.hasDictIn K C_Stream = true) (cq1 : PySem.W.plainOver K C_Stream = true) (cs1 : PySem.W.findIn K (.ref C_Stream) "__setattr__" = some (some (.builtin "object.__setattr__"))) (cm1 : PySem.W.makesIn K C_Stream = true) (ck1 : PySem.W.keepIn K (.ref C_Stream) = true)
    (cx1_0 : PySem.W.findIn K (.ref C_Stream) "known" = some none)
    (cx1_1 : PySem.W.findIn K (.ref C_Stream) "taken" = some none)
    (cx1_2 : PySem.W.findIn K (.ref C_Stream) "begun" = some none)
    (a1 : PySem.W.nsIn K mainGlobals "_law_tag" = some (some (.ref f1))) (l1 : K.lookup f1 = some ⟨oc1, od1, .func (PySem.W.fnOf "_law_tag" "_law_tag" (defArgs s_l_tag) (defBody s_l_tag) (defScope s_l_tag) .none kV1 dc1 pm1 an1 cd1 ct1), sl1⟩) (c1 : PySem.W.codeIn K cd1 "_law_tag" = true) (k1 : PySem.W.keepIn K (.ref f1) = true)
    (a2 : PySem.W.nsIn K mainGlobals "_law_cell" = some (some (.ref f2))) (l2 : K.lookup f2 = some ⟨oc2, od2, .func (PySem.W.fnOf "_law_cell" "_law_cell" (defArgs s_l_cell) (defBody s_l_cell) (defScope s_l_cell) .none kV2 dc2 pm2 an2 cd2 ct2), sl2⟩) (c2 : PySem.W.codeIn K cd2 "_law_cell" = true) (k2 : PySem.W.keepIn K (.ref f2) = true)
    (a3 : PySem.W.nsIn K mainGlobals "all_parts" = some (some (.ref f3))) (l3 : K.lookup f3 = some ⟨oc3, od3, .func (PySem.W.fnOf "all_parts" "all_parts" (defArgs s_all_parts) (defBody s_all_parts) (defScope s_all_parts) .none kV3 dc3 pm3 an3 cd3 ct3), sl3⟩) (c3 : PySem.W.codeIn K cd3 "all_parts" = true) (k3 : PySem.W.keepIn K (.ref f3) = true)
    (a4 : PySem.W.nsIn K mainGlobals "kids_in" = some (some (.ref f4))) (l4 : K.lookup f4 = some ⟨oc4, od4, .func (PySem.W.fnOf "kids_in" "kids_in" (defArgs s_kids_in) (defBody s_kids_in) (defScope s_kids_in) .none kV4 dc4 pm4 an4 cd4 ct4), sl4⟩) (c4 : PySem.W.codeIn K cd4 "kids_in" = true) (k4 : PySem.W.keepIn K (.ref f4) = true)
    (a5 : PySem.W.nsIn K mainGlobals "straight" = some (some (.ref f5))) (l5 : K.lookup f5 = some ⟨oc5, od5, .func (PySem.W.fnOf "straight" "straight" (defArgs s_straight) (defBody s_straight) (defScope s_straight) .none kV5 dc5 pm5 an5 cd5 ct5), sl5⟩) (c5 : PySem.W.codeIn K cd5 "straight" = true) (k5 : PySem.W.keepIn K (.ref f5) = true)
    (a6 : PySem.W.nsIn K mainGlobals "parts_by_rule" = some (some (.ref f6))) (l6 : K.lookup f6 = some ⟨oc6, od6, .func (PySem.W.fnOf "parts_by_rule" "parts_by_rule" (defArgs s_parts_by_rule) (defBody s_parts_by_rule) (defScope s_parts_by_rule) .none kV6 dc6 pm6 an6 cd6 ct6), sl6⟩) (c6 : PySem.W.codeIn K cd6 "parts_by_rule" = true) (k6 : PySem.W.keepIn K (.ref f6) = true)
    (a7 : PySem.W.findIn K (.ref C_Stream) "__init__" = some (some (.ref f7))) (l7 : K.lookup f7 = some ⟨oc7, od7, .func (PySem.W.fnOf "__init__" "Stream.__init__" (defArgs s_Stream___init__) (defBody s_Stream___init__) (defScope s_Stream___init__) .none kV7 dc7 pm7 an7 cd7 ct7), sl7⟩) (c7 : PySem.W.codeIn K cd7 "Stream.__init__" = true) (k7 : PySem.W.keepIn K (.ref f7) = true) (n7 : PySem.W.isFn K (.ref f7) = true)
    (a8 : PySem.W.nsIn K mainGlobals "_law_spoiled" = some (some (.ref f8))) (l8 : K.lookup f8 = some ⟨oc8, od8, .func (PySem.W.fnOf "_law_spoiled" "_law_spoiled" (defArgs s_l_spoiled) (defBody s_l_spoiled) (defScope s_l_spoiled) .none kV8 dc8 pm8 an8 cd8 ct8), sl8⟩) (c8 : PySem.W.codeIn K cd8 "_law_spoiled" = true) (k8 : PySem.W.keepIn K (.ref f8) = true)
    (a9 : PySem.W.nsIn K mainGlobals "_law_word" = some (some (.ref f9))) (l9 : K.lookup f9 = some ⟨oc9, od9, .func (PySem.W.fnOf "_law_word" "_law_word" (defArgs s_l_word) (defBody s_l_word) (defScope s_l_word) .none kV9 dc9 pm9 an9 cd9 ct9), sl9⟩) (c9 : PySem.W.codeIn K cd9 "_law_word" = true) (k9 : PySem.W.keepIn K (.ref f9) = true)
    (a10 : PySem.W.findIn K (.ref C_Stream) "owed" = some (some (.ref f10))) (l10 : K.lookup f10 = some ⟨oc10, od10, .func (PySem.W.fnOf "owed" "Stream.owed" (defArgs s_Stream_owed) (defBody s_Stream_owed) (defScope s_Stream_owed) .none kV10 dc10 pm10 an10 cd10 ct10), sl10⟩) (c10 : PySem.W.codeIn K cd10 "Stream.owed" = true) (k10 : PySem.W.keepIn K (.ref f10) = true) (n10 : PySem.W.isFn K (.ref f10) = true)
    (a11 : PySem.W.nsIn K mainGlobals "is_tag" = some (some (.ref f11))) (l11 : K.lookup f11 = some ⟨oc11, od11, .func (PySem.W.fnOf "is_tag" "is_tag" (defArgs s_is_tag) (defBody s_is_tag) (defScope s_is_tag) .none kV11 dc11 pm11 an11 cd11 ct11), sl11⟩) (c11 : PySem.W.codeIn K cd11 "is_tag" = true) (k11 : PySem.W.keepIn K (.ref f11) = true)
    (a12 : PySem.W.findIn K (.ref X_NoGrove) "__init__" = some (some (.ref f12)))
    (l12 : K.lookup f12 = some ⟨oc12, od12, .func (PySem.W.fnOf "__init__" "NoGrove.__init__" (defArgs s_NoGrove___init__) (defBody s_NoGrove___init__) (defScope s_NoGrove___init__) .none kV12 dc12 pm12 an12 cd12 ct12), sl12⟩) (c12 : PySem.W.codeIn K cd12 "NoGrove.__init__" = true) (k12 : PySem.W.keepIn K (.ref f12) = true) (n12 : PySem.W.isFn K (.ref f12) = true)
    (a13 : PySem.W.nsIn K mainGlobals "parts_for" = some (some (.ref f13))) (l13 : K.lookup f13 = some ⟨oc13, od13, .func (PySem.W.fnOf "parts_for" "parts_for" (defArgs s_parts_for) (defBody s_parts_for) (defScope s_parts_for) .none kV13 dc13 pm13 an13 cd13 ct13), sl13⟩) (c13 : PySem.W.codeIn K cd13 "parts_for" = true) (k13 : PySem.W.keepIn K (.ref f13) = true)
    (a14 : PySem.W.nsIn K mainGlobals "words_of_parts" = some (some (.ref f14))) (l14 : K.lookup f14 = some ⟨oc14, od14, .func (PySem.W.fnOf "words_of_parts" "words_of_parts" (defArgs s_words_of_parts) (defBody s_words_of_parts) (defScope s_words_of_parts) .none kV14 dc14 pm14 an14 cd14 ct14), sl14⟩) (c14 : PySem.W.codeIn K cd14 "words_of_parts" = true) (k14 : PySem.W.keepIn K (.ref f14) = true)
    (a15 : PySem.W.findIn K (.ref C_Stream) "take_begin" = some (some (.ref f15))) (l15 : K.lookup f15 = some ⟨oc15, od15, .func (PySem.W.fnOf "take_begin" "Stream.take_begin" (defArgs s_Stream_take_begin) (defBody s_Stream_take_begin) (defScope s_Stream_take_begin) .none kV15 dc15 pm15 an15 cd15 ct15), sl15⟩) (c15 : PySem.W.codeIn K cd15 "Stream.take_begin" = true) (k15 : PySem.W.keepIn K (.ref f15) = true) (n15 : PySem.W.isFn K (.ref f15) = true)
    (a16 : PySem.W.findIn K (.ref C_Stream) "take" = some (some (.ref f16))) (l16 : K.lookup f16 = some ⟨oc16, od16, .func (PySem.W.fnOf "take" "Stream.take" (defArgs s_Stream_take) (defBody s_Stream_take) (defScope s_Stream_take) .none kV16 dc16 pm16 an16 cd16 ct16), sl16⟩) (c16 : PySem.W.codeIn K cd16 "Stream.take" = true) (k16 : PySem.W.keepIn K (.ref f16) = true) (n16 : PySem.W.isFn K (.ref f16) = true)
    (a17 : PySem.W.nsIn K mainGlobals "_law_told" = some (some (.ref f17))) (l17 : K.lookup f17 = some ⟨oc17, od17, .func (PySem.W.fnOf "_law_told" "_law_told" (defArgs s_l_told) (defBody s_l_told) (defScope s_l_told) .none kV17 dc17 pm17 an17 cd17 ct17), sl17⟩) (c17 : PySem.W.codeIn K cd17 "_law_told" = true) (k17 : PySem.W.keepIn K (.ref f17) = true)
    (a18 : PySem.W.nsIn K mainGlobals "_law_is_tag" = some (some (.ref f18))) (l18 : K.lookup f18 = some ⟨oc18, od18, .func (PySem.W.fnOf "_law_is_tag" "_law_is_tag" (defArgs s_l_is_tag) (defBody s_l_is_tag) (defScope s_l_is_tag) .none kV18 dc18 pm18 an18 cd18 ct18), sl18⟩) (c18 : PySem.W.codeIn K cd18 "_law_is_tag" = true) (k18 : PySem.W.keepIn K (.ref f18) = true)
    (a19 : PySem.W.nsIn K mainGlobals "_law_whole" = some (some (.ref f19))) (l19 : K.lookup f19 = some ⟨oc19, od19, .func (PySem.W.fnOf "_law_whole" "_law_whole" (defArgs s_l_whole) (defBody s_l_whole) (defScope s_l_whole) .none kV19 dc19 pm19 an19 cd19 ct19), sl19⟩) (c19 : PySem.W.codeIn K cd19 "_law_whole" = true) (k19 : PySem.W.keepIn K (.ref f19) = true)
    (a20 : PySem.W.findIn K (.ref C_Stream) "height" = some (some (.ref f20))) (l20 : K.lookup f20 = some ⟨oc20, od20, .func (PySem.W.fnOf "height" "Stream.height" (defArgs s_Stream_height) (defBody s_Stream_height) (defScope s_Stream_height) .none kV20 dc20 pm20 an20 cd20 ct20), sl20⟩) (c20 : PySem.W.codeIn K cd20 "Stream.height" = true) (k20 : PySem.W.keepIn K (.ref f20) = true) (n20 : PySem.W.isFn K (.ref f20) = true)
    (a21 : PySem.W.nsIn K mainGlobals "law" = some (some (.ref f21))) (l21 : K.lookup f21 = some ⟨oc21, od21, .func (PySem.W.fnOf "law" "law" (defArgs s_law) (defBody s_law) (defScope s_law) .none kV21 dc21 pm21 an21 cd21 ct21), sl21⟩) (c21 : PySem.W.codeIn K cd21 "law" = true) (k21 : PySem.W.keepIn K (.ref f21) = true)
    {tk0 : Tok} (y0 : PySem.W.nsIn K mainGlobals "LONGEST_TAG" = some (some (.int 8 tk0)))
    (z0 : PySem.W.nsIn K mainGlobals "ValueError" = some none) (z1 : PySem.W.nsIn K mainGlobals "all" = some none) (z2 : PySem.W.nsIn K mainGlobals "bool" = some none) (z3 : PySem.W.nsIn K mainGlobals "dict" = some none) (z4 : PySem.W.nsIn K mainGlobals "int" = some none) (z5 : PySem.W.nsIn K mainGlobals "isinstance" = some none) (z6 : PySem.W.nsIn K mainGlobals "len" = some none) (z7 : PySem.W.nsIn K mainGlobals "range" = some none) (z8 : PySem.W.nsIn K mainGlobals "tuple" = some none) :
    ∃ fd : FuncData, (∀ (s : Shared) (v : Value), BindsTo s fd ⟨[v], []⟩ [("_law_script", v)]) ∧ ∀ base : Heap, K.In base → base.Ns mainGlobals mg → FnOk l.prog w K mg base CX0 27 fa fd ["_law_script"] (Fg.spLaw K) := by
  have e := hfa.symm.trans (PySem.W.mg_of X G a21)
  cases e
  have B : ∀ x ∈ blts, mg x = none := List.forall_mem_cons.mpr ⟨PySem.W.mg_none_of X G z0, List.forall_mem_cons.mpr ⟨PySem.W.mg_none_of X G z1, List.forall_mem_cons.mpr ⟨PySem.W.mg_none_of X G z2, List.forall_mem_cons.mpr ⟨PySem.W.mg_none_of X G z3, List.forall_mem_cons.mpr ⟨PySem.W.mg_none_of X G z4, List.forall_mem_cons.mpr ⟨PySem.W.mg_none_of X G z5, List.forall_mem_cons.mpr ⟨PySem.W.mg_none_of X G z6, List.forall_mem_cons.mpr ⟨PySem.W.mg_none_of X G z7, List.forall_mem_cons.mpr ⟨PySem.W.mg_none_of X G z8, List.forall_mem_nil _⟩⟩⟩⟩⟩⟩⟩⟩⟩
  have Cc_LONGEST_TAG : ∃ t : Tok, mg "LONGEST_TAG" = some (.int 8 t) := ⟨_, PySem.W.mg_of X G y0⟩
  have F1 := fun_mk (st := s_l_tag) l1 c1 k1
  have b1 := F1.binds (ps := ["_law_cell_here"]) fun _ _ _ _ _ _ us hl => by obtain ⟨_, rfl⟩ := len1 hl; rfl
  have F2 := fun_mk (st := s_l_cell) l2 c2 k2
  have b2 := F2.binds (ps := ["_law_script", "_law_k"]) fun _ _ _ _ _ _ us hl => by obtain ⟨_, _, rfl⟩ := len2 hl; rfl
  have F3 := fun_mk (st := s_all_parts) l3 c3 k3
  have b3 := F3.binds (ps := ["parts"]) fun _ _ _ _ _ _ us hl => by obtain ⟨_, rfl⟩ := len1 hl; rfl
  have F4 := fun_mk (st := s_kids_in) l4 c4 k4
  have b4 := F4.binds (ps := ["parts"]) fun _ _ _ _ _ _ us hl => by obtain ⟨_, rfl⟩ := len1 hl; rfl
  have F5 := fun_mk (st := s_straight) l5 c5 k5
  have b5 := F5.binds (ps := ["changer"]) fun _ _ _ _ _ _ us hl => by obtain ⟨_, rfl⟩ := len1 hl; rfl
  have F6 := fun_mk (st := s_parts_by_rule) l6 c6 k6
  have b6 := F6.binds (ps := ["changer"]) fun _ _ _ _ _ _ us hl => by obtain ⟨_, rfl⟩ := len1 hl; rfl
  have F7 := fun_mk (st := s_Stream___init__) l7 c7 k7
  have b7 := F7.binds (ps := ["self", "changer"]) fun _ _ _ _ _ _ us hl => by obtain ⟨_, _, rfl⟩ := len2 hl; rfl
  have F8 := fun_mk (st := s_l_spoiled) l8 c8 k8
  have b8 := F8.binds (ps := ["_law_cell_here", "_law_tag_here"]) fun _ _ _ _ _ _ us hl => by obtain ⟨_, _, rfl⟩ := len2 hl; rfl
  have F9 := fun_mk (st := s_l_word) l9 c9 k9
  have b9 := F9.binds (ps := ["_law_script", "_law_k", "_law_tag_here"]) fun _ _ _ _ _ _ us hl => by obtain ⟨_, _, _, rfl⟩ := len3 hl; rfl
  have F10 := fun_mk (st := s_Stream_owed) l10 c10 k10
  have b10 := F10.binds (ps := ["self"]) fun _ _ _ _ _ _ us hl => by obtain ⟨_, rfl⟩ := len1 hl; rfl
  have F11 := fun_mk (st := s_is_tag) l11 c11 k11
  have b11 := F11.binds (ps := ["text"]) fun _ _ _ _ _ _ us hl => by obtain ⟨_, rfl⟩ := len1 hl; rfl
  have F12 := fun_mk (st := s_NoGrove___init__) l12 c12 k12
  have b12 := F12.binds (ps := ["self", "place"]) fun _ _ _ _ _ _ us hl => by obtain ⟨_, _, rfl⟩ := len2 hl; rfl
  have F13 := fun_mk (st := s_parts_for) l13 c13 k13
  have b13 := F13.binds (ps := ["known", "mode", "tag"]) fun _ _ _ _ _ _ us hl => by obtain ⟨_, _, _, rfl⟩ := len3 hl; rfl
  have F14 := fun_mk (st := s_words_of_parts) l14 c14 k14
  have b14 := F14.binds (ps := ["parts"]) fun _ _ _ _ _ _ us hl => by obtain ⟨_, rfl⟩ := len1 hl; rfl
  have F15 := fun_mk (st := s_Stream_take_begin) l15 c15 k15
  have b15 := F15.binds (ps := ["self", "mode", "tag"]) fun _ _ _ _ _ _ us hl => by obtain ⟨_, _, _, rfl⟩ := len3 hl; rfl
  have F16 := fun_mk (st := s_Stream_take) l16 c16 k16
  have b16 := F16.binds (ps := ["self", "word"]) fun _ _ _ _ _ _ us hl => by obtain ⟨_, _, rfl⟩ := len2 hl; rfl
  have F17 := fun_mk (st := s_l_told) l17 c17 k17
  have b17 := F17.binds (ps := ["_law_stream", "_law_word_here", "_law_way"]) fun _ _ _ _ _ _ us hl => by obtain ⟨_, _, _, rfl⟩ := len3 hl; rfl
  have F18 := fun_mk (st := s_l_is_tag) l18 c18 k18
  have b18 := F18.binds (ps := ["_law_word_here"]) fun _ _ _ _ _ _ us hl => by obtain ⟨_, rfl⟩ := len1 hl; rfl
  have F19 := fun_mk (st := s_l_whole) l19 c19 k19
  have b19 := F19.binds (ps := ["_law_one", "_law_due"]) fun _ _ _ _ _ _ us hl => by obtain ⟨_, _, rfl⟩ := len2 hl; rfl
  have F20 := fun_mk (st := s_Stream_height) l20 c20 k20
  have b20 := F20.binds (ps := ["self"]) fun _ _ _ _ _ _ us hl => by obtain ⟨_, rfl⟩ := len1 hl; rfl
  have F21 := fun_mk (st := s_law) l21 c21 k21
  refine ⟨PySem.W.fnOf "law" "law" (defArgs s_law) (defBody s_law) (defScope s_law) .none kV21 dc21 pm21 an21 cd21 ct21, fun s v => .of_eq rfl, fun base _ _ => ?_⟩
  have xc : XC K mg X_GroveError X_NoGrove X_NotStraight := ⟨PySem.W.mg_of X G xn_GroveError, PySem.W.mg_of X G xn_NoGrove, PySem.W.mg_of X G xn_NotStraight, ⟨xb1, xb2, xb3⟩, xb4, xb5, ⟨d1_GroveError, d2_GroveError, d3_GroveError⟩, ⟨d1_NoGrove, d2_NoGrove, d3_NoGrove⟩, ⟨d1_NotStraight, d2_NotStraight, d3_NotStraight⟩, ⟨⟨_, _, _, _, _, _, _, _, _, _, _, _, _, _, _, xl_NoGrove⟩, ⟨⟨_, _, _, _, _, _, _, _, _, xg1, xg2, xg3, xg4⟩⟩, xc_NoGrove, xt_NoGrove, xk_NoGrove⟩, ⟨f1_NoGrove_place, f2_NoGrove_place, f3_NoGrove_place, f4_NoGrove_place, f5_NoGrove_place, d2_NoGrove⟩, xv_NoGrove, xe_NoGrove, ⟨o1_NoGrove_NotStraight, o2_NoGrove_NotStraight, o3_NoGrove_NotStraight, o4_NoGrove_NotStraight, o5_NoGrove_NotStraight⟩, o6_NoGrove_NotStraight, m_NoGrove_GroveError, m_NoGrove_NoGrove, m_NoGrove_NotStraight⟩
  have c_Stream : Fg.StC K C_Stream := ⟨⟨cp1, ch1, cq1, cs1⟩, cx1_0, cx1_1, cx1_2⟩
  have g_l_tag : Has l.prog w K mg base "_law_tag" ["_law_cell_here"] 1 (K92.spTag92) := ⟨⟨f1, _, ok_l_tag B  F1, b1, k1, PySem.W.mg_of X G a1⟩⟩
  have g_l_cell : Has l.prog w K mg base "_law_cell" ["_law_script", "_law_k"] 1 (K92.spCellS K) := ⟨⟨f2, _, ok_l_cell B  F2, b2, k2, PySem.W.mg_of X G a2⟩⟩
  have r_all_parts : ∀ d : Nat, Has l.prog w K mg base "all_parts" ["parts"] d (K92.spAllP d) := by
    intro d
    induction d with
    | zero => exact ⟨⟨f3, _, FnOk.none (fun vs H Q E z => by obtain ⟨_, _, _, _, _, _, hd, _⟩ := z; exact absurd hd (Nat.not_lt_zero _)), b3, k3, PySem.W.mg_of X G a3⟩⟩
    | succ d ih => exact ⟨⟨f3, _, ok_all_parts d B ih F3, b3, k3, PySem.W.mg_of X G a3⟩⟩
  have g_all_parts := r_all_parts 22
  have g_kids_in : Has l.prog w K mg base "kids_in" ["parts"] 23 (K92.spKidsIn 22) := ⟨⟨f4, _, ok_kids_in B g_all_parts F4, b4, k4, PySem.W.mg_of X G a4⟩⟩
  have g_straight : Has l.prog w K mg base "straight" ["changer"] 24 (K92.spStraight) := ⟨⟨f5, _, ok_straight B g_kids_in F5, b5, k5, PySem.W.mg_of X G a5⟩⟩
  have g_parts_by_rule : Has l.prog w K mg base "parts_by_rule" ["changer"] 1 (K92.spByRule) := ⟨⟨f6, _, ok_parts_by_rule B  F6, b6, k6, PySem.W.mg_of X G a6⟩⟩
  have g_Stream : HasC l.prog w K mg base C_Stream "Stream" ["self", "changer"] 25 (K92.spStInit C_Stream) := ⟨⟨f7, _, ok_Stream___init__ B c_Stream g_straight g_parts_by_rule F7, b7, ⟨cm1, a7, n7, ck1⟩, PySem.W.mg_of X G cn1⟩⟩
  have g_l_spoiled : Has l.prog w K mg base "_law_spoiled" ["_law_cell_here", "_law_tag_here"] 1 (K92.spSpoil92) := ⟨⟨f8, _, ok_l_spoiled B  F8, b8, k8, PySem.W.mg_of X G a8⟩⟩
  have g_l_word : Has l.prog w K mg base "_law_word" ["_law_script", "_law_k", "_law_tag_here"] 2 (K92.spWord92 K) := ⟨⟨f9, _, ok_l_word B g_l_cell g_l_tag g_l_spoiled F9, b9, k9, PySem.W.mg_of X G a9⟩⟩
  have g_Stream_owed : HasM l.prog w K mg base C_Stream "owed" ["self"] 1 (K92.spOwed C_Stream) := ⟨⟨f10, _, ok_Stream_owed B c_Stream  F10, b10, ⟨a10, n10, k10⟩⟩⟩
  have g_is_tag : Has l.prog w K mg base "is_tag" ["text"] 1 (Fg.spIsTag) := ⟨⟨f11, _, ok_is_tag B Cc_LONGEST_TAG  F11, b11, k11, PySem.W.mg_of X G a11⟩⟩
  have x_NoGrove : XMk l.prog w K mg base X_NoGrove X_GroveError "NoGrove" ["self", "place"] 1 (K92.spXInit X_NoGrove) := ⟨⟨f12, _, ok_NoGrove___init__ B xc  F12, b12, a12, n12⟩, xc.top_NoGrove, xc.n_NoGrove⟩
  have g_parts_for : Has l.prog w K mg base "parts_for" ["known", "mode", "tag"] 1 (K92.spPartsFor) := ⟨⟨f13, _, ok_parts_for B  F13, b13, k13, PySem.W.mg_of X G a13⟩⟩
  have r_words_of_parts : ∀ d : Nat, Has l.prog w K mg base "words_of_parts" ["parts"] d (K92.spWordsP d) := by
    intro d
    induction d with
    | zero => exact ⟨⟨f14, _, FnOk.none (fun vs H Q E z => by obtain ⟨_, _, _, _, _, _, hd, _⟩ := z; exact absurd hd (Nat.not_lt_zero _)), b14, k14, PySem.W.mg_of X G a14⟩⟩
    | succ d ih => exact ⟨⟨f14, _, ok_words_of_parts d B ih F14, b14, k14, PySem.W.mg_of X G a14⟩⟩
  have g_words_of_parts := r_words_of_parts 22
  have g_Stream_take_begin : HasM l.prog w K mg base C_Stream "take_begin" ["self", "mode", "tag"] 24 (K92.spBegin C_Stream) := ⟨⟨f15, _, ok_Stream_take_begin B c_Stream g_parts_for g_words_of_parts g_kids_in F15, b15, ⟨a15, n15, k15⟩⟩⟩
  have g_Stream_take : HasMX l.prog w K mg base C_Stream "take" ["self", "word"] 25 (K92.spTakeX C_Stream X_NoGrove) := ⟨⟨f16, _, ok_Stream_take B c_Stream xc g_is_tag x_NoGrove g_Stream_take_begin F16, b16, ⟨a16, n16, k16⟩⟩⟩
  have g_l_told : Has l.prog w K mg base "_law_told" ["_law_stream", "_law_word_here", "_law_way"] 26 (K92.spTold92 C_Stream) := ⟨⟨f17, _, ok_l_told B c_Stream xc g_Stream_take F17, b17, k17, PySem.W.mg_of X G a17⟩⟩
  have g_l_is_tag : Has l.prog w K mg base "_law_is_tag" ["_law_word_here"] 1 (K92.spIsTag92) := ⟨⟨f18, _, ok_l_is_tag B  F18, b18, k18, PySem.W.mg_of X G a18⟩⟩
  have g_l_whole : Has l.prog w K mg base "_law_whole" ["_law_one", "_law_due"] 1 (K92.spWhole92) := ⟨⟨f19, _, ok_l_whole B  F19, b19, k19, PySem.W.mg_of X G a19⟩⟩
  have g_Stream_height : HasM l.prog w K mg base C_Stream "height" ["self"] 1 (K92.spHeight C_Stream) := ⟨⟨f20, _, ok_Stream_height B c_Stream  F20, b20, ⟨a20, n20, k20⟩⟩⟩
  exact ok_law B c_Stream g_l_tag g_l_cell g_Stream g_l_word g_Stream_owed g_l_told g_l_is_tag g_Stream_take g_l_whole g_Stream_height F21
theorem walk {l : PySem.W.OpenLaw} {q : Program} {loose : List Str} {XP : (Str → Option Value) → Heap → Prop} {YP : World → Heap → Prop} {d : DefRec} {K : Params → PySem.W.Frag} (hn : l.most = some 63) (hdf : d.params.defaults = [])
    (hY : ∀ (w : World) (h : Heap), YP w h → (K w.params).In h)
    (F : ∀ (w : World) (mg : Str → Option Value) (fa : Addr) (h : Heap), (K w.params).In h → h.Ns mainGlobals mg → mg d.name = some (.ref fa) →
      ∃ fd : FuncData, (∀ (s : Shared) (u : Value), BindsTo s fd ⟨[u], []⟩ [("_law_script", u)]) ∧ ∀ base : Heap, (K w.params).In base → base.Ns mainGlobals mg → FnOk l.prog w (K w.params) mg base CX0 27 fa fd ["_law_script"] (Fg.spLaw (K w.params))) :
    PySem.W.WalkO q loose XP YP l.row.toRowW d [] (fun f vs => PySem.call f vs) :=
  L2.walk_of (n := 63) (k := 27) (x := "_law_script") (CX := fun _ => CX0) (sp := fun w => Fg.spLaw (K w.params)) hn (by decide) hdf ⟨rfl, by decide, by decide⟩ hY F (fun _ _ a ns hl _ hS => ⟨a, ns, rfl, hS, hl, fun _ => rfl⟩) fun _ _ _ _ _ z => z
end K92
def PySem.W.Fast.tw17586961533403580178 := 0
def PySem.W.Fast.tw4582849596316069394 := 0
def PySem.W.Fast.tw15264224138218460026 := 0
def PySem.W.Fast.tw2403914861097202008 := 0
def PySem.W.Fast.tw17233969218128631065 := 0
def PySem.W.Fast.tw13423044571825168830 := 0
def PySem.W.Fast.tw4724054885151613509 := 0
def PySem.W.Fast.tw2608165763063139346 := 0
def PySem.W.Fast.tw1811619004580683574 := 0
def PySem.W.Fast.tw13566562744368623052 := 0
def PySem.W.Fast.tw9462850978909687306 := 0
def PySem.W.Fast.tw2524526627514604407 := 0
def PySem.W.Fast.tw2388578240672544742 := 0
def PySem.W.Fast.tw7045908629535631969 := 0
def PySem.W.Fast.tw4217041828070567722 := 0
def PySem.W.Fast.tw10446683079919226437 := 0
def PySem.W.Fast.tw7637574243216261519 := 0
def PySem.W.Fast.tw17786369316060544914 := 0
def PySem.W.Fast.tw3589432556540180799 := 0
def PySem.W.Fast.tw7571001538318255761 := 0
def PySem.W.Fast.tw7050097058462448210 := 0
def PySem.W.Fast.tw16974167535151881120 := 0
def PySem.W.Fast.tw8264247403971919736 := 0
def PySem.W.Fast.tw6769922863757659233 := 0
def PySem.W.Fast.tw2299734557851030499 := 0
def PySem.W.Fast.tw24859284374061303 := 0
def PySem.W.Fast.tw10856092874982328134 := 0
def PySem.W.Fast.tw4505163433073517332 := 0
def PySem.W.Fast.tw3772799251240251300 := 0
def PySem.W.Fast.tw9879343437029750414 := 0
def PySem.W.Fast.tw2221692563425062567 := 0
def PySem.W.Fast.tw16000780864553014709 := 0
def PySem.W.Fast.tw11578601966190599168 := 0
def PySem.W.Fast.tw2520319096464041135 := 0
def PySem.W.Fast.tw3645344294250579425 := 0
def PySem.W.Fast.tw17874669576135772235 := 0
def PySem.W.Fast.tw14820799670822612076 := 0
def PySem.W.Fast.tw16807872321162801810 := 0
def PySem.W.Fast.tw1412893583892754657 := 0
def PySem.W.Fast.tw9584409176578703870 := 0
def PySem.W.Fast.tw1692695508409154147 := 0
def PySem.W.Fast.tw17035407412949191281 := 0
def PySem.W.Fast.tw18039861207578400620 := 0
def PySem.W.Fast.tw9565545475481221546 := 0
def PySem.W.Fast.tw10712481016298394955 := 0
def PySem.W.Fast.tw867492600179455910 := 0
def PySem.W.Fast.tw8819026159438888559 := 0
def PySem.W.Fast.tw6500720718237161319 := 0
def PySem.W.Fast.tw17640223766016346785 := 0
def PySem.W.Fast.tw18077814770781636670 := 0
def PySem.W.Fast.tw7556146919956889342 := 0
def PySem.W.Fast.tw16074132747239722524 := 0
def PySem.W.Fast.tw5847224490154636230 := 0
def PySem.W.Fast.tw14813735028140168319 := 0
def PySem.W.Fast.tw8628193392274478113 := 0
def PySem.W.Fast.tw13761638671603527635 := 0
def PySem.W.Fast.tw13023986207994665231 := 0
def PySem.W.Fast.tw449607137773908678 := 0
def PySem.W.Fast.tw5578907362463418306 := 0
def PySem.W.Fast.tw14023041564671256283 := 0
def PySem.W.Fast.tw4358028984093444436 := 0
def PySem.W.Fast.tw2991907652485268702 := 0
def PySem.W.Fast.tw3156528253044617593 := 0
def PySem.W.Fast.tw12317026930249423664 := 0
def PySem.W.Fast.tw10128564611922315169 := 0
def PySem.W.Fast.tw7059152783026079970 := 0
def PySem.W.Fast.tw8812805012274599982 := 0
def PySem.W.Fast.tw14873721629933838023 := 0
def PySem.W.Fast.tw8999469447337062949 := 0
def PySem.W.Fast.tw13657075404476689614 := 0
def PySem.W.Fast.tw14275787462452953180 := 0
def PySem.W.Fast.tw6880697208805810281 := 0
def PySem.W.Fast.tw5549445112920560230 := 0
def PySem.W.Fast.tw12189350006996479574 := 0
def PySem.W.Fast.tw14173241511162564738 := 0
def PySem.W.Fast.tw9286731484033921541 := 0
def PySem.W.Fast.tw7783753501819412340 := 0
def PySem.W.Fast.tw17371859776396198186 := 0
def PySem.W.Fast.tw18136942304370121887 := 0
def PySem.W.Fast.tw13311039941033179390 := 0
def PySem.W.Fast.tw10212384375887017031 := 0
def PySem.W.Fast.tw5343117513428642607 := 0
def PySem.W.Fast.tw15993468409101807921 := 0
def PySem.W.Fast.tw10208347700054367567 := 0
def PySem.W.Fast.tw896927500749923034 := 0
def PySem.W.Fast.tw14644578770715673313 := 0
def PySem.W.Fast.tw10242590602569094335 := 0
def PySem.W.Fast.tw814688593744614048 := 0
def PySem.W.Fast.tw10118359130853416572 := 0
def PySem.W.Fast.tw18329826980859995015 := 0
def PySem.W.Fast.tw7390134534554710581 := 0
def PySem.W.Fast.tw10987843361072764002 := 0
def PySem.W.Fast.tw2197103960602291604 := 0
def PySem.W.Fast.tw18040798211103363199 := 0
def PySem.W.Fast.tw921356317317092610 := 0
def PySem.W.Fast.tw14751812564549333511 := 0
def PySem.W.Fast.tw11141191577261252604 := 0
def PySem.W.Fast.tw13540008708359279024 := 0
def PySem.W.Fast.tw4554306365590854560 := 0
def PySem.W.Fast.tw12576778659289969887 := 0
def PySem.W.Fast.tw464707524536086221 := 0
def PySem.W.Fast.tw8416376823121737322 := 0
def PySem.W.Fast.tw3525953231671541165 := 0
def PySem.W.Fast.tw14827051979281432709 := 0
def PySem.W.Fast.tw7764230030936285314 := 0
def PySem.W.Fast.tw6843784128029853706 := 0
def PySem.W.Fast.tw906859826316464602 := 0
def PySem.W.Fast.tw9706718876616764174 := 0
def PySem.W.Fast.tw6435832385814780666 := 0
def PySem.W.Fast.tw8794184531422194439 := 0
def PySem.W.Fast.tw16316954374715009175 := 0
def PySem.W.Fast.tw13485250729985695994 := 0
def PySem.W.Fast.tw8453264254226803007 := 0
def PySem.W.Fast.tw16664921419593554432 := 0
def PySem.W.Fast.tw5721891700448087740 := 0
def PySem.W.Fast.tw5765614458479156975 := 0
def PySem.W.Fast.tw10561889148179977299 := 0
def PySem.W.Fast.tw16334018356949400076 := 0
def PySem.W.Fast.tw2777763611842964271 := 0
def PySem.W.Fast.tw14206129957000201354 := 0
def PySem.W.Fast.tw6179735614815833086 := 0
def PySem.W.Fast.tw7017749391014790769 := 0
def PySem.W.Fast.tw2242534067159284940 := 0
def PySem.W.Fast.tw869481860324258963 := 0
def PySem.W.Fast.tw316595610338243800 := 0
def PySem.W.Fast.tw10702923071194325207 := 0
def PySem.W.Fast.tw7464752022970764777 := 0
def PySem.W.Fast.tw11547832882508107427 := 0
def PySem.W.Fast.tw4422235729210446245 := 0
def PySem.W.Fast.tw8256770148044404784 := 0
def PySem.W.Fast.tw12057774858357033297 := 0
def PySem.W.Fast.tw17058468241515762580 := 0
def PySem.W.Fast.tw5714752701814049657 := 0
def PySem.W.Fast.tw8276499065042797069 := 0
def PySem.W.Fast.tw16078032944291625217 := 0
def PySem.W.Fast.tw715641712894742283 := 0
def PySem.W.Fast.tw12240628674722272898 := 0
def PySem.W.Fast.tw5993578059956523673 := 0
def PySem.W.Fast.tw18165147223163363227 := 0
def PySem.W.Fast.tw7031221118611869040 := 0
def PySem.W.Fast.tw11997510562965303892 := 0
def PySem.W.Fast.tw15101589888715675728 := 0
def PySem.W.Fast.tw4011617685248174059 := 0
def PySem.W.Fast.tw5441544546188520059 := 0
def PySem.W.Fast.tw2934270604744787374 := 0
def PySem.W.Fast.tw5319293978226707240 := 0
def PySem.W.Fast.tw2935119010100860347 := 0
def PySem.W.Fast.tw3925196699771213918 := 0
def PySem.W.Fast.tw6804501774222912497 := 0
def PySem.W.Fast.tw8076834084959378557 := 0
def PySem.W.Fast.tw5309811786719660796 := 0
def PySem.W.Fast.tw8647220632991396988 := 0
def PySem.W.Fast.tw10570367258777235177 := 0
def PySem.W.Fast.tw14848853932873096626 := 0
def PySem.W.Fast.tw15772616862355023341 := 0
def PySem.W.Fast.tw9519427769011948401 := 0
def PySem.W.Fast.tw7335721184463593530 := 0
def PySem.W.Fast.tw8342228904843344761 := 0
def PySem.W.Fast.tw6011608580506810314 := 0
def PySem.W.Fast.tw7566094817348311259 := 0
def PySem.W.Fast.tw3118196987382106191 := 0
def PySem.W.Fast.tw16648623721908149211 := 0
def PySem.W.Fast.tw6166917809869578461 := 0
def PySem.W.Fast.tw11498207568098643925 := 0
def PySem.W.Fast.tw5699330055007797148 := 0
def PySem.W.Fast.tw6252918287920790228 := 0
def PySem.W.Fast.tw13347015508817062236 := 0
def PySem.W.Fast.tw4888812093858810633 := 0
def PySem.W.Fast.tw1564414159679173174 := 0
def PySem.W.Fast.tw12497344933702028383 := 0
def PySem.W.Fast.tw15995522353807629490 := 0
def PySem.W.Fast.tw2358471902526875939 := 0
def PySem.W.Fast.tw546803511223935861 := 0
def PySem.W.Fast.tw10794912606762196529 := 0
def PySem.W.Fast.tw16639214977841491728 := 0
def PySem.W.Fast.tw13790085591250959912 := 0
def PySem.W.Fast.tw5994518425340796969 := 0
def PySem.W.Fast.tw2544773704101066711 := 0
def PySem.W.Fast.tw12833673976060662353 := 0
def PySem.W.Fast.tw5334740188533015269 := 0
def PySem.W.Fast.tw2213088215066358360 := 0
def PySem.W.Fast.tw17960453402243594207 := 0
def PySem.W.Fast.tw6944731121637521976 := 0
def PySem.W.Fast.tw14100767525675093574 := 0
def PySem.W.Fast.tw7257734021850115080 := 0
def PySem.W.Fast.tw3972529526731760059 := 0
def PySem.W.Fast.tw11311342020481101837 := 0
def PySem.W.Fast.tw10142119818656625381 := 0
def PySem.W.Fast.tw11735425642218635298 := 0
def PySem.W.Fast.tw11740099111921785986 := 0
def PySem.W.Fast.tw2758037729076173212 := 0
def PySem.W.Fast.tw17740012099248428342 := 0
def PySem.W.Fast.tw4234220630727430669 := 0
def PySem.W.Fast.tw1708525327552832244 := 0
def PySem.W.Fast.tw9927903287949093549 := 0
def PySem.W.Fast.tw2180421659303850812 := 0
def PySem.W.Fast.tw95564430168464715 := 0
def PySem.W.Fast.tw4950262124309063207 := 0
def PySem.W.Fast.tw9444912784651140359 := 0
def PySem.W.Fast.tw7101517710278868272 := 0
def PySem.W.Fast.tw9158831069372278318 := 0
def PySem.W.Fast.tw16831053155654005349 := 0
def PySem.W.Fast.tw11489820678930419029 := 0
def PySem.W.Fast.tw14262342441617529222 := 0
def PySem.W.Fast.tw14721646826882599118 := 0
def PySem.W.Fast.tw11591368366308306590 := 0
def PySem.W.Fast.tw17944684280566134640 := 0
def PySem.W.Fast.tw8288957622567880359 := 0
def PySem.W.Fast.tw4552777290246864123 := 0
def PySem.W.Fast.tw16474668982183181890 := 0
def PySem.W.Fast.tw8215193237397158038 := 0
def PySem.W.Fast.tw9414406245328811474 := 0
def PySem.W.Fast.tw3382736527490914424 := 0
def PySem.W.Fast.tw18341814641350290822 := 0
def PySem.W.Fast.tw17987902929022766792 := 0
def PySem.W.Fast.tw13745195835591256509 := 0
def PySem.W.Fast.tw16355571775780180411 := 0
def PySem.W.Fast.tw7282582352355982129 := 0
def PySem.W.Fast.tw12983013208381252760 := 0
def PySem.W.Fast.tw5093291318846935616 := 0
def PySem.W.Fast.tw13969531803192915571 := 0
def PySem.W.Fast.tw1409810299113784471 := 0
open PySem PySem.W PyProof.Rows
set_option maxRecDepth 100000 in
set_option maxHeartbeats 0 in
theorem PySem.Challenge.cw_formgrove_k92_words_refused_holds : PySem.Challenge.rw_formgrove_k92_words_refused.Holds := by
  w_on; o_law; k_head; (case hw => w_witness2)
  k_fill
  refine K92.walk (l := PySem.Challenge.rw_formgrove_k92_words_refused) rfl rfl (fun w h Y => PySem.W.kIn_of Y) ?F
  case F =>
    intro w mg fa h KX G hmg
    refine' K92.all_mk KX G hmg ?xn_GroveError ?xn_NoGrove ?xn_NotStraight ?xg1 ?xg2 ?xg3 ?xg4 ?xb1 ?xb2 ?xb3 ?xb4 ?xb5 ?d1_GroveError ?d2_GroveError ?d3_GroveError ?d1_NoGrove ?d2_NoGrove ?d3_NoGrove ?d1_NotStraight ?d2_NotStraight ?d3_NotStraight ?xl_NoGrove ?xc_NoGrove ?xt_NoGrove ?xk_NoGrove ?xv_NoGrove ?xe_NoGrove ?o1_NoGrove_NotStraight ?o2_NoGrove_NotStraight ?o3_NoGrove_NotStraight ?o4_NoGrove_NotStraight ?o5_NoGrove_NotStraight ?o6_NoGrove_NotStraight ?f1_NoGrove_place ?f2_NoGrove_place ?f3_NoGrove_place ?f4_NoGrove_place ?f5_NoGrove_place ?m_NoGrove_GroveError ?m_NoGrove_NoGrove ?m_NoGrove_NotStraight ?cn1 ?cp1 ?ch1 ?cq1 ?cs1 ?cm1 ?ck1 ?cx1_0 ?cx1_1 ?cx1_2 ?a1 ?l1 ?c1 ?k1 ?a2 ?l2 ?c2 ?k2 ?a3 ?l3 ?c3 ?k3 ?a4 ?l4 ?c4 ?k4 ?a5 ?l5 ?c5 ?k5 ?a6 ?l6 ?c6 ?k6 ?a7 ?l7 ?c7 ?k7 ?n7 ?a8 ?l8 ?c8 ?k8 ?a9 ?l9 ?c9 ?k9 ?a10 ?l10 ?c10 ?k10 ?n10 ?a11 ?l11 ?c11 ?k11 ?a12 ?l12 ?c12 ?k12 ?n12 ?a13 ?l13 ?c13 ?k13 ?a14 ?l14 ?c14 ?k14 ?a15 ?l15 ?c15 ?k15 ?n15 ?a16 ?l16 ?c16 ?k16 ?n16 ?a17 ?l17 ?c17 ?k17 ?a18 ?l18 ?c18 ?k18 ?a19 ?l19 ?c19 ?k19 ?a20 ?l20 ?c20 ?k20 ?n20 ?a21 ?l21 ?c21 ?k21 ?y0 ?z0 ?z1 ?z2 ?z3 ?z4 ?z5 ?z6 ?z7 ?z8
    (case xn_GroveError => k_is)
    (case xn_NoGrove => k_is)
    (case xn_NotStraight => k_is)
    (case xg1 => k_is)
    (case xg2 => k_is)
    (case xg3 => rfl)
    (case xg4 => k_is)
    (case xb1 => k_is)
    (case xb2 => k_is)
    (case xb3 => k_is)
    (case xb4 => k_is)
    (case xb5 => k_is)
    (case d1_GroveError => k_is)
    (case d2_GroveError => k_is)
    (case d3_GroveError => k_is)
    (case d1_NoGrove => k_is)
    (case d2_NoGrove => k_is)
    (case d3_NoGrove => k_is)
    (case d1_NotStraight => k_is)
    (case d2_NotStraight => k_is)
    (case d3_NotStraight => k_is)
    (case xl_NoGrove => k_is)
    (case xc_NoGrove => k_is)
    (case xt_NoGrove => k_is)
    (case xk_NoGrove => k_is)
    (case xv_NoGrove => k_is)
    (case xe_NoGrove => decide)
    (case o1_NoGrove_NotStraight => k_is)
    (case o2_NoGrove_NotStraight => k_is)
    (case o3_NoGrove_NotStraight => k_is)
    (case o4_NoGrove_NotStraight => k_is)
    (case o5_NoGrove_NotStraight => k_is)
    (case o6_NoGrove_NotStraight => decide)
    (case f1_NoGrove_place => k_is)
    (case f2_NoGrove_place => k_is)
    (case f3_NoGrove_place => k_is)
    (case f4_NoGrove_place => k_is)
    (case f5_NoGrove_place => k_is)
    (case m_NoGrove_GroveError => k_is)
    (case m_NoGrove_NoGrove => k_is)
    (case m_NoGrove_NotStraight => k_is)
    (case cn1 => k_is)
    (case cp1 => k_is)
    (case ch1 => k_is)
    (case cq1 => k_is)
    (case cs1 => k_is)
    (case cm1 => k_is)
    (case ck1 => k_is)
    (case cx1_0 => k_is)
    (case cx1_1 => k_is)
    (case cx1_2 => k_is)
    (case a1 => k_is)
    (case l1 => k_is)
    (case c1 => k_is)
    (case k1 => k_is)
    (case a2 => k_is)
    (case l2 => k_is)
    (case c2 => k_is)
    (case k2 => k_is)
    (case a3 => k_is)
    (case l3 => k_is)
    (case c3 => k_is)
    (case k3 => k_is)
    (case a4 => k_is)
    (case l4 => k_is)
    (case c4 => k_is)
    (case k4 => k_is)
    (case a5 => k_is)
    (case l5 => k_is)
    (case c5 => k_is)
    (case k5 => k_is)
    (case a6 => k_is)
    (case l6 => k_is)
    (case c6 => k_is)
    (case k6 => k_is)
    (case a7 => k_is)
    (case l7 => k_is)
    (case c7 => k_is)
    (case k7 => k_is)
    (case n7 => k_is)
    (case a8 => k_is)
    (case l8 => k_is)
    (case c8 => k_is)
    (case k8 => k_is)
    (case a9 => k_is)
    (case l9 => k_is)
    (case c9 => k_is)
    (case k9 => k_is)
    (case a10 => k_is)
    (case l10 => k_is)
    (case c10 => k_is)
    (case k10 => k_is)
    (case n10 => k_is)
    (case a11 => k_is)
    (case l11 => k_is)
    (case c11 => k_is)
    (case k11 => k_is)
    (case a12 => k_is)
    (case l12 => k_is)
    (case c12 => k_is)
    (case k12 => k_is)
    (case n12 => k_is)
    (case a13 => k_is)
    (case l13 => k_is)
    (case c13 => k_is)
    (case k13 => k_is)
    (case a14 => k_is)
    (case l14 => k_is)
    (case c14 => k_is)
    (case k14 => k_is)
    (case a15 => k_is)
    (case l15 => k_is)
    (case c15 => k_is)
    (case k15 => k_is)
    (case n15 => k_is)
    (case a16 => k_is)
    (case l16 => k_is)
    (case c16 => k_is)
    (case k16 => k_is)
    (case n16 => k_is)
    (case a17 => k_is)
    (case l17 => k_is)
    (case c17 => k_is)
    (case k17 => k_is)
    (case a18 => k_is)
    (case l18 => k_is)
    (case c18 => k_is)
    (case k18 => k_is)
    (case a19 => k_is)
    (case l19 => k_is)
    (case c19 => k_is)
    (case k19 => k_is)
    (case a20 => k_is)
    (case l20 => k_is)
    (case c20 => k_is)
    (case k20 => k_is)
    (case n20 => k_is)
    (case a21 => k_is)
    (case l21 => k_is)
    (case c21 => k_is)
    (case k21 => k_is)
    (case y0 => k_is)
    (case z0 => k_is)
    (case z1 => k_is)
    (case z2 => k_is)
    (case z3 => k_is)
    (case z4 => k_is)
    (case z5 => k_is)
    (case z6 => k_is)
    (case z7 => k_is)
    (case z8 => k_is)
